/- What is taken in two parts is what is taken at once: the statement on WireParts, its card. Condition: the listed tables hold what the library's text lays. -/
import Derived.Test.YtcdgiailapcooaaDoorIn
import Derived.Test.YtcdgiailapcooaaDoorTwo
import Derived.Test.YtcdgiailapcooaaDoorRef2
set_option linter.unusedVariables false
namespace Go.Proofs.YtcdgiailapcooaaDoor.wireParts
open Go.ChangeShapes Go.WideShapes Go.ChangeAt Go.RowKit
open Go.ChangeMaps (open_string shut_string)

theorem nxt_yes (l : List UInt8) (n : Nat) (b : Bool) (h : n ≤ l.length) : nxt (n : Int) l b = (l.take n, l.drop n, b) := by
  unfold nxt
  rw [if_neg (by omega), Int.toNat_natCast]
theorem nxt_no (l : List UInt8) (n : Nat) (b : Bool) (h : l.length < n) : nxt (n : Int) l b = ([], [], true) := by
  unfold nxt
  rw [if_pos (by omega)]
theorem nxt_bad (n : Nat) : nxt (n : Int) [] true = ([], [], true) := by
  unfold nxt
  by_cases h : n = 0
  · subst h
    rfl
  · rw [if_pos (by simp; omega)]
theorem parts_no (l : List UInt8) (n m : Nat) (h : l.length < n + m) : (nxt (m : Int) (nxt (n : Int) l false).2.1 (nxt (n : Int) l false).2.2).2 = ([], true) := by
  by_cases h1 : n ≤ l.length
  · rw [nxt_yes l n false h1, nxt_no _ m false (by simp; omega)]
  · rw [nxt_no l n false (by omega), nxt_bad]

theorem long (a : Option Addr) (len cap : Nat) (l : List UInt8) (n m : Nat) (w : World) (hl : InB w a len cap l) (hT : Tabs w) (h : 65536 < l.length) :
    Calls Tryd.prog 10 #[.slice a len cap, .int .u16 n, .int .u16 m] w fun e w' => e = .returned (.bool true) ∧ Below w.heap.size w w' := by
  obtain ⟨rfl, hA, hcap, hmax⟩ := hl
  unfold maxLen at hmax
  have hl63 : (l.length : Int) ≤ 9223372036854775807 := by omega
  have hz : (65536 : Int) < (l.length : Int) := by omega
  go_enter Tryd.func10, Tryd.ntmps10
  go_wp2_with (go_at_call 12; refine (awake_any w hT).mono ?_; rintro e w1 ⟨rfl, hb1⟩)
  go_ret
  exact ⟨rfl, hb1⟩

set_option maxHeartbeats 1000000 in
theorem yes (a : Option Addr) (len cap : Nat) (l : List UInt8) (n m : Nat) (w : World) (hl : InB w a len cap l) (hT : Tabs w) (h : l.length ≤ 65536) (hn : n ≤ 65535) (hm : m ≤ 65535) (hnm : n + m ≤ l.length) :
    Calls Tryd.prog 10 #[.slice a len cap, .int .u16 n, .int .u16 m] w fun e w' => e = .returned (.bool true) ∧ Below w.heap.size w w' := by
  obtain ⟨rfl, hA, hcap, hmax⟩ := hl
  unfold maxLen at hmax
  obtain ⟨i, U⟩ := u8_table
  have hz : ¬ (65536 : Int) < (l.length : Int) := by omega
  have hl63 : (l.length : Int) ≤ 65536 := by omega
  have hnz : (n : Int) ≤ 65535 := by omega
  have hmz : (m : Int) ≤ 65535 := by omega
  go_enter Tryd.func10, Tryd.ntmps10
  go_wp2_with fail
  refine (awake_any w hT).mono ?_
  rintro e w1 ⟨rfl, hb1⟩
  go_wp2_with fail
  refine (new_any a cap l w1 (hA.below hb1) (by omega)).mono ?_
  rintro e w2 ⟨gc, rfl, hgc, hcc, hb2⟩
  have hb12 := hb1.trans (hb2.mono hb1.size)
  go_wp2_with fail
  refine (new_any a cap l w2 (hA.below hb12) (by omega)).mono ?_
  rintro e w3 ⟨gd, rfl, hgd, hcd, hb3⟩
  have hb13 := hb12.trans (hb3.mono hb12.size)
  have hcc3 := hcc.below hb3
  have hgc2 := hcc.lt
  have hgd3 := hcd.lt
  have hne : gc ≠ gd := by omega
  have hgcw : w.heap.size ≤ gc := by have := hb1.size; omega
  have hgdw : w.heap.size ≤ gd := by have := hb12.size; omega
  clear hcc hb2 hb3
  -- the empty literal
  have hown0 : (w3.alloc (.cells #[] 5)).ownsRow w3.heap.size 5 1 (.slice (some ⟨w3.heap.size, 0, none⟩) 0 0) 0 (bc []) := World.ownsRow_made w3 #[] 0 (Nat.le_refl _) (by decide) rfl
  have hba := World.grownBy_alloc w3 (.cells #[] 5) none
  have hcc4 := hcc3.below (below_of_grown hba)
  have hcd4 := hcd.below (below_of_grown hba)
  have hsz4 : w3.heap.size ≤ (w3.alloc (.cells #[] 5)).heap.size := by simp
  have hb14 : Below w.heap.size w (w3.alloc (.cells #[] 5)) := hb13.alloc hb13.size _
  clear hcc3 hcd hba
  go_wp2_with fail
  generalize w3.alloc (.cells #[] 5) = w4 at hown0 hcc4 hcd4 hsz4 hb14 ⊢
  -- the first part
  have c1 := take_any gc l false n w4 hcc4 (by omega)
  have hn1 := nxt_le (n : Int) l false
  generalize hr1 : nxt (n : Int) l false = r1 at c1 hn1
  obtain ⟨x1, l1, b1⟩ := r1
  replace hn1 : x1.length ≤ l.length ∧ l1.length ≤ l.length := hn1
  refine c1.mono ?_
  rintro e w5 ⟨v1, rfl, hv1, hcc5, hg5⟩
  replace hv1 : w5.ownsRow w4.heap.size 5 1 v1 x1.length (bc x1) := hv1
  replace hcc5 : Cur w5 gc l1 b1 := hcc5
  have hcd5 := hcd4.moved hcc4 hg5 hne.symm
  have hown5 := own_moved hown0 hcc4 hg5
  have hb15 : Below w.heap.size w w5 := hb14.grown hg5 hb14.size (fun k hk => by injection hk with hk; omega)
  have hsz5 : w3.heap.size ≤ w5.heap.size := by have := hg5.size; omega
  clear c1 hcc4 hcd4 hown0 hg5 hb14 hsz4
  obtain ⟨_, A1, p1, rfl, _, _, hA1⟩ := own_form hv1
  clear hv1
  -- the second part
  have c2 := fun W hW => take_any gc l1 b1 m W hW (by omega)
  have hn2 := nxt_le (m : Int) l1 b1
  generalize hr2 : nxt (m : Int) l1 b1 = r2 at c2 hn2
  obtain ⟨x2, l2, b2⟩ := r2
  replace hn2 : x2.length ≤ l1.length ∧ l2.length ≤ l1.length := hn2
  have HR1 := Lib.hid hr1
  have HR2 := Lib.hid hr2
  have C2 := Lib.hid c2
  clear hr1 hr2 c2
  have C6 : ∀ w6 : World, w5.grownBy w6 (Value.slice (some ⟨w3.heap.size, 0, none⟩) 0 0).ownBlock → Cur w6 gc l1 b1 ∧ Cur w6 gd l false ∧ Below w.heap.size w w6 := fun w6 hg6 =>
    ⟨hcc5.beside hg6 (fun k hk => by have := (hown5.lt k hk).1; omega), hcd5.beside hg6 (fun k hk => by have := (hown5.lt k hk).1; omega), hb15.grown hg6 hb15.size (fun k hk => by have := (hown5.lt k hk).1; have := hb13.size; omega)⟩
  have C6h := Lib.hid C6
  clear C6
  go_wp2_with (at_builtin; refine wpList_app _ rfl (.tmp 20) (.tmp 24) _ rfl 5 i U w3.heap.size (.slice (some ⟨w3.heap.size, 0, none⟩) 0 0) 0 (bc []) rfl hown5 A1 x1.length p1 x1 rfl rfl hA1 (by omega) hsz5 ?_; intro v6 w6 hown6 hg6 hat6)
  obtain ⟨hcc6, hcd6, hb16⟩ := C6h.out w6 hg6
  have hsz6 : w3.heap.size ≤ w6.heap.size := by have := hg6.size; omega
  have hx6 : w6.ownsRow w3.heap.size 5 1 v6 x1.length (bc x1) := by simpa [bc_nil] using hown6
  clear hown6 hg6 hat6 C6h hown5 hcc5 hcd5 hA1 hb15
  refine (C2.out w6 hcc6).mono ?_
  rintro e w7 ⟨v2, rfl, hv2, hcc7, hg7⟩
  replace hv2 : w7.ownsRow w6.heap.size 5 1 v2 x2.length (bc x2) := hv2
  replace hcc7 : Cur w7 gc l2 b2 := hcc7
  obtain ⟨_, A2, p2, rfl, _, _, hA2⟩ := own_form hv2
  have hcd7 := hcd6.moved hcc6 hg7 hne.symm
  have hown7 := own_moved hx6 hcc6 hg7
  have hb17 : Below w.heap.size w w7 := hb16.grown hg7 hb16.size (fun k hk => by injection hk with hk; omega)
  have hsz7 : w3.heap.size ≤ w7.heap.size := by have := hg7.size; omega
  have C8 : ∀ w8 : World, w7.grownBy w8 v6.ownBlock → Cur w8 gc l2 b2 ∧ Cur w8 gd l false ∧ Below w.heap.size w w8 := fun w8 hg8 =>
    ⟨hcc7.beside hg8 (fun k hk => by have := (hown7.lt k hk).1; omega), hcd7.beside hg8 (fun k hk => by have := (hown7.lt k hk).1; omega), hb17.grown hg8 hb17.size (fun k hk => by have := (hown7.lt k hk).1; have := hb13.size; omega)⟩
  have C8h := Lib.hid C8
  clear C8 hcc6 hcd6 hx6 hg7 hb16 hv2 C2
  go_wp2_with (at_builtin; refine wpList_app _ rfl (.tmp 25) (.tmp 29) _ rfl 5 i U w3.heap.size v6 x1.length (bc x1) rfl hown7 A2 x2.length p2 x2 rfl rfl hA2 (by omega) hsz7 ?_; intro v8 w8 hown8 hg8 hat8)
  obtain ⟨hcc8, hcd8, hb18⟩ := C8h.out w8 hg8
  have hx8 : w8.ownsRow w3.heap.size 5 1 v8 (x1 ++ x2).length (bc (x1 ++ x2)) := by
    rw [List.length_append, bc_app]
    exact hown8
  have hsz8 : w3.heap.size ≤ w8.heap.size := by have := hg8.size; omega
  clear hown8 hg8 hat8 C8h hown7 hcc7 hcd7 hA2 hb17
  have hn3 := nxt_le ((n : Int) + (m : Int)) l false
  have c3 := take_any gd l false ((n : Int) + (m : Int)) w8 hcd8 (by omega)
  generalize hr3 : nxt ((n : Int) + (m : Int)) l false = r3 at c3 hn3
  obtain ⟨y, l3, b3⟩ := r3
  replace hn3 : y.length ≤ l.length ∧ l3.length ≤ l.length := hn3
  have HR3 := Lib.hid hr3
  clear hr3
  refine c3.mono ?_
  rintro e w9 ⟨v9, rfl, hv9, hcd9, hg9⟩
  replace hv9 : w9.ownsRow w8.heap.size 5 1 v9 y.length (bc y) := hv9
  replace hcd9 : Cur w9 gd l3 b3 := hcd9
  have hcc9 := hcc8.moved hcd8 hg9 hne
  have hx9 := own_moved hx8 hcd8 hg9
  have hb19 : Below w.heap.size w w9 := hb18.grown hg9 hb18.size (fun k hk => by injection hk with hk; omega)
  obtain ⟨_, A8, p8, rfl, _, _, hA8⟩ := own_form hx9
  obtain ⟨_, A9, p9, rfl, _, _, hA9⟩ := own_form hv9
  clear c3 hcc8 hcd8 hg9 hx8 hx9 hv9 hb18 hsz8
  have hnm0 : ((n : Int) + (m : Int)) = ((n + m : Nat) : Int) := by omega
  have hR3 := HR3.out
  rw [hnm0, nxt_yes l (n + m) false hnm] at hR3
  have hR1 := HR1.out
  rw [nxt_yes l n false (by omega)] at hR1
  simp only [Prod.mk.injEq] at hR1 hR3
  obtain ⟨rfl, rfl, rfl⟩ := hR1
  obtain ⟨rfl, rfl, rfl⟩ := hR3
  have hR2 := HR2.out
  rw [nxt_yes _ m false (by rw [List.length_drop]; omega)] at hR2
  simp only [Prod.mk.injEq] at hR2
  obtain ⟨rfl, rfl, rfl⟩ := hR2
  have hxy : l.take n ++ (l.drop n).take m = l.take (n + m) := by rw [List.take_add]
  have hdd : (l.drop n).drop m = l.drop (n + m) := by rw [List.drop_drop]
  have hlen : (l.take (n + m)).length = n + m := by rw [List.length_take]; omega
  rw [hxy] at hA8 ⊢
  rw [hdd] at hcc9
  clear HR1 HR2 HR3 hn1 hn2 hn3 hxy hdd hnm0
  generalize hZ : l.take (n + m) = z at *
  generalize l.drop (n + m) = zr at *
  rw [hlen]
  have hle : (n : Int) + (m : Int) ≤ (l.length : Int) := by omega
  have hcz : (l.length : Int) ≤ (cap : Int) := by omega
  have hc63 : (cap : Int) ≤ 9223372036854775807 := by omega
  have c4 := bytes_any A8 A9 p8 p9 z z w9 hA8 hA9 (by omega) (by omega)
  rw [hlen] at c4
  have hZ2 : Hol w a z := by rw [← hZ]; exact hA.take_ _
  have c5 := fun W hW => bytes_any A9 a p9 cap z z W (hA9.below hW) ((hZ2.below hb19).below hW) (by omega) (by omega)
  rw [hlen] at c5
  rw [decide_eq_true rfl] at c4 c5
  have C4 := Lib.hid c4
  have C5 := Lib.hid c5
  clear c4 c5 hZ
  go_wp2_with fail
  refine C4.out.mono ?_
  rintro e w10 ⟨rfl, hb10⟩
  go_wp2_with fail
  refine (C5.out w10 hb10).mono ?_
  rintro e w11 ⟨rfl, hb11⟩
  have hb9 := hb10.trans (hb11.mono hb10.size)
  have hcc11 := hcc9.below hb9
  have hcd11 := hcd9.below hb9
  go_wp2_with fail
  refine (left_any gc zr false w11 hcc11).mono ?_
  rintro e w' ⟨rfl, rfl⟩
  go_wp2_with fail
  refine (left_any gd zr false w11 hcd11).mono ?_
  rintro e w' ⟨rfl, rfl⟩
  go_wp2_with fail
  refine (bad_any gc zr false w11 hcc11).mono ?_
  rintro e w' ⟨rfl, rfl⟩
  go_wp2_with fail
  refine (bad_any gd zr false w11 hcd11).mono ?_
  rintro e w' ⟨rfl, rfl⟩
  go_wp2
  go_ret
  exact ⟨rfl, hb19.trans (hb9.mono hb19.size)⟩

set_option maxHeartbeats 1000000 in
theorem no (a : Option Addr) (len cap : Nat) (l : List UInt8) (n m : Nat) (w : World) (hl : InB w a len cap l) (hT : Tabs w) (h : l.length ≤ 65536) (hn : n ≤ 65535) (hm : m ≤ 65535) (hnm : l.length < n + m) :
    Calls Tryd.prog 10 #[.slice a len cap, .int .u16 n, .int .u16 m] w fun e w' => e = .returned (.bool true) ∧ Below w.heap.size w w' := by
  obtain ⟨rfl, hA, hcap, hmax⟩ := hl
  unfold maxLen at hmax
  obtain ⟨i, U⟩ := u8_table
  have hz : ¬ (65536 : Int) < (l.length : Int) := by omega
  have hl63 : (l.length : Int) ≤ 65536 := by omega
  have hnz : (n : Int) ≤ 65535 := by omega
  have hmz : (m : Int) ≤ 65535 := by omega
  go_enter Tryd.func10, Tryd.ntmps10
  go_wp2_with fail
  refine (awake_any w hT).mono ?_
  rintro e w1 ⟨rfl, hb1⟩
  go_wp2_with fail
  refine (new_any a cap l w1 (hA.below hb1) (by omega)).mono ?_
  rintro e w2 ⟨gc, rfl, hgc, hcc, hb2⟩
  have hb12 := hb1.trans (hb2.mono hb1.size)
  go_wp2_with fail
  refine (new_any a cap l w2 (hA.below hb12) (by omega)).mono ?_
  rintro e w3 ⟨gd, rfl, hgd, hcd, hb3⟩
  have hb13 := hb12.trans (hb3.mono hb12.size)
  have hcc3 := hcc.below hb3
  have hgc2 := hcc.lt
  have hgd3 := hcd.lt
  have hne : gc ≠ gd := by omega
  have hgcw : w.heap.size ≤ gc := by have := hb1.size; omega
  have hgdw : w.heap.size ≤ gd := by have := hb12.size; omega
  clear hcc hb2 hb3
  -- the empty literal
  have hown0 : (w3.alloc (.cells #[] 5)).ownsRow w3.heap.size 5 1 (.slice (some ⟨w3.heap.size, 0, none⟩) 0 0) 0 (bc []) := World.ownsRow_made w3 #[] 0 (Nat.le_refl _) (by decide) rfl
  have hba := World.grownBy_alloc w3 (.cells #[] 5) none
  have hcc4 := hcc3.below (below_of_grown hba)
  have hcd4 := hcd.below (below_of_grown hba)
  have hsz4 : w3.heap.size ≤ (w3.alloc (.cells #[] 5)).heap.size := by simp
  have hb14 : Below w.heap.size w (w3.alloc (.cells #[] 5)) := hb13.alloc hb13.size _
  clear hcc3 hcd hba
  go_wp2_with fail
  generalize w3.alloc (.cells #[] 5) = w4 at hown0 hcc4 hcd4 hsz4 hb14 ⊢
  -- the first part
  have c1 := take_any gc l false n w4 hcc4 (by omega)
  have hn1 := nxt_le (n : Int) l false
  generalize hr1 : nxt (n : Int) l false = r1 at c1 hn1
  obtain ⟨x1, l1, b1⟩ := r1
  replace hn1 : x1.length ≤ l.length ∧ l1.length ≤ l.length := hn1
  refine c1.mono ?_
  rintro e w5 ⟨v1, rfl, hv1, hcc5, hg5⟩
  replace hv1 : w5.ownsRow w4.heap.size 5 1 v1 x1.length (bc x1) := hv1
  replace hcc5 : Cur w5 gc l1 b1 := hcc5
  have hcd5 := hcd4.moved hcc4 hg5 hne.symm
  have hown5 := own_moved hown0 hcc4 hg5
  have hb15 : Below w.heap.size w w5 := hb14.grown hg5 hb14.size (fun k hk => by injection hk with hk; omega)
  have hsz5 : w3.heap.size ≤ w5.heap.size := by have := hg5.size; omega
  clear c1 hcc4 hcd4 hown0 hg5 hb14 hsz4
  obtain ⟨_, A1, p1, rfl, _, _, hA1⟩ := own_form hv1
  clear hv1
  -- the second part
  have c2 := fun W hW => take_any gc l1 b1 m W hW (by omega)
  have hn2 := nxt_le (m : Int) l1 b1
  generalize hr2 : nxt (m : Int) l1 b1 = r2 at c2 hn2
  obtain ⟨x2, l2, b2⟩ := r2
  replace hn2 : x2.length ≤ l1.length ∧ l2.length ≤ l1.length := hn2
  have HR1 := Lib.hid hr1
  have HR2 := Lib.hid hr2
  have C2 := Lib.hid c2
  clear hr1 hr2 c2
  have C6 : ∀ w6 : World, w5.grownBy w6 (Value.slice (some ⟨w3.heap.size, 0, none⟩) 0 0).ownBlock → Cur w6 gc l1 b1 ∧ Cur w6 gd l false ∧ Below w.heap.size w w6 := fun w6 hg6 =>
    ⟨hcc5.beside hg6 (fun k hk => by have := (hown5.lt k hk).1; omega), hcd5.beside hg6 (fun k hk => by have := (hown5.lt k hk).1; omega), hb15.grown hg6 hb15.size (fun k hk => by have := (hown5.lt k hk).1; have := hb13.size; omega)⟩
  have C6h := Lib.hid C6
  clear C6
  go_wp2_with (at_builtin; refine wpList_app _ rfl (.tmp 20) (.tmp 24) _ rfl 5 i U w3.heap.size (.slice (some ⟨w3.heap.size, 0, none⟩) 0 0) 0 (bc []) rfl hown5 A1 x1.length p1 x1 rfl rfl hA1 (by omega) hsz5 ?_; intro v6 w6 hown6 hg6 hat6)
  obtain ⟨hcc6, hcd6, hb16⟩ := C6h.out w6 hg6
  have hsz6 : w3.heap.size ≤ w6.heap.size := by have := hg6.size; omega
  have hx6 : w6.ownsRow w3.heap.size 5 1 v6 x1.length (bc x1) := by simpa [bc_nil] using hown6
  clear hown6 hg6 hat6 C6h hown5 hcc5 hcd5 hA1 hb15
  refine (C2.out w6 hcc6).mono ?_
  rintro e w7 ⟨v2, rfl, hv2, hcc7, hg7⟩
  replace hv2 : w7.ownsRow w6.heap.size 5 1 v2 x2.length (bc x2) := hv2
  replace hcc7 : Cur w7 gc l2 b2 := hcc7
  obtain ⟨_, A2, p2, rfl, _, _, hA2⟩ := own_form hv2
  have hcd7 := hcd6.moved hcc6 hg7 hne.symm
  have hown7 := own_moved hx6 hcc6 hg7
  have hb17 : Below w.heap.size w w7 := hb16.grown hg7 hb16.size (fun k hk => by injection hk with hk; omega)
  have hsz7 : w3.heap.size ≤ w7.heap.size := by have := hg7.size; omega
  have C8 : ∀ w8 : World, w7.grownBy w8 v6.ownBlock → Cur w8 gc l2 b2 ∧ Cur w8 gd l false ∧ Below w.heap.size w w8 := fun w8 hg8 =>
    ⟨hcc7.beside hg8 (fun k hk => by have := (hown7.lt k hk).1; omega), hcd7.beside hg8 (fun k hk => by have := (hown7.lt k hk).1; omega), hb17.grown hg8 hb17.size (fun k hk => by have := (hown7.lt k hk).1; have := hb13.size; omega)⟩
  have C8h := Lib.hid C8
  clear C8 hcc6 hcd6 hx6 hg7 hb16 hv2 C2
  go_wp2_with (at_builtin; refine wpList_app _ rfl (.tmp 25) (.tmp 29) _ rfl 5 i U w3.heap.size v6 x1.length (bc x1) rfl hown7 A2 x2.length p2 x2 rfl rfl hA2 (by omega) hsz7 ?_; intro v8 w8 hown8 hg8 hat8)
  obtain ⟨hcc8, hcd8, hb18⟩ := C8h.out w8 hg8
  have hx8 : w8.ownsRow w3.heap.size 5 1 v8 (x1 ++ x2).length (bc (x1 ++ x2)) := by
    rw [List.length_append, bc_app]
    exact hown8
  have hsz8 : w3.heap.size ≤ w8.heap.size := by have := hg8.size; omega
  clear hown8 hg8 hat8 C8h hown7 hcc7 hcd7 hA2 hb17
  have hn3 := nxt_le ((n : Int) + (m : Int)) l false
  have c3 := take_any gd l false ((n : Int) + (m : Int)) w8 hcd8 (by omega)
  generalize hr3 : nxt ((n : Int) + (m : Int)) l false = r3 at c3 hn3
  obtain ⟨y, l3, b3⟩ := r3
  replace hn3 : y.length ≤ l.length ∧ l3.length ≤ l.length := hn3
  have HR3 := Lib.hid hr3
  clear hr3
  refine c3.mono ?_
  rintro e w9 ⟨v9, rfl, hv9, hcd9, hg9⟩
  replace hv9 : w9.ownsRow w8.heap.size 5 1 v9 y.length (bc y) := hv9
  replace hcd9 : Cur w9 gd l3 b3 := hcd9
  have hcc9 := hcc8.moved hcd8 hg9 hne
  have hx9 := own_moved hx8 hcd8 hg9
  have hb19 : Below w.heap.size w w9 := hb18.grown hg9 hb18.size (fun k hk => by injection hk with hk; omega)
  obtain ⟨_, A8, p8, rfl, _, _, hA8⟩ := own_form hx9
  obtain ⟨_, A9, p9, rfl, _, _, hA9⟩ := own_form hv9
  clear c3 hcc8 hcd8 hg9 hx8 hx9 hv9 hb18 hsz8
  have hnm0 : ((n : Int) + (m : Int)) = ((n + m : Nat) : Int) := by omega
  have hR3 := HR3.out
  rw [hnm0, nxt_no l (n + m) false hnm] at hR3
  simp only [Prod.mk.injEq] at hR3
  obtain ⟨rfl, rfl, rfl⟩ := hR3
  have hp := parts_no l n m hnm
  rw [HR1.out] at hp
  have hp2 : (nxt (m : Int) l1 b1).2 = ([], true) := hp
  rw [HR2.out] at hp2
  have hp3 : (l2, b2) = (([] : List UInt8), true) := hp2
  simp only [Prod.mk.injEq] at hp3
  obtain ⟨rfl, rfl⟩ := hp3
  clear HR1 HR2 HR3 hn1 hn2 hn3 hnm0 hp hp2
  have hle : ¬ (n : Int) + (m : Int) ≤ (l.length : Int) := by omega
  go_wp2_with fail
  refine (bad_any gc [] true w9 hcc9).mono ?_
  rintro e w' ⟨rfl, rfl⟩
  go_wp2_with fail
  refine (bad_any gd [] true w9 hcd9).mono ?_
  rintro e w' ⟨rfl, rfl⟩
  go_wp2_with fail
  refine (left_any gc [] true w9 hcc9).mono ?_
  rintro e w' ⟨rfl, rfl⟩
  go_wp2_with fail
  refine (left_any gd [] true w9 hcd9).mono ?_
  rintro e w' ⟨rfl, rfl⟩
  go_wp2
  go_ret
  exact ⟨rfl, hb19⟩

theorem walk (a : Option Addr) (len cap : Nat) (l : List UInt8) (n : Int) (hn : (Lit.int .u16 n).wf = true) (m : Int) (hm : (Lit.int .u16 m).wf = true) (w : World) (hl : InB w a len cap l) (hT : Tabs w) :
    Calls Tryd.prog 10 #[.slice a len cap, .int .u16 n, .int .u16 m] w fun e w' => e = .returned (.bool true) ∧ Below w.heap.size w w' := by
  have h1 := bounds_u16 hn
  have h2 := bounds_u16 hm
  obtain ⟨n, rfl⟩ := Int.eq_ofNat_of_zero_le h1.1
  obtain ⟨m, rfl⟩ := Int.eq_ofNat_of_zero_le h2.1
  by_cases h : 65536 < l.length
  · exact long a len cap l n m w hl hT h
  · by_cases hnm : n + m ≤ l.length
    · exact yes a len cap l n m w hl hT (by omega) (by omega) (by omega) hnm
    · exact no a len cap l n m w hl hT (by omega) (by omega) (by omega) (by omega)
end Go.Proofs.YtcdgiailapcooaaDoor.wireParts
