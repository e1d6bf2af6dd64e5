/- Texts are in the order of their runes: the statement on WireOrder, its card. Condition: the listed tables hold what the library's text lays. -/
import Derived.Test.YtcdgiailapcooaaDoorIn
import Derived.Test.YtcdgiailapcooaaDoorRunesRef2
set_option linter.unusedVariables false
namespace Go.Proofs.YtcdgiailapcooaaDoor.wireOrder
open Go.ChangeShapes Go.WideShapes Go.ChangeAt Go.RowKit
open Go.ChangeMaps (open_string shut_string)

theorem less_at (w : World) (hT : Tabs w) (x y : ByteArray) (hx : x.size ≤ 4096) (hy : y.size ≤ 4096) (W : World) (hW : Below w.heap.size w W) (r : Bool) (hr : lessD x.data.toList y.data.toList = r) :
    Calls Tryd.prog 27 #[.string x, .string y] W fun e W' => e = .returned (.bool r) ∧ Below w.heap.size w W' := by
  subst hr
  exact (less_any x y W (by omega) (by omega) (tabs_below hT hW)).mono fun e W' ⟨he, hb⟩ => ⟨he, hW.trans (hb.mono hW.size)⟩
theorem rless_at (w : World) (x y : ByteArray) (hx : x.size ≤ 4096) (hy : y.size ≤ 4096) (W : World) (hW : Below w.heap.size w W) (r : Bool) (hr : lessD x.data.toList y.data.toList = r) :
    Calls Tryd.prog 28 #[.string x, .string y] W fun e W' => e = .returned (.bool r) ∧ Below w.heap.size w W' := by
  subst hr
  exact (rless_any x y W (by omega) (by omega)).mono fun e W' ⟨he, hb⟩ => ⟨he, hW.trans (hb.mono hW.size)⟩
theorem name_at (w : World) (hT : Tabs w) (x : ByteArray) (hx : x.size ≤ 4096) (W : World) (hW : Below w.heap.size w W) (r : Int) (hr : nameR x.data.toList = r) :
    Calls Tryd.prog 25 #[.string x] W fun e W' => e = .returned (.int .i64 r) ∧ Below w.heap.size w W' := by
  subst hr
  exact (name_any x W (by omega) (tabs_below hT hW)).mono fun e W' ⟨he, hb⟩ => ⟨he, hW.trans (hb.mono hW.size)⟩
theorem awake_at (w : World) (hT : Tabs w) : Calls Tryd.prog 12 #[] w fun e W' => e = .returned (.bool true) ∧ Below w.heap.size w W' := awake_any w hT

theorem data_inj {a b : ByteArray} (h : a.data.toList = b.data.toList) : a = b := by
  obtain ⟨a⟩ := a
  obtain ⟨b⟩ := b
  obtain ⟨a⟩ := a
  obtain ⟨b⟩ := b
  cases h
  rfl
theorem name_ok {l : List UInt8} (h : nameR l = 0) : l ≠ [] ∧ l ≠ [46] ∧ l ≠ [46, 46] ∧ Lib.validD l = true ∧ (dl l).all okR = true ∧ l.length ≤ 32 := by
  unfold nameR at h
  split at h
  · cases h
  · rename_i h1
    simp only [not_or] at h1
    split at h
    · rename_i h2
      rw [Bool.and_eq_true] at h2
      split at h
      · cases h
      · exact ⟨h1.1, h1.2.1, h1.2.2, h2.1, h2.2, by omega⟩
    · cases h

set_option maxHeartbeats 400000 in
theorem go_tt_na (a b c : ByteArray) (w : World) (hT : Tabs w) (ha : a.size ≤ 4096) (hb : b.size ≤ 4096) (hc : c.size ≤ 4096) (na : Int) (hna : nameR a.data.toList = na) (hn1 : (na != 0) = true) (hab : lessD a.data.toList b.data.toList = true) (hba : lessD b.data.toList a.data.toList = false) (hbc : lessD b.data.toList c.data.toList = true) (hac : lessD a.data.toList c.data.toList = true) :
    Calls Tryd.prog 8 #[.string a, .string b, .string c] w fun e w' => e = .returned (.bool true) ∧ Below w.heap.size w w' := by
  have haa : lessD a.data.toList a.data.toList = false := lex_self _
  have za : (a.size : Int) ≤ 4096 := by omega
  have zb : (b.size : Int) ≤ 4096 := by omega
  have zc : (c.size : Int) ≤ 4096 := by omega
  have Lab := Lib.hid (fun W (hW : Below w.heap.size w W) => less_at w hT a b ha hb W hW true hab)
  have RAB := Lib.hid (fun W (hW : Below w.heap.size w W) => rless_at w a b ha hb W hW true hab)
  have LAA := Lib.hid (fun W (hW : Below w.heap.size w W) => less_at w hT a a ha ha W hW false haa)
  have Lbc := Lib.hid (fun W (hW : Below w.heap.size w W) => less_at w hT b c hb hc W hW true hbc)
  have Lac := Lib.hid (fun W (hW : Below w.heap.size w W) => less_at w hT a c ha hc W hW true hac)
  have Lba := Lib.hid (fun W (hW : Below w.heap.size w W) => less_at w hT b a hb ha W hW false hba)
  have NA := Lib.hid (fun W (hW : Below w.heap.size w W) => name_at w hT a ha W hW na hna)
  clear haa hab hba hbc hac hna
  go_enter Tryd.func8, Tryd.ntmps8
  go_wp2_with (first
    | (go_at_call 12; refine (awake_at w hT).mono ?_; rintro e W1 ⟨rfl, hW1⟩)
    | (go_at_call 28; refine (RAB.out _ (by assumption)).mono ?_; rintro e W1 ⟨rfl, hW1⟩)
    | (go_at_call 27; (with_reducible refine (Lab.out _ (by assumption)).mono ?_); rintro e W1 ⟨rfl, hW1⟩)
    | (go_at_call 27; (with_reducible refine (LAA.out _ (by assumption)).mono ?_); rintro e W1 ⟨rfl, hW1⟩)
    | (go_at_call 27; (with_reducible refine (Lbc.out _ (by assumption)).mono ?_); rintro e W1 ⟨rfl, hW1⟩)
    | (go_at_call 27; (with_reducible refine (Lac.out _ (by assumption)).mono ?_); rintro e W1 ⟨rfl, hW1⟩)
    | (go_at_call 27; (with_reducible refine (Lba.out _ (by assumption)).mono ?_); rintro e W1 ⟨rfl, hW1⟩)
    | (go_at_call 25; (with_reducible refine (NA.out _ (by assumption)).mono ?_); rintro e W1 ⟨rfl, hW1⟩))
  go_ret
  exact ⟨rfl, by assumption⟩

set_option maxHeartbeats 400000 in
theorem go_tf_na (a b c : ByteArray) (w : World) (hT : Tabs w) (ha : a.size ≤ 4096) (hb : b.size ≤ 4096) (hc : c.size ≤ 4096) (na : Int) (hna : nameR a.data.toList = na) (hn1 : (na != 0) = true) (hab : lessD a.data.toList b.data.toList = true) (hba : lessD b.data.toList a.data.toList = false) (hbc : lessD b.data.toList c.data.toList = false) :
    Calls Tryd.prog 8 #[.string a, .string b, .string c] w fun e w' => e = .returned (.bool true) ∧ Below w.heap.size w w' := by
  have haa : lessD a.data.toList a.data.toList = false := lex_self _
  have za : (a.size : Int) ≤ 4096 := by omega
  have zb : (b.size : Int) ≤ 4096 := by omega
  have zc : (c.size : Int) ≤ 4096 := by omega
  have Lab := Lib.hid (fun W (hW : Below w.heap.size w W) => less_at w hT a b ha hb W hW true hab)
  have RAB := Lib.hid (fun W (hW : Below w.heap.size w W) => rless_at w a b ha hb W hW true hab)
  have LAA := Lib.hid (fun W (hW : Below w.heap.size w W) => less_at w hT a a ha ha W hW false haa)
  have Lbc := Lib.hid (fun W (hW : Below w.heap.size w W) => less_at w hT b c hb hc W hW false hbc)
  have Lba := Lib.hid (fun W (hW : Below w.heap.size w W) => less_at w hT b a hb ha W hW false hba)
  have NA := Lib.hid (fun W (hW : Below w.heap.size w W) => name_at w hT a ha W hW na hna)
  clear haa hab hba hbc hna
  go_enter Tryd.func8, Tryd.ntmps8
  go_wp2_with (first
    | (go_at_call 12; refine (awake_at w hT).mono ?_; rintro e W1 ⟨rfl, hW1⟩)
    | (go_at_call 28; refine (RAB.out _ (by assumption)).mono ?_; rintro e W1 ⟨rfl, hW1⟩)
    | (go_at_call 27; (with_reducible refine (Lab.out _ (by assumption)).mono ?_); rintro e W1 ⟨rfl, hW1⟩)
    | (go_at_call 27; (with_reducible refine (LAA.out _ (by assumption)).mono ?_); rintro e W1 ⟨rfl, hW1⟩)
    | (go_at_call 27; (with_reducible refine (Lbc.out _ (by assumption)).mono ?_); rintro e W1 ⟨rfl, hW1⟩)
    | (go_at_call 27; (with_reducible refine (Lba.out _ (by assumption)).mono ?_); rintro e W1 ⟨rfl, hW1⟩)
    | (go_at_call 25; (with_reducible refine (NA.out _ (by assumption)).mono ?_); rintro e W1 ⟨rfl, hW1⟩))
  go_ret
  exact ⟨rfl, by assumption⟩

set_option maxHeartbeats 400000 in
theorem go_f_na (a b c : ByteArray) (w : World) (hT : Tabs w) (ha : a.size ≤ 4096) (hb : b.size ≤ 4096) (hc : c.size ≤ 4096) (na : Int) (hna : nameR a.data.toList = na) (hn1 : (na != 0) = true) (hab : lessD a.data.toList b.data.toList = false) :
    Calls Tryd.prog 8 #[.string a, .string b, .string c] w fun e w' => e = .returned (.bool true) ∧ Below w.heap.size w w' := by
  have haa : lessD a.data.toList a.data.toList = false := lex_self _
  have za : (a.size : Int) ≤ 4096 := by omega
  have zb : (b.size : Int) ≤ 4096 := by omega
  have zc : (c.size : Int) ≤ 4096 := by omega
  have Lab := Lib.hid (fun W (hW : Below w.heap.size w W) => less_at w hT a b ha hb W hW false hab)
  have RAB := Lib.hid (fun W (hW : Below w.heap.size w W) => rless_at w a b ha hb W hW false hab)
  have LAA := Lib.hid (fun W (hW : Below w.heap.size w W) => less_at w hT a a ha ha W hW false haa)
  have NA := Lib.hid (fun W (hW : Below w.heap.size w W) => name_at w hT a ha W hW na hna)
  clear haa hab hna
  go_enter Tryd.func8, Tryd.ntmps8
  go_wp2_with (first
    | (go_at_call 12; refine (awake_at w hT).mono ?_; rintro e W1 ⟨rfl, hW1⟩)
    | (go_at_call 28; refine (RAB.out _ (by assumption)).mono ?_; rintro e W1 ⟨rfl, hW1⟩)
    | (go_at_call 27; (with_reducible refine (Lab.out _ (by assumption)).mono ?_); rintro e W1 ⟨rfl, hW1⟩)
    | (go_at_call 27; (with_reducible refine (LAA.out _ (by assumption)).mono ?_); rintro e W1 ⟨rfl, hW1⟩)
    | (go_at_call 25; (with_reducible refine (NA.out _ (by assumption)).mono ?_); rintro e W1 ⟨rfl, hW1⟩))
  go_ret
  exact ⟨rfl, by assumption⟩

set_option maxHeartbeats 400000 in
theorem go_tt_nb (a b c : ByteArray) (w : World) (hT : Tabs w) (ha : a.size ≤ 4096) (hb : b.size ≤ 4096) (hc : c.size ≤ 4096) (hna : nameR a.data.toList = 0) (nb : Int) (hnb : nameR b.data.toList = nb) (hn2 : (nb != 0) = true) (hab : lessD a.data.toList b.data.toList = true) (hba : lessD b.data.toList a.data.toList = false) (hbc : lessD b.data.toList c.data.toList = true) (hac : lessD a.data.toList c.data.toList = true) :
    Calls Tryd.prog 8 #[.string a, .string b, .string c] w fun e w' => e = .returned (.bool true) ∧ Below w.heap.size w w' := by
  have haa : lessD a.data.toList a.data.toList = false := lex_self _
  have za : (a.size : Int) ≤ 4096 := by omega
  have zb : (b.size : Int) ≤ 4096 := by omega
  have zc : (c.size : Int) ≤ 4096 := by omega
  have Lab := Lib.hid (fun W (hW : Below w.heap.size w W) => less_at w hT a b ha hb W hW true hab)
  have RAB := Lib.hid (fun W (hW : Below w.heap.size w W) => rless_at w a b ha hb W hW true hab)
  have LAA := Lib.hid (fun W (hW : Below w.heap.size w W) => less_at w hT a a ha ha W hW false haa)
  have Lbc := Lib.hid (fun W (hW : Below w.heap.size w W) => less_at w hT b c hb hc W hW true hbc)
  have Lac := Lib.hid (fun W (hW : Below w.heap.size w W) => less_at w hT a c ha hc W hW true hac)
  have Lba := Lib.hid (fun W (hW : Below w.heap.size w W) => less_at w hT b a hb ha W hW false hba)
  have NA := Lib.hid (fun W (hW : Below w.heap.size w W) => name_at w hT a ha W hW 0 hna)
  have NB := Lib.hid (fun W (hW : Below w.heap.size w W) => name_at w hT b hb W hW nb hnb)
  clear haa hab hba hbc hac hna hnb
  go_enter Tryd.func8, Tryd.ntmps8
  go_wp2_with (first
    | (go_at_call 12; refine (awake_at w hT).mono ?_; rintro e W1 ⟨rfl, hW1⟩)
    | (go_at_call 28; refine (RAB.out _ (by assumption)).mono ?_; rintro e W1 ⟨rfl, hW1⟩)
    | (go_at_call 27; (with_reducible refine (Lab.out _ (by assumption)).mono ?_); rintro e W1 ⟨rfl, hW1⟩)
    | (go_at_call 27; (with_reducible refine (LAA.out _ (by assumption)).mono ?_); rintro e W1 ⟨rfl, hW1⟩)
    | (go_at_call 27; (with_reducible refine (Lbc.out _ (by assumption)).mono ?_); rintro e W1 ⟨rfl, hW1⟩)
    | (go_at_call 27; (with_reducible refine (Lac.out _ (by assumption)).mono ?_); rintro e W1 ⟨rfl, hW1⟩)
    | (go_at_call 27; (with_reducible refine (Lba.out _ (by assumption)).mono ?_); rintro e W1 ⟨rfl, hW1⟩)
    | (go_at_call 25; (with_reducible refine (NA.out _ (by assumption)).mono ?_); rintro e W1 ⟨rfl, hW1⟩)
    | (go_at_call 25; (with_reducible refine (NB.out _ (by assumption)).mono ?_); rintro e W1 ⟨rfl, hW1⟩))
  go_ret
  exact ⟨rfl, by assumption⟩

set_option maxHeartbeats 400000 in
theorem go_tf_nb (a b c : ByteArray) (w : World) (hT : Tabs w) (ha : a.size ≤ 4096) (hb : b.size ≤ 4096) (hc : c.size ≤ 4096) (hna : nameR a.data.toList = 0) (nb : Int) (hnb : nameR b.data.toList = nb) (hn2 : (nb != 0) = true) (hab : lessD a.data.toList b.data.toList = true) (hba : lessD b.data.toList a.data.toList = false) (hbc : lessD b.data.toList c.data.toList = false) :
    Calls Tryd.prog 8 #[.string a, .string b, .string c] w fun e w' => e = .returned (.bool true) ∧ Below w.heap.size w w' := by
  have haa : lessD a.data.toList a.data.toList = false := lex_self _
  have za : (a.size : Int) ≤ 4096 := by omega
  have zb : (b.size : Int) ≤ 4096 := by omega
  have zc : (c.size : Int) ≤ 4096 := by omega
  have Lab := Lib.hid (fun W (hW : Below w.heap.size w W) => less_at w hT a b ha hb W hW true hab)
  have RAB := Lib.hid (fun W (hW : Below w.heap.size w W) => rless_at w a b ha hb W hW true hab)
  have LAA := Lib.hid (fun W (hW : Below w.heap.size w W) => less_at w hT a a ha ha W hW false haa)
  have Lbc := Lib.hid (fun W (hW : Below w.heap.size w W) => less_at w hT b c hb hc W hW false hbc)
  have Lba := Lib.hid (fun W (hW : Below w.heap.size w W) => less_at w hT b a hb ha W hW false hba)
  have NA := Lib.hid (fun W (hW : Below w.heap.size w W) => name_at w hT a ha W hW 0 hna)
  have NB := Lib.hid (fun W (hW : Below w.heap.size w W) => name_at w hT b hb W hW nb hnb)
  clear haa hab hba hbc hna hnb
  go_enter Tryd.func8, Tryd.ntmps8
  go_wp2_with (first
    | (go_at_call 12; refine (awake_at w hT).mono ?_; rintro e W1 ⟨rfl, hW1⟩)
    | (go_at_call 28; refine (RAB.out _ (by assumption)).mono ?_; rintro e W1 ⟨rfl, hW1⟩)
    | (go_at_call 27; (with_reducible refine (Lab.out _ (by assumption)).mono ?_); rintro e W1 ⟨rfl, hW1⟩)
    | (go_at_call 27; (with_reducible refine (LAA.out _ (by assumption)).mono ?_); rintro e W1 ⟨rfl, hW1⟩)
    | (go_at_call 27; (with_reducible refine (Lbc.out _ (by assumption)).mono ?_); rintro e W1 ⟨rfl, hW1⟩)
    | (go_at_call 27; (with_reducible refine (Lba.out _ (by assumption)).mono ?_); rintro e W1 ⟨rfl, hW1⟩)
    | (go_at_call 25; (with_reducible refine (NA.out _ (by assumption)).mono ?_); rintro e W1 ⟨rfl, hW1⟩)
    | (go_at_call 25; (with_reducible refine (NB.out _ (by assumption)).mono ?_); rintro e W1 ⟨rfl, hW1⟩))
  go_ret
  exact ⟨rfl, by assumption⟩

set_option maxHeartbeats 400000 in
theorem go_f_nb (a b c : ByteArray) (w : World) (hT : Tabs w) (ha : a.size ≤ 4096) (hb : b.size ≤ 4096) (hc : c.size ≤ 4096) (hna : nameR a.data.toList = 0) (nb : Int) (hnb : nameR b.data.toList = nb) (hn2 : (nb != 0) = true) (hab : lessD a.data.toList b.data.toList = false) :
    Calls Tryd.prog 8 #[.string a, .string b, .string c] w fun e w' => e = .returned (.bool true) ∧ Below w.heap.size w w' := by
  have haa : lessD a.data.toList a.data.toList = false := lex_self _
  have za : (a.size : Int) ≤ 4096 := by omega
  have zb : (b.size : Int) ≤ 4096 := by omega
  have zc : (c.size : Int) ≤ 4096 := by omega
  have Lab := Lib.hid (fun W (hW : Below w.heap.size w W) => less_at w hT a b ha hb W hW false hab)
  have RAB := Lib.hid (fun W (hW : Below w.heap.size w W) => rless_at w a b ha hb W hW false hab)
  have LAA := Lib.hid (fun W (hW : Below w.heap.size w W) => less_at w hT a a ha ha W hW false haa)
  have NA := Lib.hid (fun W (hW : Below w.heap.size w W) => name_at w hT a ha W hW 0 hna)
  have NB := Lib.hid (fun W (hW : Below w.heap.size w W) => name_at w hT b hb W hW nb hnb)
  clear haa hab hna hnb
  go_enter Tryd.func8, Tryd.ntmps8
  go_wp2_with (first
    | (go_at_call 12; refine (awake_at w hT).mono ?_; rintro e W1 ⟨rfl, hW1⟩)
    | (go_at_call 28; refine (RAB.out _ (by assumption)).mono ?_; rintro e W1 ⟨rfl, hW1⟩)
    | (go_at_call 27; (with_reducible refine (Lab.out _ (by assumption)).mono ?_); rintro e W1 ⟨rfl, hW1⟩)
    | (go_at_call 27; (with_reducible refine (LAA.out _ (by assumption)).mono ?_); rintro e W1 ⟨rfl, hW1⟩)
    | (go_at_call 25; (with_reducible refine (NA.out _ (by assumption)).mono ?_); rintro e W1 ⟨rfl, hW1⟩)
    | (go_at_call 25; (with_reducible refine (NB.out _ (by assumption)).mono ?_); rintro e W1 ⟨rfl, hW1⟩))
  go_ret
  exact ⟨rfl, by assumption⟩

set_option maxHeartbeats 400000 in
theorem go_tt_eq (a b c : ByteArray) (w : World) (hT : Tabs w) (ha : a.size ≤ 4096) (hb : b.size ≤ 4096) (hc : c.size ≤ 4096) (hna : nameR a.data.toList = 0) (hnb : nameR b.data.toList = 0) (heq : (a.toList == b.toList) = true) (hab : lessD a.data.toList b.data.toList = true) (hba : lessD b.data.toList a.data.toList = false) (hbc : lessD b.data.toList c.data.toList = true) (hac : lessD a.data.toList c.data.toList = true) :
    Calls Tryd.prog 8 #[.string a, .string b, .string c] w fun e w' => e = .returned (.bool true) ∧ Below w.heap.size w w' := by
  have haa : lessD a.data.toList a.data.toList = false := lex_self _
  have za : (a.size : Int) ≤ 4096 := by omega
  have zb : (b.size : Int) ≤ 4096 := by omega
  have zc : (c.size : Int) ≤ 4096 := by omega
  have Lab := Lib.hid (fun W (hW : Below w.heap.size w W) => less_at w hT a b ha hb W hW true hab)
  have RAB := Lib.hid (fun W (hW : Below w.heap.size w W) => rless_at w a b ha hb W hW true hab)
  have LAA := Lib.hid (fun W (hW : Below w.heap.size w W) => less_at w hT a a ha ha W hW false haa)
  have Lbc := Lib.hid (fun W (hW : Below w.heap.size w W) => less_at w hT b c hb hc W hW true hbc)
  have Lac := Lib.hid (fun W (hW : Below w.heap.size w W) => less_at w hT a c ha hc W hW true hac)
  have Lba := Lib.hid (fun W (hW : Below w.heap.size w W) => less_at w hT b a hb ha W hW false hba)
  have NA := Lib.hid (fun W (hW : Below w.heap.size w W) => name_at w hT a ha W hW 0 hna)
  have NB := Lib.hid (fun W (hW : Below w.heap.size w W) => name_at w hT b hb W hW 0 hnb)
  clear haa hab hba hbc hac hna hnb
  go_enter Tryd.func8, Tryd.ntmps8
  go_wp2_with (first
    | (go_at_call 12; refine (awake_at w hT).mono ?_; rintro e W1 ⟨rfl, hW1⟩)
    | (go_at_call 28; refine (RAB.out _ (by assumption)).mono ?_; rintro e W1 ⟨rfl, hW1⟩)
    | (go_at_call 27; (with_reducible refine (Lab.out _ (by assumption)).mono ?_); rintro e W1 ⟨rfl, hW1⟩)
    | (go_at_call 27; (with_reducible refine (LAA.out _ (by assumption)).mono ?_); rintro e W1 ⟨rfl, hW1⟩)
    | (go_at_call 27; (with_reducible refine (Lbc.out _ (by assumption)).mono ?_); rintro e W1 ⟨rfl, hW1⟩)
    | (go_at_call 27; (with_reducible refine (Lac.out _ (by assumption)).mono ?_); rintro e W1 ⟨rfl, hW1⟩)
    | (go_at_call 27; (with_reducible refine (Lba.out _ (by assumption)).mono ?_); rintro e W1 ⟨rfl, hW1⟩)
    | (go_at_call 25; (with_reducible refine (NA.out _ (by assumption)).mono ?_); rintro e W1 ⟨rfl, hW1⟩)
    | (go_at_call 25; (with_reducible refine (NB.out _ (by assumption)).mono ?_); rintro e W1 ⟨rfl, hW1⟩))
  go_ret
  exact ⟨rfl, by assumption⟩

set_option maxHeartbeats 400000 in
theorem go_tf_eq (a b c : ByteArray) (w : World) (hT : Tabs w) (ha : a.size ≤ 4096) (hb : b.size ≤ 4096) (hc : c.size ≤ 4096) (hna : nameR a.data.toList = 0) (hnb : nameR b.data.toList = 0) (heq : (a.toList == b.toList) = true) (hab : lessD a.data.toList b.data.toList = true) (hba : lessD b.data.toList a.data.toList = false) (hbc : lessD b.data.toList c.data.toList = false) :
    Calls Tryd.prog 8 #[.string a, .string b, .string c] w fun e w' => e = .returned (.bool true) ∧ Below w.heap.size w w' := by
  have haa : lessD a.data.toList a.data.toList = false := lex_self _
  have za : (a.size : Int) ≤ 4096 := by omega
  have zb : (b.size : Int) ≤ 4096 := by omega
  have zc : (c.size : Int) ≤ 4096 := by omega
  have Lab := Lib.hid (fun W (hW : Below w.heap.size w W) => less_at w hT a b ha hb W hW true hab)
  have RAB := Lib.hid (fun W (hW : Below w.heap.size w W) => rless_at w a b ha hb W hW true hab)
  have LAA := Lib.hid (fun W (hW : Below w.heap.size w W) => less_at w hT a a ha ha W hW false haa)
  have Lbc := Lib.hid (fun W (hW : Below w.heap.size w W) => less_at w hT b c hb hc W hW false hbc)
  have Lba := Lib.hid (fun W (hW : Below w.heap.size w W) => less_at w hT b a hb ha W hW false hba)
  have NA := Lib.hid (fun W (hW : Below w.heap.size w W) => name_at w hT a ha W hW 0 hna)
  have NB := Lib.hid (fun W (hW : Below w.heap.size w W) => name_at w hT b hb W hW 0 hnb)
  clear haa hab hba hbc hna hnb
  go_enter Tryd.func8, Tryd.ntmps8
  go_wp2_with (first
    | (go_at_call 12; refine (awake_at w hT).mono ?_; rintro e W1 ⟨rfl, hW1⟩)
    | (go_at_call 28; refine (RAB.out _ (by assumption)).mono ?_; rintro e W1 ⟨rfl, hW1⟩)
    | (go_at_call 27; (with_reducible refine (Lab.out _ (by assumption)).mono ?_); rintro e W1 ⟨rfl, hW1⟩)
    | (go_at_call 27; (with_reducible refine (LAA.out _ (by assumption)).mono ?_); rintro e W1 ⟨rfl, hW1⟩)
    | (go_at_call 27; (with_reducible refine (Lbc.out _ (by assumption)).mono ?_); rintro e W1 ⟨rfl, hW1⟩)
    | (go_at_call 27; (with_reducible refine (Lba.out _ (by assumption)).mono ?_); rintro e W1 ⟨rfl, hW1⟩)
    | (go_at_call 25; (with_reducible refine (NA.out _ (by assumption)).mono ?_); rintro e W1 ⟨rfl, hW1⟩)
    | (go_at_call 25; (with_reducible refine (NB.out _ (by assumption)).mono ?_); rintro e W1 ⟨rfl, hW1⟩))
  go_ret
  exact ⟨rfl, by assumption⟩

set_option maxHeartbeats 400000 in
theorem go_f_eq (a b c : ByteArray) (w : World) (hT : Tabs w) (ha : a.size ≤ 4096) (hb : b.size ≤ 4096) (hc : c.size ≤ 4096) (hna : nameR a.data.toList = 0) (hnb : nameR b.data.toList = 0) (heq : (a.toList == b.toList) = true) (hab : lessD a.data.toList b.data.toList = false) :
    Calls Tryd.prog 8 #[.string a, .string b, .string c] w fun e w' => e = .returned (.bool true) ∧ Below w.heap.size w w' := by
  have haa : lessD a.data.toList a.data.toList = false := lex_self _
  have za : (a.size : Int) ≤ 4096 := by omega
  have zb : (b.size : Int) ≤ 4096 := by omega
  have zc : (c.size : Int) ≤ 4096 := by omega
  have Lab := Lib.hid (fun W (hW : Below w.heap.size w W) => less_at w hT a b ha hb W hW false hab)
  have RAB := Lib.hid (fun W (hW : Below w.heap.size w W) => rless_at w a b ha hb W hW false hab)
  have LAA := Lib.hid (fun W (hW : Below w.heap.size w W) => less_at w hT a a ha ha W hW false haa)
  have NA := Lib.hid (fun W (hW : Below w.heap.size w W) => name_at w hT a ha W hW 0 hna)
  have NB := Lib.hid (fun W (hW : Below w.heap.size w W) => name_at w hT b hb W hW 0 hnb)
  clear haa hab hna hnb
  go_enter Tryd.func8, Tryd.ntmps8
  go_wp2_with (first
    | (go_at_call 12; refine (awake_at w hT).mono ?_; rintro e W1 ⟨rfl, hW1⟩)
    | (go_at_call 28; refine (RAB.out _ (by assumption)).mono ?_; rintro e W1 ⟨rfl, hW1⟩)
    | (go_at_call 27; (with_reducible refine (Lab.out _ (by assumption)).mono ?_); rintro e W1 ⟨rfl, hW1⟩)
    | (go_at_call 27; (with_reducible refine (LAA.out _ (by assumption)).mono ?_); rintro e W1 ⟨rfl, hW1⟩)
    | (go_at_call 25; (with_reducible refine (NA.out _ (by assumption)).mono ?_); rintro e W1 ⟨rfl, hW1⟩)
    | (go_at_call 25; (with_reducible refine (NB.out _ (by assumption)).mono ?_); rintro e W1 ⟨rfl, hW1⟩))
  go_ret
  exact ⟨rfl, by assumption⟩

set_option maxHeartbeats 400000 in
theorem go_tt_ord (a b c : ByteArray) (w : World) (hT : Tabs w) (ha : a.size ≤ 4096) (hb : b.size ≤ 4096) (hc : c.size ≤ 4096) (hna : nameR a.data.toList = 0) (hnb : nameR b.data.toList = 0) (heq : (a.toList == b.toList) = false) (hab : lessD a.data.toList b.data.toList = true) (hba : lessD b.data.toList a.data.toList = false) (hbc : lessD b.data.toList c.data.toList = true) (hac : lessD a.data.toList c.data.toList = true) :
    Calls Tryd.prog 8 #[.string a, .string b, .string c] w fun e w' => e = .returned (.bool true) ∧ Below w.heap.size w w' := by
  have haa : lessD a.data.toList a.data.toList = false := lex_self _
  have za : (a.size : Int) ≤ 4096 := by omega
  have zb : (b.size : Int) ≤ 4096 := by omega
  have zc : (c.size : Int) ≤ 4096 := by omega
  have Lab := Lib.hid (fun W (hW : Below w.heap.size w W) => less_at w hT a b ha hb W hW true hab)
  have RAB := Lib.hid (fun W (hW : Below w.heap.size w W) => rless_at w a b ha hb W hW true hab)
  have LAA := Lib.hid (fun W (hW : Below w.heap.size w W) => less_at w hT a a ha ha W hW false haa)
  have Lbc := Lib.hid (fun W (hW : Below w.heap.size w W) => less_at w hT b c hb hc W hW true hbc)
  have Lac := Lib.hid (fun W (hW : Below w.heap.size w W) => less_at w hT a c ha hc W hW true hac)
  have Lba := Lib.hid (fun W (hW : Below w.heap.size w W) => less_at w hT b a hb ha W hW false hba)
  have NA := Lib.hid (fun W (hW : Below w.heap.size w W) => name_at w hT a ha W hW 0 hna)
  have NB := Lib.hid (fun W (hW : Below w.heap.size w W) => name_at w hT b hb W hW 0 hnb)
  clear haa hab hba hbc hac hna hnb
  go_enter Tryd.func8, Tryd.ntmps8
  go_wp2_with (first
    | (go_at_call 12; refine (awake_at w hT).mono ?_; rintro e W1 ⟨rfl, hW1⟩)
    | (go_at_call 28; refine (RAB.out _ (by assumption)).mono ?_; rintro e W1 ⟨rfl, hW1⟩)
    | (go_at_call 27; (with_reducible refine (Lab.out _ (by assumption)).mono ?_); rintro e W1 ⟨rfl, hW1⟩)
    | (go_at_call 27; (with_reducible refine (LAA.out _ (by assumption)).mono ?_); rintro e W1 ⟨rfl, hW1⟩)
    | (go_at_call 27; (with_reducible refine (Lbc.out _ (by assumption)).mono ?_); rintro e W1 ⟨rfl, hW1⟩)
    | (go_at_call 27; (with_reducible refine (Lac.out _ (by assumption)).mono ?_); rintro e W1 ⟨rfl, hW1⟩)
    | (go_at_call 27; (with_reducible refine (Lba.out _ (by assumption)).mono ?_); rintro e W1 ⟨rfl, hW1⟩)
    | (go_at_call 25; (with_reducible refine (NA.out _ (by assumption)).mono ?_); rintro e W1 ⟨rfl, hW1⟩)
    | (go_at_call 25; (with_reducible refine (NB.out _ (by assumption)).mono ?_); rintro e W1 ⟨rfl, hW1⟩))
  go_ret
  exact ⟨rfl, by assumption⟩

set_option maxHeartbeats 400000 in
theorem go_tf_ord (a b c : ByteArray) (w : World) (hT : Tabs w) (ha : a.size ≤ 4096) (hb : b.size ≤ 4096) (hc : c.size ≤ 4096) (hna : nameR a.data.toList = 0) (hnb : nameR b.data.toList = 0) (heq : (a.toList == b.toList) = false) (hab : lessD a.data.toList b.data.toList = true) (hba : lessD b.data.toList a.data.toList = false) (hbc : lessD b.data.toList c.data.toList = false) :
    Calls Tryd.prog 8 #[.string a, .string b, .string c] w fun e w' => e = .returned (.bool true) ∧ Below w.heap.size w w' := by
  have haa : lessD a.data.toList a.data.toList = false := lex_self _
  have za : (a.size : Int) ≤ 4096 := by omega
  have zb : (b.size : Int) ≤ 4096 := by omega
  have zc : (c.size : Int) ≤ 4096 := by omega
  have Lab := Lib.hid (fun W (hW : Below w.heap.size w W) => less_at w hT a b ha hb W hW true hab)
  have RAB := Lib.hid (fun W (hW : Below w.heap.size w W) => rless_at w a b ha hb W hW true hab)
  have LAA := Lib.hid (fun W (hW : Below w.heap.size w W) => less_at w hT a a ha ha W hW false haa)
  have Lbc := Lib.hid (fun W (hW : Below w.heap.size w W) => less_at w hT b c hb hc W hW false hbc)
  have Lba := Lib.hid (fun W (hW : Below w.heap.size w W) => less_at w hT b a hb ha W hW false hba)
  have NA := Lib.hid (fun W (hW : Below w.heap.size w W) => name_at w hT a ha W hW 0 hna)
  have NB := Lib.hid (fun W (hW : Below w.heap.size w W) => name_at w hT b hb W hW 0 hnb)
  clear haa hab hba hbc hna hnb
  go_enter Tryd.func8, Tryd.ntmps8
  go_wp2_with (first
    | (go_at_call 12; refine (awake_at w hT).mono ?_; rintro e W1 ⟨rfl, hW1⟩)
    | (go_at_call 28; refine (RAB.out _ (by assumption)).mono ?_; rintro e W1 ⟨rfl, hW1⟩)
    | (go_at_call 27; (with_reducible refine (Lab.out _ (by assumption)).mono ?_); rintro e W1 ⟨rfl, hW1⟩)
    | (go_at_call 27; (with_reducible refine (LAA.out _ (by assumption)).mono ?_); rintro e W1 ⟨rfl, hW1⟩)
    | (go_at_call 27; (with_reducible refine (Lbc.out _ (by assumption)).mono ?_); rintro e W1 ⟨rfl, hW1⟩)
    | (go_at_call 27; (with_reducible refine (Lba.out _ (by assumption)).mono ?_); rintro e W1 ⟨rfl, hW1⟩)
    | (go_at_call 25; (with_reducible refine (NA.out _ (by assumption)).mono ?_); rintro e W1 ⟨rfl, hW1⟩)
    | (go_at_call 25; (with_reducible refine (NB.out _ (by assumption)).mono ?_); rintro e W1 ⟨rfl, hW1⟩))
  go_ret
  exact ⟨rfl, by assumption⟩

set_option maxHeartbeats 400000 in
theorem go_f_ord (a b c : ByteArray) (w : World) (hT : Tabs w) (ha : a.size ≤ 4096) (hb : b.size ≤ 4096) (hc : c.size ≤ 4096) (hna : nameR a.data.toList = 0) (hnb : nameR b.data.toList = 0) (heq : (a.toList == b.toList) = false) (hab : lessD a.data.toList b.data.toList = false) (hba : lessD b.data.toList a.data.toList = true) :
    Calls Tryd.prog 8 #[.string a, .string b, .string c] w fun e w' => e = .returned (.bool true) ∧ Below w.heap.size w w' := by
  have haa : lessD a.data.toList a.data.toList = false := lex_self _
  have za : (a.size : Int) ≤ 4096 := by omega
  have zb : (b.size : Int) ≤ 4096 := by omega
  have zc : (c.size : Int) ≤ 4096 := by omega
  have Lab := Lib.hid (fun W (hW : Below w.heap.size w W) => less_at w hT a b ha hb W hW false hab)
  have RAB := Lib.hid (fun W (hW : Below w.heap.size w W) => rless_at w a b ha hb W hW false hab)
  have LAA := Lib.hid (fun W (hW : Below w.heap.size w W) => less_at w hT a a ha ha W hW false haa)
  have Lba := Lib.hid (fun W (hW : Below w.heap.size w W) => less_at w hT b a hb ha W hW true hba)
  have NA := Lib.hid (fun W (hW : Below w.heap.size w W) => name_at w hT a ha W hW 0 hna)
  have NB := Lib.hid (fun W (hW : Below w.heap.size w W) => name_at w hT b hb W hW 0 hnb)
  clear haa hab hba hna hnb
  go_enter Tryd.func8, Tryd.ntmps8
  go_wp2_with (first
    | (go_at_call 12; refine (awake_at w hT).mono ?_; rintro e W1 ⟨rfl, hW1⟩)
    | (go_at_call 28; refine (RAB.out _ (by assumption)).mono ?_; rintro e W1 ⟨rfl, hW1⟩)
    | (go_at_call 27; (with_reducible refine (Lab.out _ (by assumption)).mono ?_); rintro e W1 ⟨rfl, hW1⟩)
    | (go_at_call 27; (with_reducible refine (LAA.out _ (by assumption)).mono ?_); rintro e W1 ⟨rfl, hW1⟩)
    | (go_at_call 27; (with_reducible refine (Lba.out _ (by assumption)).mono ?_); rintro e W1 ⟨rfl, hW1⟩)
    | (go_at_call 25; (with_reducible refine (NA.out _ (by assumption)).mono ?_); rintro e W1 ⟨rfl, hW1⟩)
    | (go_at_call 25; (with_reducible refine (NB.out _ (by assumption)).mono ?_); rintro e W1 ⟨rfl, hW1⟩))
  go_ret
  exact ⟨rfl, by assumption⟩

theorem walk (a : ByteArray) (ha : a.size ≤ maxLen) (b : ByteArray) (hb : b.size ≤ maxLen) (c : ByteArray) (hc : c.size ≤ maxLen) (w : World) (hT : Tabs w) :
    Calls Tryd.prog 8 #[.string a, .string b, .string c] w fun e w' => e = .returned (.bool true) ∧ Below w.heap.size w w' := by
  unfold maxLen at ha hb hc
  by_cases h : a.size ≤ 4096 ∧ b.size ≤ 4096 ∧ c.size ≤ 4096
  · obtain ⟨h1, h2, h3⟩ := h
    have hne : nameR a.data.toList ≠ 0 → (nameR a.data.toList != 0) = true := fun h => by rw [bne_iff_ne]; exact h
    have hne2 : nameR b.data.toList ≠ 0 → (nameR b.data.toList != 0) = true := fun h => by rw [bne_iff_ne]; exact h
    cases hab : lessD a.data.toList b.data.toList
    · by_cases na : nameR a.data.toList = 0
      · by_cases nb : nameR b.data.toList = 0
        · cases heq : a.toList == b.toList
          · have k1 := name_ok na
            have k2 := name_ok nb
            have hd : dl a.data.toList ≠ dl b.data.toList := by
              intro e
              have := dl_inj _ _ k1.2.2.2.1 k2.2.2.2.1 e
              rw [data_inj this] at heq
              simp at heq
            have hba : lessD b.data.toList a.data.toList = true := by
              rcases lex_total _ _ hd with h | h
              · rw [show lessD a.data.toList b.data.toList = true from h] at hab
                cases hab
              · exact h
            exact go_f_ord a b c w hT h1 h2 h3 na nb heq hab hba
          · exact go_f_eq a b c w hT h1 h2 h3 na nb heq hab
        · exact go_f_nb a b c w hT h1 h2 h3 na _ rfl (hne2 nb) hab
      · exact go_f_na a b c w hT h1 h2 h3 _ rfl (hne na) hab
    · have hba : lessD b.data.toList a.data.toList = false := lex_asym _ _ hab
      cases hbc : lessD b.data.toList c.data.toList
      · by_cases na : nameR a.data.toList = 0
        · by_cases nb : nameR b.data.toList = 0
          · cases heq : a.toList == b.toList
            · exact go_tf_ord a b c w hT h1 h2 h3 na nb heq hab hba hbc
            · exact go_tf_eq a b c w hT h1 h2 h3 na nb heq hab hba hbc
          · exact go_tf_nb a b c w hT h1 h2 h3 na _ rfl (hne2 nb) hab hba hbc
        · exact go_tf_na a b c w hT h1 h2 h3 _ rfl (hne na) hab hba hbc
      · have hac : lessD a.data.toList c.data.toList = true := lex_trans _ _ _ hab hbc
        by_cases na : nameR a.data.toList = 0
        · by_cases nb : nameR b.data.toList = 0
          · cases heq : a.toList == b.toList
            · exact go_tt_ord a b c w hT h1 h2 h3 na nb heq hab hba hbc hac
            · exact go_tt_eq a b c w hT h1 h2 h3 na nb heq hab hba hbc hac
          · exact go_tt_nb a b c w hT h1 h2 h3 na _ rfl (hne2 nb) hab hba hbc hac
        · exact go_tt_na a b c w hT h1 h2 h3 _ rfl (hne na) hab hba hbc hac
  · by_cases h1 : 4096 < a.size
    · have z1 : (4096 : Int) < (a.size : Int) := by omega
      clear h
      go_enter Tryd.func8, Tryd.ntmps8
      go_wp2_with (go_at_call 12; refine (awake_any w hT).mono ?_; rintro e w1 ⟨rfl, hb1⟩)
      go_ret
      exact ⟨rfl, hb1⟩
    have d1 : decide ((4096 : Int) < (a.size : Int)) = false := by simp; omega
    by_cases h2 : 4096 < b.size
    · have z1 : (4096 : Int) < (b.size : Int) := by omega
      clear h h1
      go_enter Tryd.func8, Tryd.ntmps8
      go_wp2_with (go_at_call 12; refine (awake_any w hT).mono ?_; rintro e w1 ⟨rfl, hb1⟩)
      go_ret
      exact ⟨rfl, hb1⟩
    have d2 : decide ((4096 : Int) < (b.size : Int)) = false := by simp; omega
    have z1 : (4096 : Int) < (c.size : Int) := by omega
    clear h h1 h2
    go_enter Tryd.func8, Tryd.ntmps8
    go_wp2_with (go_at_call 12; refine (awake_any w hT).mono ?_; rintro e w1 ⟨rfl, hb1⟩)
    go_ret
    exact ⟨rfl, hb1⟩
end Go.Proofs.YtcdgiailapcooaaDoor.wireOrder
