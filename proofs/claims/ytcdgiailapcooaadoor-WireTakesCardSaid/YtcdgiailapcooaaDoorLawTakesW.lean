/- What is wanted of any bytes, one behind the other, is told as long as it is there, and then nothing more: the statement on WireTakes, its card. Condition: the listed tables hold what the library's text lays. -/
import Derived.Test.YtcdgiailapcooaaDoorIn2
import Derived.Test.YtcdgiailapcooaaDoorRef2
import Derived.Deep.RegionWith
import Derived.Test.YtcdgiailapcooaaDoorCut
set_option linter.unusedVariables false
namespace Go.Proofs.YtcdgiailapcooaaDoor.wireTakes
open Go.ChangeShapes Go.WideShapes Go.ChangeAt Go.RowKit
open Go.ChangeMaps (open_string shut_string)

theorem long (a : Option Addr) (len cap : Nat) (l : List UInt8) (a2 : Option Addr) (len2 cap2 : Nat) (w : World) (hl : InB w a len cap l) (hT : Tabs w) (h : 65536 < l.length) :
    Calls Tryd.prog 5 #[.slice a len cap, .slice a2 len2 cap2] w fun e w' => e = .returned (.bool true) ∧ Below w.heap.size w w' := by
  obtain ⟨rfl, hA, hcap, hmax⟩ := hl
  unfold maxLen at hmax
  have hl63 : (l.length : Int) ≤ 9223372036854775807 := by omega
  have hz : (65536 : Int) < (l.length : Int) := by omega
  go_enter Tryd.func5, Tryd.ntmps5
  go_wp2_with (go_at_call 12; refine (awake_any w hT).mono ?_; rintro e w1 ⟨rfl, hb1⟩)
  go_ret
  exact ⟨rfl, hb1⟩

/-- The shape of a row of bytes of the call's own. -/
theorem own_shape {w : World} {B n : Nat} {e : TypeId} {v : Value} {xs : List Value} (h : w.ownsRow B e 1 v n xs) (d : Nat) :
    ∃ A c go, v = .slice A n c ∧ (0 < n → A = some ⟨go, 0, none⟩ ∧ B ≤ go ∧ go < w.heap.size ∧ ∃ cur, w.heap[go]? = some (.cells cur e (0, 0)) ∧ n ≤ cur.size) ∧ (n = 0 → go = d) := by
  by_cases h0 : n = 0
  · rcases h.2 with ⟨rfl, _⟩ | ⟨g, cap, cur, rfl, _⟩
    · subst h0
      exact ⟨none, 0, d, rfl, fun h => absurd h (by omega), fun _ => rfl⟩
    · exact ⟨_, cap, d, rfl, fun h => absurd h (by omega), fun _ => rfl⟩
  · rcases h.2 with ⟨rfl, h1⟩ | ⟨g, cap, cur, rfl, hb, hg, hn, hc, hs, _⟩
    · exact absurd h1 h0
    · exact ⟨_, cap, g, rfl, fun _ => ⟨rfl, hb, (Array.getElem?_eq_some_iff.1 hg).1, cur, hg, by omega⟩, fun h => absurd h h0⟩

/-- A new cursor, whatever is done to one elder block behind it. -/
theorem new_low (A : Option Addr) (c : Nat) (l : List UInt8) (w : World) (hA : Hol w A l) (hb : l.length ≤ 70368744177664) :
    Calls Tryd.prog 18 #[.slice A l.length c] w fun e w' => ∃ g, e = .returned (.pointer (some ⟨g, 0, none⟩)) ∧ w.heap.size ≤ g ∧ (∀ w'' k, k < w.heap.size → w'.grownBy w'' (some k) → Cur w'' g l false) ∧ g < w'.heap.size ∧ Below w.heap.size w w' := by
  go_enter Tryd.func18, Tryd.ntmps18
  go_wp2_with (go_at_call 31; refine (room_any A c l 0 w hA (by omega)).mono ?_; rintro e w1 ⟨v, rfl, hown1, hb1⟩; obtain ⟨_, A1, c1, rfl, h1, h2, h3⟩ := own_form hown1)
  go_ret
  refine ⟨w1.heap.size, rfl, hb1.size, fun w'' k hk hg => ?_, by simp, hb1.alloc hb1.size _⟩
  have hq : ∀ q o, A1 = some ⟨q, o, none⟩ → w.heap.size ≤ q ∧ q < w1.heap.size := fun q o e => hown1.lt q (by rw [e]; rfl)
  refine ⟨A1, c1, (hg.block _ (by simp) (by intro e; injection e with e; have := hb1.size; omega)).trans (heap_alloc_new w1 _), h1, h2, ?_, fun q o e => (hq q o e).2⟩
  refine ((Row.own hown1).grown (World.grownBy_alloc w1 _ none) (by simp)).grown hg ?_
  intro b o e _ hbk
  injection hbk with hbk
  have := (hq b o e).1
  omega

theorem below_heap {B : Nat} {w a b : World} (h : Below B w a) (hh : b.heap = a.heap) (ho : b.os = a.os) (ht : b.tape = a.tape) (hu : b.output = a.output) : Below B w b :=
  ⟨ho.trans h.os, ht.trans h.tape, hu.trans h.output, by rw [hh]; exact h.size, fun k hk => by rw [hh]; exact h.block k hk⟩

set_option maxRecDepth 100000 in
set_option maxHeartbeats 4000000 in
theorem go (a : Option Addr) (len cap : Nat) (l : List UInt8) (a2 : Option Addr) (len2 cap2 : Nat) (ws : List (Int × Int)) (w : World) (hl : InB w a len cap l) (hw : InW w a2 len2 cap2 ws) (hT : Tabs w) (h : l.length ≤ 65536) :
    Calls Tryd.prog 5 #[.slice a len cap, .slice a2 len2 cap2] w fun e w' => e = .returned (.bool true) ∧ Below w.heap.size w w' := by
  obtain ⟨rfl, hA, hcap, hmax⟩ := hl
  obtain ⟨rfl, hA2, hcap2, hmax2, hwf⟩ := hw
  unfold maxLen at hmax hmax2
  obtain ⟨i, U⟩ := u8_table
  have hz : ¬ (65536 : Int) < (l.length : Int) := by omega
  have hl63 : (l.length : Int) ≤ 65536 := by omega
  have hl63b : (ws.length : Int) ≤ 9223372036854775807 := by omega
  have hown0 : ∀ W : World, (W.alloc (.cells #[] 5)).ownsRow W.heap.size 5 1 (.slice (some ⟨W.heap.size, 0, none⟩) 0 0) 0 (bc []) := fun W => World.ownsRow_made W #[] 0 (Nat.le_refl _) (by decide) rfl
  have HO := Lib.hid hown0
  clear hown0
  go_enter Tryd.func5, Tryd.ntmps5
  go_wp2_with fail
  refine (awake_any w hT).mono ?_
  rintro e w1 ⟨rfl, hb1⟩
  have hA1 := hA.below hb1
  go_wp2_with (at_builtin; refine wpList_app _ rfl (.tmp 19) (.tmp 20) _ rfl 5 i U w1.heap.size (.slice (some ⟨w1.heap.size, 0, none⟩) 0 0) 0 (bc []) rfl (HO.out w1) a l.length cap l rfl rfl (hA1.below (below_of_grown (World.grownBy_alloc w1 _ none))) (by omega) (by simp) ?_; intro v2 w2 hown2 hg2 hat2)
  have hown3 : w2.ownsRow w1.heap.size 5 1 v2 l.length (bc l) := by simpa [bc_nil] using hown2
  have hbl : Below w1.heap.size w1 (w1.alloc (.cells #[] 5)) := below_of_grown (World.grownBy_alloc w1 _ none)
  have hb2 : Below w1.heap.size w1 w2 := hbl.grown hg2 (by simp) (fun k hk => ((HO.out w1).lt k hk).1)
  have hsz2 : w1.heap.size < w2.heap.size := by have := hg2.size; simp at this; omega
  obtain ⟨A, c, go, rfl, hgo, hgo0⟩ := own_shape hown3 w1.heap.size
  have hHol : Hol w2 A l := Hol.own hown3
  have hgw : go < w2.heap.size ∧ w1.heap.size ≤ go := by
    by_cases h0 : 0 < l.length
    · have := hgo h0; omega
    · have := hgo0 (by omega); omega
  have hgo2 : 0 < l.length → A = some ⟨go, 0, none⟩ ∧ ∃ cur, w2.heap[go]? = some (.cells cur 5 (0, 0)) ∧ l.length ≤ cur.size := fun h0 => ⟨(hgo h0).1, (hgo h0).2.2.2⟩
  have hb12 := hb1.trans (hb2.mono hb1.size)
  clear hown2 hg2 hat2 hown3 hbl hgo hgo0
  refine (new_low A c l w2 hHol (by omega)).mono ?_
  rintro e w3 ⟨gc, rfl, hgc, hlow, hgc3, hb3⟩
  have hb13 := hb12.trans (hb3.mono hb12.size)
  have hA3 := hA.below hb13
  have hgcw : w.heap.size ≤ gc := by have := hb12.size; omega
  have hgo3 : 0 < l.length → A = some ⟨go, 0, none⟩ ∧ ∃ cur, w3.heap[go]? = some (.cells cur 5 (0, 0)) ∧ l.length ≤ cur.size := by
    intro h0
    obtain ⟨e, cur, h1, h2⟩ := hgo2 h0
    exact ⟨e, cur, (hb3.block go (by omega)).trans h1, h2⟩
  have HG := Lib.hid hgo3
  have HLOW := Lib.hid hlow
  clear hgo2 hgo3 hlow hHol
  go_wp2
  go_loopw [7] (fun i wr => ∃ k : Nat, k ≤ l.length ∧ i = .int .i64 k ∧ (0 < l.length → ∃ cur, wr.heap[go]? = some (.cells cur 5 (0, 0)) ∧ l.length ≤ cur.size) ∧ w3.grownBy wr (some go)) (fun i _ => l.length - (intOf i).toNat)
  case atStart => exact ⟨0, Nat.zero_le _, rfl, fun h0 => (HG.out h0).2, ⟨rfl, rfl, rfl, Nat.le_refl _, fun _ _ _ => rfl⟩⟩
  case round =>
    obtain ⟨k, hk, rfl, hcur, hgr⟩ := hrel
    by_cases hkl : k < l.length
    · have hkz : (k : Int) < (l.length : Int) := by omega
      obtain ⟨cur, hcu, hcl⟩ := hcur (by omega)
      obtain ⟨rfl, _⟩ := HG.out (by omega)
      obtain ⟨u, hu⟩ : ∃ u, cur[k]? = some u := ⟨cur[k]'(by omega), by simp⟩
      have hc : wr.cell? ⟨go, k, none⟩ = some u := by rw [cell_of_row wr go k cur _ _ hcu]; exact hu
      have hf : wr.frozen? ⟨go, k, none⟩ = false := by simp [World.frozen?, hcu]
      have hset := heap_set hcu k (.int .u8 0)
      have hgr2 := grown_trans hgr (grown_set wr ⟨go, k, none⟩ (.int .u8 0))
      have HS := Lib.hid hset
      clear hset hcur hcu hu
      go_wp2
      go_roundw
      case rel => exact ⟨k + 1, by omega, by go_num, fun _ => ⟨_, HS.out, by simpa using hcl⟩, hgr2⟩
      case measure => simp [intOf]; omega
    · have hkz : ¬ (k : Int) < (l.length : Int) := by omega
      have hcc : Cur wr gc l false := HLOW.out wr go hgw.1 hgr
      have hbr : Below w.heap.size w wr := hb13.grown hgr hb13.size (fun q hq => by injection hq with hq; have := hb1.size; omega)
      have hAr := hA.below hbr
      have hszr : w3.heap.size ≤ wr.heap.size := hgr.size
      clear hcur hgr HLOW HG
      go_wp2_with (at_builtin; refine wpList_app _ rfl (.tmp 33) (.tmp 34) _ rfl 5 i U wr.heap.size (.slice (some ⟨wr.heap.size, 0, none⟩) 0 0) 0 (bc []) rfl (HO.out wr) a l.length cap l rfl rfl (hAr.below (below_of_grown (World.grownBy_alloc wr _ none))) (by omega) (by simp) ?_; intro v4 w4 hown4 hg4 hat4)
      have hown5 : w4.ownsRow wr.heap.size 5 1 v4 l.length (bc l) := by simpa [bc_nil] using hown4
      have hcc4 : Cur w4 gc l false := (hcc.below (below_of_grown (World.grownBy_alloc wr (.cells #[] 5) none))).beside hg4 (fun q hq => by have := ((HO.out wr).lt q hq).1; omega)
      have hb4 : Below w.heap.size w w4 := (hbr.alloc hbr.size _).grown hg4 (by have := hbr.size; simp; omega) (fun q hq => by have := ((HO.out wr).lt q hq).1; have := hbr.size; omega)
      obtain ⟨_, A5, c5, rfl, hc5, hm5, _⟩ := own_form hown5
      have hrow5 := Row.own hown5
      clear hown4 hg4 hat4 hown5 hcc hbr hAr hszr
      go_wp2
      go_loopw [8, 9, 10] (fun rv bv i wq => ∃ (k : Nat) (l : List UInt8) (b : Bool), k ≤ 200 ∧ k ≤ ws.length ∧ i = .int .i64 k ∧ bv = .bool b ∧ (b = true → l = []) ∧ l.length ≤ 65536 ∧ (∃ A c, rv = .slice A l.length c ∧ l.length ≤ c ∧ c ≤ maxLen ∧ Row wq A l) ∧ Cur wq gc l b ∧ Below w.heap.size w wq) (fun _ _ i _ => 200 - (intOf i).toNat)
      case atStart => exact ⟨0, l, false, by omega, Nat.zero_le _, rfl, rfl, (fun e => by cases e), h, ⟨A5, c5, rfl, hc5, hm5, hrow5⟩, hcc4, hb4⟩
      case round =>
        obtain ⟨k, r, b, hk200, hkw, rfl, rfl, hbr0, hr6, ⟨A6, c6, rfl, hlc, hcm, hrow⟩, hcur, hbq⟩ := hrel
        by_cases hgo : k < ws.length ∧ k < 200
        · obtain ⟨hk1, hk2⟩ := hgo
          have hkz1 : (k : Int) < (ws.length : Int) := by omega
          have hkz2 : (k : Int) < 200 := by omega
          obtain ⟨⟨kd, n⟩, hy⟩ : ∃ y, ws[k]? = some y := ⟨_, List.getElem?_eq_getElem hk1⟩
          have hwfy := hwf _ (List.mem_of_getElem? hy)
          have hbd := bounds_i64 hwfy.2
          simp only at hbd
          obtain ⟨g, off, rfl, hg0, hg1⟩ : ∃ g off, a2 = some ⟨g, off, none⟩ ∧ wr.cell? ⟨g, off + k * 2, none⟩ = some (.int .i64 kd) ∧ wr.cell? ⟨g, off + k * 2 + 1, none⟩ = some (.int .i64 n) := by
            rcases hA2 with e | ⟨g, off, e, hc⟩
            · rw [e] at hy; simp at hy
            · obtain ⟨h0, h1⟩ := hc k _ hy
              exact ⟨g, off, e, (hbq.cell (p := ⟨g, off + k * 2, none⟩) (World.block_lt_of_cell? w _ h0)).trans h0, (hbq.cell (p := ⟨g, off + k * 2 + 1, none⟩) (World.block_lt_of_cell? w _ h1)).trans h1⟩
          have hcurA : ∀ o, Cur (wr.alloc o) gc r b := fun o => hcur.below (below_of_grown (World.grownBy_alloc wr o none))
          have hrowA : ∀ o, Row (wr.alloc o) A6 r := fun o => hrow.grown (World.grownBy_alloc wr o none) (by simp)
          have hbA : ∀ o, Below w.heap.size w (wr.alloc o) := fun o => hbq.alloc hbq.size o
          clear hy hwfy hcur hrow
          by_cases hk2' : kd = 2
          · subst hk2'
            by_cases hn : n < 0 ∨ (r.length : Int) < n
            · -- more bytes than there are
              have hnx : nxt n r b = ([], [], true) := by unfold nxt; rw [if_pos hn]
              have cT : Hid (∀ W, Cur W gc r b → Calls Tryd.prog 21 #[.pointer (some ⟨gc, 0, none⟩), .int .i64 n] W (TakePost W gc ([], [], true))) := by
                refine Lib.hid fun W hW => ?_
                rw [← hnx]
                exact take_any gc r b n W hW (by omega)
              have hn1 : n < 0 ∨ decide (n < 0) = false ∧ (r.length : Int) < n := by
                by_cases h0 : n < 0
                · exact .inl h0
                · exact .inr ⟨by simpa using h0, by omega⟩
              clear hnx hn
              rcases hn1 with hn1 | ⟨hn1, hn2⟩
              all_goals
                go_wp2_with fail
                refine (cT.out _ (hcurA _)).mono ?_
                rintro e w7 ⟨v7, rfl, hown7, hcur7, hg7⟩
                replace hown7 : w7.ownsRow _ 5 1 v7 ([] : List UInt8).length (bc []) := hown7
                replace hcur7 : Cur w7 gc [] true := hcur7
                obtain ⟨_, A7, c7, rfl, _, _, hA7⟩ := own_form hown7
                have hb7 : Below w.heap.size w w7 := Below.grown (h := hbA _) (hg := hg7) (hB := (hbA _).size) (hr := fun k hk => by injection hk with hk; omega)
                clear hown7 hg7 cT
                go_wp2_with fail
                refine (bytes_any A7 none c7 0 [] [] w7 hA7 (.inl rfl) (by simp) (by simp)).mono ?_
                rintro e w8 ⟨rfl, hb8⟩
                have hcur8 := hcur7.below hb8
                have hbw8 := hb7.trans (hb8.mono hb7.size)
                go_wp2_with fail
                refine (bad_any gc [] true w8 hcur8).mono ?_
                rintro e w' ⟨rfl, rfl⟩
                go_wp2_with fail
                refine (left_any gc [] true w8 hcur8).mono ?_
                rintro e w' ⟨rfl, rfl⟩
                go_wp2
                go_roundw
                case rel => exact ⟨k + 1, [], true, by omega, by omega, by go_num, rfl, fun _ => rfl, by simp, ⟨none, 0, rfl, by simp, by decide, .inl rfl⟩, hcur8, hbw8⟩
                case measure => simp [intOf]; omega
            · -- as many as there are, or fewer
              obtain ⟨m, rfl⟩ := Int.eq_ofNat_of_zero_le (by omega : 0 ≤ n)
              have hm : m ≤ r.length := by omega
              have hnx : nxt (m : Int) r b = (r.take m, r.drop m, b) := by unfold nxt; rw [if_neg hn, Int.toNat_natCast]
              have cT : Hid (∀ W, Cur W gc r b → Calls Tryd.prog 21 #[.pointer (some ⟨gc, 0, none⟩), .int .i64 m] W (TakePost W gc (r.take m, r.drop m, b))) := by
                refine Lib.hid fun W hW => ?_
                rw [← hnx]
                exact take_any gc r b m W hW (by omega)
              have hmz : (m : Int) ≤ (r.length : Int) := by omega
              have hlcz : (r.length : Int) ≤ (c6 : Int) := by omega
              have hc63 : (c6 : Int) ≤ 9223372036854775807 := by unfold maxLen at hcm; omega
              obtain ⟨A8, c8, hcut, hc8, hc8m, hrow8⟩ := cut_named A6 c6 r m hm hlc
              have hlen : (r.take m).length = m := by rw [List.length_take]; omega
              have hdb : b = true → r.drop m = [] := fun e => by rw [hbr0 e]; simp
              have hdl : (r.drop m).length ≤ 65536 := by rw [List.length_drop]; omega
              have hrt : ∀ o, Row (wr.alloc o) A6 (r.take m) := fun o => (hrowA o).take_ m
              have hrd : ∀ o, Row (wr.alloc o) A8 (r.drop m) := fun o => hrow8 _ (hrowA o)
              clear hnx hn hrow8
              generalize r.take m = o6 at *
              generalize r.drop m = r8 at *
              have HL := Lib.hid hlen
              have HDB := Lib.hid hdb
              have HRT := Lib.hid hrt
              have HRD := Lib.hid hrd
              clear hlen hdb hrt hrd
              go_wp2_with fail
              refine (cT.out _ (hcurA _)).mono ?_
              rintro e w7 ⟨v7, rfl, hown7, hcur7, hg7⟩
              replace hown7 : w7.ownsRow _ 5 1 v7 o6.length (bc o6) := hown7
              replace hcur7 : Cur w7 gc r8 b := hcur7
              obtain ⟨_, A7, c7, rfl, _, _, hA7⟩ := own_form hown7
              have hb7 : Below w.heap.size w w7 := Below.grown (h := hbA _) (hg := hg7) (hB := (hbA _).size) (hr := fun k hk => by injection hk with hk; omega)
              have hrt7 := hol_moved (HRT.out _) (hcurA _) hg7
              have hrd7 := hol_moved (HRD.out _) (hcurA _) hg7
              clear hown7 hg7 cT
              have cB := bytes_any A7 A6 c7 c6 o6 o6 w7 hA7 hrt7.hol (by have := HL.out; omega) (by have := HL.out; omega)
              rw [decide_eq_true rfl] at cB
              have cB2 : Calls Tryd.prog 15 #[.slice A7 o6.length c7, .slice A6 m c6] w7 fun e w' => e = .returned (.bool true) ∧ Below w7.heap.size w7 w' := by
                have h0 := cB
                rw [show (Value.slice A6 o6.length c6) = Value.slice A6 m c6 by rw [HL.out]] at h0
                exact h0
              clear cB
              have CB := Lib.hid cB2
              clear cB2
              go_wp2_with fail
              refine CB.out.mono ?_
              rintro e w8 ⟨rfl, hb8⟩
              have hcur8 := hcur7.below hb8
              have hrd8 := hrd7.grown (row := none) (grown_of_below hb8) (by simp)
              have hbw8 := hb7.trans (hb8.mono hb7.size)
              go_wp2_with fail
              refine (bad_any gc r8 b w8 hcur8).mono ?_
              rintro e w' ⟨rfl, rfl⟩
              go_wp2_with fail
              refine (left_any gc r8 b w8 hcur8).mono ?_
              rintro e w' ⟨rfl, rfl⟩
              go_wp2
              go_roundw
              case rel => exact ⟨k + 1, r8, b, by omega, by omega, by go_num, rfl, HDB.out, hdl, ⟨A8, c8, rfl, hc8, by omega, hrd8⟩, hcur8, hbw8⟩
              case measure => simp [intOf]; omega
          by_cases hk1' : kd = 1
          · subst hk1'
            by_cases h2 : r.length < 2
            · -- not even a length
              obtain ⟨o6, ho6⟩ : ∃ o6 : List UInt8, o6 = [] := ⟨_, rfl⟩
              have htx : tnx r b = (o6, [], true) := by
                have e : nxt 2 r b = ([], [], true) := by unfold nxt; rw [if_pos (by omega)]
                unfold tnx
                rw [e, ho6]
                rfl
              have cT : Hid (∀ W, Cur W gc r b → Calls Tryd.prog 20 #[.pointer (some ⟨gc, 0, none⟩)] W (TextPost W gc (o6, [], true))) := by
                refine Lib.hid fun W hW => ?_
                rw [← htx]
                exact text_any gc r b W hW (by omega)
              have hz2 : (r.length : Int) < 2 := by omega
              have hcvA : Hid (∀ W : World, (convert 22 9 (.slice none 0 0)).run Tryd.prog W = .ok (.string ⟨o6.toArray⟩) W) := Lib.hid fun W => by rw [ho6]; exact run_to_string W 22 9 5 none 0 0 [] rfl Tryd.underlying22 Tryd.underlying5 Tryd.underlying9 (.inl rfl)
              clear htx h2 ho6
              have q0 := hcvA.out (wr.alloc (.cells #[.int .i64 1, .int .i64 n] 36))
              have q1 := hcvA.out (wr.alloc (.cells #[.int .i64 1, .int .i64 n] 36)).drew
              have q2 := hcvA.out (wr.alloc (.cells #[.int .i64 1, .int .i64 n] 36)).drew.drew
              have q3 := hcvA.out wr
              go_wp2_with fail
              go_region_with (go_at_call 20; refine (cT.out _ (by exact hcurA _)).mono ?_; rintro e w8 ⟨rfl, hcur8, hg8⟩; have q8 := hcvA.out w8; have q9 := hcvA.out w8.drew)
              all_goals
                replace hcur8 : Cur w8 gc [] true := hcur8
                have hbw8 : Below w.heap.size w w8 := Below.grown (h := by exact below_heap (hbA _) rfl rfl rfl rfl) (hg := hg8) (hB := (hbA _).size) (hr := fun k hk => by injection hk with hk; omega)
                clear hg8 cT q0 q1 q2 q3 q8 q9
                go_wp2_with fail
                refine (bad_any gc [] true _ (by exact hcur8)).mono ?_
                rintro e w' ⟨rfl, rfl⟩
                go_wp2_with fail
                refine (left_any gc [] true _ (by exact hcur8)).mono ?_
                rintro e w' ⟨rfl, rfl⟩
                go_wp2
                go_roundw
                case rel => exact ⟨k + 1, [], true, by omega, by omega, by go_num, rfl, fun _ => rfl, by simp, ⟨none, 0, rfl, by simp, by decide, .inl rfl⟩, by exact hcur8, by exact below_heap hbw8 rfl rfl rfl rfl⟩
                case measure => simp [intOf]; omega
            · have hb0 : b = false := by
                cases b
                · rfl
                · rw [hbr0 rfl] at h2
                  exact absurd (by decide) h2
              subst hb0
              have hlcz : (r.length : Int) ≤ (c6 : Int) := by omega
              have hc63 : (c6 : Int) ≤ 9223372036854775807 := by unfold maxLen at hcm; omega
              have hz2 : (2 : Int) ≤ (r.length : Int) := by omega
              obtain ⟨A8, c8, hcut0, hc8, hc8m, hrow8⟩ := cut_named A6 c6 r 2 (by omega) hlc
              have hcut : ∀ W : World, (Instr.slice 22 (.slice A6 r.length c6) (some (.int .i64 2)) none none).run Tryd.prog W = .ok (.slice A8 (r.drop 2).length c8) W := hcut0
              clear hcut0
              have e2 : nxt 2 r false = (r.take 2, r.drop 2, false) := by
                unfold nxt
                rw [if_neg (by omega)]
                rfl
              have htx : tnx r false = nxt (num (r.take 2) : Nat) (r.drop 2) false := by unfold tnx; rw [e2]
              have hlen : (r.take 2).length = 2 := by rw [List.length_take]; omega
              have hdl : (r.drop 2).length ≤ 65536 := by rw [List.length_drop]; omega
              have hm16 : num (r.take 2) < 65536 := by
                have := num_lt (r.take 2)
                rw [hlen] at this
                exact this
              have hrt : ∀ o, Row (wr.alloc o) A6 (r.take 2) := fun o => (hrowA o).take_ 2
              have hrd : ∀ o, Row (wr.alloc o) A8 (r.drop 2) := fun o => hrow8 _ (hrowA o)
              have cR : ∀ W, Hol W A6 (r.take 2) → Calls Tryd.prog 19 #[.slice A6 2 c6, .int .i64 2] W fun e w' => e = .returned (.int .u64 (num (r.take 2) : Nat)) ∧ W = w' := by
                intro W hW
                have h0 := rnum_any A6 c6 (r.take 2) W hW (by omega)
                rw [show (Value.slice A6 (r.take 2).length c6) = Value.slice A6 2 c6 by rw [hlen], show (Value.int .i64 ((r.take 2).length : Int)) = Value.int .i64 2 by rw [hlen]; rfl] at h0
                exact h0
              have cT0 : ∀ W, Cur W gc r false → Calls Tryd.prog 20 #[.pointer (some ⟨gc, 0, none⟩)] W (TextPost W gc (nxt (num (r.take 2) : Nat) (r.drop 2) false)) := by
                intro W hW
                rw [← htx]
                exact text_any gc r false W hW (by omega)
              clear hrow8 htx e2 h2 hlen
              generalize r.take 2 = o2 at *
              generalize hr2 : r.drop 2 = r2 at *
              have HR2 := Lib.hid hr2
              have HRT := Lib.hid hrt
              have HRD := Lib.hid hrd
              have CR := Lib.hid cR
              clear hr2 hrt hrd cR
              generalize num o2 = m at *
              have hc8z : (r2.length : Int) ≤ (c8 : Int) := by omega
              have hc863 : (c8 : Int) ≤ 9223372036854775807 := by unfold maxLen at hcm; omega
              by_cases hmr : r2.length < m
              · -- a length, and too little behind it
                obtain ⟨o6, ho6⟩ : ∃ o6 : List UInt8, o6 = [] := ⟨_, rfl⟩
                have hnx : nxt (m : Int) r2 false = (o6, [], true) := by unfold nxt; rw [if_pos (by omega), ho6]
                rw [hnx] at cT0
                have cT := Lib.hid cT0
                have HMZ := Lib.hid (show (r2.length : Int) < (m : Int) by omega)
                have hcvA : Hid (∀ W : World, (convert 22 9 (.slice none 0 0)).run Tryd.prog W = .ok (.string ⟨o6.toArray⟩) W) := Lib.hid fun W => by rw [ho6]; exact run_to_string W 22 9 5 none 0 0 [] rfl Tryd.underlying22 Tryd.underlying5 Tryd.underlying9 (.inl rfl)
                clear hnx cT0 hmr ho6
                go_wp2_with fail
                refine (CR.out _ (HRT.out _).hol).mono ?_
                rintro e w' ⟨rfl, rfl⟩
                have hm16z : (m : Int) ≤ 9223372036854775807 := by omega
                clear hm16
                have hmz := HMZ.out
                have q0 := hcvA.out (wr.alloc (.cells #[.int .i64 1, .int .i64 n] 36))
                have q1 := hcvA.out (wr.alloc (.cells #[.int .i64 1, .int .i64 n] 36)).drew
                have q2 := hcvA.out (wr.alloc (.cells #[.int .i64 1, .int .i64 n] 36)).drew.drew
                have q3 := hcvA.out wr
                go_wp2_with fail
                go_region_with (go_at_call 20; refine (cT.out _ (by exact hcurA _)).mono ?_; rintro e w8 ⟨rfl, hcur8, hg8⟩; have q8 := hcvA.out w8; have q9 := hcvA.out w8.drew)
                all_goals
                  replace hcur8 : Cur w8 gc [] true := hcur8
                  have hbw8 : Below w.heap.size w w8 := Below.grown (h := by exact below_heap (hbA _) rfl rfl rfl rfl) (hg := hg8) (hB := (hbA _).size) (hr := fun k hk => by injection hk with hk; omega)
                  clear hg8 cT q0 q1 q2 q3 q8 q9 hm16z hmz
                  go_wp2_with fail
                  refine (bad_any gc [] true _ (by exact hcur8)).mono ?_
                  rintro e w' ⟨rfl, rfl⟩
                  go_wp2_with fail
                  refine (left_any gc [] true _ (by exact hcur8)).mono ?_
                  rintro e w' ⟨rfl, rfl⟩
                  go_wp2
                  go_roundw
                  case rel => exact ⟨k + 1, [], true, by omega, by omega, by go_num, rfl, fun _ => rfl, by simp, ⟨none, 0, rfl, by simp, by decide, .inl rfl⟩, by exact hcur8, by exact below_heap hbw8 rfl rfl rfl rfl⟩
                  case measure => simp [intOf]; omega
              · have hnx : nxt (m : Int) r2 false = (r2.take m, r2.drop m, false) := by unfold nxt; rw [if_neg (by omega), Int.toNat_natCast]
                rw [hnx] at cT0
                have HMZ := Lib.hid (show (m : Int) ≤ (r2.length : Int) by omega)
                obtain ⟨A9, c9, hcut9, hc9, hc9m, hrow9⟩ := cut_named A8 c8 r2 m (by omega) hc8
                have hrt2 : ∀ o, Row (wr.alloc o) A8 (r2.take m) := fun o => (HRD.out o).take_ m
                have hrd2 : ∀ o, Row (wr.alloc o) A9 (r2.drop m) := fun o => hrow9 _ (HRD.out o)
                have hlen2 : (r2.take m).length = m := by rw [List.length_take]; omega
                have hdl2 : (r2.drop m).length ≤ 65536 := by rw [List.length_drop]; omega
                clear hnx hmr hrow9
                generalize r2.take m = o6 at *
                generalize r2.drop m = r8 at *
                have cT := Lib.hid cT0
                have HRT2 := Lib.hid hrt2
                have HRD2 := Lib.hid hrd2
                have HL2 := Lib.hid hlen2
                have hcvA : Hid (∀ W : World, Hol W A8 o6 → (convert 22 9 (.slice A8 m c8)).run Tryd.prog W = .ok (.string ⟨o6.toArray⟩) W) :=
                  Lib.hid fun W hW => run_to_string W 22 9 5 A8 c8 m o6 hlen2.symm Tryd.underlying22 Tryd.underlying5 Tryd.underlying9 hW
                clear cT0 hrt2 hrd2 hlen2
                go_wp2_with fail
                refine (CR.out _ (HRT.out _).hol).mono ?_
                rintro e w' ⟨rfl, rfl⟩
                have hm16z : (m : Int) ≤ 9223372036854775807 := by omega
                clear hm16
                have hmz := HMZ.out
                have q0 := hcvA.out _ (HRT2.out (.cells #[.int .i64 1, .int .i64 n] 36)).hol
                have q1 := hcvA.out (wr.alloc (.cells #[.int .i64 1, .int .i64 n] 36)).drew (HRT2.out (.cells #[.int .i64 1, .int .i64 n] 36)).hol
                have q2 := hcvA.out (wr.alloc (.cells #[.int .i64 1, .int .i64 n] 36)).drew.drew (HRT2.out (.cells #[.int .i64 1, .int .i64 n] 36)).hol
                go_wp2_with fail
                go_region_with (go_at_call 20; refine (cT.out _ (by exact hcurA _)).mono ?_; rintro e w8 ⟨rfl, hcur8, hg8⟩; have hrt8 := hol_moved (HRT2.out (.cells #[.int .i64 1, .int .i64 n] 36)) (hcurA _) (by exact ⟨hg8.os, hg8.tape, hg8.output, hg8.size, hg8.block⟩); have q8 := hcvA.out w8 hrt8.hol; have q9 := hcvA.out w8.drew hrt8.hol)
                all_goals
                  replace hcur8 : Cur w8 gc r8 false := hcur8
                  have hrd8 : Row w8 A9 r8 := hol_moved (HRD2.out (.cells #[.int .i64 1, .int .i64 n] 36)) (hcurA _) (by exact ⟨hg8.os, hg8.tape, hg8.output, hg8.size, hg8.block⟩)
                  have hbw8 : Below w.heap.size w w8 := Below.grown (h := by exact below_heap (hbA _) rfl rfl rfl rfl) (hg := hg8) (hB := (hbA _).size) (hr := fun k hk => by injection hk with hk; omega)
                  clear hg8 cT q0 q1 q2 q8 q9 hrt8 hm16z hmz
                  go_wp2_with fail
                  refine (bad_any gc r8 false _ (by exact hcur8)).mono ?_
                  rintro e w' ⟨rfl, rfl⟩
                  go_wp2_with fail
                  refine (left_any gc r8 false _ (by exact hcur8)).mono ?_
                  rintro e w' ⟨rfl, rfl⟩
                  go_wp2
                  go_roundw
                  case rel => exact ⟨k + 1, r8, false, by omega, by omega, by go_num, rfl, (fun e => by cases e), hdl2, ⟨A9, c9, rfl, hc9, by omega, by exact hrd8⟩, by exact hcur8, by exact below_heap hbw8 rfl rfl rfl rfl⟩
                  case measure => simp [intOf]; omega
          · -- a number
            have hkd1 : (kd == 1) = false := by simp [hk1']
            have hkd2 : (kd == 2) = false := by simp [hk2']
            have hkd3 : (kd != 2) = true := by rw [bne_iff_ne]; exact hk2'
            clear hk1' hk2'
            by_cases hw0 : wid n = 0
            · -- no such size
              have h0 : n ≠ 1 ∧ n ≠ 2 ∧ n ≠ 4 ∧ n ≠ 8 := by
                unfold wid at hw0
                repeat' split at hw0
                all_goals first | (exfalso; omega) | (refine ⟨?_, ?_, ?_, ?_⟩ <;> assumption)
              have e1 : (n != 1) = true := by rw [bne_iff_ne]; exact h0.1
              have e2 : (n != 2) = true := by rw [bne_iff_ne]; exact h0.2.1
              have e4 : (n != 4) = true := by rw [bne_iff_ne]; exact h0.2.2.1
              have e8 : (n != 8) = true := by rw [bne_iff_ne]; exact h0.2.2.2
              have hnx : nnx n r b = ([], [], true) := by unfold nnx; rw [if_pos hw0]
              have cM : Hid (∀ W, Cur W gc r b → Calls Tryd.prog 22 #[.pointer (some ⟨gc, 0, none⟩), .int .i64 n] W (NumPost W gc ([], [], true))) := by
                refine Lib.hid fun W hW => ?_
                rw [← hnx]
                exact num_any gc r b n W hW (by omega)
              clear hnx h0 hw0
              all_goals
                go_wp2_with fail
                refine (cM.out _ (hcurA _)).mono ?_
                rintro e w8 ⟨rfl, hcur8, hg8⟩
                replace hcur8 : Cur w8 gc [] true := hcur8
                have hbw8 : Below w.heap.size w w8 := Below.grown (h := hbA _) (hg := hg8) (hB := (hbA _).size) (hr := fun k hk => by injection hk with hk; omega)
                go_wp2_with fail
                refine (rnum_any none 0 [] w8 (.inl rfl) (by simp)).mono ?_
                rintro e w' ⟨rfl, rfl⟩
                go_wp2_with fail
                refine (bad_any gc [] true w8 hcur8).mono ?_
                rintro e w' ⟨rfl, rfl⟩
                go_wp2_with fail
                refine (left_any gc [] true w8 hcur8).mono ?_
                rintro e w' ⟨rfl, rfl⟩
                go_wp2
                go_roundw
                case rel => exact ⟨k + 1, [], true, by omega, by omega, by go_num, rfl, fun _ => rfl, by simp, ⟨none, 0, rfl, by simp, by decide, .inl rfl⟩, hcur8, by exact below_heap hbw8 rfl rfl rfl rfl⟩
                case measure => simp [intOf]; omega
            · have hp := wid_pos hw0
              have hns : n = 1 ∨ n = 2 ∨ n = 4 ∨ n = 8 := by
                unfold wid at hw0
                repeat' split at hw0
                all_goals omega
              by_cases hn : (r.length : Int) < n
              · have hnx : nnx n r b = ([], [], true) := by unfold nnx nxt; rw [if_neg hw0, if_pos (.inr hn)]
                have cM : Hid (∀ W, Cur W gc r b → Calls Tryd.prog 22 #[.pointer (some ⟨gc, 0, none⟩), .int .i64 n] W (NumPost W gc ([], [], true))) := by
                  refine Lib.hid fun W hW => ?_
                  rw [← hnx]
                  exact num_any gc r b n W hW (by omega)
                clear hnx hw0 hp
                rcases hns with rfl | rfl | rfl | rfl
                all_goals
                  go_wp2_with fail
                  refine (cM.out _ (hcurA _)).mono ?_
                  rintro e w8 ⟨rfl, hcur8, hg8⟩
                  replace hcur8 : Cur w8 gc [] true := hcur8
                  have hbw8 : Below w.heap.size w w8 := Below.grown (h := hbA _) (hg := hg8) (hB := (hbA _).size) (hr := fun k hk => by injection hk with hk; omega)
                  go_wp2_with fail
                  refine (rnum_any none 0 [] w8 (.inl rfl) (by simp)).mono ?_
                  rintro e w' ⟨rfl, rfl⟩
                  go_wp2_with fail
                  refine (bad_any gc [] true w8 hcur8).mono ?_
                  rintro e w' ⟨rfl, rfl⟩
                  go_wp2_with fail
                  refine (left_any gc [] true w8 hcur8).mono ?_
                  rintro e w' ⟨rfl, rfl⟩
                  go_wp2
                  go_roundw
                  case rel => exact ⟨k + 1, [], true, by omega, by omega, by go_num, rfl, fun _ => rfl, by simp, ⟨none, 0, rfl, by simp, by decide, .inl rfl⟩, hcur8, by exact below_heap hbw8 rfl rfl rfl rfl⟩
                  case measure => simp [intOf]; omega
              · obtain ⟨m, rfl⟩ := Int.eq_ofNat_of_zero_le (by omega : 0 ≤ n)
                have hm : m ≤ r.length := by omega
                have hb0 : b = false := by
                  cases b
                  · rfl
                  · rw [hbr0 rfl] at hm
                    simp at hm
                    omega
                subst hb0
                have hnx : nnx (m : Int) r false = (r.take m, r.drop m, false) := by unfold nnx nxt; rw [if_neg hw0, if_neg (by omega), Int.toNat_natCast]
                have cM : Hid (∀ W, Cur W gc r false → Calls Tryd.prog 22 #[.pointer (some ⟨gc, 0, none⟩), .int .i64 m] W (NumPost W gc (r.take m, r.drop m, false))) := by
                  refine Lib.hid fun W hW => ?_
                  rw [← hnx]
                  exact num_any gc r false m W hW (by omega)
                have hmz : (m : Int) ≤ (r.length : Int) := by omega
                have hlcz : (r.length : Int) ≤ (c6 : Int) := by omega
                have hc63 : (c6 : Int) ≤ 9223372036854775807 := by unfold maxLen at hcm; omega
                obtain ⟨A8, c8, hcut, hc8, hc8m, hrow8⟩ := cut_named A6 c6 r m hm hlc
                have hlen : (r.take m).length = m := by rw [List.length_take]; omega
                have hdl : (r.drop m).length ≤ 65536 := by rw [List.length_drop]; omega
                have hrt : ∀ o, Row (wr.alloc o) A6 (r.take m) := fun o => (hrowA o).take_ m
                have hrd : ∀ o, Row (wr.alloc o) A8 (r.drop m) := fun o => hrow8 _ (hrowA o)
                have hguard : ((m : Int) != 1) = false ∨ ((m : Int) != 1) = true ∧ ((m : Int) != 2) = false ∨ ((m : Int) != 1) = true ∧ ((m : Int) != 2) = true ∧ ((m : Int) != 4) = false ∨ ((m : Int) != 1) = true ∧ ((m : Int) != 2) = true ∧ ((m : Int) != 4) = true ∧ ((m : Int) != 8) = false := by
                  rcases hns with e | e | e | e <;> rw [e] <;> decide
                clear hnx hn hrow8 hw0 hns
                generalize r.take m = o6 at *
                generalize r.drop m = r8 at *
                have HL := Lib.hid hlen
                have HRT := Lib.hid hrt
                have HRD := Lib.hid hrd
                clear hlen hrt hrd
                have cR : ∀ W, Hol W A6 o6 → Calls Tryd.prog 19 #[.slice A6 m c6, .int .i64 m] W fun e w' => e = .returned (.int .u64 (num o6 : Nat)) ∧ W = w' := by
                  intro W hW
                  have h0 := rnum_any A6 c6 o6 W hW (by have := HL.out; omega)
                  rw [show (Value.slice A6 o6.length c6) = Value.slice A6 m c6 by rw [HL.out], show (Value.int .i64 (o6.length : Int)) = Value.int .i64 (m : Int) by rw [HL.out]] at h0
                  exact h0
                have CR := Lib.hid cR
                clear cR
                rcases hguard with q1 | ⟨q1, q2⟩ | ⟨q1, q2, q3⟩ | ⟨q1, q2, q3, q4⟩
                all_goals
                  go_wp2_with fail
                  refine (cM.out _ (hcurA _)).mono ?_
                  rintro e w8 ⟨rfl, hcur8, hg8⟩
                  replace hcur8 : Cur w8 gc r8 false := hcur8
                  have hbw8 : Below w.heap.size w w8 := Below.grown (h := hbA _) (hg := hg8) (hB := (hbA _).size) (hr := fun k hk => by injection hk with hk; omega)
                  have hrt8 := hol_moved (HRT.out _) (hcurA _) hg8
                  have hrd8 := hol_moved (HRD.out _) (hcurA _) hg8
                  clear hg8 cM
                  go_wp2_with fail
                  refine (CR.out w8 hrt8.hol).mono ?_
                  rintro e w' ⟨rfl, rfl⟩
                  go_wp2_with fail
                  refine (bad_any gc r8 false w8 hcur8).mono ?_
                  rintro e w' ⟨rfl, rfl⟩
                  go_wp2_with fail
                  refine (left_any gc r8 false w8 hcur8).mono ?_
                  rintro e w' ⟨rfl, rfl⟩
                  go_wp2
                  go_roundw
                  case rel => exact ⟨k + 1, r8, false, by omega, by omega, by go_num, rfl, (fun e => by cases e), hdl, ⟨A8, c8, rfl, hc8, by omega, hrd8⟩, hcur8, hbw8⟩
                  case measure => simp [intOf]; omega
        · have hgo2 : ¬ (k : Int) < (ws.length : Int) ∨ (k : Int) < (ws.length : Int) ∧ k = 200 := by omega
          clear hgo
          rcases hgo2 with q1 | ⟨q1, rfl⟩
          · have q2 : decide ((k : Int) < (ws.length : Int)) = false := by simp; omega
            have q3 : decide (k < ws.length) = false := by simp; omega
            go_wp2
            go_ret
            exact ⟨rfl, hbq⟩
          · go_wp2
            go_ret
            exact ⟨rfl, hbq⟩
end Go.Proofs.YtcdgiailapcooaaDoor.wireTakes
