/- The program's disk: what there is, what a block is now, a touch more, Read and Peek. Conditions: the disk lies there. -/
import Derived.Test.YtnajlineipapdaaPDput
import Derived.Test.YtnajlineipapdaaPLast
import Derived.BigQuiet
set_option linter.unusedVariables false
namespace Go.Proofs.Ytnajlineipapdaa
open Go.RowKit

section
variable {b : Nat} {w : World} {g gm n : Nat} {F : List Nat} {v1 v2 v4 : Value} {ev : Nat → Value} {ss : List BV} {rs : List (Nat × BV)} {E : Nat → List BV} {ts : List (Int × Int × BV)}
theorem pblocks (h : PDisk b w g F v1 v2 gm v4 ev n ss rs E ts) :
    Calls Try.prog 12 #[.pointer (some ⟨g, 0, none⟩)] w fun e w' => e = .returned (.int .i64 (ss.length : Int)) ∧ w' = w := by
  obtain ⟨A1, k1, rfl⟩ := own_sl h.o1
  have c0 := h.c0
  clear h
  go_enter Try.func12, Try.ntmps12
  go_wp2
  go_ret
  exact ⟨rfl, rfl⟩
theorem pwaiting (h : PDisk b w g F v1 v2 gm v4 ev n ss rs E ts) :
    Calls Try.prog 26 #[.pointer (some ⟨g, 0, none⟩)] w fun e w' => e = .returned (.int .i64 (rs.length : Int)) ∧ w' = w := by
  obtain ⟨A1, k1, rfl⟩ := own_sl h.o2
  have c0 := h.c1
  clear h
  go_enter Try.func26, Try.ntmps26
  go_wp2
  go_ret
  exact ⟨rfl, rfl⟩
theorem ptouched (h : PDisk b w g F v1 v2 gm v4 ev n ss rs E ts) :
    Calls Try.prog 29 #[.pointer (some ⟨g, 0, none⟩)] w fun e w' => e = .returned (.int .i64 (ts.length : Int)) ∧ w' = w := by
  obtain ⟨A1, k1, rfl⟩ := own_sl h.o4
  have c0 := h.c3
  clear h
  go_enter Try.func29, Try.ntmps29
  go_wp2
  go_ret
  exact ⟨rfl, rfl⟩
theorem phas_in (h : PDisk b w g F v1 v2 gm v4 ev n ss rs E ts) (a : Nat) (ha : a < ss.length) :
    Calls Try.prog 39 #[.pointer (some ⟨g, 0, none⟩), .int .i64 (a : Int)] w fun e w' => e = .returned (.bool true) ∧ w' = w := by
  have H := Lib.hid h
  have h1 : (0 : Int) ≤ (a : Int) := by omega
  have h2 : (a : Int) < (ss.length : Int) := by omega
  clear h ha
  go_enter Try.func39, Try.ntmps39
  go_wp2_with (go_at_call 12; refine (pblocks H.out).mono ?_; rintro x w1 ⟨rfl, rfl⟩)
  go_ret
  exact ⟨rfl, rfl⟩
theorem phas_out (h : PDisk b w g F v1 v2 gm v4 ev n ss rs E ts) (z : Int) (hz : z < 0 ∨ (ss.length : Int) ≤ z) :
    Calls Try.prog 39 #[.pointer (some ⟨g, 0, none⟩), .int .i64 z] w fun e w' => e = .returned (.bool false) ∧ w' = w := by
  have H := Lib.hid h
  clear h
  by_cases h1 : (0 : Int) ≤ z
  · have h2 : decide (z < (ss.length : Int)) = false := decide_eq_false (by omega)
    clear hz
    go_enter Try.func39, Try.ntmps39
    go_wp2_with (go_at_call 12; refine (pblocks H.out).mono ?_; rintro x w1 ⟨rfl, rfl⟩)
    go_ret
    exact ⟨rfl, rfl⟩
  · clear hz
    go_enter Try.func39, Try.ntmps39
    go_wp2
    go_ret
    exact ⟨rfl, rfl⟩
/-- The last waiting write of a block is what it is now. -/
theorem now_of : ∀ (rs : List (Nat × BV)) (ss : List BV) (a k : Nat), k ≤ rs.length → (lastI rs a k = -1 ∧ nowK ss rs a k = ss.getD a noBV) ∨ ∃ m : Nat, m < k ∧ lastI rs a k = (m : Int) ∧ nowK ss rs a k = (rs.getD m (0, noBV)).2 ∧ (rs.getD m (0, noBV)).1 = a
  | rs, ss, a, 0, _ => .inl ⟨rfl, nowK_zero ss rs a⟩
  | rs, ss, a, k + 1, hk => by
    have hp : rs[k]? = some (rs.getD k (0, noBV)) := by rw [List.getD_eq_getElem?_getD, List.getElem?_eq_getElem (by omega)]; rfl
    rw [lastI, nowK_step hp]
    by_cases e : (rs.getD k (0, noBV)).1 = a
    · rw [if_pos e, if_pos e]
      exact .inr ⟨k, by omega, rfl, rfl, e⟩
    · rw [if_neg e, if_neg e]
      rcases now_of rs ss a k (by omega) with h | ⟨m, h1, h2⟩
      · exact .inl h
      · exact .inr ⟨m, by omega, h2⟩
set_option maxHeartbeats 1000000 in
theorem pnow (h : PDisk b w g F v1 v2 gm v4 ev n ss rs E ts) (a : Nat) (ha : a < ss.length) (hr : rs.length ≤ 1000000) :
    Calls Try.prog 40 #[.pointer (some ⟨g, 0, none⟩), .int .i64 (a : Int)] w fun e w' => e = .returned (bvv (nowV ss rs a)) ∧ Below w.heap.size w w' := by
  obtain ⟨A2, k2, rfl⟩ := own_sl h.o2
  have hs : ss[a]? = some (ss.getD a noBV) := by rw [List.getD_eq_getElem?_getD, List.getElem?_eq_getElem ha]; rfl
  obtain ⟨g1, k1, rfl, hg1, _, hc1⟩ := own_rec sc_len h.o1 hs (by omega)
  have d0 := hc1 0 _ rfl
  rw [Nat.mul_one, Nat.add_zero] at d0
  have hB1 := below_a1 w (.cells #[] 0)
  have HW := Lib.hid (writes_of h.o2)
  have HR := Lib.hid hr
  have H := Lib.hid h
  have h2 : (a : Int) < (ss.length : Int) := by omega
  have h1 : (0 : Int) ≤ (a : Int) := by omega
  have hAl : Below w.heap.size w (w.alloc (.cells #[.int .i64 (a : Int)] 3)) := (Below.refl _ _).alloc (Nat.le_refl _) _
  have HAl := Lib.hid hAl
  have hgc : (w.alloc (.cells #[.int .i64 (a : Int)] 3)).cell? ⟨w.heap.size, 0, none⟩ = some (.int .i64 (a : Int)) := by simp
  have HGC := Lib.hid hgc
  have HLT := Lib.hid h.cells.lt
  unfold nowV
  clear h hr hs hc1 ha hB1 hAl hgc
  rcases now_of rs ss a rs.length (Nat.le_refl _) with ⟨e1, e2⟩ | ⟨m, hm, e1, e2, _⟩
  · rw [e2]
    have E1 := Lib.hid e1
    generalize ss.getD a noBV = x at *
    unfold bvv at *
    clear e1 e2
    go_enter Try.func40, Try.ntmps40
    go_wp2_with (first
      | (go_at_call 53; refine (of_any _ _).mono ?_; rintro x w1 ⟨rfl, rfl⟩)
      | (go_at_call 52; refine (last_any g w.heap.size A2 k2 rs a HR.out _ (by rw [World.cell?_alloc_past _ _ _ HLT.out]; exact H.out.c1) HGC.out (HW.out.lift HAl.out)).mono ?_; rintro x w2 ⟨rfl, hb2⟩; rw [E1.out]
         have hb3 := Lib.hid (below_nxt hb2 HAl.out)
         have c0 := (H.out.kept hb3.out).c0
         have d0z := (hb3.out.cell (p := ⟨g1, a, none⟩) hg1).trans d0
         clear hb2))
    go_ret
    exact ⟨rfl, hb3.out⟩
  · rw [e2]
    have E1 := Lib.hid e1
    obtain ⟨p, hp⟩ : ∃ p, rs.getD m (0, noBV) = p := ⟨_, rfl⟩
    rw [hp]
    have hpm : rs[m]? = some p := by rw [← hp, List.getD_eq_getElem?_getD, List.getElem?_eq_getElem hm]; rfl
    rcases HW.out with e0 | ⟨gw, rfl, hgw, hc⟩
    · rw [e0] at hm
      cases hm
    obtain ⟨_, p1⟩ := hc m p hpm
    have hm0 : (0 : Int) ≤ (m : Int) := by omega
    have hm1 : (m : Int) < (rs.length : Int) := by omega
    have HWZ := HW
    unfold bvv at *
    clear e1 e2 hp hpm hc hm HW
    go_enter Try.func40, Try.ntmps40
    go_wp2_with (first
      | (go_at_call 53; refine (of_any _ _).mono ?_; rintro x w1 ⟨rfl, rfl⟩)
      | (go_at_call 52; refine (last_any g w.heap.size _ k2 rs a HR.out _ (by rw [World.cell?_alloc_past _ _ _ HLT.out]; exact H.out.c1) HGC.out (HWZ.out.lift HAl.out)).mono ?_; rintro x w2 ⟨rfl, hb2⟩; rw [E1.out]
         have hb3 := Lib.hid (below_nxt hb2 HAl.out)
         have c1 := (H.out.kept hb3.out).c1
         have p1z := (hb3.out.cell (p := ⟨gw, m * 2 + 1, none⟩) hgw).trans p1
         clear hb2))
    go_ret
    exact ⟨rfl, hb3.out⟩
set_option maxHeartbeats 1000000 in
theorem ptouch (h : PDisk b w g F v1 v2 gm v4 ev n ss rs E ts) (k a : Int) (x : BV) (hx : Own8 b w x) (ht : ts.length ≤ 1000000) :
    Calls Try.prog 41 #[.pointer (some ⟨g, 0, none⟩), .int .i64 k, .int .i64 a, .slice x.A x.l.length x.c] w fun e w' => e = .returned (.tuple #[]) ∧ ∃ v F', PDisk b w' g F' v1 v2 gm v ev n ss rs E (ts ++ [(k, a, x)]) ∧ Chg F w w' ∧ Wider w F F' := by
  have H := Lib.hid h
  have HX := Lib.hid hx
  have HTL := Lib.hid ht
  have c3 := h.c3
  have f3 : w.frozen? ⟨g, 3, none⟩ = false := h.cells.free 3
  have HLT := Lib.hid h.cells.lt
  have HLO := Lib.hid (p := b ≤ w.heap.size) (by have := h.fl _ h.fg; omega)
  clear h hx ht
  go_enter Try.func41, Try.ntmps41
  go_wp2_with (first
    | (at_builtin; refine wp_join rfl _ _ rfl rec_touch b v4 ts.length (ts.flatMap tc) rfl (H.out.o4.alloc _) (some ⟨w.heap.size, 0, none⟩) 1 1 (tc (k, a, x)) rfl rfl (touch_src w _) (tc_one _) (by have := HTL.out; omega) (by have := HLO.out; simp; omega) ?_
       intro v5 w2 hr2 hg2 hat2
       obtain ⟨A2, k2, rfl⟩ := own_sl hr2
       have hBA : Below w.heap.size w (w.alloc (.cells (tc (k, a, x)).toArray 77)) := (Below.refl _ _).alloc (Nat.le_refl _) _
       have hD0 := H.out.kept hBA
       have hR2 : Row w2 g 73 [v1, v2, .map (some gm), v4] := row_turn hD0.cells hg2 (NotT.own hD0.o4 (by decide))
       have c32 := hR2.cell 3
       have f32 := hR2.free 3
       simp at c32))
  obtain ⟨hD, hC, hW⟩ := hD0.touch (k, a, x) (HX.out.below hBA) hr2 hg2 hat2
  have HD := Lib.hid hD
  have HC := Lib.hid ((Chg.of (F := F) hBA).trans hC (fun x hx => .inl hx))
  have HW := Lib.hid (p := Wider w F _) (fun q hq => (hW q hq).imp id (fun e => Nat.le_trans hBA.size e))
  clear hD hC hW hR2 c32 f32 hat2 hg2 hr2 hD0
  go_end0
  exact ⟨rfl, _, _, HD.out, HC.out, HW.out⟩
/-- Bytes told, in new memory. -/
def ToldB (w : World) (l : List UInt8) (x : Ending) (w' : World) : Prop :=
  ∃ g', x = .returned (.tuple #[.slice (some ⟨g', 0, none⟩) 256 256, .int .i64 0]) ∧ Row w' g' 5 (brr 256 (wh l)) ∧ w.heap.size ≤ g'
theorem ppeek_out (h : PDisk b w g F v1 v2 gm v4 ev n ss rs E ts) (z : Int) (hz : z < 0 ∨ (ss.length : Int) ≤ z) :
    Calls Try.prog 15 #[.pointer (some ⟨g, 0, none⟩), .int .i64 z] w fun e w' => e = .returned (.tuple #[.slice none 0 0, .int .i64 201]) ∧ w' = w := by
  have H := Lib.hid h
  have HZ := Lib.hid hz
  clear h hz
  go_enter Try.func15, Try.ntmps15
  go_wp2_with (go_at_call 39; refine (phas_out H.out z HZ.out).mono ?_; rintro x w1 ⟨rfl, rfl⟩)
  go_ret2
  exact ⟨rfl, rfl⟩
theorem pread_out (h : PDisk b w g F v1 v2 gm v4 ev n ss rs E ts) (z : Int) (hz : z < 0 ∨ (ss.length : Int) ≤ z) :
    Calls Try.prog 13 #[.pointer (some ⟨g, 0, none⟩), .int .i64 z] w fun e w' => e = .returned (.tuple #[.slice none 0 0, .int .i64 201]) ∧ w' = w := by
  have H := Lib.hid h
  have HZ := Lib.hid hz
  clear h hz
  go_enter Try.func13, Try.ntmps13
  go_wp2_with (go_at_call 39; refine (phas_out H.out z HZ.out).mono ?_; rintro x w1 ⟨rfl, rfl⟩)
  go_ret2
  exact ⟨rfl, rfl⟩
theorem PDisk.now8 (h : PDisk b w g F v1 v2 gm v4 ev n ss rs E ts) (a : Nat) (ha : a < ss.length) : Own8 b w (nowV ss rs a) ∧ (nowV ss rs a).l.length = 256 :=
  nowK_mem ss rs a ha (fun x => Own8 b w x ∧ x.l.length = 256) h.m1 (fun p hp => ⟨(h.m2 p hp).1, (h.m2 p hp).2.1⟩) _
set_option maxHeartbeats 1000000 in
theorem ppeek_in (h : PDisk b w g F v1 v2 gm v4 ev n ss rs E ts) (a : Nat) (ha : a < ss.length) (hr : rs.length ≤ 1000000) :
    Calls Try.prog 15 #[.pointer (some ⟨g, 0, none⟩), .int .i64 (a : Int)] w fun e w' => ToldB w (nowV ss rs a).l e w' ∧ Below w.heap.size w w' := by
  have H := Lib.hid h
  have HA := Lib.hid ha
  have HR := Lib.hid hr
  have HN := Lib.hid (h.now8 a ha)
  obtain ⟨nv, hnv⟩ : ∃ nv, nowV ss rs a = nv := ⟨_, rfl⟩
  have HNV := Lib.hid hnv
  rw [hnv] at HN ⊢
  clear h ha hr hnv
  go_enter Try.func15, Try.ntmps15
  go_wp2_with (first
    | (go_at_call 39; refine (phas_in H.out a HA.out).mono ?_; rintro x w1 ⟨rfl, hw1⟩; obtain rfl := hw1.symm)
    | (go_at_call 40; refine (pnow H.out a HA.out HR.out).mono ?_; rintro x w2 ⟨rfl, hb2⟩; rw [HNV.out]; unfold bvv; have HB2 := Lib.hid hb2; clear hb2)
    | (go_at_call 38; refine (block_any nv.A _ nv.c nv.l rfl _ ((HN.out.1.below HB2.out).hol)).mono ?_; rintro x w3 ⟨g3, rfl, hr3, hg3, hb3⟩))
  go_ret2
  exact ⟨⟨g3, rfl, hr3, Nat.le_trans HB2.out.size hg3⟩, below_nxt hb3 HB2.out⟩
set_option maxHeartbeats 1000000 in
theorem pread_in (h : PDisk b w g F v1 v2 gm v4 ev n ss rs E ts) (a : Nat) (ha : a < ss.length) (hr : rs.length ≤ 1000000) (ht : ts.length ≤ 1000000) :
    Calls Try.prog 13 #[.pointer (some ⟨g, 0, none⟩), .int .i64 (a : Int)] w fun e w' => ToldB w (nowV ss rs a).l e w' ∧ ∃ v F', PDisk b w' g F' v1 v2 gm v ev n ss rs E (ts ++ [(1, (a : Int), nowV ss rs a)]) ∧ Chg F w w' ∧ Wider w F F' := by
  have H := Lib.hid h
  have HA := Lib.hid ha
  have HR := Lib.hid hr
  have HT := Lib.hid ht
  have HN := Lib.hid (h.now8 a ha)
  obtain ⟨nv, hnv⟩ : ∃ nv, nowV ss rs a = nv := ⟨_, rfl⟩
  have HNV := Lib.hid hnv
  rw [hnv] at HN ⊢
  clear h ha hr ht hnv
  go_enter Try.func13, Try.ntmps13
  go_wp2_with (first
    | (go_at_call 39; refine (phas_in H.out a HA.out).mono ?_; rintro x w1 ⟨rfl, hw1⟩; obtain rfl := hw1.symm)
    | (go_at_call 40; refine (pnow H.out a HA.out HR.out).mono ?_; rintro x w2 ⟨rfl, hb2⟩; rw [HNV.out]; unfold bvv; have HB2 := Lib.hid hb2; clear hb2)
    | (go_at_call 41; refine (ptouch (H.out.kept HB2.out) 1 (a : Int) nv (HN.out.1.below HB2.out) HT.out).mono ?_; rintro x w3 ⟨rfl, v', F', hD, hC, hW⟩
       have HD := Lib.hid hD
       have HC := Lib.hid hC
       have HW := Lib.hid hW
       clear hD hC hW)
    | (go_at_call 38; refine (block_any nv.A _ nv.c nv.l rfl _ ((HD.out.m4 (1, (a : Int), nv) (List.mem_append.2 (.inr (by simp)))).hol)).mono ?_; rintro x w4 ⟨g4, rfl, hr4, hg4, hb4⟩))
  go_ret2
  have hC := ((Chg.of (F := F) HB2.out).trans HC.out (fun x hx => .inl hx))
  exact ⟨⟨g4, rfl, hr4, Nat.le_trans hC.size hg4⟩, _, _, HD.out.kept hb4, hC.trans (Chg.of (F := F) hb4) (fun x hx => .inl hx), fun q hq => (HW.out q hq).imp id (fun e => Nat.le_trans HB2.out.size e)⟩
end
end Go.Proofs.Ytnajlineipapdaa
