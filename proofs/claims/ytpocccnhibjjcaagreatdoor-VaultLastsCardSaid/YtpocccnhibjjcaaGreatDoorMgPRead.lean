/- The program's disk: what there is, what a block is now, a touch more, Read and Peek. Conditions: the disk lies there. -/
import Derived.Test.YtpocccnhibjjcaaGreatDoorMgPDput
import Derived.BigQuiet
import Derived.Deep.RegionHeld3
import Derived.Laws.Bits64b
import Derived.Deep.RegionLaw
set_option linter.unusedVariables false
namespace Go.Proofs.YtpocccnhibjjcaaGreatDoor
open Go.RowKit

section
variable {b : Nat} {w : World} {g gm n : Nat} {F : List Nat} {v1 v2 v4 : Value} {ev : Nat → Value} {ss : List BV} {rs : List (Nat × BV)} {E : Nat → List BV} {ts : List (Int × Int × BV)}
theorem pblocks (h : PDisk b w g F v1 v2 gm v4 ev n ss rs E ts) :
    Calls Tryz.prog 35 #[.pointer (some ⟨g, 0, none⟩)] w fun e w' => e = .returned (.int .i64 (ss.length : Int)) ∧ w' = w := by
  obtain ⟨A1, k1, rfl⟩ := own_sl h.o1
  have c0 := h.c0
  clear h
  go_enter Tryz.func35, Tryz.ntmps35
  go_wp2
  go_ret
  exact ⟨rfl, rfl⟩
theorem phas_in (h : PDisk b w g F v1 v2 gm v4 ev n ss rs E ts) (a : Nat) (ha : a < ss.length) :
    Calls Tryz.prog 76 #[.pointer (some ⟨g, 0, none⟩), .int .i64 (a : Int)] w fun e w' => e = .returned (.bool true) ∧ w' = w := by
  have H := Lib.hid h
  have h1 : (0 : Int) ≤ (a : Int) := by omega
  have h2 : (a : Int) < (ss.length : Int) := by omega
  clear h ha
  go_enter Tryz.func76, Tryz.ntmps76
  go_wp2_with (go_at_call 35; refine (pblocks H.out).mono ?_; rintro x w1 ⟨rfl, rfl⟩)
  go_ret
  exact ⟨rfl, rfl⟩
theorem now_of : ∀ (rs : List (Nat × BV)) (ss : List BV) (a k : Nat), k ≤ rs.length → (lastI rs a k = -1 ∧ nowK ss rs a k = ss.getD a noBV) ∨ ∃ m : Nat, m < k ∧ lastI rs a k = (m : Int) ∧ nowK ss rs a k = (rs.getD m (0, noBV)).2 ∧ (rs.getD m (0, noBV)).1 = a
  | rs, ss, a, 0, _ => .inl ⟨rfl, nowK_zero ss rs a⟩
  | rs, ss, a, k + 1, hk => by
    have hp : rs[k]? = some (rs.getD k (0, noBV)) := by rw [List.getD_eq_getElem?_getD, List.getElem?_eq_getElem (by omega)]; rfl
    rw [lastI, nowK_step hp]
    by_cases e : (rs.getD k (0, noBV)).1 = a
    · rw [if_pos e, if_pos e]
      exact .inr ⟨k, by omega, rfl, rfl, e⟩
    · rw [if_neg e, if_neg e]
      rcases now_of rs ss a k (by omega) with h | ⟨m, h1, h2⟩
      · exact .inl h
      · exact .inr ⟨m, by omega, h2⟩
set_option maxHeartbeats 1000000 in
theorem pnow (h : PDisk b w g F v1 v2 gm v4 ev n ss rs E ts) (a : Nat) (ha : a < ss.length) (hr : rs.length ≤ 1000000) :
    Calls Tryz.prog 77 #[.pointer (some ⟨g, 0, none⟩), .int .i64 (a : Int)] w fun e w' => e = .returned (bvv (nowV ss rs a)) ∧ Below w.heap.size w w' := by
  obtain ⟨A2, k2, rfl⟩ := own_sl h.o2
  have hs : ss[a]? = some (ss.getD a noBV) := by rw [List.getD_eq_getElem?_getD, List.getElem?_eq_getElem ha]; rfl
  obtain ⟨g1, k1, rfl, hg1, _, hc1⟩ := own_rec sc_len h.o1 hs (by omega)
  have d0 := hc1 0 _ rfl
  rw [Nat.mul_one, Nat.add_zero] at d0
  have hB1 := below_a1 w (.cells #[] 0)
  have HW := Lib.hid (writes_of h.o2)
  have HR := Lib.hid hr
  have H := Lib.hid h
  have h2 : (a : Int) < (ss.length : Int) := by omega
  have h1 : (0 : Int) ≤ (a : Int) := by omega
  have hAl : Below w.heap.size w (w.alloc (.cells #[.int .i64 (a : Int)] 3)) := (Below.refl _ _).alloc (Nat.le_refl _) _
  have HAl := Lib.hid hAl
  have hgc : (w.alloc (.cells #[.int .i64 (a : Int)] 3)).cell? ⟨w.heap.size, 0, none⟩ = some (.int .i64 (a : Int)) := by simp
  have HGC := Lib.hid hgc
  have HLT := Lib.hid h.cells.lt
  unfold nowV
  clear h hr hs hc1 ha hB1 hAl hgc
  rcases now_of rs ss a rs.length (Nat.le_refl _) with ⟨e1, e2⟩ | ⟨m, hm, e1, e2, _⟩
  · rw [e2]
    have E1 := Lib.hid e1
    generalize ss.getD a noBV = x at *
    unfold bvv at *
    clear e1 e2
    go_enter Tryz.func77, Tryz.ntmps77
    go_wp2_with (first
      | (go_at_call 104; refine (of_any _ _).mono ?_; rintro x w1 ⟨rfl, rfl⟩)
      | (go_at_call 103; refine (last_any g w.heap.size A2 k2 rs a HR.out _ (by rw [World.cell?_alloc_past _ _ _ HLT.out]; exact H.out.c1) HGC.out (HW.out.lift HAl.out)).mono ?_; rintro x w2 ⟨rfl, hb2⟩; rw [E1.out]
         have hb3 := Lib.hid (below_nxt hb2 HAl.out)
         have c0 := (H.out.kept hb3.out).c0
         have d0z := (hb3.out.cell (p := ⟨g1, a, none⟩) hg1).trans d0
         clear hb2))
    go_ret
    exact ⟨rfl, hb3.out⟩
  · rw [e2]
    have E1 := Lib.hid e1
    obtain ⟨p, hp⟩ : ∃ p, rs.getD m (0, noBV) = p := ⟨_, rfl⟩
    rw [hp]
    have hpm : rs[m]? = some p := by rw [← hp, List.getD_eq_getElem?_getD, List.getElem?_eq_getElem hm]; rfl
    rcases HW.out with e0 | ⟨gw, rfl, hgw, hc⟩
    · rw [e0] at hm
      cases hm
    obtain ⟨_, p1⟩ := hc m p hpm
    have hm0 : (0 : Int) ≤ (m : Int) := by omega
    have hm1 : (m : Int) < (rs.length : Int) := by omega
    have HWZ := HW
    unfold bvv at *
    clear e1 e2 hp hpm hc hm HW
    go_enter Tryz.func77, Tryz.ntmps77
    go_wp2_with (first
      | (go_at_call 104; refine (of_any _ _).mono ?_; rintro x w1 ⟨rfl, rfl⟩)
      | (go_at_call 103; refine (last_any g w.heap.size _ k2 rs a HR.out _ (by rw [World.cell?_alloc_past _ _ _ HLT.out]; exact H.out.c1) HGC.out (HWZ.out.lift HAl.out)).mono ?_; rintro x w2 ⟨rfl, hb2⟩; rw [E1.out]
         have hb3 := Lib.hid (below_nxt hb2 HAl.out)
         have c1 := (H.out.kept hb3.out).c1
         have p1z := (hb3.out.cell (p := ⟨gw, m * 2 + 1, none⟩) hgw).trans p1
         clear hb2))
    go_ret
    exact ⟨rfl, hb3.out⟩
set_option maxHeartbeats 1000000 in
theorem ptouch (h : PDisk b w g F v1 v2 gm v4 ev n ss rs E ts) (k a : Int) (x : BV) (hx : Own8 b w x) (ht : ts.length ≤ 1000000) :
    Calls Tryz.prog 78 #[.pointer (some ⟨g, 0, none⟩), .int .i64 k, .int .i64 a, .slice x.A x.l.length x.c] w fun e w' => e = .returned (.tuple #[]) ∧ ∃ v F', PDisk b w' g F' v1 v2 gm v ev n ss rs E (ts ++ [(k, a, x)]) ∧ Chg F w w' ∧ Wider w F F' := by
  have H := Lib.hid h
  have HX := Lib.hid hx
  have HTL := Lib.hid ht
  have c3 := h.c3
  have f3 : w.frozen? ⟨g, 3, none⟩ = false := h.cells.free 3
  have HLT := Lib.hid h.cells.lt
  have HLO := Lib.hid (p := b ≤ w.heap.size) (by have := h.fl _ h.fg; omega)
  clear h hx ht
  go_enter Tryz.func78, Tryz.ntmps78
  go_wp2_with (first
    | (at_builtin; refine wp_join rfl _ _ rfl rec_touch b v4 ts.length (ts.flatMap tc) rfl (H.out.o4.alloc _) (some ⟨w.heap.size, 0, none⟩) 1 1 (tc (k, a, x)) rfl rfl (touch_src w _) (tc_one _) (by have := HTL.out; omega) (by have := HLO.out; simp; omega) ?_
       intro v5 w2 hr2 hg2 hat2
       obtain ⟨A2, k2, rfl⟩ := own_sl hr2
       have hBA : Below w.heap.size w (w.alloc (.cells (tc (k, a, x)).toArray 157)) := (Below.refl _ _).alloc (Nat.le_refl _) _
       have hD0 := H.out.kept hBA
       have hR2 : Row w2 g 77 [v1, v2, .map (some gm), v4] := row_turn hD0.cells hg2 (NotT.own hD0.o4 (by decide))
       have c32 := hR2.cell 3
       have f32 := hR2.free 3
       simp at c32))
  obtain ⟨hD, hC, hW⟩ := hD0.touch (k, a, x) (HX.out.below hBA) hr2 hg2 hat2
  have HD := Lib.hid hD
  have HC := Lib.hid ((Chg.of (F := F) hBA).trans hC (fun x hx => .inl hx))
  have HW := Lib.hid (p := Wider w F _) (fun q hq => (hW q hq).imp id (fun e => Nat.le_trans hBA.size e))
  clear hD hC hW hR2 c32 f32 hat2 hg2 hr2 hD0
  go_end0
  exact ⟨rfl, _, _, HD.out, HC.out, HW.out⟩
def ToldB (w : World) (l : List UInt8) (x : Ending) (w' : World) : Prop :=
  ∃ g', x = .returned (.tuple #[.slice (some ⟨g', 0, none⟩) 256 256, .int .i64 0]) ∧ Row w' g' 5 (brr 256 (wh l)) ∧ w.heap.size ≤ g'
theorem PDisk.now8 (h : PDisk b w g F v1 v2 gm v4 ev n ss rs E ts) (a : Nat) (ha : a < ss.length) : Own8 b w (nowV ss rs a) ∧ (nowV ss rs a).l.length = 256 :=
  nowK_mem ss rs a ha (fun x => Own8 b w x ∧ x.l.length = 256) h.m1 (fun p hp => ⟨(h.m2 p hp).1, (h.m2 p hp).2.1⟩) _
set_option maxHeartbeats 1000000 in
theorem pread_in (h : PDisk b w g F v1 v2 gm v4 ev n ss rs E ts) (a : Nat) (ha : a < ss.length) (hr : rs.length ≤ 1000000) (ht : ts.length ≤ 1000000) :
    Calls Tryz.prog 49 #[.pointer (some ⟨g, 0, none⟩), .int .i64 (a : Int)] w fun e w' => ToldB w (nowV ss rs a).l e w' ∧ ∃ v F', PDisk b w' g F' v1 v2 gm v ev n ss rs E (ts ++ [(1, (a : Int), nowV ss rs a)]) ∧ Chg F w w' ∧ Wider w F F' := by
  have H := Lib.hid h
  have HA := Lib.hid ha
  have HR := Lib.hid hr
  have HT := Lib.hid ht
  have HN := Lib.hid (h.now8 a ha)
  obtain ⟨nv, hnv⟩ : ∃ nv, nowV ss rs a = nv := ⟨_, rfl⟩
  have HNV := Lib.hid hnv
  rw [hnv] at HN ⊢
  clear h ha hr ht hnv
  go_enter Tryz.func49, Tryz.ntmps49
  go_wp2_with (first
    | (go_at_call 76; refine (phas_in H.out a HA.out).mono ?_; rintro x w1 ⟨rfl, hw1⟩; obtain rfl := hw1.symm)
    | (go_at_call 77; refine (pnow H.out a HA.out HR.out).mono ?_; rintro x w2 ⟨rfl, hb2⟩; rw [HNV.out]; unfold bvv; have HB2 := Lib.hid hb2; clear hb2)
    | (go_at_call 78; refine (ptouch (H.out.kept HB2.out) 1 (a : Int) nv (HN.out.1.below HB2.out) HT.out).mono ?_; rintro x w3 ⟨rfl, v', F', hD, hC, hW⟩
       have HD := Lib.hid hD
       have HC := Lib.hid hC
       have HW := Lib.hid hW
       clear hD hC hW)
    | (go_at_call 37; refine (block_any nv.A _ nv.c nv.l rfl _ ((HD.out.m4 (1, (a : Int), nv) (List.mem_append.2 (.inr (by simp)))).hol)).mono ?_; rintro x w4 ⟨g4, rfl, hr4, hg4, hb4⟩))
  go_ret2
  have hC := ((Chg.of (F := F) HB2.out).trans HC.out (fun x hx => .inl hx))
  exact ⟨⟨g4, rfl, hr4, Nat.le_trans hC.size hg4⟩, _, _, HD.out.kept hb4, hC.trans (Chg.of (F := F) hb4) (fun x hx => .inl hx), fun q hq => (HW.out q hq).imp id (fun e => Nat.le_trans HB2.out.size e)⟩
end
end Go.Proofs.YtpocccnhibjjcaaGreatDoor
/- The program's disk: Write. Conditions: the disk lies there. -/
set_option linter.unusedVariables false
namespace Go.Proofs.YtpocccnhibjjcaaGreatDoor
open Go.RowKit

theorem wwait_src (w : World) (p : Nat × BV) : (1 : Nat) = 0 ∧ (some (⟨w.heap.size, 0, none⟩ : Addr)) = none ∨ ∃ ad, some (⟨w.heap.size, 0, none⟩ : Addr) = some ad ∧ ∀ j u, (wcs p)[j]? = some u → (w.alloc (.cells (wcs p).toArray 165)).cell? (ad.add j) = some u :=
  .inr ⟨_, rfl, fun j u hu => by rw [Addr.add_lit, Nat.zero_add, (Row.made w 165 (wcs p)).cell]; exact hu⟩
theorem bv_src (w : World) (x : BV) : (1 : Nat) = 0 ∧ (some (⟨w.heap.size, 0, none⟩ : Addr)) = none ∨ ∃ ad, some (⟨w.heap.size, 0, none⟩ : Addr) = some ad ∧ ∀ j u, (sc x)[j]? = some u → (w.alloc (.cells (sc x).toArray 35)).cell? (ad.add j) = some u :=
  .inr ⟨_, rfl, fun j u hu => by rw [Addr.add_lit, Nat.zero_add, (Row.made w 35 (sc x)).cell]; exact hu⟩
theorem row_bc {l : List UInt8} (h : l.length = 256) : brr 256 (wh l) = bc l := by
  apply List.ext_getElem?
  intro j
  by_cases hj : j < 256
  · rw [brr_get _ hj, get_bc (List.getElem?_eq_getElem (by omega))]
    unfold wh
    rw [List.getD_eq_getElem?_getD, List.getElem?_eq_getElem (by omega)]
    rfl
  · rw [brr_none _ (by omega)]
    unfold bc
    rw [List.getElem?_map, List.getElem?_eq_none (by omega)]
    rfl
def pad (l : List UInt8) : List UInt8 := (List.range 256).map (wh l)
theorem pad_len (l : List UInt8) : (pad l).length = 256 := by simp [pad]
theorem pad_of {l : List UInt8} (h : l.length = 256) : pad l = l := by
  apply bc_inj
  rw [← row_bc h]
  unfold pad bc brr
  rw [List.map_map]
  rfl
theorem pad_brr (l : List UInt8) : brr 256 (wh l) = bc (pad l) := by
  unfold pad bc brr
  rw [List.map_map]
  rfl
theorem own_fresh {w : World} {b g : Nat} {l : List UInt8} (h : Row w g 5 (brr 256 (wh l))) (hb : b ≤ g) : Own8 b w ⟨some ⟨g, 0, none⟩, 256, pad l⟩ := by
  refine ⟨by rw [bc_len]; simp, .inr ⟨g, 256, (bc (pad l)).toArray, rfl, hb, by rw [← pad_brr l]; exact h.heap, by simp [pad_len], by decide, by simp [bc_len, pad_len], ?_⟩⟩
  exact List.take_of_length_le (by simp [bc_len])
def BlkP (w : World) (l : List UInt8) (e : Ending) (w' : World) : Prop := ∃ x : BV, e = .returned (.slice x.A x.l.length x.c) ∧ Hid (x.l = pad l) ∧ Hid (Own8 w.heap.size w' x) ∧ Hid (Below w.heap.size w w')
theorem block_own (A : Option Addr) (n c : Nat) (l : List UInt8) (hn : n = l.length) (w : World) (hA : Hol w A l) : Calls Tryz.prog 37 #[.slice A n c] w (BlkP w l) :=
  (block_any A n c l hn w hA).mono fun e w' ⟨g, he, hr, hg, hb⟩ => ⟨⟨some ⟨g, 0, none⟩, 256, pad l⟩, by rw [he, pad_len], Lib.hid rfl, Lib.hid (own_fresh hr hg), Lib.hid hb⟩

section
variable {b : Nat} {w : World} {g gm n : Nat} {F : List Nat} {v1 v2 v4 : Value} {ev : Nat → Value} {ss : List BV} {rs : List (Nat × BV)} {E : Nat → List BV} {ts : List (Int × Int × BV)}
def Wrote (b : Nat) (w w' : World) (g : Nat) (F : List Nat) (ss : List BV) (rs : List (Nat × BV)) (E : Nat → List BV) (ts : List (Int × Int × BV)) (a : Nat) (l : List UInt8) (e : Ending) : Prop :=
  ∃ x F', e = .returned (.int .i64 0) ∧ x.l = l ∧ PD b w' g F' ss (rs ++ [(a, x)]) (more E a x) (ts ++ [(2, (a : Int), x)]) ∧ Chg F w w' ∧ Wider w F F' ∧ ∀ q, (bvv x).ownBlock = some q → w.heap.size ≤ q
set_option maxRecDepth 20000 in
set_option maxHeartbeats 4000000 in
theorem pwrite_in (h : PDisk b w g F v1 v2 gm v4 ev n ss rs E ts) (hn : n ≤ ts.length) (a : Nat) (ha : a < ss.length) (A : Option Addr) (c : Nat) (l : List UInt8) (hl : l.length = 256) (hA : Hol w A l) (hr : rs.length ≤ 1000000) (ht : ts.length ≤ 1000000) :
    Calls Tryz.prog 114 #[.pointer (some ⟨g, 0, none⟩), .int .i64 (a : Int), .slice A l.length c] w fun e w' => Wrote b w w' g F ss rs E ts a l e := by
  have H := Lib.hid h
  have HA := Lib.hid ha
  have HB := Lib.hid hA
  have HL := Lib.hid hl
  have hli : ((l.length : Int) != 256) = false := by rw [bne_eq_false_iff_eq]; omega
  have HRL := Lib.hid hr
  have HTL := Lib.hid ht
  have HN := Lib.hid hn
  clear h ha hA hl hr ht hn
  go_enter Tryz.func114, Tryz.ntmps114
  go_wp2_with (first
    | (go_at_call 76; refine (phas_in H.out a HA.out).mono ?_; rintro x w1 ⟨rfl, hw1⟩; obtain rfl := hw1.symm)
    | (go_at_call 37; refine (block_own A _ c l rfl _ HB.out).mono ?_; rintro e2 w2 ⟨x, rfl, HXL, HX2, HB2⟩
       have H2 := Lib.hid (H.out.kept HB2.out)
       have HXN := Lib.hid (p := ∀ q, (bvv x).ownBlock = some q → w.heap.size ≤ q) (fun q hq => (HX2.out.lt q hq).1)
       have c1 := H2.out.c1
       have HLO := Lib.hid (p := b ≤ w2.heap.size) (by have h1 := H2.out.fl _ H2.out.fg; omega))
    | (at_builtin; refine wp_join rfl _ _ rfl rec_write b v2 rs.length (rs.flatMap wcs) rfl (H2.out.o2.alloc _) (some ⟨w2.heap.size, 0, none⟩) 1 1 (wcs (a, x)) rfl rfl (wwait_src w2 _) (wcs_one _) (by have := HRL.out; omega) (by have := HLO.out; simp; omega) ?_
       intro v5 w3 hr3 hg3 hat3
       obtain ⟨A3, k3, rfl⟩ := own_sl hr3
       have hBA : Below w2.heap.size w2 (w2.alloc (.cells (wcs (a, x)).toArray 165)) := (Below.refl _ _).alloc (Nat.le_refl _) _
       have hD0 := H2.out.kept hBA
       have hR3 : Row w3 g 77 [v1, v2, .map (some gm), v4] := row_turn hD0.cells hg3 (NotT.own hD0.o2 (by decide))
       have c31 := hR3.cell 1
       have f31 := hR3.free 1
       simp at c31
       have hx8 : Own8 b (w2.alloc (.cells (wcs (a, x)).toArray 165)) x := (HX2.out.below hBA).lower (by have h1 := H.out.fl _ H.out.fg; omega)
       obtain ⟨hD, hC, hW⟩ := hD0.waits (v := .slice A3 (rs.length + 1) k3) (rs' := rs ++ [(a, x)]) (by rw [flat_snoc, List.length_append]; exact hr3) hg3 (hat3.elim .inl (fun e => .inr (.inl e))) (fun p hp => by
         rcases List.mem_append.1 hp with hp | hp
         · exact hD0.m2 p hp
         · simp at hp
           subst hp
           exact ⟨hx8, by rw [HXL.out, pad_len], HA.out⟩)
       have hx9 : Own8 b (w3.setCell ⟨g, 1, none⟩ (.slice A3 (rs.length + 1) k3)) x := (hx8.turn hg3 (NotT.own hD0.o2 (by decide))).turn (grown_set w3 ⟨g, 1, none⟩ _) (NotT.row hR3 (by decide))
       have HD := Lib.hid hD
       have HX := Lib.hid hx9
       have HC := Lib.hid ((Chg.of (F := F) (below_nxt hBA HB2.out)).trans hC (fun y hy => .inl hy))
       have HW := Lib.hid (p := Wider w F _) (fun q hq => (hW q hq).imp id (fun e => Nat.le_trans (below_nxt hBA HB2.out).size e))
       clear hD hC hW hx8 hx9 hD0 hBA hR3 hr3 hg3 hat3))
  obtain ⟨wr, hwr⟩ : ∃ wr : World, wr = w3.setCell ⟨g, 1, none⟩ (.slice A3 (rs.length + 1) k3) := ⟨_, rfl⟩
  rw [← hwr] at HD HX HC ⊢
  have HAL := Lib.hid (p := a ≤ 1024) (by have h1 := HA.out; have h2 := H.out.most; omega)
  have HA2 := Lib.hid (p := a < 1024) (by have h1 := HA.out; have h2 := H.out.most; omega)
  clear hwr c31 f31 c1 H2 HB2 HX2
  generalize pfoot g gm v1 (Value.slice A3 (rs.length + 1) k3) v4 ev = F1 at HD HW
  generalize (Value.slice A3 (rs.length + 1) k3) = v2' at HD
  have HLO3 := Lib.hid (p := b ≤ wr.heap.size) (by have h1 := HD.out.fl _ HD.out.fg; omega)
  obtain ⟨Ae, ke, he⟩ := own_sl (HD.out.oe a HA2.out)
  have HE := Lib.hid he
  have HDD := Lib.hid (HD.out.kept (below_drw wr))
  have c2 := HD.out.c2
  have c2a : ∀ o : Obj, (wr.alloc o).cell? ⟨g, 2, none⟩ = some (.map (some gm)) := fun o => (HD.out.kept ((Below.refl _ _).alloc (Nat.le_refl _) o)).c2
  have hl0 : (Instr.lookup 73 (.map (some gm)) (.int .i64 (a : Int)) false).run Tryz.prog wr.drew = .ok (.slice Ae (E a).length ke) wr.drew := by rw [← he]; exact HDD.out.om.look HAL.out
  have hl1 : ∀ o : Obj, (Instr.lookup 73 (.map (some gm)) (.int .i64 (a : Int)) false).run Tryz.prog (wr.alloc o).drew = .ok (.slice Ae (E a).length ke) (wr.alloc o).drew := fun o => by rw [← he]; exact (HDD.out.kept ((Below.refl _ _).alloc (Nat.le_refl _) o)).om.look HAL.out
  clear he
  go_wp2
  go_region_held3 (fun w' => w'.cell? ⟨g, 2, none⟩ = some (.map (some gm)))
    (first | exact c27 | exact c26 | go_keep)
    ((refine step_join rfl _ _ rfl rec_sl b (.slice Ae (E a).length ke) (E a).length ((E a).flatMap sc) rfl (by rw [← HE.out]; exact (HDD.out.kept ((Below.refl _ _).alloc (Nat.le_refl _) _)).oe a HA2.out) (some ⟨wr.heap.size, 0, none⟩) 1 1 (sc x) rfl rfl (bv_src wr.drew x) (sc_one x) (by have h1 := HD.out.le a HA2.out; have h2 := HTL.out; have h3 := HN.out; omega) (by have := HLO3.out; simp; omega) ?_
      intro v6 w6 hr6 hg6 hat6
      obtain ⟨A6, k6, rfl⟩ := own_sl hr6
      have hBA : Below wr.heap.size wr (wr.drew.alloc (.cells (sc x).toArray 35)) := (below_drw wr).alloc (Nat.le_refl _) _
      have hD0 := HD.out.kept hBA
      rw [← HE.out] at hg6 hat6
      have hm6 := map_turn hD0.om hg6 (own_is (hD0.oe a HA2.out))
      obtain ⟨w7, hrun, hel, hg7⟩ := hm6.put HAL.out (by have := HN.out; have := HTL.out; unfold maxLen; omega) (.slice A6 ((E a).length + 1) k6)
      have hR6 := row_turn hD0.cells hg6 (NotT.own (hD0.oe a HA2.out) (by decide))
      have c26 : w6.cell? ⟨g, 2, none⟩ = some (.map (some gm)) := by rw [hR6.cell]; rfl
      have hR7 := row_turn hR6 hg7 (NotT.map hm6 _)
      have c27 : w7.cell? ⟨g, 2, none⟩ = some (.map (some gm)) := by rw [hR7.cell]; rfl
      have hx8 : Own8 b (wr.drew.alloc (.cells (sc x).toArray 35)) x := HX.out.below hBA
      obtain ⟨hD, hC, hW⟩ := hD0.elder (v := .slice A6 ((E a).length + 1) k6) a HA.out x ⟨hx8, by rw [HXL.out, pad_len]⟩ hr6 hg6 hat6 hel hg7
      have hx9 := (hx8.turn hg6 (NotT.own (hD0.oe a HA2.out) (by decide))).turn hg7 (NotT.map hm6 _)
      have HD7 := Lib.hid hD
      have HX7 := Lib.hid hx9
      have HC7 := Lib.hid (HC.out.trans ((Chg.of (F := F1) hBA).trans hC (fun y hy => .inl hy)) (fun y hy => HW.out y hy))
      have HW7 := Lib.hid (p := Wider w F _) (fun q hq => by
        rcases hW q hq with e | e
        · exact HW.out q e
        · exact .inr (Nat.le_trans HC.out.size (Nat.le_trans hBA.size e)))
      clear hD hC hW hx8 hx9 hD0 hBA hR6 hR7 hr6 hg6 hat6 hm6 hel hg7))
  all_goals
    clear c2 c2a hl0 hl1 c26 c27 hrun
    go_wp2_with (go_at_call 78; refine (ptouch HD7.out 2 (a : Int) x HX7.out HTL.out).mono ?_; rintro x8 w8 ⟨rfl, v8, F8, hD8, hC8, hW8⟩
                 have HD8 := Lib.hid hD8
                 have HC8 := Lib.hid hC8
                 have HW8 := Lib.hid hW8
                 clear hD8 hC8 hW8)
    go_ret
    exact ⟨x, F8, rfl, by rw [HXL.out, pad_of HL.out], ⟨_, _, _, _, _, n + 1, by rw [List.length_append]; have := HN.out; simp; omega, HD8.out⟩, HC7.out.trans HC8.out HW7.out, HW7.out.trans HW8.out HC7.out.size, HXN.out⟩
end
end Go.Proofs.YtpocccnhibjjcaaGreatDoor
/- The program's new disk: what world.New leaves, for every number of blocks. No conditions. -/
set_option linter.unusedVariables false
namespace Go.Proofs.YtpocccnhibjjcaaGreatDoor
open Go.RowKit

theorem mask_small (a : Nat) (ha : a < 4294967296) : bits .and .u64 (a : Int) 4294967295 = (a : Int) := by
  have h := bits_and_u64_nat a 4294967295 (by omega) (by omega)
  have e : a &&& 4294967295 = a % 4294967296 := Nat.and_two_pow_sub_one_eq_mod a 32
  rw [e, Nat.mod_eq_of_lt ha] at h
  exact h
theorem mul64_one (n : Nat) (hn : n ≤ 1024) (w : World) :
    Calls Tryz.prog 94 #[.int .u64 1, .int .u64 (n : Int)] w fun e w' => e = .returned (.tuple #[.int .u64 0, .int .u64 (n : Int)]) ∧ w' = w := by
  have m1 : bits .and .u64 1 4294967295 = 1 := mask_small 1 (by omega)
  have m2 : bits .and .u64 (n : Int) 4294967295 = (n : Int) := mask_small n (by omega)
  have m0 : bits .and .u64 0 4294967295 = 0 := mask_small 0 (by omega)
  have d1 : (n : Int) / 4294967296 = 0 := by omega
  have w1 : IntKind.u64.wrap (n : Int) = (n : Int) := by rw [IntKind.wrap_u64]; omega
  have w0 : IntKind.u64.wrap 0 = 0 := by decide
  clear hn
  go_enter Tryz.func94, Tryz.ntmps94
  go_wp2
  go_ret2
  exact ⟨rfl, rfl⟩
theorem mul_one_ (n : Nat) (hn : n ≤ 1024) (w : World) :
    Calls Tryz.prog 62 #[.int .u64 1, .int .u64 (n : Int)] w fun e w' => e = .returned (.tuple #[.int .u64 0, .int .u64 (n : Int)]) ∧ w' = w := by
  have HN := Lib.hid hn
  clear hn
  go_enter Tryz.func62, Tryz.ntmps62
  go_wp2_with (go_at_call 94; refine (mul64_one n HN.out _).mono ?_; rintro e w1 ⟨rfl, rfl⟩)
  go_ret2
  exact ⟨rfl, rfl⟩
def fill (m j : Nat) (v : Value) : List Value := List.replicate j v ++ List.replicate (m - j) nos
theorem fill_len {m j : Nat} (h : j ≤ m) (v : Value) : (fill m j v).length = m := by simp [fill]; omega
theorem fill_all (m : Nat) (v : Value) : fill m m v = List.replicate m v := by simp [fill]
theorem fill_splice {m j k : Nat} (h : j + k ≤ m) (v : Value) : splice (fill m j v) j (List.replicate k v) = fill m (j + k) v := by
  unfold splice fill
  rw [List.take_append_of_le_length (by simp), List.take_of_length_le (by simp), List.length_replicate, List.drop_append, List.drop_of_length_le (by simp), List.nil_append, List.drop_replicate, List.length_replicate, ← List.append_assoc, List.replicate_append_replicate]
  congr 2
  omega
theorem fill_get {m j i : Nat} (h : i < j) (v : Value) : (fill m j v)[i]? = some v := by
  unfold fill
  rw [List.getElem?_append_left (by simpa using h), List.getElem?_replicate, if_pos h]
theorem made_nos (n : Nat) : madeCells nos.cells (n * 1) = (fill n 0 nos).toArray := by
  apply Array.ext'
  apply List.ext_getElem?
  intro j
  have hc : nos.cells = #[nos] := rfl
  by_cases h : j < n
  · simp [madeCells, hc, h, Nat.mod_one, fill]
  · rw [List.getElem?_eq_none (by simp [madeCells, hc]; omega), List.getElem?_eq_none (by simp [fill]; omega)]
theorem fill_zero (m : Nat) (u v : Value) : fill m 0 u = fill m 0 v := by simp [fill]
theorem step_make_nos {w : World} {ops : Array Oper} {rest : List Oper} {o : Oper} {a : Act} {Q : Exit → Act → World → Prop} (hg : o.guard = none) (l c : Operand) (hop : o.op = Op.makeSlice 56 l c)
    (n : Nat) (hl : a.eval l = .int .i64 n) (hc : a.eval c = .int .i64 n) (hn : n ≤ 1000000)
    (h : ∀ g w', Row w' g 35 (fill n 0 nos) → Hid (g = w.heap.size) → Below w.heap.size w w' → Hid (w'.heap.size = w.heap.size + 1) → wpList Tryz.prog ops Q rest (a.put o.dst (.slice (some ⟨g, 0, none⟩) n n)) w') :
    wpList Tryz.prog ops Q (o :: rest) a w := by
  refine wpList_plain hg fun K hK' => ?_
  obtain ⟨i, z, hi, hz, hs, hby, hzs⟩ := rec_sl.inf
  have hz' : z = nos := by
    have h1 : (Tryz.prog.info? 35).map (·.zero) = some (some nos) := by kernel_rfl
    rw [hi] at h1
    simp [hz] at h1
    exact h1
  subst hz'
  have hr := run_make (P := Tryz.prog) w 56 35 i nos rec_sl.ht hi hz .i64 .i64 n n (by omega) (Int.le_refl _) (by
    have : (i.bytes : Int) ≤ 64 := by omega
    have h2 : (i.bytes : Int) * n ≤ 64 * n := Int.mul_le_mul_of_nonneg_right this (by omega)
    omega) (by omega)
  simp only [Int.toNat_natCast, hs] at hr
  rw [made_nos] at hr
  unfold Oper.wp
  simp [execOp, hop, hl, hc, hr, Result.andThen]
  exact hK' _ _ (h _ _ (Row.made w _ _) (show _ = _ from rfl) ((Below.refl _ _).alloc (Nat.le_refl _) _) (show _ = _ by simp))
theorem info_sl1 : (Tryz.prog.info? 35).map (·.size) = some 1 := by kernel_rfl
section
variable {w : World} {ops : Array Oper} {rest : List Oper} {o : Oper} {a : Act} {Q : Exit → Act → World → Prop} {K : Act → World → Prop} {C : Prop}
theorem src_rep {w : World} {gs k n : Nat} {v : Value} (h : ∀ i, i < n → w.cell? ⟨gs, i, none⟩ = some v) (hk : k ≤ n) : ∀ j u, (List.replicate k v)[j]? = some u → w.cell? ((⟨gs, 0, none⟩ : Addr).add j) = some u := fun j u hu => by
  rw [List.getElem?_replicate] at hu
  split at hu
  · injection hu with hu
    subst hu
    rw [Addr.add_lit, Nat.zero_add]
    exact h j (by omega)
  · cases hu
theorem wp_copy_fill (hgd : o.guard = none) (d s : Operand) (ho : o.op = .call { callee := .builtin .copy, args := #[d, s], argTypes := #[56, 56] }) (g m j : Nat) (v : Value) (hv : v.oneCell' = true) (hr : Row w g 35 (fill m j v))
    (dl dc gs sl scap k : Nat) (hd : a.eval d = .slice (some ⟨g, j, none⟩) dl dc) (hs : a.eval s = .slice (some ⟨gs, 0, none⟩) sl scap) (hsrc : ∀ i, i < sl → w.cell? ⟨gs, i, none⟩ = some v) (hk : k = min sl dl) (hfit : j + k ≤ m) (B : Nat) (w0 : World) (hb : Below B w0 w) (hBg : B ≤ g)
    (h : ∀ w', Row w' g 35 (fill m (j + k) v) → Hid (Below B w0 w') → wpList Tryz.prog ops Q rest (a.put o.dst (goInt (k : Int))) w') :
    wpList Tryz.prog ops Q (o :: rest) a w := by
  refine wpList_copy_splice hgd d s _ _ ho 35 rec_sl.ht info_sl1 _ _ dl dc sl scap hd hs g j (fill m j v) 35 hr.heap (List.replicate k v) (by rw [List.length_replicate]; exact hk) (fun _ => ⟨rfl, _, rfl, src_rep hsrc (by omega)⟩) (by rw [List.length_replicate, fill_len (by omega)]; exact hfit) (fun u hu => by rw [List.eq_of_mem_replicate hu]; exact hv) B w0 hb hBg ?_
  intro w' h1 h2
  have h3 := h1.out
  rw [fill_splice hfit] at h3
  have h4 := h w' h3 h2
  rw [List.length_replicate]
  exact h4
theorem run_copy_fill (w : World) (ty : TypeId) (g m j : Nat) (v : Value) (hv : v.oneCell' = true) (hr : Row w g 35 (fill m j v)) (dl dc gs sl scap k : Nat) (hsrc : ∀ i, i < sl → w.cell? ⟨gs, i, none⟩ = some v) (hk : k = min sl dl) (hfit : j + k ≤ m) (B : Nat) (w0 : World) (hb : Below B w0 w) (hBg : B ≤ g) :
    ∃ w', (Builtin.copy_ #[56, 56] ty #[.slice (some ⟨g, j, none⟩) dl dc, .slice (some ⟨gs, 0, none⟩) sl scap]).run Tryz.prog w = .ok (.int .i64 (k : Int)) w' ∧ Row w' g 35 (fill m (j + k) v) ∧ Below B w0 w' := by
  have hrun := run_copy_row (P := Tryz.prog) w 56 56 ty 35 g j dl dc ⟨gs, 0, none⟩ sl scap (fill m j v).toArray 35 (List.replicate k v) rec_sl.ht info_sl1 hr.heap (by rw [List.length_replicate]; exact hk) (src_rep hsrc (by omega)) (by rw [List.length_replicate]; simp [fill_len (show j ≤ m by omega)]; exact hfit) (fun u hu => by rw [List.eq_of_mem_replicate hu]; exact hv)
  rw [List.length_replicate] at hrun
  refine ⟨_, hrun, ?_, below_setRow hb hBg _⟩
  have h1 := setRow_heap w g _ ((fill m j v).take j ++ (List.replicate k v ++ (fill m j v).drop (j + k))).toArray 35 _ hr.heap
  have h2 : (fill m j v).take j ++ (List.replicate k v ++ (fill m j v).drop (j + k)) = fill m (j + k) v := by
    rw [← fill_splice hfit]
    unfold splice
    rw [List.length_replicate]
  rw [h2] at h1
  have h3 : ((fill m j v).toArray.toList.take j ++ List.replicate k v ++ (fill m j v).toArray.toList.drop (j + k)).toArray = (fill m (j + k) v).toArray := by
    rw [← h2, List.append_assoc]
  rw [h3]
  exact h1
end
def RepPost (w : World) (m : Nat) (v : Value) (e : Ending) (w' : World) : Prop := ∃ g, e = .returned (.slice (some ⟨g, 0, none⟩) m m) ∧ Row w' g 35 (List.replicate m v) ∧ w.heap.size ≤ g ∧ Below w.heap.size w w'
set_option maxRecDepth 20000 in
set_option maxHeartbeats 400000 in
theorem repeat_any (gs : Nat) (v : Value) (hv : v.oneCell' = true) (m : Nat) (hm1 : 1 ≤ m) (hm : m ≤ 1024) (w : World) (hs : w.cell? ⟨gs, 0, none⟩ = some v) :
    Calls Tryz.prog 36 #[.slice (some ⟨gs, 0, none⟩) 1 1, .int .i64 (m : Int)] w (RepPost w m v) := by
  have h0 : ¬ (m : Int) < 0 := by omega
  have w1 : IntKind.u64.wrap (m : Int) = (m : Int) := by rw [IntKind.wrap_u64]; omega
  have w2 : IntKind.i64.wrap (m : Int) = (m : Int) := by rw [IntKind.wrap_i64]; omega
  have h3 : ¬ (9223372036854775807 : Int) < (m : Int) := by omega
  have HM := Lib.hid hm
  have HM1 := Lib.hid hm1
  have HS := Lib.hid hs
  have HV := Lib.hid hv
  have HSS := Lib.hid (p := ∀ w3, Below w.heap.size w w3 → ∀ i, i < 1 → w3.cell? ⟨gs, i, none⟩ = some v) fun w3 hb3 i hi => by
    obtain rfl : i = 0 := by omega
    exact (hb3.cell (p := ⟨gs, 0, none⟩) (World.block_lt_of_cell? w _ hs)).trans hs
  have HMM := Lib.hid (p := min 1 m = 1) (by omega)
  clear hm hm1 hs hv
  go_enter Tryz.func36, Tryz.ntmps36
  go_wp2_with (first
    | (go_at_call 62; refine (mul_one_ m HM.out _).mono ?_; rintro e w1 ⟨rfl, hw1⟩; obtain rfl := hw1.symm)
    | (refine step_make_nos rfl _ _ rfl m rfl rfl (by have := HM.out; omega) ?_; intro g w3 hr3 hg3 hb3 hs3)
    | (refine wp_copy_fill rfl (.tmp 31) (.tmp 32) rfl g m 0 v HV.out (fill_zero m nos v ▸ hr3) m m gs 1 1 1 rfl rfl (HSS.out w3 hb3) (HMM.out.symm) HM1.out w.heap.size w hb3 (Nat.le_of_eq hg3.out.symm) ?_; intro w4 hf hb4))
  have HB4 := hb4
  have HG := Lib.hid (p := w.heap.size ≤ g) (by rw [hg3.out]; exact Nat.le_refl _)
  clear hb4 hb3 hr3 hg3 hs3
  go_loopw [8] (fun x wr => ∃ j : Nat, 1 ≤ j ∧ j ≤ m ∧ x = .int .i64 (j : Int) ∧ Row wr g 35 (fill m j v) ∧ Below w.heap.size w wr) (fun x _ => m - (intOf x).toNat)
  case atStart => exact ⟨1, by omega, HM1.out, rfl, hf, HB4.out⟩
  case round =>
    clear hf
    obtain ⟨j, hj1, hj, rfl, hR, hB⟩ := hrel
    by_cases hlt : j < m
    · have hlti : (j : Int) < (m : Int) := by omega
      have hj0 : (0 : Int) ≤ (j : Int) := by omega
      have hjm : (j : Int) ≤ (m : Int) := by omega
      have hne : ¬ m = j := by omega
      have hk := Nat.min_le_left j (m - j)
      obtain ⟨k, hk⟩ : ∃ k, k = min j (m - j) := ⟨_, rfl⟩
      have hkw : IntKind.i64.wrap ((j : Int) + (k : Int)) = ((j + k : Nat) : Int) := by rw [IntKind.wrap_i64]; have := HM.out; omega
      have HK := Lib.hid hk
      have HR := Lib.hid hR
      have HB := Lib.hid hB
      have HJ := Lib.hid hj1
      clear hk hR hB hj1
      go_wp2
      have HSRC := Lib.hid (p := ∀ i, i < j → wr.drew.cell? ⟨g, i, none⟩ = some v) fun i hi => by rw [HR.out.drew.cell]; exact fill_get hi v
      obtain ⟨w5, hrun, hf5, hb5⟩ := run_copy_fill wr.drew 3 g m j v HV.out HR.out.drew (m - j) (m - j) g j m k HSRC.out HK.out (by have := HK.out; omega) w.heap.size w HB.out.drew HG.out
      go_region
      go_wp2
      go_roundw
      case rel => exact ⟨j + k, by have := HJ.out; omega, by have := HK.out; omega, rfl, hf5, hb5⟩
      case measure => have := HK.out; have := HJ.out; simp [intOf]; omega
    · obtain rfl : j = m := by omega
      rw [fill_all] at hR
      have HR := Lib.hid hR
      have HB := Lib.hid hB
      clear hR hB
      go_wp2
      go_ret
      exact ⟨g, rfl, HR.out, HG.out, HB.out⟩
end Go.Proofs.YtpocccnhibjjcaaGreatDoor
