/- The program's disk: Write. Conditions: the disk lies there. -/
import Derived.Test.YtnajlineipapdaaPRead
import Derived.Deep.RegionHeld3
set_option linter.unusedVariables false
namespace Go.Proofs.Ytnajlineipapdaa
open Go.RowKit

theorem wwait_src (w : World) (p : Nat × BV) : (1 : Nat) = 0 ∧ (some (⟨w.heap.size, 0, none⟩ : Addr)) = none ∨ ∃ ad, some (⟨w.heap.size, 0, none⟩ : Addr) = some ad ∧ ∀ j u, (wcs p)[j]? = some u → (w.alloc (.cells (wcs p).toArray 79)).cell? (ad.add j) = some u :=
  .inr ⟨_, rfl, fun j u hu => by rw [Addr.add_lit, Nat.zero_add, (Row.made w 79 (wcs p)).cell]; exact hu⟩
theorem bv_src (w : World) (x : BV) : (1 : Nat) = 0 ∧ (some (⟨w.heap.size, 0, none⟩ : Addr)) = none ∨ ∃ ad, some (⟨w.heap.size, 0, none⟩ : Addr) = some ad ∧ ∀ j u, (sc x)[j]? = some u → (w.alloc (.cells (sc x).toArray 32)).cell? (ad.add j) = some u :=
  .inr ⟨_, rfl, fun j u hu => by rw [Addr.add_lit, Nat.zero_add, (Row.made w 32 (sc x)).cell]; exact hu⟩
theorem row_bc {l : List UInt8} (h : l.length = 256) : brr 256 (wh l) = bc l := by
  apply List.ext_getElem?
  intro j
  by_cases hj : j < 256
  · rw [brr_get _ hj, get_bc (List.getElem?_eq_getElem (by omega))]
    unfold wh
    rw [List.getD_eq_getElem?_getD, List.getElem?_eq_getElem (by omega)]
    rfl
  · rw [brr_none _ (by omega)]
    unfold bc
    rw [List.getElem?_map, List.getElem?_eq_none (by omega)]
    rfl
/-- Bytes as a block's. -/
def pad (l : List UInt8) : List UInt8 := (List.range 256).map (wh l)
theorem pad_len (l : List UInt8) : (pad l).length = 256 := by simp [pad]
theorem pad_of {l : List UInt8} (h : l.length = 256) : pad l = l := by
  apply bc_inj
  rw [← row_bc h]
  unfold pad bc brr
  rw [List.map_map]
  rfl
theorem pad_brr (l : List UInt8) : brr 256 (wh l) = bc (pad l) := by
  unfold pad bc brr
  rw [List.map_map]
  rfl
/-- A new row of bytes is the call's own. -/
theorem own_fresh {w : World} {b g : Nat} {l : List UInt8} (h : Row w g 5 (brr 256 (wh l))) (hb : b ≤ g) : Own8 b w ⟨some ⟨g, 0, none⟩, 256, pad l⟩ := by
  refine ⟨by rw [bc_len]; simp, .inr ⟨g, 256, (bc (pad l)).toArray, rfl, hb, by rw [← pad_brr l]; exact h.heap, by simp [pad_len], by decide, by simp [bc_len, pad_len], ?_⟩⟩
  exact List.take_of_length_le (by simp [bc_len])
/-- A block of bytes told, in new memory. -/
def BlkP (w : World) (l : List UInt8) (e : Ending) (w' : World) : Prop := ∃ x : BV, e = .returned (.slice x.A x.l.length x.c) ∧ Hid (x.l = pad l) ∧ Hid (Own8 w.heap.size w' x) ∧ Hid (Below w.heap.size w w')
theorem block_own (A : Option Addr) (n c : Nat) (l : List UInt8) (hn : n = l.length) (w : World) (hA : Hol w A l) : Calls Try.prog 38 #[.slice A n c] w (BlkP w l) :=
  (block_any A n c l hn w hA).mono fun e w' ⟨g, he, hr, hg, hb⟩ => ⟨⟨some ⟨g, 0, none⟩, 256, pad l⟩, by rw [he, pad_len], Lib.hid rfl, Lib.hid (own_fresh hr hg), Lib.hid hb⟩

section
variable {b : Nat} {w : World} {g gm n : Nat} {F : List Nat} {v1 v2 v4 : Value} {ev : Nat → Value} {ss : List BV} {rs : List (Nat × BV)} {E : Nat → List BV} {ts : List (Int × Int × BV)}
theorem pwrite_out (h : PDisk b w g F v1 v2 gm v4 ev n ss rs E ts) (z : Int) (A : Option Addr) (m c : Nat) (hz : (z < 0 ∨ (ss.length : Int) ≤ z) ∨ m ≠ 256) :
    Calls Try.prog 18 #[.pointer (some ⟨g, 0, none⟩), .int .i64 z, .slice A m c] w fun e w' => e = .returned (.int .i64 201) ∧ w' = w := by
  have H := Lib.hid h
  clear h
  by_cases h1 : z < 0 ∨ (ss.length : Int) ≤ z
  · have HZ := Lib.hid h1
    clear hz h1
    go_enter Try.func18, Try.ntmps18
    go_wp2_with (go_at_call 39; refine (phas_out H.out z HZ.out).mono ?_; rintro x w1 ⟨rfl, rfl⟩)
    go_ret
    exact ⟨rfl, rfl⟩
  · have hn : ((m : Int) != 256) = true := by
      rcases hz with hz | hz
      · exact absurd hz h1
      · rw [bne_iff_ne]; omega
    obtain ⟨a, rfl⟩ := Int.eq_ofNat_of_zero_le (by omega : 0 ≤ z)
    have HA := Lib.hid (p := a < ss.length) (by omega)
    clear hz h1
    go_enter Try.func18, Try.ntmps18
    go_wp2_with (go_at_call 39; refine (phas_in H.out a HA.out).mono ?_; rintro x w1 ⟨rfl, rfl⟩)
    go_ret
    exact ⟨rfl, rfl⟩
/-- A disk written, behind the call. -/
def Wrote (b : Nat) (w w' : World) (g : Nat) (F : List Nat) (ss : List BV) (rs : List (Nat × BV)) (E : Nat → List BV) (ts : List (Int × Int × BV)) (a : Nat) (l : List UInt8) (e : Ending) : Prop :=
  ∃ x F', e = .returned (.int .i64 0) ∧ x.l = l ∧ PD b w' g F' ss (rs ++ [(a, x)]) (more E a x) (ts ++ [(2, (a : Int), x)]) ∧ Chg F w w' ∧ Wider w F F' ∧ ∀ q, (bvv x).ownBlock = some q → w.heap.size ≤ q
set_option maxRecDepth 20000 in
set_option maxHeartbeats 4000000 in
theorem pwrite_in (h : PDisk b w g F v1 v2 gm v4 ev n ss rs E ts) (hn : n ≤ ts.length) (a : Nat) (ha : a < ss.length) (A : Option Addr) (c : Nat) (l : List UInt8) (hl : l.length = 256) (hA : Hol w A l) (hr : rs.length ≤ 1000000) (ht : ts.length ≤ 1000000) :
    Calls Try.prog 18 #[.pointer (some ⟨g, 0, none⟩), .int .i64 (a : Int), .slice A l.length c] w fun e w' => Wrote b w w' g F ss rs E ts a l e := by
  have H := Lib.hid h
  have HA := Lib.hid ha
  have HB := Lib.hid hA
  have HL := Lib.hid hl
  have hli : ((l.length : Int) != 256) = false := by rw [bne_eq_false_iff_eq]; omega
  have HRL := Lib.hid hr
  have HTL := Lib.hid ht
  have HN := Lib.hid hn
  clear h ha hA hl hr ht hn
  go_enter Try.func18, Try.ntmps18
  go_wp2_with (first
    | (go_at_call 39; refine (phas_in H.out a HA.out).mono ?_; rintro x w1 ⟨rfl, hw1⟩; obtain rfl := hw1.symm)
    | (go_at_call 38; refine (block_own A _ c l rfl _ HB.out).mono ?_; rintro e2 w2 ⟨x, rfl, HXL, HX2, HB2⟩
       have H2 := Lib.hid (H.out.kept HB2.out)
       have HXN := Lib.hid (p := ∀ q, (bvv x).ownBlock = some q → w.heap.size ≤ q) (fun q hq => (HX2.out.lt q hq).1)
       have c1 := H2.out.c1
       have HLO := Lib.hid (p := b ≤ w2.heap.size) (by have h1 := H2.out.fl _ H2.out.fg; omega))
    | (at_builtin; refine wp_join rfl _ _ rfl rec_write b v2 rs.length (rs.flatMap wcs) rfl (H2.out.o2.alloc _) (some ⟨w2.heap.size, 0, none⟩) 1 1 (wcs (a, x)) rfl rfl (wwait_src w2 _) (wcs_one _) (by have := HRL.out; omega) (by have := HLO.out; simp; omega) ?_
       intro v5 w3 hr3 hg3 hat3
       obtain ⟨A3, k3, rfl⟩ := own_sl hr3
       have hBA : Below w2.heap.size w2 (w2.alloc (.cells (wcs (a, x)).toArray 79)) := (Below.refl _ _).alloc (Nat.le_refl _) _
       have hD0 := H2.out.kept hBA
       have hR3 : Row w3 g 73 [v1, v2, .map (some gm), v4] := row_turn hD0.cells hg3 (NotT.own hD0.o2 (by decide))
       have c31 := hR3.cell 1
       have f31 := hR3.free 1
       simp at c31
       have hx8 : Own8 b (w2.alloc (.cells (wcs (a, x)).toArray 79)) x := (HX2.out.below hBA).lower (by have h1 := H.out.fl _ H.out.fg; omega)
       obtain ⟨hD, hC, hW⟩ := hD0.waits (v := .slice A3 (rs.length + 1) k3) (rs' := rs ++ [(a, x)]) (by rw [flat_snoc, List.length_append]; exact hr3) hg3 (hat3.elim .inl (fun e => .inr (.inl e))) (fun p hp => by
         rcases List.mem_append.1 hp with hp | hp
         · exact hD0.m2 p hp
         · simp at hp
           subst hp
           exact ⟨hx8, by rw [HXL.out, pad_len], HA.out⟩)
       have hx9 : Own8 b (w3.setCell ⟨g, 1, none⟩ (.slice A3 (rs.length + 1) k3)) x := (hx8.turn hg3 (NotT.own hD0.o2 (by decide))).turn (grown_set w3 ⟨g, 1, none⟩ _) (NotT.row hR3 (by decide))
       have HD := Lib.hid hD
       have HX := Lib.hid hx9
       have HC := Lib.hid ((Chg.of (F := F) (below_nxt hBA HB2.out)).trans hC (fun y hy => .inl hy))
       have HW := Lib.hid (p := Wider w F _) (fun q hq => (hW q hq).imp id (fun e => Nat.le_trans (below_nxt hBA HB2.out).size e))
       clear hD hC hW hx8 hx9 hD0 hBA hR3 hr3 hg3 hat3))
  obtain ⟨wr, hwr⟩ : ∃ wr : World, wr = w3.setCell ⟨g, 1, none⟩ (.slice A3 (rs.length + 1) k3) := ⟨_, rfl⟩
  rw [← hwr] at HD HX HC ⊢
  have HAL := Lib.hid (p := a ≤ 1024) (by have h1 := HA.out; have h2 := H.out.most; omega)
  have HA2 := Lib.hid (p := a < 1024) (by have h1 := HA.out; have h2 := H.out.most; omega)
  clear hwr c31 f31 c1 H2 HB2 HX2
  generalize pfoot g gm v1 (Value.slice A3 (rs.length + 1) k3) v4 ev = F1 at HD HW
  generalize (Value.slice A3 (rs.length + 1) k3) = v2' at HD
  have HLO3 := Lib.hid (p := b ≤ wr.heap.size) (by have h1 := HD.out.fl _ HD.out.fg; omega)
  obtain ⟨Ae, ke, he⟩ := own_sl (HD.out.oe a HA2.out)
  have HE := Lib.hid he
  have HDD := Lib.hid (HD.out.kept (below_drw wr))
  have c2 := HD.out.c2
  have c2a : ∀ o : Obj, (wr.alloc o).cell? ⟨g, 2, none⟩ = some (.map (some gm)) := fun o => (HD.out.kept ((Below.refl _ _).alloc (Nat.le_refl _) o)).c2
  have hl0 : (Instr.lookup 70 (.map (some gm)) (.int .i64 (a : Int)) false).run Try.prog wr.drew = .ok (.slice Ae (E a).length ke) wr.drew := by rw [← he]; exact HDD.out.om.look HAL.out
  have hl1 : ∀ o : Obj, (Instr.lookup 70 (.map (some gm)) (.int .i64 (a : Int)) false).run Try.prog (wr.alloc o).drew = .ok (.slice Ae (E a).length ke) (wr.alloc o).drew := fun o => by rw [← he]; exact (HDD.out.kept ((Below.refl _ _).alloc (Nat.le_refl _) o)).om.look HAL.out
  clear he
  go_wp2
  go_region_held3 (fun w' => w'.cell? ⟨g, 2, none⟩ = some (.map (some gm)))
    (first | exact c27 | exact c26 | go_keep)
    ((refine step_join rfl _ _ rfl rec_sl b (.slice Ae (E a).length ke) (E a).length ((E a).flatMap sc) rfl (by rw [← HE.out]; exact (HDD.out.kept ((Below.refl _ _).alloc (Nat.le_refl _) _)).oe a HA2.out) (some ⟨wr.heap.size, 0, none⟩) 1 1 (sc x) rfl rfl (bv_src wr.drew x) (sc_one x) (by have h1 := HD.out.le a HA2.out; have h2 := HTL.out; have h3 := HN.out; omega) (by have := HLO3.out; simp; omega) ?_
      intro v6 w6 hr6 hg6 hat6
      obtain ⟨A6, k6, rfl⟩ := own_sl hr6
      have hBA : Below wr.heap.size wr (wr.drew.alloc (.cells (sc x).toArray 32)) := (below_drw wr).alloc (Nat.le_refl _) _
      have hD0 := HD.out.kept hBA
      rw [← HE.out] at hg6 hat6
      have hm6 := map_turn hD0.om hg6 (own_is (hD0.oe a HA2.out))
      obtain ⟨w7, hrun, hel, hg7⟩ := hm6.put HAL.out (by have := HN.out; have := HTL.out; unfold maxLen; omega) (.slice A6 ((E a).length + 1) k6)
      have hR6 := row_turn hD0.cells hg6 (NotT.own (hD0.oe a HA2.out) (by decide))
      have c26 : w6.cell? ⟨g, 2, none⟩ = some (.map (some gm)) := by rw [hR6.cell]; rfl
      have hR7 := row_turn hR6 hg7 (NotT.map hm6 _)
      have c27 : w7.cell? ⟨g, 2, none⟩ = some (.map (some gm)) := by rw [hR7.cell]; rfl
      have hx8 : Own8 b (wr.drew.alloc (.cells (sc x).toArray 32)) x := HX.out.below hBA
      obtain ⟨hD, hC, hW⟩ := hD0.elder (v := .slice A6 ((E a).length + 1) k6) a HA.out x ⟨hx8, by rw [HXL.out, pad_len]⟩ hr6 hg6 hat6 hel hg7
      have hx9 := (hx8.turn hg6 (NotT.own (hD0.oe a HA2.out) (by decide))).turn hg7 (NotT.map hm6 _)
      have HD7 := Lib.hid hD
      have HX7 := Lib.hid hx9
      have HC7 := Lib.hid (HC.out.trans ((Chg.of (F := F1) hBA).trans hC (fun y hy => .inl hy)) (fun y hy => HW.out y hy))
      have HW7 := Lib.hid (p := Wider w F _) (fun q hq => by
        rcases hW q hq with e | e
        · exact HW.out q e
        · exact .inr (Nat.le_trans HC.out.size (Nat.le_trans hBA.size e)))
      clear hD hC hW hx8 hx9 hD0 hBA hR6 hR7 hr6 hg6 hat6 hm6 hel hg7))
  all_goals
    clear c2 c2a hl0 hl1 c26 c27 hrun
    go_wp2_with (go_at_call 41; refine (ptouch HD7.out 2 (a : Int) x HX7.out HTL.out).mono ?_; rintro x8 w8 ⟨rfl, v8, F8, hD8, hC8, hW8⟩
                 have HD8 := Lib.hid hD8
                 have HC8 := Lib.hid hC8
                 have HW8 := Lib.hid hW8
                 clear hD8 hC8 hW8)
    go_ret
    exact ⟨x, F8, rfl, by rw [HXL.out, pad_of HL.out], ⟨_, _, _, _, _, n + 1, by rw [List.length_append]; have := HN.out; simp; omega, HD8.out⟩, HC7.out.trans HC8.out HW7.out, HW7.out.trans HW8.out HC7.out.size, HXN.out⟩
end
end Go.Proofs.Ytnajlineipapdaa
