/- A view: what is put; a new one. Conditions: the view lies there, over a source. -/
import Derived.Test.YtpobppoaidngeaaKd
import Derived.Carry
import Derived.Deep.RegionHeld3
set_option linter.unusedVariables false
set_option maxRecDepth 20000
namespace Go.Proofs.Ytpobppoaidngeaa
open Go.RowKit

section
variable {b : Nat} {w w' : World} {gv gm gs : Nat} {rp : Option Addr} {n : Nat} {C : Int → Option BV} {Bs : List BV} {Ks : List Bool}
/-- What is put. -/
def PutP (b : Nat) (w : World) (gv gm gs : Nat) (rp : Option Addr) (n : Nat) (C : Int → Option BV) (a : Int) (l : List UInt8) (e : Ending) (w' : World) : Prop :=
  e = .returned (.tuple #[]) ∧ ∃ y : BV, Hid (y.l = l) ∧ Hid (∀ k, (bvv y).ownBlock = some k → w.heap.size ≤ k) ∧ Hid (VV b w' gv gm gs rp (n + 1) (upC C a y)) ∧ Hid (Chg [gm] w w')
theorem own_ge {b : Nat} {w : World} {x : BV} (h : Own8 b w x) : ∀ k, (bvv x).ownBlock = some k → b ≤ k := fun k hk => (h.lt k hk).1
theorem vput (h : VV b w gv gm gs rp n C) (hb : b ≤ w.heap.size) (x : BV) (hx : Hol w x.A x.l) (hl : x.l.length ≤ 131072) (a : Int) (ha : I64 a) (hn : n ≤ 1000000) :
    Calls Try.prog 20 #[.pointer (some ⟨gv, 0, none⟩), .int .i64 a, .slice x.A x.l.length x.c] w (PutP b w gv gm gs rp n C a x.l) := by
  have c1 := h.c1
  have HC := Lib.hid (clone8 x w.drew hx hl)
  have fin : ∀ (y : BV) (w4 : World), y.l = x.l → Own8 w.heap.size w4 y → Below w.heap.size w w4 →
      ∃ w5, (Instr.mapUpdate 53 (.map (some gm)) (.int .i64 a) (bvv y)).run Try.prog w4 = .ok () w5 ∧ PutP b w gv gm gs rp n C a x.l (.returned (.tuple #[])) w5 := fun y w4 hy ho hb4 => by
    have h4 := h.below hb4
    obtain ⟨w5, r5, m5, g5⟩ := h4.map.put ha (by unfold maxLen; omega) y
    have c5 : Chg [gm] w4 w5 := (Chg.refl _ _).grown g5 (fun k hk => by injection hk with hk; subst hk; exact .inl (List.mem_singleton.2 rfl))
    have n5 : NoBytes w4 [gm] := fun j hj cs fr => by rw [List.mem_singleton] at hj; subst hj; exact h4.map.no_cells _ _ _
    refine ⟨w5, r5, rfl, y, Lib.hid hy, Lib.hid (own_ge ho), Lib.hid ⟨c5.row h4.row (fun hx => h.ne (List.mem_singleton.1 hx)), m5, fun a' x' hx' => ?_, fun a' x' hx' => ?_, h.lo⟩, Lib.hid ((Chg.of (F := [gm]) hb4).trans c5 (fun j hj => .inl hj))⟩
    · by_cases e : a' = a
      · subst e
        rw [upC_same] at hx'
        injection hx' with hx'
        subst hx'
        exact (ho.chg c5 n5).lower hb
      · rw [upC_other _ _ e] at hx'
        exact (h4.own a' x' hx').chg c5 n5
    · by_cases e : a' = a
      · subst e
        rw [upC_same] at hx'
        injection hx' with hx'
        subst hx'
        rw [hy]
        exact hl
      · rw [upC_other _ _ e] at hx'
        exact h.len a' x' hx'
  have FIN := Lib.hid fin
  have HLT := Lib.hid h.row.lt
  clear h fin hx hl ha hn hb
  go_enter Try.func20, Try.ntmps20
  go_wp2
  refine wp_region_held_drew (S := fun W => W.cell? ⟨gv, 1, none⟩ = some (.map (some gm))) (by kernel_rfl) c1 (fun hHeld => ?_)
  refine wpAnyH_take (i := 0) (oi := ⟨some 6, .move (.tmp 0), _, _, _, _⟩) (v := .pointer (some ⟨gv, 0, none⟩)) rfl (by kernel_rfl) (by kernel_rfl) (by kernel_rfl) (fun _ _ _ h => h) (.inl ⟨by rfl, fun w hSw => by go_simp⟩) (by assumption) ?_
  simp only [Act.put, List.setIfInBounds_toArray, List.set_cons_zero, List.set_cons_succ]
  refine wpAnyH_take (i := 1) (oi := ⟨some 7, .nilCheck (.tmp 6), _, _, _, _⟩) (v := .pointer (some ⟨gv, 0, none⟩)) rfl (by kernel_rfl) (by kernel_rfl) (by kernel_rfl) (fun _ _ _ h => h) (.inl ⟨by rfl, fun w hSw => by go_simp⟩) (by assumption) ?_
  simp only [Act.put, List.setIfInBounds_toArray, List.set_cons_zero, List.set_cons_succ]
  refine wpAnyH_take (i := 2) (oi := ⟨some 8, .fieldAddr 56 (.tmp 7) 1, _, _, _, _⟩) (v := .pointer (some ⟨gv, 1, none⟩)) rfl (by kernel_rfl) (by kernel_rfl) (by kernel_rfl) (fun _ _ _ h => h) (.inl ⟨by rfl, fun w hSw => by go_simp⟩) (by assumption) ?_
  simp only [Act.put, List.setIfInBounds_toArray, List.set_cons_zero, List.set_cons_succ]
  refine wpAnyH_take (i := 3) (oi := ⟨some 9, .load 53 (.tmp 8), _, _, _, _⟩) (v := .map (some gm)) rfl (by kernel_rfl) (by kernel_rfl) (by kernel_rfl) (fun _ _ _ h => h) (.inl ⟨by rfl, fun w hSw => by have z := hSw; go_simp⟩) (by assumption) ?_
  simp only [Act.put, List.setIfInBounds_toArray, List.set_cons_zero, List.set_cons_succ]
  refine wpAnyH_take (i := 4) (oi := ⟨some 10, .move (.tmp 1), _, _, _, _⟩) (v := .int .i64 a) rfl (by kernel_rfl) (by kernel_rfl) (by kernel_rfl) (fun _ _ _ h => h) (.inl ⟨by rfl, fun w hSw => by go_simp⟩) (by assumption) ?_
  simp only [Act.put, List.setIfInBounds_toArray, List.set_cons_zero, List.set_cons_succ]
  refine wpAnyH_take (i := 5) (oi := ⟨some 11, .move (.tmp 2), _, _, _, _⟩) (v := .slice x.A x.l.length x.c) rfl (by kernel_rfl) (by kernel_rfl) (by kernel_rfl) (fun _ _ _ h => h) (.inl ⟨by rfl, fun w hSw => by go_simp⟩) (by assumption) ?_
  simp only [Act.put, List.setIfInBounds_toArray, List.set_cons_zero, List.set_cons_succ]
  refine wpAnyH_ready (rs := [6]) (by kernel_rfl) (by simp) ?_
  refine AllReadyH.cons (o := ⟨some 12, .call ⟨.value (.func 32), #[.tmp 11], _⟩, _, _, _, _⟩) rfl (fun K hK => ?_) AllReadyH.nil
  go_simp
  go_at_call 32
  refine HC.out.mono ?_
  rintro e w4 ⟨y, rfl, hy, ho, hb4⟩
  have hb5 : Below w.heap.size w w4 := (below_drw w).trans hb4.out
  obtain ⟨w5, r5, hp⟩ := FIN.out y w4 hy.out ho.out hb5
  unfold bvv at r5
  have HP := Lib.hid hp
  have c4 : w4.cell? ⟨gv, 1, none⟩ = some (.map (some gm)) := ((hb5.cell (p := ⟨gv, 1, none⟩) HLT.out).trans c1)
  clear hp hy ho hb4 hb5
  refine hK.out _ _ c4 (fun hH4 => ?_)
  clear hK K
  refine wpAnyH_ready (rs := [7]) (by kernel_rfl) (by simp) ?_
  refine AllReadyH.cons (o := ⟨none, .mapUpdate 53 (.tmp 9) (.tmp 10) (.tmp 12), _, _, _, _⟩) rfl (fun K hK => ?_) AllReadyH.nil
  have c5 : w5.cell? ⟨gv, 1, none⟩ = some (.map (some gm)) := by obtain ⟨_, y', _, _, hv, _⟩ := HP.out; exact hv.out.c1
  go_simp
  refine hK.out _ _ c5 (fun hH5 => ?_)
  clear hK K
  refine wpAnyH_done (by kernel_rfl) ?_ _
  go_end0
  exact HP.out
/-- A new view. -/
theorem built_view (gs gm : Nat) : Try.prog.built 56 [(0, getV gs), (1, .map (some gm))] = some (vcs gs gm none).toArray := by kernel_rfl
theorem vnew (gs : Nat) (w : World) : Calls Try.prog 9 #[getV gs] w fun e w' => ∃ gv gm, e = .returned (.pointer (some ⟨gv, 0, none⟩)) ∧ Hid (VV w.heap.size w' gv gm gs none 0 fun _ => none) ∧ Hid (Below w.heap.size w w') := by
  obtain ⟨gV, hV⟩ : ∃ gV, getV gs = gV := ⟨_, rfl⟩
  have HB := Lib.hid (p := ∀ gm, Try.prog.built 56 [(0, gV), (1, .map (some gm))] = some (vcs gs gm none).toArray) (fun gm => by rw [← hV]; exact built_view gs gm)
  rw [hV]
  clear hV
  have hmm := @run_makeMap Try.prog
  go_enter Try.func9, Try.ntmps9
  go_wp2_with (first
    | (refine step_build rfl 56 _ rfl [(0, gV), (1, .map (some w.heap.size))] ?hv _ (HB.out _) ?_; case hv => (simp [Act.eval, Act.put]))
    | (refine step_box rfl 6 rfl 56 _ rfl _ rfl ?_; intro g3 w1 hr1 hg1 hb1 hs1; have HR1 := Lib.hid hr1; have HB1 := Lib.hid hb1; have HG1 := Lib.hid (p := w.heap.size ≤ g3) (by rw [hg1.out]; simp); clear hr1 hb1 hg1 hs1))
  go_ret
  refine ⟨g3, w.heap.size, rfl, Lib.hid ⟨HR1.out, (MC.made w).below HB1.out, (fun a x h => by cases h), (fun a x h => by cases h), HG1.out, Nat.le_refl _⟩, Lib.hid (below_nxt HB1.out (below_al w _))⟩
end
end Go.Proofs.Ytpobppoaidngeaa
