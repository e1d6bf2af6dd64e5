/- Package grant: an inode less. No conditions but those named. -/
import Derived.Test.YtcebbpdclgejdaaGv
import Derived.Deep.RegionHeld3
import Derived.Deep.MidRow
set_option linter.unusedVariables false
set_option maxRecDepth 20000
namespace Go.Proofs.Ytcebbpdclgejdaa
open Go.RowKit

section
variable {P : Program} {o : Oper} {a : Act} {w : World} {K : Act → World → Prop} {Q : Exit → Act → World → Prop}
theorem k_alloc (t : TypeId) (ho : o.op = .alloc t) (cs : List Value) (hz : ∀ w : World, (zeroValue t).run P w = .ok (.agg cs.toArray) w)
    (h : ∀ g w', Row w' g t cs → Hid (g = w.heap.size) → Below w.heap.size w w' → Hid (w'.heap.size = w.heap.size + 1) → K (a.put o.dst (.pointer (some ⟨g, 0, none⟩))) w') : Oper.wp P o a w K Q := by
  unfold Oper.wp execOp
  simp only [ho]
  simp [Instr.alloc, hz, newVar, go_sem]
  exact h _ _ (Row.made w t cs) (show _ = _ from rfl) ((Below.refl _ _).alloc (Nat.le_refl _) _) (show _ = _ by simp)
theorem k_store (ty : TypeId) (x y : Operand) (ho : o.op = .store ty x y) (g : Nat) (hx : a.eval x = .pointer (some ⟨g, 0, none⟩)) (t : TypeId) (old cs : List Value) (hy : a.eval y = .agg cs.toArray)
    (hr : Row w g t old) (hl : old.length = cs.length) (hi : (P.info? ty).map (·.size) = some cs.length) (h1 : ∀ v ∈ cs, v.oneCell' = true)
    (h : ∀ w', Row w' g t cs → w.grownBy w' (some g) → K (a.put o.dst undef) w') : Oper.wp P o a w K Q := by
  refine wp_store_row ty x y ho g cs.toArray hx hy t old.toArray hr (by simpa using hi) (by simpa using hl) (all_oneCell_toArray h1) ?_
  exact h _ (setRow_heap w g _ _ t _ hr) ⟨rfl, rfl, rfl, by simp, fun k hk hne => setRow_other w g k _ (fun e => hne (by rw [e]))⟩
end
theorem below_drw' (w : World) : Below w.heap.size w w.drew := (Below.refl _ _).drew
theorem remove_out (x : Sup) (z : Int) (h : ¬ (1 ≤ z ∧ z ≤ 64)) (w : World) : Calls Try.prog 16 #[.agg x.cs.toArray, .int .i64 z] w fun e w' => e = .returned (.agg x.cs.toArray) ∧ Below w.heap.size w w' := by
  have i1 := Lib.hid (fun x : Sup => info_cs x)
  have hz0 := Lib.hid zero_sup
  have hge : (decide ((1 : Int) ≤ z) && decide (z ≤ 64)) = false := by
    rw [Bool.and_eq_false_iff]
    simp only [decide_eq_false_iff_not]
    omega
  have HS := Lib.hid (fun w => isino_any z w)
  rw [hge] at HS
  clear hge h
  go_enter Try.func16, Try.ntmps16
  go_wp2_with (first
    | (refine step_box rfl 2 rfl 27 (.tmp 0) rfl x.cs rfl ?_; intro g2 w2 hr2 hg2 hb2 hs2
       have R2 := Lib.hid hr2
       have HB2 := Lib.hid hb2
       have Q2 := Lib.hid (p := w.heap.size ≤ g2) (by rw [hg2.out]; exact Nat.le_refl _)
       clear hr2 hb2 hg2 hs2)
    | (refine step_alloc rfl 4 rfl 27 rfl _ hz0.out ?_; intro g4 w4 hr4 hg4 hb4 hs4
       have R4 := Lib.hid hr4
       have R24 := Lib.hid (R2.out.kept hb4)
       have HB4 := Lib.hid (below_nxt hb4 HB2.out)
       have N24 := Lib.hid (p := g2 < g4) (by rw [hg4.out]; exact R2.out.lt)
       clear hr4 hb4 hg4 hs4)
    | (go_at_call 32; refine (HS.out _).mono ?_; rintro e w' ⟨rfl, rfl⟩)
    | (refine step_load rfl 16 rfl 27 (.tmp 2) rfl g2 rfl x.cs _ R24.out.all Try.underlying27 rfl (i1.out _) ?_)
    | (refine step_store rfl 27 (.tmp 4) (.tmp 16) rfl g4 (by rfl) _ sup0.cs x.cs (by rfl) R4.out (by rw [Sup.cs_len, Sup.cs_len]) (i1.out _) (Sup.cs_one _) ?_; intro w9 hr9 hg9 hs9))
  refine bodyPost_ret (results_cell_row rfl _ _ g4 _ _ _ _ rfl hr9 Try.underlying27 rfl (by simpa using i1.out _)) rfl ?_
  exact ⟨rfl, below_own HB4.out hg9 (by have := N24.out; have := Q2.out; omega)⟩
theorem remove_none (x : Sup) (k : Nat) (hk : 1 ≤ k ∧ k ≤ 64) (h0 : x.i k = 0) (w : World) : Calls Try.prog 16 #[.agg x.cs.toArray, .int .i64 (k : Int)] w fun e w' => e = .returned (.agg x.cs.toArray) ∧ Below w.heap.size w w' := by
  have i1 := Lib.hid (fun x : Sup => info_cs x)
  have hz0 := Lib.hid zero_sup
  have hge : (decide ((1 : Int) ≤ (k : Int)) && decide ((k : Int) ≤ 64)) = true := by simp; omega
  have HS := Lib.hid (fun w => isino_any (k : Int) w)
  rw [hge] at HS
  have HK := Lib.hid (p := k < 65) (by omega)
  have H0 := Lib.hid h0
  have hki : (k : Int) < 65 := by omega
  clear hge hk h0
  go_enter Try.func16, Try.ntmps16
  go_wp2_with (first
    | (refine step_box rfl 2 rfl 27 (.tmp 0) rfl x.cs rfl ?_; intro g2 w2 hr2 hg2 hb2 hs2
       have R2 := Lib.hid hr2
       have HB2 := Lib.hid hb2
       have Q2 := Lib.hid (p := w.heap.size ≤ g2) (by rw [hg2.out]; exact Nat.le_refl _)
       clear hr2 hb2 hg2 hs2)
    | (refine step_alloc rfl 4 rfl 27 rfl _ hz0.out ?_; intro g4 w4 hr4 hg4 hb4 hs4
       have R4 := Lib.hid hr4
       have R24 := Lib.hid (R2.out.kept hb4)
       have HB4 := Lib.hid (below_nxt hb4 HB2.out)
       have N24 := Lib.hid (p := g2 < g4) (by rw [hg4.out]; exact R2.out.lt)
       clear hr4 hb4 hg4 hs4)
    | (go_at_call 32; refine (HS.out _).mono ?_; rintro e w' ⟨rfl, rfl⟩
       have c1 : w4.cell? ⟨g2, 257 + k, none⟩ = some (.int .i64 0) := by rw [R24.out.cell, x.c_i HK.out, H0.out])
    | (refine step_load rfl 16 rfl 27 (.tmp 2) rfl g2 rfl x.cs _ R24.out.all Try.underlying27 rfl (i1.out _) ?_)
    | (refine step_store rfl 27 (.tmp 4) (.tmp 16) rfl g4 (by rfl) _ sup0.cs x.cs (by rfl) R4.out (by rw [Sup.cs_len, Sup.cs_len]) (i1.out _) (Sup.cs_one _) ?_; intro w9 hr9 hg9 hs9))
  refine bodyPost_ret (results_cell_row rfl _ _ g4 _ _ _ _ rfl hr9 Try.underlying27 rfl (by simpa using i1.out _)) rfl ?_
  exact ⟨rfl, below_own HB4.out hg9 (by have := N24.out; have := Q2.out; omega)⟩
/-- Without an inode. -/
def Sup.less (x : Sup) (k : Nat) : Sup := ((x.give (x.i k)).setI k 0).setO k false
set_option maxHeartbeats 2000000 in
theorem remove_ok (x : Sup) (k : Nat) (hk : 1 ≤ k ∧ k ≤ 64) (h0 : x.i k ≠ 0) (w : World) : Calls Try.prog 16 #[.agg x.cs.toArray, .int .i64 (k : Int)] w fun e w' => e = .returned (.agg (x.less k).cs.toArray) ∧ Below w.heap.size w w' := by
  have i1 := Lib.hid (fun x : Sup => info_cs x)
  have hz0 := Lib.hid zero_sup
  have hge : (decide ((1 : Int) ≤ (k : Int)) && decide ((k : Int) ≤ 64)) = true := by simp; omega
  have HS := Lib.hid (fun w => isino_any (k : Int) w)
  rw [hge] at HS
  have HK := Lib.hid (p := k < 65) (by omega)
  have hki : (k : Int) < 65 := by omega
  obtain ⟨v, hv⟩ : ∃ v, x.i k = v := ⟨_, rfl⟩
  have HGV := Lib.hid (fun w => give_any x v w)
  have hle : x.less k = ((x.give v).setI k 0).setO k false := by unfold Sup.less; rw [hv]
  rw [hle]
  obtain ⟨y, hy⟩ : ∃ y, x.give v = y := ⟨_, rfl⟩
  rw [hy] at HGV ⊢
  have hv0 : (v == 0) = false := by rw [← hv]; simpa using h0
  have HV := Lib.hid hv
  clear hge hk h0 hle hy hv
  go_enter Try.func16, Try.ntmps16
  go_wp2_with (first
    | (refine step_box rfl 2 rfl 27 (.tmp 0) rfl x.cs rfl ?_; intro g2 w2 hr2 hg2 hb2 hs2
       have R2 := Lib.hid hr2
       have HB2 := Lib.hid hb2
       have Q2 := Lib.hid (p := w.heap.size ≤ g2) (by rw [hg2.out]; exact Nat.le_refl _)
       clear hr2 hb2 hg2 hs2)
    | (refine step_alloc rfl 4 rfl 27 rfl _ hz0.out ?_; intro g4 w4 hr4 hg4 hb4 hs4
       have R4 := Lib.hid hr4
       have R24 := Lib.hid (R2.out.kept hb4)
       have HB4 := Lib.hid (below_nxt hb4 HB2.out)
       have N24 := Lib.hid (p := g2 < g4) (by rw [hg4.out]; exact R2.out.lt)
       clear hr4 hb4 hg4 hs4)
    | (go_at_call 32; refine (HS.out _).mono ?_; rintro e w' ⟨rfl, rfl⟩
       have c1 : w4.cell? ⟨g2, 257 + k, none⟩ = some (.int .i64 v) := by rw [R24.out.cell, x.c_i HK.out, HV.out]))
  clear c1
  refine wp_region_held_drew (S := fun w' => Row w' g2 27 x.cs) (by kernel_rfl) (R24.out.kept (below_drw' w4)) (fun hHeld => ?_)
  have R4 := Lib.hid (R4.out.kept (below_drw' w4))
  have HB4 := Lib.hid (below_nxt (below_drw' w4) HB4.out)
  refine wpAnyH_take (i := 0) (oi := ⟨some 17, .load 27 (.tmp 2), _, _, _, none⟩) (v := .agg x.cs.toArray) rfl (by kernel_rfl) (by kernel_rfl) (by kernel_rfl) (fun _ _ _ h => h) (yieldsIf_load_mid (by rfl) 27 (.tmp 2) rfl g2 0 rfl x.cs _ (fun w hSw => hSw.all) Try.underlying27 rfl (i1.out _)) (by assumption) ?_
  simp only [Act.put, List.setIfInBounds_toArray, List.set_cons_zero, List.set_cons_succ]
  refine wpAnyH_take (i := 1) (oi := ⟨some 18, .move (.tmp 1), _, _, _, none⟩) (v := .int .i64 (k : Int)) rfl (by kernel_rfl) (by kernel_rfl) (by kernel_rfl) (fun _ _ _ h => h) (.inl ⟨by rfl, fun w hSw => by go_simp⟩) (by assumption) ?_
  simp only [Act.put, List.setIfInBounds_toArray, List.set_cons_zero, List.set_cons_succ]
  refine wpAnyH_take (i := 2) (oi := ⟨some 19, .fieldAddr 27 (.tmp 2) 2, _, _, _, none⟩) (v := .pointer (some ⟨g2, 257, none⟩)) rfl (by kernel_rfl) (by kernel_rfl) (by kernel_rfl) (fun _ _ _ h => h) (.inl ⟨by rfl, fun w hSw => by go_simp⟩) (by assumption) ?_
  simp only [Act.put, List.setIfInBounds_toArray, List.set_cons_zero, List.set_cons_succ]
  refine wpAnyH_take (i := 3) (oi := ⟨some 20, .indexAddr 24 (.tmp 19) (.tmp 18), _, _, _, none⟩) (v := .pointer (some ⟨g2, 257 + k, none⟩)) rfl (by kernel_rfl) (by kernel_rfl) (by kernel_rfl) (fun _ _ _ h => h) (.inl ⟨by rfl, fun w hSw => by go_simp⟩) (by assumption) ?_
  simp only [Act.put, List.setIfInBounds_toArray, List.set_cons_zero, List.set_cons_succ]
  refine wpAnyH_take (i := 4) (oi := ⟨some 21, .load 3 (.tmp 20), _, _, _, none⟩) (v := .int .i64 v) rfl (by kernel_rfl) (by kernel_rfl) (by kernel_rfl) (fun _ _ _ h => h) (.inl ⟨by rfl, fun w hSw => by have c1 : w.cell? ⟨g2, 257 + k, none⟩ = some (.int .i64 v) := by { rw [hSw.cell, x.c_i HK.out, HV.out] }; go_simp⟩) (by assumption) ?_
  simp only [Act.put, List.setIfInBounds_toArray, List.set_cons_zero, List.set_cons_succ]
  refine wpAnyH_ready (rs := [5, 6]) (by kernel_rfl) (by simp) ?_
  refine AllReadyH.cons (o := ⟨some 22, .call ⟨.value (.func 17), #[.tmp 17, .tmp 21], _⟩, _, _, _, _⟩) rfl (fun K hK => ?_) (AllReadyH.cons (o := ⟨some 5, .alloc 27, _, _, _, _⟩) rfl (fun K hK => ?_) AllReadyH.nil)
  · go_simp
    refine (HGV.out _).mono ?_
    rintro e w6 ⟨rfl, hb6⟩
    have R46 := Lib.hid (R4.out.kept hb6)
    have HB6 := Lib.hid (below_nxt hb6 HB4.out)
    have hR2 : Row w6 g2 27 x.cs := hHeld.kept hb6
    clear hb6
    refine hK.out _ _ hR2 (fun _hH => ?_)
    clear hK K
    refine wpAnyH_ready (rs := [6]) (by kernel_rfl) (by simp) ?_
    refine AllReadyH.cons (o := ⟨some 5, .alloc 27, _, _, _, _⟩) rfl (fun K hK => ?_) AllReadyH.nil
    rw [if_pos (by rfl)]
    refine k_alloc 27 rfl _ hz0.out ?_
    intro g7 w7 hr7 hg7 hb7 hs7
    have R7 := Lib.hid hr7
    have R47 := Lib.hid (R46.out.kept hb7)
    have R27 := Lib.hid (hR2.kept hb7)
    have HB7 := Lib.hid (below_nxt hb7 HB6.out)
    have N47 := Lib.hid (p := g4 < g7) (by rw [hg7.out]; exact R46.out.lt)
    clear hr7 hb7 hg7 hs7
    refine hK.out _ _ R27.out (fun _hH => ?_)
    clear hK K
    refine wpAnyH_ready (rs := [7]) (by kernel_rfl) (by simp) ?_
    refine AllReadyH.cons (o := ⟨none, .store 27 (.tmp 5) (.tmp 22), _, _, _, _⟩) rfl (fun K hK => ?_) AllReadyH.nil
    rw [if_pos (by rfl)]
    refine k_store 27 (.tmp 5) (.tmp 22) rfl g7 (by rfl) _ sup0.cs y.cs (by rfl) R7.out (by rw [Sup.cs_len, Sup.cs_len]) (i1.out _) (Sup.cs_one _) ?_
    intro w8 hr8 hg8
    have R8 := Lib.hid hr8
    have R48 := Lib.hid (R47.out.grown hg8 (by intro e; injection e with e; have := N47.out; omega))
    have hR2 : Row w8 g2 27 x.cs := R27.out.grown hg8 (by intro e; injection e with e; have := N47.out; have := N24.out; omega)
    have HB8 := Lib.hid (below_own HB7.out hg8 (by have := N47.out; have := N24.out; have := Q2.out; omega))
    clear hr8 hg8
    refine hK.out _ _ hR2 (fun _hH => ?_)
    clear hK K
    refine wpAnyH_done (by kernel_rfl) ?_ _
    have f1 := R8.out.free (257 + k)
    have c1 : w8.cell? ⟨g7, 257 + k, none⟩ = some (.int .i64 (y.i k)) := by rw [R8.out.cell, y.c_i HK.out]
    have R9 := Lib.hid (p := Row (w8.setCell ⟨g7, 257 + k, none⟩ (.int .i64 0)) g7 27 (y.setI k 0).cs) (by have h := R8.out.put (257 + k) (.int .i64 0); rw [y.set_i _ HK.out] at h; exact h)
    have R49 := Lib.hid (p := Row (w8.setCell ⟨g7, 257 + k, none⟩ (.int .i64 0)) g4 27 sup0.cs) (R48.out.far (p := ⟨g7, 257 + k, none⟩) (by have := N47.out; intro e; simp at e; omega) _)
    have HB9 := Lib.hid (p := Below w.heap.size w (w8.setCell ⟨g7, 257 + k, none⟩ (.int .i64 0))) (HB8.out.setCell (show w.heap.size ≤ g7 by have := N47.out; have := N24.out; have := Q2.out; omega) _)
    obtain ⟨w9, hw9⟩ : ∃ w9, w8.setCell ⟨g7, 257 + k, none⟩ (.int .i64 0) = w9 := ⟨_, rfl⟩
    rw [hw9] at R9 R49 HB9
    have f2 := R9.out.free (322 + k)
    have c2 : w9.cell? ⟨g7, 322 + k, none⟩ = some (.bool ((y.setI k 0).o k)) := by rw [R9.out.cell, Sup.c_o _ HK.out]
    go_wp2_with (first
      | (refine step_load rfl 29 rfl 27 (.tmp 5) rfl g7 rfl ((y.setI k 0).setO k false).cs _ (Row.all (by have h := R9.out.put (322 + k) (.bool false); rw [Sup.set_o _ _ HK.out] at h; exact h)) Try.underlying27 rfl (i1.out _) ?_)
      | (refine step_store rfl 27 (.tmp 4) (.tmp 29) rfl g4 (by rfl) _ sup0.cs ((y.setI k 0).setO k false).cs (by rfl) (R49.out.far (p := ⟨g7, 322 + k, none⟩) (by have := N47.out; intro e; simp at e; omega) _) (by rw [Sup.cs_len, Sup.cs_len]) (i1.out _) (Sup.cs_one _) ?_; intro w10 hr9 hg9 hs9))
    refine bodyPost_ret (results_cell_row rfl _ _ g4 _ _ _ _ rfl hr9 Try.underlying27 rfl (by simpa using i1.out _)) rfl ?_
    exact ⟨rfl, below_own (HB9.out.setCell (show w.heap.size ≤ g7 by have := N47.out; have := N24.out; have := Q2.out; omega) _) hg9 (by have := N24.out; have := Q2.out; omega)⟩
  · rw [if_pos (by rfl)]
    refine k_alloc 27 rfl _ hz0.out ?_
    intro g7 w6 hr7 hg7 hb7 hs7
    have R6 := Lib.hid hr7
    have R46 := Lib.hid (R4.out.kept hb7)
    have hR2 : Row w6 g2 27 x.cs := hHeld.kept hb7
    have HB6 := Lib.hid (below_nxt hb7 HB4.out)
    have N47 := Lib.hid (p := g4 < g7) (by rw [hg7.out]; exact R4.out.lt)
    clear hr7 hb7 hg7 hs7
    refine hK.out _ _ hR2 (fun _hH => ?_)
    clear hK K
    refine wpAnyH_ready (rs := [5]) (by kernel_rfl) (by simp) ?_
    refine AllReadyH.cons (o := ⟨some 22, .call ⟨.value (.func 17), #[.tmp 17, .tmp 21], _⟩, _, _, _, _⟩) rfl (fun K hK => ?_) AllReadyH.nil
    go_simp
    refine (HGV.out _).mono ?_
    rintro e w7 ⟨rfl, hb6⟩
    have R7 := Lib.hid (R6.out.kept hb6)
    have R47 := Lib.hid (R46.out.kept hb6)
    have R27 := Lib.hid (hR2.kept hb6)
    have HB7 := Lib.hid (below_nxt hb6 HB6.out)
    clear hb6
    refine hK.out _ _ R27.out (fun _hH => ?_)
    clear hK K
    refine wpAnyH_ready (rs := [7]) (by kernel_rfl) (by simp) ?_
    refine AllReadyH.cons (o := ⟨none, .store 27 (.tmp 5) (.tmp 22), _, _, _, _⟩) rfl (fun K hK => ?_) AllReadyH.nil
    rw [if_pos (by rfl)]
    refine k_store 27 (.tmp 5) (.tmp 22) rfl g7 (by rfl) _ sup0.cs y.cs (by rfl) R7.out (by rw [Sup.cs_len, Sup.cs_len]) (i1.out _) (Sup.cs_one _) ?_
    intro w8 hr8 hg8
    have R8 := Lib.hid hr8
    have R48 := Lib.hid (R47.out.grown hg8 (by intro e; injection e with e; have := N47.out; omega))
    have hR2 : Row w8 g2 27 x.cs := R27.out.grown hg8 (by intro e; injection e with e; have := N47.out; have := N24.out; omega)
    have HB8 := Lib.hid (below_own HB7.out hg8 (by have := N47.out; have := N24.out; have := Q2.out; omega))
    clear hr8 hg8
    refine hK.out _ _ hR2 (fun _hH => ?_)
    clear hK K
    refine wpAnyH_done (by kernel_rfl) ?_ _
    have f1 := R8.out.free (257 + k)
    have c1 : w8.cell? ⟨g7, 257 + k, none⟩ = some (.int .i64 (y.i k)) := by rw [R8.out.cell, y.c_i HK.out]
    have R9 := Lib.hid (p := Row (w8.setCell ⟨g7, 257 + k, none⟩ (.int .i64 0)) g7 27 (y.setI k 0).cs) (by have h := R8.out.put (257 + k) (.int .i64 0); rw [y.set_i _ HK.out] at h; exact h)
    have R49 := Lib.hid (p := Row (w8.setCell ⟨g7, 257 + k, none⟩ (.int .i64 0)) g4 27 sup0.cs) (R48.out.far (p := ⟨g7, 257 + k, none⟩) (by have := N47.out; intro e; simp at e; omega) _)
    have HB9 := Lib.hid (p := Below w.heap.size w (w8.setCell ⟨g7, 257 + k, none⟩ (.int .i64 0))) (HB8.out.setCell (show w.heap.size ≤ g7 by have := N47.out; have := N24.out; have := Q2.out; omega) _)
    obtain ⟨w9, hw9⟩ : ∃ w9, w8.setCell ⟨g7, 257 + k, none⟩ (.int .i64 0) = w9 := ⟨_, rfl⟩
    rw [hw9] at R9 R49 HB9
    have f2 := R9.out.free (322 + k)
    have c2 : w9.cell? ⟨g7, 322 + k, none⟩ = some (.bool ((y.setI k 0).o k)) := by rw [R9.out.cell, Sup.c_o _ HK.out]
    go_wp2_with (first
      | (refine step_load rfl 29 rfl 27 (.tmp 5) rfl g7 rfl ((y.setI k 0).setO k false).cs _ (Row.all (by have h := R9.out.put (322 + k) (.bool false); rw [Sup.set_o _ _ HK.out] at h; exact h)) Try.underlying27 rfl (i1.out _) ?_)
      | (refine step_store rfl 27 (.tmp 4) (.tmp 29) rfl g4 (by rfl) _ sup0.cs ((y.setI k 0).setO k false).cs (by rfl) (R49.out.far (p := ⟨g7, 322 + k, none⟩) (by have := N47.out; intro e; simp at e; omega) _) (by rw [Sup.cs_len, Sup.cs_len]) (i1.out _) (Sup.cs_one _) ?_; intro w10 hr9 hg9 hs9))
    refine bodyPost_ret (results_cell_row rfl _ _ g4 _ _ _ _ rfl hr9 Try.underlying27 rfl (by simpa using i1.out _)) rfl ?_
    exact ⟨rfl, below_own (HB9.out.setCell (show w.heap.size ≤ g7 by have := N47.out; have := N24.out; have := Q2.out; omega) _) hg9 (by have := N24.out; have := Q2.out; omega)⟩
end Go.Proofs.Ytcebbpdclgejdaa
