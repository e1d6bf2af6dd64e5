/- Package grant: a new super, an inode more, an inode less. No conditions but those named. -/
import Derived.Test.YtfbfeplegdpemaaGreatMgGu
import Derived.Deep.RegionHeld3
import Derived.Deep.MidRow
import Derived.Test.YtfbfeplegdpemaaGreatGn
set_option linter.unusedVariables false
set_option maxRecDepth 20000
namespace Go.Proofs.YtfbfeplegdpemaaGreat
open Go.RowKit

/-- A new super. -/
def supN : Sup := ⟨1, fun j => j == 0, fun _ => 0, fun _ => false⟩
theorem built_supN : Tryz.prog.built 59 [(0, .int .u64 1)] = some (sup0.setS 1).cs.toArray := by kernel_rfl
theorem supN_cs : (sup0.setS 1).cs.set 1 (.bool true) = supN.cs := by kernel_rfl
theorem gnew_any (w : World) : Calls Tryz.prog 70 #[] w fun e w' => e = .returned (.agg supN.cs.toArray) ∧ Below w.heap.size w w' := by
  have i1 := Lib.hid (fun x : Sup => info_cs x)
  have hz0 := Lib.hid zero_sup
  obtain ⟨y, hy⟩ : ∃ y, sup0.setS 1 = y := ⟨_, rfl⟩
  have HBU := Lib.hid built_supN
  have HCS := Lib.hid supN_cs
  rw [hy] at HBU HCS
  clear hy
  go_enter Tryz.func70, Tryz.ntmps70
  go_wp2_with (first
    | (refine step_alloc rfl 0 rfl 59 rfl _ hz0.out ?_; intro g4 w4 hr4 hg4 hb4 hs4
       have R4 := Lib.hid hr4
       have HB4 := Lib.hid hb4
       have Q4 := Lib.hid (p := w.heap.size ≤ g4) (by rw [hg4.out]; exact Nat.le_refl _)
       clear hr4 hb4 hg4 hs4)
    | (refine step_build rfl 59 _ rfl [(0, .int .u64 1)] ?hv _ HBU.out ?_; case hv => simp [Act.eval])
    | (refine step_alloc rfl 1 rfl 59 rfl _ hz0.out ?_; intro g2 w2 hr2 hg2 hb2 hs2
       have R2 := Lib.hid hr2
       have R42 := Lib.hid (R4.out.kept hb2)
       have HB2 := Lib.hid (below_nxt hb2 HB4.out)
       have N42 := Lib.hid (p := g4 < g2) (by rw [hg2.out]; exact R4.out.lt)
       clear hr2 hb2 hg2 hs2)
    | (refine step_store rfl 59 (.tmp 1) (.tmp 2) rfl g2 (by rfl) _ sup0.cs y.cs (by rfl) R2.out (by rw [Sup.cs_len, Sup.cs_len]) (i1.out _) (Sup.cs_one _) ?_; intro w3 hr3 hg3 hs3
       have R3 := Lib.hid hr3
       have R43 := Lib.hid (R42.out.grown hg3 (by intro e; injection e with e; have := N42.out; omega))
       have HB3 := Lib.hid (below_own HB2.out hg3 (by have := N42.out; have := Q4.out; omega))
       have f1 := R3.out.free 1
       have c1 : w3.cell? ⟨g2, 1, none⟩ = some (.bool (y.u 0)) := (R3.out.cell 1).trans (y.c_u (j := 0) (by decide))
       clear hr3 hg3 hs3)
    | (refine step_load rfl 5 rfl 59 (.tmp 1) rfl g2 rfl supN.cs _ (Row.all (by have h := R3.out.put 1 (.bool true); rw [HCS.out] at h; exact h)) Tryz.underlying59 rfl (i1.out _) ?_)
    | (refine step_store rfl 59 (.tmp 0) (.tmp 5) rfl g4 (by rfl) _ sup0.cs supN.cs (by rfl) (R43.out.far (p := ⟨g2, 1, none⟩) (by have := N42.out; intro e; simp at e; omega) _) (by rw [Sup.cs_len, Sup.cs_len]) (i1.out _) (Sup.cs_one _) ?_; intro w9 hr9 hg9 hs9))
  refine bodyPost_ret (results_cell_row rfl _ _ g4 _ _ _ _ rfl hr9 Tryz.underlying59 rfl (by simpa using i1.out _)) rfl ?_
  exact ⟨rfl, below_own (HB3.out.setCell (show w.heap.size ≤ g2 by have := N42.out; have := Q4.out; omega) _) hg9 Q4.out⟩
/-! An inode more. -/
theorem add_full (x : Sup) (z : Int) (hb : ∀ j, j < 64 → x.i (j + 1) ≠ 0) (w : World) : Calls Tryz.prog 38 #[.agg x.cs.toArray, .int .i64 z] w fun e w' => e = .returned (.tuple #[.agg x.cs.toArray, .int .i64 0, .int .i64 23]) ∧ Below w.heap.size w w' := by
  have i1 := Lib.hid (fun x : Sup => info_cs x)
  have hz0 := Lib.hid zero_sup
  have HSP := Lib.hid (fun w => spare_no x hb w)
  clear hb
  go_enter Tryz.func38, Tryz.ntmps38
  go_wp2_with (first
    | (refine step_box rfl 2 rfl 59 (.tmp 0) rfl x.cs rfl ?_; intro g2 w2 hr2 hg2 hb2 hs2
       have R2 := Lib.hid hr2
       have HB2 := Lib.hid hb2
       have Q2 := Lib.hid (p := w.heap.size ≤ g2) (by rw [hg2.out]; exact Nat.le_refl _)
       clear hr2 hb2 hg2 hs2)
    | (refine step_alloc rfl 4 rfl 59 rfl _ hz0.out ?_; intro g4 w4 hr4 hg4 hb4 hs4
       have R4 := Lib.hid hr4
       have R24 := Lib.hid (R2.out.kept hb4)
       have HB4 := Lib.hid (below_nxt hb4 HB2.out)
       have N24 := Lib.hid (p := g2 < g4) (by rw [hg4.out]; exact R2.out.lt)
       clear hr4 hb4 hg4 hs4)
    | (refine step_load rfl 13 rfl 59 (.tmp 2) rfl g2 rfl x.cs _ R24.out.all Tryz.underlying59 rfl (i1.out _) ?_)
    | (go_at_call 71; refine (HSP.out _).mono ?_; rintro e w5 ⟨rfl, hb5⟩
       have R25 := Lib.hid (R24.out.kept hb5)
       have R45 := Lib.hid (R4.out.kept hb5)
       have HB5 := Lib.hid (below_nxt hb5 HB4.out)
       clear hb5)
    | (refine step_load rfl 19 rfl 59 (.tmp 2) rfl g2 rfl x.cs _ R25.out.all Tryz.underlying59 rfl (i1.out _) ?_)
    | (refine step_store rfl 59 (.tmp 4) (.tmp 19) rfl g4 (by rfl) _ sup0.cs x.cs (by rfl) R45.out (by rw [Sup.cs_len, Sup.cs_len]) (i1.out _) (Sup.cs_one _) ?_; intro w9 hr9 hg9 hs9))
  refine bodyPost_ret (results_row_two rfl _ _ g4 _ _ _ _ rfl hr9 Tryz.underlying59 rfl (by simpa using i1.out _)) rfl ?_
  exact ⟨rfl, below_own HB5.out hg9 (by have := N24.out; have := Q2.out; omega)⟩
theorem add_ok (x : Sup) (z : Int) (k s : Nat) (hk : k < 64) (h0 : x.i (k + 1) = 0) (hb : ∀ j, j < k → x.i (j + 1) ≠ 0) (hs : s < 256) (hz : (s : Int) < z) (hu : x.u s = false) (hn : ∀ j : Nat, j < s → x.u j = true) (w : World) : Calls Tryz.prog 38 #[.agg x.cs.toArray, .int .i64 z] w fun e w' => e = .returned (.tuple #[.agg ((x.setU s true).setI (k + 1) s).cs.toArray, .int .i64 ((k + 1 : Nat) : Int), .int .i64 0]) ∧ Below w.heap.size w w' := by
  have i1 := Lib.hid (fun x : Sup => info_cs x)
  have hz0 := Lib.hid zero_sup
  have HSP := Lib.hid (fun w => spare_ok x k hk h0 hb w)
  have HTK := Lib.hid (fun w => take_ok x z s hs hz hu hn w)
  obtain ⟨kk, hkk⟩ : ∃ kk, k + 1 = kk := ⟨_, rfl⟩
  rw [hkk] at HSP ⊢
  obtain ⟨y, hy⟩ : ∃ y, x.setU s true = y := ⟨_, rfl⟩
  rw [hy] at HTK ⊢
  have hk65 : (kk : Int) < 65 := by omega
  have HKN := Lib.hid (p := kk < 65) (by omega)
  clear hk h0 hb hn hkk hs hz hu hy
  go_enter Tryz.func38, Tryz.ntmps38
  go_wp2_with (first
    | (refine step_box rfl 2 rfl 59 (.tmp 0) rfl x.cs rfl ?_; intro g2 w2 hr2 hg2 hb2 hs2
       have R2 := Lib.hid hr2
       have HB2 := Lib.hid hb2
       have Q2 := Lib.hid (p := w.heap.size ≤ g2) (by rw [hg2.out]; exact Nat.le_refl _)
       clear hr2 hb2 hg2 hs2)
    | (refine step_alloc rfl 4 rfl 59 rfl _ hz0.out ?_; intro g4 w4 hr4 hg4 hb4 hs4
       have R4 := Lib.hid hr4
       have R24 := Lib.hid (R2.out.kept hb4)
       have HB4 := Lib.hid (below_nxt hb4 HB2.out)
       have N24 := Lib.hid (p := g2 < g4) (by rw [hg4.out]; exact R2.out.lt)
       clear hr4 hb4 hg4 hs4)
    | (refine step_load rfl 13 rfl 59 (.tmp 2) rfl g2 rfl x.cs _ R24.out.all Tryz.underlying59 rfl (i1.out _) ?_)
    | (go_at_call 71; refine (HSP.out _).mono ?_; rintro e w5 ⟨rfl, hb5⟩
       have R25 := Lib.hid (R24.out.kept hb5)
       have R45 := Lib.hid (R4.out.kept hb5)
       have HB5 := Lib.hid (below_nxt hb5 HB4.out)
       clear hb5)
    | (refine step_load rfl 21 rfl 59 (.tmp 2) rfl g2 rfl x.cs _ R25.out.all Tryz.underlying59 rfl (i1.out _) ?_)
    | (go_at_call 72; refine (HTK.out _).mono ?_; rintro e w6 ⟨rfl, hb6⟩
       have R26 := Lib.hid (R25.out.kept hb6)
       have R46 := Lib.hid (R45.out.kept hb6)
       have HB6 := Lib.hid (below_nxt hb6 HB5.out)
       clear hb6)
    | (refine step_alloc rfl 9 rfl 59 rfl _ hz0.out ?_; intro g7 w7 hr7 hg7 hb7 hs7
       have R7 := Lib.hid hr7
       have R47 := Lib.hid (R46.out.kept hb7)
       have HB7 := Lib.hid (below_nxt hb7 HB6.out)
       have N47 := Lib.hid (p := g4 < g7) (by rw [hg7.out]; exact R46.out.lt)
       clear hr7 hb7 hg7 hs7)
    | (refine step_store rfl 59 (.tmp 9) (.tmp 24) rfl g7 (by rfl) _ sup0.cs y.cs (by rfl) R7.out (by rw [Sup.cs_len, Sup.cs_len]) (i1.out _) (Sup.cs_one _) ?_; intro w8 hr8 hg8 hs8
       have R8 := Lib.hid hr8
       have R48 := Lib.hid (R47.out.grown hg8 (by intro e; injection e with e; have := N47.out; omega))
       have HB8 := Lib.hid (below_own HB7.out hg8 (by have := N47.out; have := N24.out; have := Q2.out; omega))
       have f1 := R8.out.free (257 + kk)
       have c1 : w8.cell? ⟨g7, 257 + kk, none⟩ = some (.int .i64 (y.i kk)) := by rw [R8.out.cell, y.c_i HKN.out]
       clear hr8 hg8 hs8)
    | (refine step_load rfl 35 rfl 59 (.tmp 9) rfl g7 rfl (y.setI kk s).cs _ (Row.all (by have h := R8.out.put (257 + kk) (.int .i64 s); rw [y.set_i _ HKN.out] at h; exact h)) Tryz.underlying59 rfl (i1.out _) ?_)
    | (refine step_store rfl 59 (.tmp 4) (.tmp 35) rfl g4 (by rfl) _ sup0.cs (y.setI kk s).cs (by rfl) (R48.out.far (p := ⟨g7, 257 + kk, none⟩) (by have := N47.out; intro e; simp at e; omega) _) (by rw [Sup.cs_len, Sup.cs_len]) (i1.out _) (Sup.cs_one _) ?_; intro w9 hr9 hg9 hs9))
  refine bodyPost_ret (results_row_two rfl _ _ g4 _ _ _ _ rfl hr9 Tryz.underlying59 rfl (by simpa using i1.out _)) rfl ?_
  exact ⟨rfl, below_own (HB8.out.setCell (show w.heap.size ≤ g7 by have := N47.out; have := N24.out; have := Q2.out; omega) _) hg9 (by have := N24.out; have := Q2.out; omega)⟩
end Go.Proofs.YtfbfeplegdpemaaGreat
/- Package grant: an inode less. No conditions but those named. -/
set_option linter.unusedVariables false
set_option maxRecDepth 20000
namespace Go.Proofs.YtfbfeplegdpemaaGreat
open Go.RowKit

section
variable {P : Program} {o : Oper} {a : Act} {w : World} {K : Act → World → Prop} {Q : Exit → Act → World → Prop}
theorem k_alloc (t : TypeId) (ho : o.op = .alloc t) (cs : List Value) (hz : ∀ w : World, (zeroValue t).run P w = .ok (.agg cs.toArray) w)
    (h : ∀ g w', Row w' g t cs → Hid (g = w.heap.size) → Below w.heap.size w w' → Hid (w'.heap.size = w.heap.size + 1) → K (a.put o.dst (.pointer (some ⟨g, 0, none⟩))) w') : Oper.wp P o a w K Q := by
  unfold Oper.wp execOp
  simp only [ho]
  simp [Instr.alloc, hz, newVar, go_sem]
  exact h _ _ (Row.made w t cs) (show _ = _ from rfl) ((Below.refl _ _).alloc (Nat.le_refl _) _) (show _ = _ by simp)
theorem k_store (ty : TypeId) (x y : Operand) (ho : o.op = .store ty x y) (g : Nat) (hx : a.eval x = .pointer (some ⟨g, 0, none⟩)) (t : TypeId) (old cs : List Value) (hy : a.eval y = .agg cs.toArray)
    (hr : Row w g t old) (hl : old.length = cs.length) (hi : (P.info? ty).map (·.size) = some cs.length) (h1 : ∀ v ∈ cs, v.oneCell' = true)
    (h : ∀ w', Row w' g t cs → w.grownBy w' (some g) → K (a.put o.dst undef) w') : Oper.wp P o a w K Q := by
  refine wp_store_row ty x y ho g cs.toArray hx hy t old.toArray hr (by simpa using hi) (by simpa using hl) (all_oneCell_toArray h1) ?_
  exact h _ (setRow_heap w g _ _ t _ hr) ⟨rfl, rfl, rfl, by simp, fun k hk hne => setRow_other w g k _ (fun e => hne (by rw [e]))⟩
end
theorem below_drw' (w : World) : Below w.heap.size w w.drew := (Below.refl _ _).drew
/-- Without an inode. -/
def Sup.less (x : Sup) (k : Nat) : Sup := ((x.give (x.i k)).setI k 0).setO k false
set_option maxHeartbeats 2000000 in
theorem remove_ok (x : Sup) (k : Nat) (hk : 1 ≤ k ∧ k ≤ 64) (h0 : x.i k ≠ 0) (w : World) : Calls Tryz.prog 58 #[.agg x.cs.toArray, .int .i64 (k : Int)] w fun e w' => e = .returned (.agg (x.less k).cs.toArray) ∧ Below w.heap.size w w' := by
  have i1 := Lib.hid (fun x : Sup => info_cs x)
  have hz0 := Lib.hid zero_sup
  have hge : (decide ((1 : Int) ≤ (k : Int)) && decide ((k : Int) ≤ 64)) = true := by simp; omega
  have HS := Lib.hid (fun w => isino_any (k : Int) w)
  rw [hge] at HS
  have HK := Lib.hid (p := k < 65) (by omega)
  have hki : (k : Int) < 65 := by omega
  obtain ⟨v, hv⟩ : ∃ v, x.i k = v := ⟨_, rfl⟩
  have HGV := Lib.hid (fun w => give_any x v w)
  have hle : x.less k = ((x.give v).setI k 0).setO k false := by unfold Sup.less; rw [hv]
  rw [hle]
  obtain ⟨y, hy⟩ : ∃ y, x.give v = y := ⟨_, rfl⟩
  rw [hy] at HGV ⊢
  have hv0 : (v == 0) = false := by rw [← hv]; simpa using h0
  have HV := Lib.hid hv
  clear hge hk h0 hle hy hv
  go_enter Tryz.func58, Tryz.ntmps58
  go_wp2_with (first
    | (refine step_box rfl 2 rfl 59 (.tmp 0) rfl x.cs rfl ?_; intro g2 w2 hr2 hg2 hb2 hs2
       have R2 := Lib.hid hr2
       have HB2 := Lib.hid hb2
       have Q2 := Lib.hid (p := w.heap.size ≤ g2) (by rw [hg2.out]; exact Nat.le_refl _)
       clear hr2 hb2 hg2 hs2)
    | (refine step_alloc rfl 4 rfl 59 rfl _ hz0.out ?_; intro g4 w4 hr4 hg4 hb4 hs4
       have R4 := Lib.hid hr4
       have R24 := Lib.hid (R2.out.kept hb4)
       have HB4 := Lib.hid (below_nxt hb4 HB2.out)
       have N24 := Lib.hid (p := g2 < g4) (by rw [hg4.out]; exact R2.out.lt)
       clear hr4 hb4 hg4 hs4)
    | (go_at_call 87; refine (HS.out _).mono ?_; rintro e w' ⟨rfl, rfl⟩
       have c1 : w4.cell? ⟨g2, 257 + k, none⟩ = some (.int .i64 v) := by rw [R24.out.cell, x.c_i HK.out, HV.out]))
  clear c1
  refine wp_region_held_drew (S := fun w' => Row w' g2 59 x.cs) (by kernel_rfl) (R24.out.kept (below_drw' w4)) (fun hHeld => ?_)
  have R4 := Lib.hid (R4.out.kept (below_drw' w4))
  have HB4 := Lib.hid (below_nxt (below_drw' w4) HB4.out)
  refine wpAnyH_take (i := 0) (oi := ⟨some 17, .load 59 (.tmp 2), _, _, _, none⟩) (v := .agg x.cs.toArray) rfl (by kernel_rfl) (by kernel_rfl) (by kernel_rfl) (fun _ _ _ h => h) (yieldsIf_load_mid (by rfl) 59 (.tmp 2) rfl g2 0 rfl x.cs _ (fun w hSw => hSw.all) Tryz.underlying59 rfl (i1.out _)) (by assumption) ?_
  simp only [Act.put, List.setIfInBounds_toArray, List.set_cons_zero, List.set_cons_succ]
  refine wpAnyH_take (i := 1) (oi := ⟨some 18, .move (.tmp 1), _, _, _, none⟩) (v := .int .i64 (k : Int)) rfl (by kernel_rfl) (by kernel_rfl) (by kernel_rfl) (fun _ _ _ h => h) (.inl ⟨by rfl, fun w hSw => by go_simp⟩) (by assumption) ?_
  simp only [Act.put, List.setIfInBounds_toArray, List.set_cons_zero, List.set_cons_succ]
  refine wpAnyH_take (i := 2) (oi := ⟨some 19, .fieldAddr 59 (.tmp 2) 2, _, _, _, none⟩) (v := .pointer (some ⟨g2, 257, none⟩)) rfl (by kernel_rfl) (by kernel_rfl) (by kernel_rfl) (fun _ _ _ h => h) (.inl ⟨by rfl, fun w hSw => by go_simp⟩) (by assumption) ?_
  simp only [Act.put, List.setIfInBounds_toArray, List.set_cons_zero, List.set_cons_succ]
  refine wpAnyH_take (i := 3) (oi := ⟨some 20, .indexAddr 56 (.tmp 19) (.tmp 18), _, _, _, none⟩) (v := .pointer (some ⟨g2, 257 + k, none⟩)) rfl (by kernel_rfl) (by kernel_rfl) (by kernel_rfl) (fun _ _ _ h => h) (.inl ⟨by rfl, fun w hSw => by go_simp⟩) (by assumption) ?_
  simp only [Act.put, List.setIfInBounds_toArray, List.set_cons_zero, List.set_cons_succ]
  refine wpAnyH_take (i := 4) (oi := ⟨some 21, .load 3 (.tmp 20), _, _, _, none⟩) (v := .int .i64 v) rfl (by kernel_rfl) (by kernel_rfl) (by kernel_rfl) (fun _ _ _ h => h) (.inl ⟨by rfl, fun w hSw => by have c1 : w.cell? ⟨g2, 257 + k, none⟩ = some (.int .i64 v) := by { rw [hSw.cell, x.c_i HK.out, HV.out] }; go_simp⟩) (by assumption) ?_
  simp only [Act.put, List.setIfInBounds_toArray, List.set_cons_zero, List.set_cons_succ]
  refine wpAnyH_ready (rs := [5, 6]) (by kernel_rfl) (by simp) ?_
  refine AllReadyH.cons (o := ⟨some 22, .call ⟨.value (.func 86), #[.tmp 17, .tmp 21], _⟩, _, _, _, _⟩) rfl (fun K hK => ?_) (AllReadyH.cons (o := ⟨some 5, .alloc 59, _, _, _, _⟩) rfl (fun K hK => ?_) AllReadyH.nil)
  · go_simp
    refine (HGV.out _).mono ?_
    rintro e w6 ⟨rfl, hb6⟩
    have R46 := Lib.hid (R4.out.kept hb6)
    have HB6 := Lib.hid (below_nxt hb6 HB4.out)
    have hR2 : Row w6 g2 59 x.cs := hHeld.kept hb6
    clear hb6
    refine hK.out _ _ hR2 (fun _hH => ?_)
    clear hK K
    refine wpAnyH_ready (rs := [6]) (by kernel_rfl) (by simp) ?_
    refine AllReadyH.cons (o := ⟨some 5, .alloc 59, _, _, _, _⟩) rfl (fun K hK => ?_) AllReadyH.nil
    rw [if_pos (by rfl)]
    refine k_alloc 59 rfl _ hz0.out ?_
    intro g7 w7 hr7 hg7 hb7 hs7
    have R7 := Lib.hid hr7
    have R47 := Lib.hid (R46.out.kept hb7)
    have R27 := Lib.hid (hR2.kept hb7)
    have HB7 := Lib.hid (below_nxt hb7 HB6.out)
    have N47 := Lib.hid (p := g4 < g7) (by rw [hg7.out]; exact R46.out.lt)
    clear hr7 hb7 hg7 hs7
    refine hK.out _ _ R27.out (fun _hH => ?_)
    clear hK K
    refine wpAnyH_ready (rs := [7]) (by kernel_rfl) (by simp) ?_
    refine AllReadyH.cons (o := ⟨none, .store 59 (.tmp 5) (.tmp 22), _, _, _, _⟩) rfl (fun K hK => ?_) AllReadyH.nil
    rw [if_pos (by rfl)]
    refine k_store 59 (.tmp 5) (.tmp 22) rfl g7 (by rfl) _ sup0.cs y.cs (by rfl) R7.out (by rw [Sup.cs_len, Sup.cs_len]) (i1.out _) (Sup.cs_one _) ?_
    intro w8 hr8 hg8
    have R8 := Lib.hid hr8
    have R48 := Lib.hid (R47.out.grown hg8 (by intro e; injection e with e; have := N47.out; omega))
    have hR2 : Row w8 g2 59 x.cs := R27.out.grown hg8 (by intro e; injection e with e; have := N47.out; have := N24.out; omega)
    have HB8 := Lib.hid (below_own HB7.out hg8 (by have := N47.out; have := N24.out; have := Q2.out; omega))
    clear hr8 hg8
    refine hK.out _ _ hR2 (fun _hH => ?_)
    clear hK K
    refine wpAnyH_done (by kernel_rfl) ?_ _
    have f1 := R8.out.free (257 + k)
    have c1 : w8.cell? ⟨g7, 257 + k, none⟩ = some (.int .i64 (y.i k)) := by rw [R8.out.cell, y.c_i HK.out]
    have R9 := Lib.hid (p := Row (w8.setCell ⟨g7, 257 + k, none⟩ (.int .i64 0)) g7 59 (y.setI k 0).cs) (by have h := R8.out.put (257 + k) (.int .i64 0); rw [y.set_i _ HK.out] at h; exact h)
    have R49 := Lib.hid (p := Row (w8.setCell ⟨g7, 257 + k, none⟩ (.int .i64 0)) g4 59 sup0.cs) (R48.out.far (p := ⟨g7, 257 + k, none⟩) (by have := N47.out; intro e; simp at e; omega) _)
    have HB9 := Lib.hid (p := Below w.heap.size w (w8.setCell ⟨g7, 257 + k, none⟩ (.int .i64 0))) (HB8.out.setCell (show w.heap.size ≤ g7 by have := N47.out; have := N24.out; have := Q2.out; omega) _)
    obtain ⟨w9, hw9⟩ : ∃ w9, w8.setCell ⟨g7, 257 + k, none⟩ (.int .i64 0) = w9 := ⟨_, rfl⟩
    rw [hw9] at R9 R49 HB9
    have f2 := R9.out.free (322 + k)
    have c2 : w9.cell? ⟨g7, 322 + k, none⟩ = some (.bool ((y.setI k 0).o k)) := by rw [R9.out.cell, Sup.c_o _ HK.out]
    go_wp2_with (first
      | (refine step_load rfl 29 rfl 59 (.tmp 5) rfl g7 rfl ((y.setI k 0).setO k false).cs _ (Row.all (by have h := R9.out.put (322 + k) (.bool false); rw [Sup.set_o _ _ HK.out] at h; exact h)) Tryz.underlying59 rfl (i1.out _) ?_)
      | (refine step_store rfl 59 (.tmp 4) (.tmp 29) rfl g4 (by rfl) _ sup0.cs ((y.setI k 0).setO k false).cs (by rfl) (R49.out.far (p := ⟨g7, 322 + k, none⟩) (by have := N47.out; intro e; simp at e; omega) _) (by rw [Sup.cs_len, Sup.cs_len]) (i1.out _) (Sup.cs_one _) ?_; intro w10 hr9 hg9 hs9))
    refine bodyPost_ret (results_cell_row rfl _ _ g4 _ _ _ _ rfl hr9 Tryz.underlying59 rfl (by simpa using i1.out _)) rfl ?_
    exact ⟨rfl, below_own (HB9.out.setCell (show w.heap.size ≤ g7 by have := N47.out; have := N24.out; have := Q2.out; omega) _) hg9 (by have := N24.out; have := Q2.out; omega)⟩
  · rw [if_pos (by rfl)]
    refine k_alloc 59 rfl _ hz0.out ?_
    intro g7 w6 hr7 hg7 hb7 hs7
    have R6 := Lib.hid hr7
    have R46 := Lib.hid (R4.out.kept hb7)
    have hR2 : Row w6 g2 59 x.cs := hHeld.kept hb7
    have HB6 := Lib.hid (below_nxt hb7 HB4.out)
    have N47 := Lib.hid (p := g4 < g7) (by rw [hg7.out]; exact R4.out.lt)
    clear hr7 hb7 hg7 hs7
    refine hK.out _ _ hR2 (fun _hH => ?_)
    clear hK K
    refine wpAnyH_ready (rs := [5]) (by kernel_rfl) (by simp) ?_
    refine AllReadyH.cons (o := ⟨some 22, .call ⟨.value (.func 86), #[.tmp 17, .tmp 21], _⟩, _, _, _, _⟩) rfl (fun K hK => ?_) AllReadyH.nil
    go_simp
    refine (HGV.out _).mono ?_
    rintro e w7 ⟨rfl, hb6⟩
    have R7 := Lib.hid (R6.out.kept hb6)
    have R47 := Lib.hid (R46.out.kept hb6)
    have R27 := Lib.hid (hR2.kept hb6)
    have HB7 := Lib.hid (below_nxt hb6 HB6.out)
    clear hb6
    refine hK.out _ _ R27.out (fun _hH => ?_)
    clear hK K
    refine wpAnyH_ready (rs := [7]) (by kernel_rfl) (by simp) ?_
    refine AllReadyH.cons (o := ⟨none, .store 59 (.tmp 5) (.tmp 22), _, _, _, _⟩) rfl (fun K hK => ?_) AllReadyH.nil
    rw [if_pos (by rfl)]
    refine k_store 59 (.tmp 5) (.tmp 22) rfl g7 (by rfl) _ sup0.cs y.cs (by rfl) R7.out (by rw [Sup.cs_len, Sup.cs_len]) (i1.out _) (Sup.cs_one _) ?_
    intro w8 hr8 hg8
    have R8 := Lib.hid hr8
    have R48 := Lib.hid (R47.out.grown hg8 (by intro e; injection e with e; have := N47.out; omega))
    have hR2 : Row w8 g2 59 x.cs := R27.out.grown hg8 (by intro e; injection e with e; have := N47.out; have := N24.out; omega)
    have HB8 := Lib.hid (below_own HB7.out hg8 (by have := N47.out; have := N24.out; have := Q2.out; omega))
    clear hr8 hg8
    refine hK.out _ _ hR2 (fun _hH => ?_)
    clear hK K
    refine wpAnyH_done (by kernel_rfl) ?_ _
    have f1 := R8.out.free (257 + k)
    have c1 : w8.cell? ⟨g7, 257 + k, none⟩ = some (.int .i64 (y.i k)) := by rw [R8.out.cell, y.c_i HK.out]
    have R9 := Lib.hid (p := Row (w8.setCell ⟨g7, 257 + k, none⟩ (.int .i64 0)) g7 59 (y.setI k 0).cs) (by have h := R8.out.put (257 + k) (.int .i64 0); rw [y.set_i _ HK.out] at h; exact h)
    have R49 := Lib.hid (p := Row (w8.setCell ⟨g7, 257 + k, none⟩ (.int .i64 0)) g4 59 sup0.cs) (R48.out.far (p := ⟨g7, 257 + k, none⟩) (by have := N47.out; intro e; simp at e; omega) _)
    have HB9 := Lib.hid (p := Below w.heap.size w (w8.setCell ⟨g7, 257 + k, none⟩ (.int .i64 0))) (HB8.out.setCell (show w.heap.size ≤ g7 by have := N47.out; have := N24.out; have := Q2.out; omega) _)
    obtain ⟨w9, hw9⟩ : ∃ w9, w8.setCell ⟨g7, 257 + k, none⟩ (.int .i64 0) = w9 := ⟨_, rfl⟩
    rw [hw9] at R9 R49 HB9
    have f2 := R9.out.free (322 + k)
    have c2 : w9.cell? ⟨g7, 322 + k, none⟩ = some (.bool ((y.setI k 0).o k)) := by rw [R9.out.cell, Sup.c_o _ HK.out]
    go_wp2_with (first
      | (refine step_load rfl 29 rfl 59 (.tmp 5) rfl g7 rfl ((y.setI k 0).setO k false).cs _ (Row.all (by have h := R9.out.put (322 + k) (.bool false); rw [Sup.set_o _ _ HK.out] at h; exact h)) Tryz.underlying59 rfl (i1.out _) ?_)
      | (refine step_store rfl 59 (.tmp 4) (.tmp 29) rfl g4 (by rfl) _ sup0.cs ((y.setI k 0).setO k false).cs (by rfl) (R49.out.far (p := ⟨g7, 322 + k, none⟩) (by have := N47.out; intro e; simp at e; omega) _) (by rw [Sup.cs_len, Sup.cs_len]) (i1.out _) (Sup.cs_one _) ?_; intro w10 hr9 hg9 hs9))
    refine bodyPost_ret (results_cell_row rfl _ _ g4 _ _ _ _ rfl hr9 Tryz.underlying59 rfl (by simpa using i1.out _)) rfl ?_
    exact ⟨rfl, below_own (HB9.out.setCell (show w.heap.size ≤ g7 by have := N47.out; have := N24.out; have := Q2.out; omega) _) hg9 (by have := N24.out; have := Q2.out; omega)⟩
end Go.Proofs.YtfbfeplegdpemaaGreat
/- Steps that came in; what keeps a super one that may be. Conditions: those named. -/
set_option linter.unusedVariables false
set_option maxRecDepth 20000
namespace Go.Proofs.YtfbfeplegdpemaaGreat
open Go.RowKit

/-! What keeps it. -/
theorem may_N : supN.May := by
  refine ⟨by decide, rfl, rfl, fun j hj => ?_⟩
  unfold Sup.OkA
  exact (if_pos rfl).mpr rfl
theorem may_take (x : Sup) (h : x.May) (k : Nat) : (x.setU k true).May := by
  refine ⟨h.1, ?_, h.2.2.1, fun j hj => ?_⟩
  · show at1 x.u k true 0 = true
    by_cases e : 0 = k
    · rw [← e, at1_same]
    · rw [at1_other _ _ e]; exact h.2.1
  · have h1 := h.2.2.2 j hj
    unfold Sup.OkA at h1 ⊢
    show if x.i j = 0 then x.o j = false else (0 ≤ x.i j ∧ x.i j < 256 ∧ at1 x.u k true (x.i j).toNat = true ∧ ∀ k, k < j → x.i k ≠ x.i j)
    by_cases h0 : x.i j = 0
    · rw [if_pos h0] at h1 ⊢
      exact h1
    · rw [if_neg h0] at h1 ⊢
      refine ⟨h1.1, h1.2.1, ?_, h1.2.2.2⟩
      by_cases e : (x.i j).toNat = k
      · rw [e, at1_same]
      · rw [at1_other _ _ e]; exact h1.2.2.1
theorem oka_used {x : Sup} {j : Nat} (h : x.OkA j) (h0 : x.i j ≠ 0) : 0 ≤ x.i j ∧ x.i j < 256 ∧ x.u (x.i j).toNat = true ∧ ∀ k, k < j → x.i k ≠ x.i j := by
  unfold Sup.OkA at h
  rwa [if_neg h0] at h
theorem may_add (x : Sup) (h : x.May) (k s : Nat) (hk : k < 64) (h0 : x.i (k + 1) = 0) (hs : s < 256) (hu : x.u s = false) : ((x.setU s true).setI (k + 1) s).May := by
  have hs0 : s ≠ 0 := fun e => by rw [e, h.2.1] at hu; cases hu
  have hno : ∀ j, j < 65 → x.i j ≠ (s : Int) := fun j hj e => by
    have h1 := (oka_used (h.2.2.2 j hj) (by rw [e]; omega)).2.2.1
    rw [e, Int.toNat_natCast, hu] at h1
    cases h1
  have ht := may_take x h s
  refine ⟨h.1, ht.2.1, ?_, fun j hj => ?_⟩
  · show at1 x.i (k + 1) (s : Int) 0 = 0
    rw [at1_other _ _ (by omega)]
    exact h.2.2.1
  · have h1 := ht.2.2.2 j hj
    unfold Sup.OkA at h1 ⊢
    change if x.i j = 0 then x.o j = false else (0 ≤ x.i j ∧ x.i j < 256 ∧ at1 x.u s true (x.i j).toNat = true ∧ ∀ k, k < j → x.i k ≠ x.i j) at h1
    show if at1 x.i (k + 1) (s : Int) j = 0 then x.o j = false else (0 ≤ at1 x.i (k + 1) (s : Int) j ∧ at1 x.i (k + 1) (s : Int) j < 256 ∧ at1 x.u s true (at1 x.i (k + 1) (s : Int) j).toNat = true ∧ ∀ k2, k2 < j → at1 x.i (k + 1) (s : Int) k2 ≠ at1 x.i (k + 1) (s : Int) j)
    by_cases e : j = k + 1
    · subst e
      rw [at1_same, if_neg (by omega)]
      refine ⟨by omega, by omega, by rw [Int.toNat_natCast, at1_same], fun k2 hk2 => ?_⟩
      rw [at1_other _ _ (by omega)]
      exact hno k2 (by omega)
    · rw [at1_other _ _ e]
      by_cases hj0 : x.i j = 0
      · rw [if_pos hj0] at h1 ⊢
        exact h1
      · rw [if_neg hj0] at h1 ⊢
        refine ⟨h1.1, h1.2.1, h1.2.2.1, fun k2 hk2 => ?_⟩
        by_cases e2 : k2 = k + 1
        · subst e2
          rw [at1_same]
          exact fun e3 => hno j hj e3.symm
        · rw [at1_other _ _ e2]
          exact h1.2.2.2 k2 hk2
theorem may_less (x : Sup) (h : x.May) (k : Nat) (hk : 1 ≤ k ∧ k ≤ 64) (h0 : x.i k ≠ 0) : (x.less k).May ∧ (x.less k).s = x.s := by
  obtain ⟨b1, b2, b3, b4⟩ := oka_used (h.2.2.2 k (by omega)) h0
  have hg : x.give (x.i k) = x.setU (x.i k).toNat false := by unfold Sup.give; rw [if_pos (by omega)]
  unfold Sup.less
  rw [hg]
  refine ⟨⟨h.1, ?_, ?_, fun j hj => ?_⟩, rfl⟩
  · show at1 x.u (x.i k).toNat false 0 = true
    rw [at1_other _ _ (by omega)]
    exact h.2.1
  · show at1 x.i k 0 0 = 0
    rw [at1_other _ _ (by omega)]
    exact h.2.2.1
  · unfold Sup.OkA
    show if at1 x.i k 0 j = 0 then at1 x.o k false j = false else (0 ≤ at1 x.i k 0 j ∧ at1 x.i k 0 j < 256 ∧ at1 x.u (x.i k).toNat false (at1 x.i k 0 j).toNat = true ∧ ∀ k2, k2 < j → at1 x.i k 0 k2 ≠ at1 x.i k 0 j)
    by_cases e : j = k
    · subst e
      rw [at1_same, if_pos rfl, at1_same]
    · rw [at1_other _ _ e, at1_other _ _ e]
      have h1 := h.2.2.2 j hj
      by_cases hj0 : x.i j = 0
      · unfold Sup.OkA at h1
        rw [if_pos hj0] at h1 ⊢
        exact h1
      · obtain ⟨c1, c2, c3, c4⟩ := oka_used h1 hj0
        rw [if_neg hj0]
        have hne : x.i j ≠ x.i k := by
          by_cases hjk : j < k
          · exact b4 j hjk
          · exact (c4 k (by omega)).symm
        refine ⟨c1, c2, ?_, fun k2 hk2 => ?_⟩
        · rw [at1_other _ _ (by omega)]
          exact c3
        · by_cases e2 : k2 = k
          · subst e2
            rw [at1_same]
            exact fun e3 => hj0 e3.symm
          · rw [at1_other _ _ e2]
            exact c4 k2 hk2
/-! What is packed is read as it was. -/
theorem lst_drop_take (f : Nat → UInt8) (n i m : Nat) (h : i + m ≤ n) : ((lst n f).drop i).take m = lst m (fun j => f (i + j)) := by
  rw [lst_cut _ i m (by rw [lst_len]; exact h)]
  refine lst_congr fun j hj => ?_
  simp [List.getD, lst_get f (show i + j < n by omega)]
end Go.Proofs.YtfbfeplegdpemaaGreat
