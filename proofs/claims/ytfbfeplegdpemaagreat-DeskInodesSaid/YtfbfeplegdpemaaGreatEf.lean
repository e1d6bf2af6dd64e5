/- Files: the inode behind a change, and its list put. Conditions: those named. -/
import Derived.Test.YtfbfeplegdpemaaGreatEe
set_option linter.unusedVariables false
set_option maxRecDepth 20000
namespace Go.Proofs.YtfbfeplegdpemaaGreat
open Go.RowKit

theorem DK.mono {b : Nat} {w : World} {gd gv gm gs r : Nat} {Bs : List BV} {N n n' : Nat} {X : DX} (h : DK b w gd gv gm gs r Bs N n X) (hn : n ≤ n') : DK b w gd gv gm gs r Bs N n' X := by
  obtain ⟨C, hv, hC⟩ := h.view
  exact ⟨h.desk, ⟨C, ⟨hv.row, hv.map.mono hn, hv.own, hv.len, hv.lo⟩, hC⟩, h.run, h.src, h.lo⟩
/-- The inode that tells where its file lies then. -/
def toldV (v R : Nat → Int) (L z : Int) (k : Nat) : Int := if k = 5 then z else if k = 26 then L else if 10 ≤ k ∧ k < 26 then R (k - 10) else v k
def ihd (v : Nat → Int) : List Value := [.int .i64 (v 0), .int .i64 (v 1), .int .u32 (v 2), .int .u32 (v 3), .int .i64 (v 4), .int .i64 (v 5), .int .u64 (v 6), .int .u32 (v 7), .int .i64 (v 8), .int .u32 (v 9)]
theorem ncs_parts (v : Nat → Int) : ncs v = ihd v ++ (inl 16 (fun j => v (10 + j)) ++ [.int .i64 (v 26)]) := rfl
theorem ncs_16in (v R : Nat → Int) : ihd v ++ (inl 16 R ++ [Value.int .i64 (v 26)]) = ncs (fun k => if 10 ≤ k ∧ k < 26 then R (k - 10) else v k) := by
  rw [ncs_parts]
  refine app_congr rfl (app_congr (inl_congr fun j hj => ?_) rfl)
  rw [if_pos (by omega), Nat.add_sub_cancel_left]
theorem told_cs (v R : Nat → Int) (L z : Int) : ((ihd v ++ (inl 16 R ++ [Value.int .i64 (v 26)])).set 26 (.int .i64 L)).set 5 (.int .i64 z) = ncs (toldV v R L z) := by
  rw [ncs_16in]
  have h1 := ncs_set (fun k => if 10 ≤ k ∧ k < 26 then R (k - 10) else v k) (k := 26) (by decide) L
  rw [show kd 26 = .i64 from rfl] at h1
  rw [h1]
  have h2 := ncs_set (at1 (fun k => if 10 ≤ k ∧ k < 26 then R (k - 10) else v k) 26 L) (k := 5) (by decide) z
  rw [show kd 5 = .i64 from rfl] at h2
  rw [h2]
  refine ncs_congr fun k hk => ?_
  unfold at1 toldV
  rfl
set_option maxHeartbeats 1000000 in
theorem told_any (v R : Nat → Int) (S : Sup) (L z : Int) (gp : Nat) (w : World) (hr : Row w gp 101 (S.cs ++ ptl R L)) : Calls Tryz.prog 50 #[.pointer (some ⟨gp, 0, none⟩), .agg (ncs v).toArray, .int .i64 z] w fun e w' => e = .returned (.agg (ncs (toldV v R L z)).toArray) ∧ Below w.heap.size w w' := by
  have i2 := Lib.hid info_int
  have i3 := Lib.hid (fun v => info_ncs v)
  have hzi := Lib.hid zero_ino
  have HR := Lib.hid hr
  have HPS := Lib.hid (p := S.cs ++ ptl R L = S.cs ++ (inl 16 R ++ (inl 112 (fun j => R (16 + j)) ++ [.int .i64 L]))) (by unfold ptl; rw [inl_split, List.append_assoc])
  have HPC := Lib.hid (p := ∀ W, Row W gp 101 (S.cs ++ ptl R L) → W.cell? ⟨gp, 515, none⟩ = some (.int .i64 L)) (fun W h => by rw [h.cell, List.getElem?_append_right (by rw [Sup.cs_len]; omega), Sup.cs_len]; exact ptl_list R L)
  have HTC := Lib.hid (told_cs v R L z)
  clear hr
  go_enter Tryz.func50, Tryz.ntmps50
  go_wp2_with (first
    | (refine step_box rfl 4 rfl 44 (.tmp 1) rfl (ncs v) rfl ?_; intro g4 w2 hr2 hg2 hb2 hs2
       have HR42 := Lib.hid hr2
       have HB2 := Lib.hid hb2
       have HG4 := Lib.hid (p := w.heap.size ≤ g4) (Nat.le_of_eq hg2.out.symm)
       clear hr2 hg2 hb2 hs2)
    | (refine step_alloc rfl 6 rfl 44 rfl _ hzi.out ?_; intro g6 w3 hr2 hg2 hb2 hs2
       have HR63 := Lib.hid hr2
       have HR43 := Lib.hid (HR42.out.kept hb2)
       have HB3 := Lib.hid (below_nxt hb2 HB2.out)
       have HP3 := Lib.hid (HR.out.kept HB3.out)
       have HG6 := Lib.hid (p := w.heap.size ≤ g6 ∧ g4 < g6) (by rw [hg2.out]; exact ⟨HB2.out.size, HR42.out.lt⟩)
       have HLT := Lib.hid (p := gp < w.heap.size) HR.out.lt
       clear hr2 hg2 hb2 hs2))
  refine wp_region_held_drew (S := fun _ => True) (by kernel_rfl) trivial (fun hHeld => ?_)
  refine wpAnyH_take (i := 0) (oi := ⟨some 7, .fieldAddr 44 (.tmp 4) 10, _, _, _, _⟩) (v := .pointer (some ⟨g4, 10, none⟩)) rfl (by kernel_rfl) (by kernel_rfl) (by kernel_rfl) (fun _ _ _ h => h) (.inl ⟨by rfl, fun w hSw => by go_simp⟩) (by assumption) ?_
  simp only [Act.put, List.setIfInBounds_toArray, List.set_cons_zero, List.set_cons_succ]
  refine wpAnyH_take (i := 1) (oi := ⟨some 8, .slice 42 (.tmp 7) none none none, _, _, _, _⟩) (v := .slice (some ⟨g4, 10, none⟩) 16 16) rfl (by kernel_rfl) (by kernel_rfl) (by kernel_rfl) (fun _ _ _ h => h) (.inl ⟨by rfl, fun w hSw => by go_simp⟩) (by assumption) ?_
  simp only [Act.put, List.setIfInBounds_toArray, List.set_cons_zero, List.set_cons_succ]
  refine wpAnyH_take (i := 2) (oi := ⟨some 9, .move (.tmp 0), _, _, _, _⟩) (v := .pointer (some ⟨gp, 0, none⟩)) rfl (by kernel_rfl) (by kernel_rfl) (by kernel_rfl) (fun _ _ _ h => h) (.inl ⟨by rfl, fun w hSw => by go_simp⟩) (by assumption) ?_
  simp only [Act.put, List.setIfInBounds_toArray, List.set_cons_zero, List.set_cons_succ]
  refine wpAnyH_take (i := 3) (oi := ⟨some 10, .nilCheck (.tmp 9), _, _, _, _⟩) (v := .pointer (some ⟨gp, 0, none⟩)) rfl (by kernel_rfl) (by kernel_rfl) (by kernel_rfl) (fun _ _ _ h => h) (.inl ⟨by rfl, fun w hSw => by go_simp⟩) (by assumption) ?_
  simp only [Act.put, List.setIfInBounds_toArray, List.set_cons_zero, List.set_cons_succ]
  refine wpAnyH_take (i := 4) (oi := ⟨some 11, .fieldAddr 101 (.tmp 10) 1, _, _, _, _⟩) (v := .pointer (some ⟨gp, 387, none⟩)) rfl (by kernel_rfl) (by kernel_rfl) (by kernel_rfl) (fun _ _ _ h => h) (.inl ⟨by rfl, fun w hSw => by go_simp⟩) (by assumption) ?_
  simp only [Act.put, List.setIfInBounds_toArray, List.set_cons_zero, List.set_cons_succ]
  refine wpAnyH_take (i := 5) (oi := ⟨some 12, .slice 98 (.tmp 11) none none none, _, _, _, _⟩) (v := .slice (some ⟨gp, 387, none⟩) 128 128) rfl (by kernel_rfl) (by kernel_rfl) (by kernel_rfl) (fun _ _ _ h => h) (.inl ⟨by rfl, fun w hSw => by go_simp⟩) (by assumption) ?_
  simp only [Act.put, List.setIfInBounds_toArray, List.set_cons_zero, List.set_cons_succ]
  refine wpAnyH_ready (rs := [6]) (by kernel_rfl) (by simp) ?_
  refine AllReadyH.cons (o := ⟨some 13, .call ⟨.builtin .copy, #[.tmp 8, .tmp 12], #[110, 110]⟩, _, _, _, _⟩) rfl (fun K hK => ?_) AllReadyH.nil
  refine k_copy_part (.tmp 8) (.tmp 12) 110 110 rfl 3 Tryz.underlying110 i2.out g4 10 16 16 (by rfl) 44 (ihd v) (inl 16 (fun j => v (10 + j))) (inl 16 R) [.int .i64 (v 26)] HR43.out.drew rfl (by rw [inl_len, inl_len]) ⟨gp, 387, none⟩ 128 128 (by rfl) (by rw [inl_len]; rfl) (row_src_at (A := S.cs) (B := inl 112 (fun j => R (16 + j)) ++ [.int .i64 L]) (by have h := HP3.out.drew; rw [HPS.out] at h; exact h) (by rw [Sup.cs_len])) (inl_one _ _) ?_
  intro w5 hr5 hg5
  have HR45 := Lib.hid hr5
  have HB5 := Lib.hid (p := Below w.heap.size w w5) (below_own (Below.trans HB3.out (below_drw w3 |>.mono HB3.out.size)) hg5 HG4.out)
  have HR65 := Lib.hid (HR63.out.drew.grown hg5 (fun e => by have := HG6.out; injection e; omega))
  have HP5 := Lib.hid (HP3.out.drew.grown hg5 (fun e => by have h1 := HG4.out; have h2 := HLT.out; injection e; omega))
  clear hr5 hg5
  refine hK.out _ _ trivial (fun _hH => ?_)
  clear hK K
  refine wpAnyH_done (by kernel_rfl) ?_ _
  have c5 := HPC.out _ HP5.out
  have n1 : ¬ gp = g4 := by have h1 := HG4.out; have h2 := HLT.out; omega
  have n2 : ¬ g4 = gp := by have h1 := HG4.out; have h2 := HLT.out; omega
  have f26 := HR45.out.free 26
  have f5 := HR45.out.free 5
  have c26 : w5.cell? ⟨g4, 26, none⟩ = some (.int .i64 (v 26)) := HR45.out.cell 26
  have c05 : w5.cell? ⟨g4, 5, none⟩ = some (.int .i64 (v 5)) := HR45.out.cell 5
  obtain ⟨v26, hv26⟩ : ∃ v26, v 26 = v26 := ⟨_, rfl⟩
  obtain ⟨v5, hv5⟩ : ∃ v5, v 5 = v5 := ⟨_, rfl⟩
  rw [hv26] at c26
  rw [hv5] at c05
  clear hv26 hv5
  have HRX := Lib.hid (p := Row ((w5.setCell ⟨g4, 26, none⟩ (.int .i64 L)).setCell ⟨g4, 5, none⟩ (.int .i64 z)) g4 44 (ncs (toldV v R L z))) (by rw [← HTC.out]; exact (HR45.out.put 26 _).put 5 _)
  have HBX := Lib.hid (p := Below w.heap.size w ((w5.setCell ⟨g4, 26, none⟩ (.int .i64 L)).setCell ⟨g4, 5, none⟩ (.int .i64 z))) ((HB5.out.setCell HG4.out _).setCell HG4.out _)
  have HR6X := Lib.hid (p := Row ((w5.setCell ⟨g4, 26, none⟩ (.int .i64 L)).setCell ⟨g4, 5, none⟩ (.int .i64 z)) g6 44 (ncs ino0)) ((HR65.out.far (p := ⟨g4, 26, none⟩) (by have h1 := HG6.out.2; intro e; simp at e; omega) _).far (p := ⟨g4, 5, none⟩) (by have h1 := HG6.out.2; intro e; simp at e; omega) _)
  obtain ⟨u, hu⟩ : ∃ u, toldV v R L z = u := ⟨_, rfl⟩
  have HU := Lib.hid hu
  rw [hu] at HRX
  clear hu
  go_wp2_with (first
    | (refine step_load rfl 21 rfl 44 (.tmp 4) rfl g4 rfl (ncs u) _ HRX.out.all Tryz.underlying44 rfl (i3.out _) ?_)
    | (refine step_store rfl 44 (.tmp 6) (.tmp 21) rfl g6 (by rfl) _ _ (ncs u) (by rfl) HR6X.out rfl (i3.out _) (ncs_one _) ?_; intro w9 hr9 hg9 hs9))
  refine bodyPost_ret (results_cell_row rfl _ _ g6 _ _ _ _ rfl hr9 Tryz.underlying44 rfl (by simpa using i3.out u)) rfl ?_
  exact ⟨by rw [HU.out], below_own HBX.out hg9 HG6.out.1⟩
section
variable {b : Nat} {w w' : World} {gd gv gm gs r : Nat} {Bs : List BV} {N n : Nat} {X X' : DX}
set_option maxHeartbeats 2000000 in
theorem dputlist_1 (v W0 R : Nat → Int) (L : Int) (S : Sup) (gp : Nat) (h : DK b w gd gv gm gs r Bs N n X) (hr : Row w gp 101 (S.cs ++ ptl R L)) (hgp : gp ≠ gd) (h0 : L = 0) : Calls Tryz.prog 49 #[.pointer (some ⟨gd, 0, none⟩), .agg (ncs v).toArray, .agg (inl 128 W0).toArray, .pointer (some ⟨gp, 0, none⟩)] w (DPut b w gd gv gm gs r Bs N n X) := by
  have i1 := Lib.hid info_rows
  have H := Lib.hid h
  have HP := Lib.hid hr
  have HPC := Lib.hid (p := ∀ W, Row W gp 101 (S.cs ++ ptl R L) → W.cell? ⟨gp, 515, none⟩ = some (.int .i64 L)) (fun W h => by rw [h.cell, List.getElem?_append_right (by rw [Sup.cs_len]; omega), Sup.cs_len]; exact ptl_list R L)
  have HPR := Lib.hid (p := ∀ W, Row W gp 101 (S.cs ++ ptl R L) → W.rangeAt gp 387 (inl 128 R)) (fun W h => h.rng (by rw [Sup.cs_len]))
  obtain ⟨v26, hv26⟩ : ∃ v26, v 26 = v26 := ⟨_, rfl⟩
  have HV := Lib.hid (p := ∀ W g5, Row W g5 44 (ncs v) → W.cell? ⟨g5, 26, none⟩ = some (.int .i64 v26)) (fun W g5 h => by rw [← hv26]; exact (h.cell 26).trans rfl)
  have e0 : (L == 0) = true := by rw [h0]; rfl
  have HLT := Lib.hid (p := gd < w.heap.size ∧ gp < w.heap.size) ⟨h.lt, hr.lt⟩
  have HLO := Lib.hid h.lo
  have HNE := Lib.hid (p := gp ≠ gd) hgp
  clear h hr hgp hv26 h0
  go_enter Tryz.func49, Tryz.ntmps49
  go_wp2_with (first
    | (refine step_box rfl 5 rfl 44 (.tmp 1) rfl (ncs v) rfl ?_; intro g5 w2 hr2 hg2 hb2 hs2
       have HR52 := Lib.hid hr2
       have HB2 := Lib.hid hb2
       clear hr2 hg2 hb2 hs2)
    | (refine step_box rfl 6 rfl 98 (.tmp 2) rfl (inl 128 W0) rfl ?_; intro g6 w3 hr2 hg2 hb2 hs2
       have HR63 := Lib.hid hr2
       have HR53 := Lib.hid (HR52.out.kept hb2)
       have HB3 := Lib.hid (below_nxt hb2 HB2.out)
       clear hr2 hg2 hb2 hs2))
  have HB4 := Lib.hid (p := Below w.heap.size w w3.drew) (HB3.out.trans (below_drw w3 |>.mono HB3.out.size))
  have HS4 := Lib.hid (p := Row w3.drew gp 101 (S.cs ++ ptl R L) ∧ Row w3.drew g5 44 (ncs v) ∧ Row w3.drew g6 98 (inl 128 W0)) ⟨HP.out.kept HB4.out, HR53.out.drew, HR63.out.drew⟩
  have HSK := Lib.hid (p := ∀ W W', (Row W gp 101 (S.cs ++ ptl R L) ∧ Row W g5 44 (ncs v) ∧ Row W g6 98 (inl 128 W0)) → Below W.heap.size W W' → (Row W' gp 101 (S.cs ++ ptl R L) ∧ Row W' g5 44 (ncs v) ∧ Row W' g6 98 (inl 128 W0))) (fun W W' h hb => ⟨h.1.kept hb, h.2.1.kept hb, h.2.2.kept hb⟩)
  refine wp_region_held_drew (S := fun W => Row W gp 101 (S.cs ++ ptl R L) ∧ Row W g5 44 (ncs v) ∧ Row W g6 98 (inl 128 W0)) (by kernel_rfl) HS4.out (fun hHeld => ?_)
  refine wpAnyH_take (i := 0) (oi := ⟨some 10, .move (.tmp 3), _, _, _, _⟩) (v := .pointer (some ⟨gp, 0, none⟩)) rfl (by kernel_rfl) (by kernel_rfl) (by kernel_rfl) (fun _ _ _ h => h) (.inl ⟨by rfl, fun w hSw => by go_simp⟩) (by assumption) ?_
  simp only [Act.put, List.setIfInBounds_toArray, List.set_cons_zero, List.set_cons_succ]
  refine wpAnyH_take (i := 1) (oi := ⟨some 11, .nilCheck (.tmp 10), _, _, _, _⟩) (v := .pointer (some ⟨gp, 0, none⟩)) rfl (by kernel_rfl) (by kernel_rfl) (by kernel_rfl) (fun _ _ _ h => h) (.inl ⟨by rfl, fun w hSw => by go_simp⟩) (by assumption) ?_
  simp only [Act.put, List.setIfInBounds_toArray, List.set_cons_zero, List.set_cons_succ]
  refine wpAnyH_take (i := 2) (oi := ⟨some 12, .fieldAddr 101 (.tmp 11) 2, _, _, _, _⟩) (v := .pointer (some ⟨gp, 515, none⟩)) rfl (by kernel_rfl) (by kernel_rfl) (by kernel_rfl) (fun _ _ _ h => h) (.inl ⟨by rfl, fun w hSw => by go_simp⟩) (by assumption) ?_
  simp only [Act.put, List.setIfInBounds_toArray, List.set_cons_zero, List.set_cons_succ]
  refine wpAnyH_take (i := 3) (oi := ⟨some 13, .load 3 (.tmp 12), _, _, _, _⟩) (v := .int .i64 L) rfl (by kernel_rfl) (by kernel_rfl) (by kernel_rfl) (fun _ _ _ h => h) (.inl ⟨by rfl, fun w hSw => by have z := HPC.out _ hSw.1; go_simp⟩) (by assumption) ?_
  simp only [Act.put, List.setIfInBounds_toArray, List.set_cons_zero, List.set_cons_succ]
  refine wpAnyH_take (i := 4) (oi := ⟨some 14, .binOp .eql 3 (.tmp 13) (.const (.int .i64 0)) 3, _, _, _, _⟩) (v := .bool true) rfl (by kernel_rfl) (by kernel_rfl) (by kernel_rfl) (fun _ _ _ h => h) (.inl ⟨by rfl, fun w hSw => by go_simp⟩) (by assumption) ?_
  simp only [Act.put, List.setIfInBounds_toArray, List.set_cons_zero, List.set_cons_succ]
  refine wpAnyH_take (i := 5) (oi := ⟨some 15, .move (.tmp 14), _, _, _, _⟩) (v := .bool true) rfl (by kernel_rfl) (by kernel_rfl) (by kernel_rfl) (fun _ _ _ h => h) (.inl ⟨by rfl, fun w hSw => by go_simp⟩) (by assumption) ?_
  simp only [Act.put, List.setIfInBounds_toArray, List.set_cons_zero, List.set_cons_succ]
  refine wpAnyH_take (i := 6) (oi := ⟨some 16, .move (.tmp 3), _, _, _, _⟩) (v := undef) rfl (by kernel_rfl) (by kernel_rfl) (by kernel_rfl) (fun _ _ _ h => h) (.inr ⟨by rfl, rfl⟩) (by assumption) ?_
  simp only [Act.put, List.setIfInBounds_toArray, List.set_cons_zero, List.set_cons_succ]
  refine wpAnyH_take (i := 7) (oi := ⟨some 17, .nilCheck (.tmp 16), _, _, _, _⟩) (v := undef) rfl (by kernel_rfl) (by kernel_rfl) (by kernel_rfl) (fun _ _ _ h => h) (.inr ⟨by rfl, rfl⟩) (by assumption) ?_
  simp only [Act.put, List.setIfInBounds_toArray, List.set_cons_zero, List.set_cons_succ]
  refine wpAnyH_take (i := 8) (oi := ⟨some 18, .fieldAddr 101 (.tmp 17) 2, _, _, _, _⟩) (v := undef) rfl (by kernel_rfl) (by kernel_rfl) (by kernel_rfl) (fun _ _ _ h => h) (.inr ⟨by rfl, rfl⟩) (by assumption) ?_
  simp only [Act.put, List.setIfInBounds_toArray, List.set_cons_zero, List.set_cons_succ]
  refine wpAnyH_take (i := 9) (oi := ⟨some 19, .load 3 (.tmp 18), _, _, _, _⟩) (v := undef) rfl (by kernel_rfl) (by kernel_rfl) (by kernel_rfl) (fun _ _ _ h => h) (.inr ⟨by rfl, rfl⟩) (by assumption) ?_
  simp only [Act.put, List.setIfInBounds_toArray, List.set_cons_zero, List.set_cons_succ]
  refine wpAnyH_take (i := 10) (oi := ⟨some 20, .fieldAddr 44 (.tmp 5) 11, _, _, _, _⟩) (v := undef) rfl (by kernel_rfl) (by kernel_rfl) (by kernel_rfl) (fun _ _ _ h => h) (.inr ⟨by rfl, rfl⟩) (by assumption) ?_
  simp only [Act.put, List.setIfInBounds_toArray, List.set_cons_zero, List.set_cons_succ]
  refine wpAnyH_take (i := 11) (oi := ⟨some 21, .load 3 (.tmp 20), _, _, _, _⟩) (v := undef) rfl (by kernel_rfl) (by kernel_rfl) (by kernel_rfl) (fun _ _ _ h => h) (.inr ⟨by rfl, rfl⟩) (by assumption) ?_
  simp only [Act.put, List.setIfInBounds_toArray, List.set_cons_zero, List.set_cons_succ]
  refine wpAnyH_take (i := 12) (oi := ⟨some 22, .binOp .eql 3 (.tmp 19) (.tmp 21) 3, _, _, _, _⟩) (v := undef) rfl (by kernel_rfl) (by kernel_rfl) (by kernel_rfl) (fun _ _ _ h => h) (.inr ⟨by rfl, rfl⟩) (by assumption) ?_
  simp only [Act.put, List.setIfInBounds_toArray, List.set_cons_zero, List.set_cons_succ]
  refine wpAnyH_take (i := 13) (oi := ⟨some 23, .move (.tmp 22), _, _, _, _⟩) (v := undef) rfl (by kernel_rfl) (by kernel_rfl) (by kernel_rfl) (fun _ _ _ h => h) (.inr ⟨by rfl, rfl⟩) (by assumption) ?_
  simp only [Act.put, List.setIfInBounds_toArray, List.set_cons_zero, List.set_cons_succ]
  refine wpAnyH_take (i := 14) (oi := ⟨some 24, .move (.tmp 3), _, _, _, _⟩) (v := undef) rfl (by kernel_rfl) (by kernel_rfl) (by kernel_rfl) (fun _ _ _ h => h) (.inr ⟨by rfl, rfl⟩) (by assumption) ?_
  simp only [Act.put, List.setIfInBounds_toArray, List.set_cons_zero, List.set_cons_succ]
  refine wpAnyH_take (i := 15) (oi := ⟨some 25, .nilCheck (.tmp 24), _, _, _, _⟩) (v := undef) rfl (by kernel_rfl) (by kernel_rfl) (by kernel_rfl) (fun _ _ _ h => h) (.inr ⟨by rfl, rfl⟩) (by assumption) ?_
  simp only [Act.put, List.setIfInBounds_toArray, List.set_cons_zero, List.set_cons_succ]
  refine wpAnyH_take (i := 16) (oi := ⟨some 26, .fieldAddr 101 (.tmp 25) 1, _, _, _, _⟩) (v := undef) rfl (by kernel_rfl) (by kernel_rfl) (by kernel_rfl) (fun _ _ _ h => h) (.inr ⟨by rfl, rfl⟩) (by assumption) ?_
  simp only [Act.put, List.setIfInBounds_toArray, List.set_cons_zero, List.set_cons_succ]
  refine wpAnyH_take (i := 17) (oi := ⟨some 27, .load 98 (.tmp 26), _, _, _, _⟩) (v := undef) rfl (by kernel_rfl) (by kernel_rfl) (by kernel_rfl) (fun _ _ _ h => h) (.inr ⟨by rfl, rfl⟩) (by assumption) ?_
  simp only [Act.put, List.setIfInBounds_toArray, List.set_cons_zero, List.set_cons_succ]
  refine wpAnyH_take (i := 18) (oi := ⟨some 28, .call ⟨.value (.func 84), #[.tmp 27], _⟩, _, _, _, _⟩) (v := undef) rfl (by kernel_rfl) (by kernel_rfl) (by kernel_rfl) (fun _ _ _ h => h) (.inr ⟨by rfl, rfl⟩) (by assumption) ?_
  simp only [Act.put, List.setIfInBounds_toArray, List.set_cons_zero, List.set_cons_succ]
  refine wpAnyH_take (i := 19) (oi := ⟨some 29, .load 98 (.tmp 6), _, _, _, _⟩) (v := undef) rfl (by kernel_rfl) (by kernel_rfl) (by kernel_rfl) (fun _ _ _ h => h) (.inr ⟨by rfl, rfl⟩) (by assumption) ?_
  simp only [Act.put, List.setIfInBounds_toArray, List.set_cons_zero, List.set_cons_succ]
  refine wpAnyH_take (i := 20) (oi := ⟨some 30, .call ⟨.value (.func 84), #[.tmp 29], _⟩, _, _, _, _⟩) (v := undef) rfl (by kernel_rfl) (by kernel_rfl) (by kernel_rfl) (fun _ _ _ h => h) (.inr ⟨by rfl, rfl⟩) (by assumption) ?_
  simp only [Act.put, List.setIfInBounds_toArray, List.set_cons_zero, List.set_cons_succ]
  refine wpAnyH_take (i := 21) (oi := ⟨some 31, .binOp .eql 134 (.tmp 28) (.tmp 30) 134, _, _, _, _⟩) (v := undef) rfl (by kernel_rfl) (by kernel_rfl) (by kernel_rfl) (fun _ _ _ h => h) (.inr ⟨by rfl, rfl⟩) (by assumption) ?_
  simp only [Act.put, List.setIfInBounds_toArray, List.set_cons_zero, List.set_cons_succ]
  refine wpAnyH_take (i := 22) (oi := ⟨some 32, .pick (.tmp 23) (.tmp 31) (.const (.bool false)), _, _, _, _⟩) (v := undef) rfl (by kernel_rfl) (by kernel_rfl) (by kernel_rfl) (fun _ _ _ h => h) (.inr ⟨by rfl, rfl⟩) (by assumption) ?_
  simp only [Act.put, List.setIfInBounds_toArray, List.set_cons_zero, List.set_cons_succ]
  refine wpAnyH_take (i := 23) (oi := ⟨some 33, .pick (.tmp 15) (.const (.bool true)) (.tmp 32), _, _, _, _⟩) (v := .bool true) rfl (by kernel_rfl) (by kernel_rfl) (by kernel_rfl) (fun _ _ _ h => h) (.inl ⟨by rfl, fun w hSw => by go_simp⟩) (by assumption) ?_
  simp only [Act.put, List.setIfInBounds_toArray, List.set_cons_zero, List.set_cons_succ]
  refine wpAnyH_done (by kernel_rfl) ?_ _
  go_wp2
  go_end0
  exact ⟨rfl, Lib.hid (H.out.below HB4.out), Lib.hid (Chg.of HB4.out)⟩
set_option maxHeartbeats 2000000 in
theorem dputlist_2 (v W0 R : Nat → Int) (L : Int) (S : Sup) (gp : Nat) (h : DK b w gd gv gm gs r Bs N n X) (hr : Row w gp 101 (S.cs ++ ptl R L)) (hgp : gp ≠ gd) (h0 : L ≠ 0) (h1 : L ≠ v 26) (hL : 0 < L ∧ L < 256) (hsl : ∀ j, j < 112 → 0 ≤ R (16 + j) ∧ R (16 + j) ≤ 255) (hn : n ≤ 1000) : Calls Tryz.prog 49 #[.pointer (some ⟨gd, 0, none⟩), .agg (ncs v).toArray, .agg (inl 128 W0).toArray, .pointer (some ⟨gp, 0, none⟩)] w (DPut b w gd gv gm gs r Bs N (n + 1) (X.put L (blk s2 (fun j => R (16 + j)) 112))) := by
  have i1 := Lib.hid info_rows
  have H := Lib.hid h
  have HP := Lib.hid hr
  have HPC := Lib.hid (p := ∀ W, Row W gp 101 (S.cs ++ ptl R L) → W.cell? ⟨gp, 515, none⟩ = some (.int .i64 L)) (fun W h => by rw [h.cell, List.getElem?_append_right (by rw [Sup.cs_len]; omega), Sup.cs_len]; exact ptl_list R L)
  have HPR := Lib.hid (p := ∀ W, Row W gp 101 (S.cs ++ ptl R L) → W.rangeAt gp 387 (inl 128 R)) (fun W h => h.rng (by rw [Sup.cs_len]))
  obtain ⟨v26, hv26⟩ : ∃ v26, v 26 = v26 := ⟨_, rfl⟩
  have HV := Lib.hid (p := ∀ W g5, Row W g5 44 (ncs v) → W.cell? ⟨g5, 26, none⟩ = some (.int .i64 v26)) (fun W g5 h => by rw [← hv26]; exact (h.cell 26).trans rfl)
  rw [hv26] at h1
  have e0 : (L == 0) = false := beq_false_of_ne h0
  have e1 : (L == v26) = false := beq_false_of_ne h1
  have HPK := Lib.hid (packlist_ok (fun j => R (16 + j)) ((slotB_iff _ _).2 hsl))
  have HZ := Lib.hid (p := I64 L ∧ n ≤ 1000 ∧ (blk s2 (fun j => R (16 + j)) 112).length = 256) ⟨by unfold I64; omega, hn, blk_len _ _ _ (by decide)⟩
  have HL1 := Lib.hid (list_any R)
  obtain ⟨LR, hLR⟩ : ∃ LR : Nat → Int, (fun j => R (16 + j)) = LR := ⟨_, rfl⟩
  have HLR := Lib.hid hLR
  rw [hLR] at HL1 HPK HZ
  have HLT := Lib.hid (p := gd < w.heap.size ∧ gp < w.heap.size) ⟨h.lt, hr.lt⟩
  have HLO := Lib.hid h.lo
  have HNE := Lib.hid (p := gp ≠ gd) hgp
  clear h hr hgp hv26 h0 h1 hLR hL hsl hn
  go_enter Tryz.func49, Tryz.ntmps49
  go_wp2_with (first
    | (refine step_box rfl 5 rfl 44 (.tmp 1) rfl (ncs v) rfl ?_; intro g5 w2 hr2 hg2 hb2 hs2
       have HR52 := Lib.hid hr2
       have HB2 := Lib.hid hb2
       clear hr2 hg2 hb2 hs2)
    | (refine step_box rfl 6 rfl 98 (.tmp 2) rfl (inl 128 W0) rfl ?_; intro g6 w3 hr2 hg2 hb2 hs2
       have HR63 := Lib.hid hr2
       have HR53 := Lib.hid (HR52.out.kept hb2)
       have HB3 := Lib.hid (below_nxt hb2 HB2.out)
       clear hr2 hg2 hb2 hs2))
  have HB4 := Lib.hid (p := Below w.heap.size w w3.drew) (HB3.out.trans (below_drw w3 |>.mono HB3.out.size))
  have HS4 := Lib.hid (p := Row w3.drew gp 101 (S.cs ++ ptl R L) ∧ Row w3.drew g5 44 (ncs v) ∧ Row w3.drew g6 98 (inl 128 W0)) ⟨HP.out.kept HB4.out, HR53.out.drew, HR63.out.drew⟩
  have HSK := Lib.hid (p := ∀ W W', (Row W gp 101 (S.cs ++ ptl R L) ∧ Row W g5 44 (ncs v) ∧ Row W g6 98 (inl 128 W0)) → Below W.heap.size W W' → (Row W' gp 101 (S.cs ++ ptl R L) ∧ Row W' g5 44 (ncs v) ∧ Row W' g6 98 (inl 128 W0))) (fun W W' h hb => ⟨h.1.kept hb, h.2.1.kept hb, h.2.2.kept hb⟩)
  refine wp_region_held_drew (S := fun W => Row W gp 101 (S.cs ++ ptl R L) ∧ Row W g5 44 (ncs v) ∧ Row W g6 98 (inl 128 W0)) (by kernel_rfl) HS4.out (fun hHeld => ?_)
  refine wpAnyH_take (i := 0) (oi := ⟨some 10, .move (.tmp 3), _, _, _, _⟩) (v := .pointer (some ⟨gp, 0, none⟩)) rfl (by kernel_rfl) (by kernel_rfl) (by kernel_rfl) (fun _ _ _ h => h) (.inl ⟨by rfl, fun w hSw => by go_simp⟩) (by assumption) ?_
  simp only [Act.put, List.setIfInBounds_toArray, List.set_cons_zero, List.set_cons_succ]
  refine wpAnyH_take (i := 1) (oi := ⟨some 11, .nilCheck (.tmp 10), _, _, _, _⟩) (v := .pointer (some ⟨gp, 0, none⟩)) rfl (by kernel_rfl) (by kernel_rfl) (by kernel_rfl) (fun _ _ _ h => h) (.inl ⟨by rfl, fun w hSw => by go_simp⟩) (by assumption) ?_
  simp only [Act.put, List.setIfInBounds_toArray, List.set_cons_zero, List.set_cons_succ]
  refine wpAnyH_take (i := 2) (oi := ⟨some 12, .fieldAddr 101 (.tmp 11) 2, _, _, _, _⟩) (v := .pointer (some ⟨gp, 515, none⟩)) rfl (by kernel_rfl) (by kernel_rfl) (by kernel_rfl) (fun _ _ _ h => h) (.inl ⟨by rfl, fun w hSw => by go_simp⟩) (by assumption) ?_
  simp only [Act.put, List.setIfInBounds_toArray, List.set_cons_zero, List.set_cons_succ]
  refine wpAnyH_take (i := 3) (oi := ⟨some 13, .load 3 (.tmp 12), _, _, _, _⟩) (v := .int .i64 L) rfl (by kernel_rfl) (by kernel_rfl) (by kernel_rfl) (fun _ _ _ h => h) (.inl ⟨by rfl, fun w hSw => by have z := HPC.out _ hSw.1; go_simp⟩) (by assumption) ?_
  simp only [Act.put, List.setIfInBounds_toArray, List.set_cons_zero, List.set_cons_succ]
  refine wpAnyH_take (i := 4) (oi := ⟨some 14, .binOp .eql 3 (.tmp 13) (.const (.int .i64 0)) 3, _, _, _, _⟩) (v := .bool false) rfl (by kernel_rfl) (by kernel_rfl) (by kernel_rfl) (fun _ _ _ h => h) (.inl ⟨by rfl, fun w hSw => by go_simp⟩) (by assumption) ?_
  simp only [Act.put, List.setIfInBounds_toArray, List.set_cons_zero, List.set_cons_succ]
  refine wpAnyH_take (i := 5) (oi := ⟨some 15, .move (.tmp 14), _, _, _, _⟩) (v := .bool false) rfl (by kernel_rfl) (by kernel_rfl) (by kernel_rfl) (fun _ _ _ h => h) (.inl ⟨by rfl, fun w hSw => by go_simp⟩) (by assumption) ?_
  simp only [Act.put, List.setIfInBounds_toArray, List.set_cons_zero, List.set_cons_succ]
  refine wpAnyH_take (i := 6) (oi := ⟨some 16, .move (.tmp 3), _, _, _, _⟩) (v := .pointer (some ⟨gp, 0, none⟩)) rfl (by kernel_rfl) (by kernel_rfl) (by kernel_rfl) (fun _ _ _ h => h) (.inl ⟨by rfl, fun w hSw => by go_simp⟩) (by assumption) ?_
  simp only [Act.put, List.setIfInBounds_toArray, List.set_cons_zero, List.set_cons_succ]
  refine wpAnyH_take (i := 7) (oi := ⟨some 17, .nilCheck (.tmp 16), _, _, _, _⟩) (v := .pointer (some ⟨gp, 0, none⟩)) rfl (by kernel_rfl) (by kernel_rfl) (by kernel_rfl) (fun _ _ _ h => h) (.inl ⟨by rfl, fun w hSw => by go_simp⟩) (by assumption) ?_
  simp only [Act.put, List.setIfInBounds_toArray, List.set_cons_zero, List.set_cons_succ]
  refine wpAnyH_take (i := 8) (oi := ⟨some 18, .fieldAddr 101 (.tmp 17) 2, _, _, _, _⟩) (v := .pointer (some ⟨gp, 515, none⟩)) rfl (by kernel_rfl) (by kernel_rfl) (by kernel_rfl) (fun _ _ _ h => h) (.inl ⟨by rfl, fun w hSw => by go_simp⟩) (by assumption) ?_
  simp only [Act.put, List.setIfInBounds_toArray, List.set_cons_zero, List.set_cons_succ]
  refine wpAnyH_take (i := 9) (oi := ⟨some 19, .load 3 (.tmp 18), _, _, _, _⟩) (v := .int .i64 L) rfl (by kernel_rfl) (by kernel_rfl) (by kernel_rfl) (fun _ _ _ h => h) (.inl ⟨by rfl, fun w hSw => by have z := HPC.out _ hSw.1; go_simp⟩) (by assumption) ?_
  simp only [Act.put, List.setIfInBounds_toArray, List.set_cons_zero, List.set_cons_succ]
  refine wpAnyH_take (i := 10) (oi := ⟨some 20, .fieldAddr 44 (.tmp 5) 11, _, _, _, _⟩) (v := .pointer (some ⟨g5, 26, none⟩)) rfl (by kernel_rfl) (by kernel_rfl) (by kernel_rfl) (fun _ _ _ h => h) (.inl ⟨by rfl, fun w hSw => by go_simp⟩) (by assumption) ?_
  simp only [Act.put, List.setIfInBounds_toArray, List.set_cons_zero, List.set_cons_succ]
  refine wpAnyH_take (i := 11) (oi := ⟨some 21, .load 3 (.tmp 20), _, _, _, _⟩) (v := .int .i64 v26) rfl (by kernel_rfl) (by kernel_rfl) (by kernel_rfl) (fun _ _ _ h => h) (.inl ⟨by rfl, fun w hSw => by have z := HV.out _ _ hSw.2.1; go_simp⟩) (by assumption) ?_
  simp only [Act.put, List.setIfInBounds_toArray, List.set_cons_zero, List.set_cons_succ]
  refine wpAnyH_take (i := 12) (oi := ⟨some 22, .binOp .eql 3 (.tmp 19) (.tmp 21) 3, _, _, _, _⟩) (v := .bool false) rfl (by kernel_rfl) (by kernel_rfl) (by kernel_rfl) (fun _ _ _ h => h) (.inl ⟨by rfl, fun w hSw => by go_simp⟩) (by assumption) ?_
  simp only [Act.put, List.setIfInBounds_toArray, List.set_cons_zero, List.set_cons_succ]
  refine wpAnyH_take (i := 13) (oi := ⟨some 23, .move (.tmp 22), _, _, _, _⟩) (v := .bool false) rfl (by kernel_rfl) (by kernel_rfl) (by kernel_rfl) (fun _ _ _ h => h) (.inl ⟨by rfl, fun w hSw => by go_simp⟩) (by assumption) ?_
  simp only [Act.put, List.setIfInBounds_toArray, List.set_cons_zero, List.set_cons_succ]
  refine wpAnyH_take (i := 14) (oi := ⟨some 24, .move (.tmp 3), _, _, _, _⟩) (v := undef) rfl (by kernel_rfl) (by kernel_rfl) (by kernel_rfl) (fun _ _ _ h => h) (.inr ⟨by rfl, rfl⟩) (by assumption) ?_
  simp only [Act.put, List.setIfInBounds_toArray, List.set_cons_zero, List.set_cons_succ]
  refine wpAnyH_take (i := 15) (oi := ⟨some 25, .nilCheck (.tmp 24), _, _, _, _⟩) (v := undef) rfl (by kernel_rfl) (by kernel_rfl) (by kernel_rfl) (fun _ _ _ h => h) (.inr ⟨by rfl, rfl⟩) (by assumption) ?_
  simp only [Act.put, List.setIfInBounds_toArray, List.set_cons_zero, List.set_cons_succ]
  refine wpAnyH_take (i := 16) (oi := ⟨some 26, .fieldAddr 101 (.tmp 25) 1, _, _, _, _⟩) (v := undef) rfl (by kernel_rfl) (by kernel_rfl) (by kernel_rfl) (fun _ _ _ h => h) (.inr ⟨by rfl, rfl⟩) (by assumption) ?_
  simp only [Act.put, List.setIfInBounds_toArray, List.set_cons_zero, List.set_cons_succ]
  refine wpAnyH_take (i := 17) (oi := ⟨some 27, .load 98 (.tmp 26), _, _, _, _⟩) (v := undef) rfl (by kernel_rfl) (by kernel_rfl) (by kernel_rfl) (fun _ _ _ h => h) (.inr ⟨by rfl, rfl⟩) (by assumption) ?_
  simp only [Act.put, List.setIfInBounds_toArray, List.set_cons_zero, List.set_cons_succ]
  refine wpAnyH_take (i := 18) (oi := ⟨some 28, .call ⟨.value (.func 84), #[.tmp 27], _⟩, _, _, _, _⟩) (v := undef) rfl (by kernel_rfl) (by kernel_rfl) (by kernel_rfl) (fun _ _ _ h => h) (.inr ⟨by rfl, rfl⟩) (by assumption) ?_
  simp only [Act.put, List.setIfInBounds_toArray, List.set_cons_zero, List.set_cons_succ]
  refine wpAnyH_take (i := 19) (oi := ⟨some 29, .load 98 (.tmp 6), _, _, _, _⟩) (v := undef) rfl (by kernel_rfl) (by kernel_rfl) (by kernel_rfl) (fun _ _ _ h => h) (.inr ⟨by rfl, rfl⟩) (by assumption) ?_
  simp only [Act.put, List.setIfInBounds_toArray, List.set_cons_zero, List.set_cons_succ]
  refine wpAnyH_take (i := 20) (oi := ⟨some 30, .call ⟨.value (.func 84), #[.tmp 29], _⟩, _, _, _, _⟩) (v := undef) rfl (by kernel_rfl) (by kernel_rfl) (by kernel_rfl) (fun _ _ _ h => h) (.inr ⟨by rfl, rfl⟩) (by assumption) ?_
  simp only [Act.put, List.setIfInBounds_toArray, List.set_cons_zero, List.set_cons_succ]
  refine wpAnyH_take (i := 21) (oi := ⟨some 31, .binOp .eql 134 (.tmp 28) (.tmp 30) 134, _, _, _, _⟩) (v := undef) rfl (by kernel_rfl) (by kernel_rfl) (by kernel_rfl) (fun _ _ _ h => h) (.inr ⟨by rfl, rfl⟩) (by assumption) ?_
  simp only [Act.put, List.setIfInBounds_toArray, List.set_cons_zero, List.set_cons_succ]
  refine wpAnyH_take (i := 22) (oi := ⟨some 32, .pick (.tmp 23) (.tmp 31) (.const (.bool false)), _, _, _, _⟩) (v := .bool false) rfl (by kernel_rfl) (by kernel_rfl) (by kernel_rfl) (fun _ _ _ h => h) (.inl ⟨by rfl, fun w hSw => by go_simp⟩) (by assumption) ?_
  simp only [Act.put, List.setIfInBounds_toArray, List.set_cons_zero, List.set_cons_succ]
  refine wpAnyH_take (i := 23) (oi := ⟨some 33, .pick (.tmp 15) (.const (.bool true)) (.tmp 32), _, _, _, _⟩) (v := .bool false) rfl (by kernel_rfl) (by kernel_rfl) (by kernel_rfl) (fun _ _ _ h => h) (.inl ⟨by rfl, fun w hSw => by go_simp⟩) (by assumption) ?_
  simp only [Act.put, List.setIfInBounds_toArray, List.set_cons_zero, List.set_cons_succ]
  refine wpAnyH_done (by kernel_rfl) ?_ _
  have HK7 := Lib.hid (H.out.below HB4.out)
  go_wp2_with (first
    | (refine step_load_at rfl 98 (.tmp 37) rfl gp 387 (by rfl) 101 S.cs (inl 128 R) [.int .i64 L] _ HS4.out.1 (by rw [Sup.cs_len]) Tryz.underlying98 rfl (i1.out _) ?_)
    | (go_at_call 84; refine (HL1.out _).mono ?_; rintro e w8 ⟨rfl, hb⟩
       have HS8 := Lib.hid (HSK.out _ _ HS4.out hb)
       have HB8 := Lib.hid (below_nxt hb HB4.out)
       clear hb)
    | (go_at_call 85; refine (HPK.out _).mono ?_; rintro e w9 ⟨A, c, rfl, ho, hb⟩
       have HO := ho
       have HS9 := Lib.hid (HSK.out _ _ HS8.out hb.out)
       have HB9 := Lib.hid (below_nxt hb.out HB8.out)
       have HK9 := Lib.hid (H.out.below HB9.out)
       have c9 := HPC.out _ HS9.out.1
       clear ho hb)
    | (go_at_call 40
       have hput := dput HK9.out ⟨A, c, blk s2 LR 112⟩ (Hol.own HO.out) (by rw [HZ.out.2.2]; decide) L HZ.out.1 HZ.out.2.1
       simp only at hput
       rw [HZ.out.2.2] at hput
       refine hput.mono ?_; rintro e w11 ⟨rfl, hk, hc⟩
       have HK11 := hk
       have HC11 := Lib.hid (p := Chg [gd, gm] w w11) ((Chg.of (F := [gd, gm]) HB9.out).trans hc.out (fun x hx => .inl hx))
       clear hk hc c9 hput))
  go_end0
  rw [HLR.out]
  exact ⟨rfl, HK11, HC11⟩
set_option maxHeartbeats 2000000 in
theorem dputlist_3 (v W0 R : Nat → Int) (L : Int) (S : Sup) (gp : Nat) (h : DK b w gd gv gm gs r Bs N n X) (hr : Row w gp 101 (S.cs ++ ptl R L)) (hgp : gp ≠ gd) (h0 : L ≠ 0) (h1 : L = v 26) (h2 : ∀ j, j < 112 → R (16 + j) = W0 (16 + j)) : Calls Tryz.prog 49 #[.pointer (some ⟨gd, 0, none⟩), .agg (ncs v).toArray, .agg (inl 128 W0).toArray, .pointer (some ⟨gp, 0, none⟩)] w (DPut b w gd gv gm gs r Bs N n X) := by
  have i1 := Lib.hid info_rows
  have H := Lib.hid h
  have HP := Lib.hid hr
  have HPC := Lib.hid (p := ∀ W, Row W gp 101 (S.cs ++ ptl R L) → W.cell? ⟨gp, 515, none⟩ = some (.int .i64 L)) (fun W h => by rw [h.cell, List.getElem?_append_right (by rw [Sup.cs_len]; omega), Sup.cs_len]; exact ptl_list R L)
  have HPR := Lib.hid (p := ∀ W, Row W gp 101 (S.cs ++ ptl R L) → W.rangeAt gp 387 (inl 128 R)) (fun W h => h.rng (by rw [Sup.cs_len]))
  obtain ⟨v26, hv26⟩ : ∃ v26, v 26 = v26 := ⟨_, rfl⟩
  have HV := Lib.hid (p := ∀ W g5, Row W g5 44 (ncs v) → W.cell? ⟨g5, 26, none⟩ = some (.int .i64 v26)) (fun W g5 h => by rw [← hv26]; exact (h.cell 26).trans rfl)
  rw [hv26] at h1
  subst h1
  have e0 : (L == 0) = false := beq_false_of_ne h0
  have HEQ := Lib.hid (p := ∀ w, (Op.equalIn 10000 134 (.agg (inl 112 fun j => R (16 + j)).toArray) (.agg (inl 112 fun j => W0 (16 + j)).toArray)).run Tryz.prog w = .ok true w) (fun w => by
    have h3 := eq_inl 9998 112 134 Tryz.underlying134 (fun j => R (16 + j)) (fun j => W0 (16 + j)) w
    have h4 : ((List.range 112).all fun j => R (16 + j) == W0 (16 + j)) = true := by
      rw [List.all_eq_true]
      intro j hj
      exact beq_iff_eq.2 (h2 j (List.mem_range.1 hj))
    rw [h4] at h3
    exact h3)
  have HL2 := Lib.hid (list_any W0)
  obtain ⟨LW, hLW⟩ : ∃ LW : Nat → Int, (fun j => W0 (16 + j)) = LW := ⟨_, rfl⟩
  rw [hLW] at HEQ HL2
  have HL1 := Lib.hid (list_any R)
  obtain ⟨LR, hLR⟩ : ∃ LR : Nat → Int, (fun j => R (16 + j)) = LR := ⟨_, rfl⟩
  have HLR := Lib.hid hLR
  rw [hLR] at HL1 HEQ 
  have HLT := Lib.hid (p := gd < w.heap.size ∧ gp < w.heap.size) ⟨h.lt, hr.lt⟩
  have HLO := Lib.hid h.lo
  have HNE := Lib.hid (p := gp ≠ gd) hgp
  clear h hr hgp hv26 h0 h2 hLR hLW
  go_enter Tryz.func49, Tryz.ntmps49
  go_wp2_with (first
    | (refine step_box rfl 5 rfl 44 (.tmp 1) rfl (ncs v) rfl ?_; intro g5 w2 hr2 hg2 hb2 hs2
       have HR52 := Lib.hid hr2
       have HB2 := Lib.hid hb2
       clear hr2 hg2 hb2 hs2)
    | (refine step_box rfl 6 rfl 98 (.tmp 2) rfl (inl 128 W0) rfl ?_; intro g6 w3 hr2 hg2 hb2 hs2
       have HR63 := Lib.hid hr2
       have HR53 := Lib.hid (HR52.out.kept hb2)
       have HB3 := Lib.hid (below_nxt hb2 HB2.out)
       clear hr2 hg2 hb2 hs2))
  have HB4 := Lib.hid (p := Below w.heap.size w w3.drew) (HB3.out.trans (below_drw w3 |>.mono HB3.out.size))
  have HS4 := Lib.hid (p := Row w3.drew gp 101 (S.cs ++ ptl R L) ∧ Row w3.drew g5 44 (ncs v) ∧ Row w3.drew g6 98 (inl 128 W0)) ⟨HP.out.kept HB4.out, HR53.out.drew, HR63.out.drew⟩
  have HSK := Lib.hid (p := ∀ W W', (Row W gp 101 (S.cs ++ ptl R L) ∧ Row W g5 44 (ncs v) ∧ Row W g6 98 (inl 128 W0)) → Below W.heap.size W W' → (Row W' gp 101 (S.cs ++ ptl R L) ∧ Row W' g5 44 (ncs v) ∧ Row W' g6 98 (inl 128 W0))) (fun W W' h hb => ⟨h.1.kept hb, h.2.1.kept hb, h.2.2.kept hb⟩)
  refine wp_region_held_drew (S := fun W => Row W gp 101 (S.cs ++ ptl R L) ∧ Row W g5 44 (ncs v) ∧ Row W g6 98 (inl 128 W0)) (by kernel_rfl) HS4.out (fun hHeld => ?_)
  refine wpAnyH_take (i := 0) (oi := ⟨some 10, .move (.tmp 3), _, _, _, _⟩) (v := .pointer (some ⟨gp, 0, none⟩)) rfl (by kernel_rfl) (by kernel_rfl) (by kernel_rfl) (fun _ _ _ h => h) (.inl ⟨by rfl, fun w hSw => by go_simp⟩) (by assumption) ?_
  simp only [Act.put, List.setIfInBounds_toArray, List.set_cons_zero, List.set_cons_succ]
  refine wpAnyH_take (i := 1) (oi := ⟨some 11, .nilCheck (.tmp 10), _, _, _, _⟩) (v := .pointer (some ⟨gp, 0, none⟩)) rfl (by kernel_rfl) (by kernel_rfl) (by kernel_rfl) (fun _ _ _ h => h) (.inl ⟨by rfl, fun w hSw => by go_simp⟩) (by assumption) ?_
  simp only [Act.put, List.setIfInBounds_toArray, List.set_cons_zero, List.set_cons_succ]
  refine wpAnyH_take (i := 2) (oi := ⟨some 12, .fieldAddr 101 (.tmp 11) 2, _, _, _, _⟩) (v := .pointer (some ⟨gp, 515, none⟩)) rfl (by kernel_rfl) (by kernel_rfl) (by kernel_rfl) (fun _ _ _ h => h) (.inl ⟨by rfl, fun w hSw => by go_simp⟩) (by assumption) ?_
  simp only [Act.put, List.setIfInBounds_toArray, List.set_cons_zero, List.set_cons_succ]
  refine wpAnyH_take (i := 3) (oi := ⟨some 13, .load 3 (.tmp 12), _, _, _, _⟩) (v := .int .i64 L) rfl (by kernel_rfl) (by kernel_rfl) (by kernel_rfl) (fun _ _ _ h => h) (.inl ⟨by rfl, fun w hSw => by have z := HPC.out _ hSw.1; go_simp⟩) (by assumption) ?_
  simp only [Act.put, List.setIfInBounds_toArray, List.set_cons_zero, List.set_cons_succ]
  refine wpAnyH_take (i := 4) (oi := ⟨some 14, .binOp .eql 3 (.tmp 13) (.const (.int .i64 0)) 3, _, _, _, _⟩) (v := .bool false) rfl (by kernel_rfl) (by kernel_rfl) (by kernel_rfl) (fun _ _ _ h => h) (.inl ⟨by rfl, fun w hSw => by go_simp⟩) (by assumption) ?_
  simp only [Act.put, List.setIfInBounds_toArray, List.set_cons_zero, List.set_cons_succ]
  refine wpAnyH_take (i := 5) (oi := ⟨some 15, .move (.tmp 14), _, _, _, _⟩) (v := .bool false) rfl (by kernel_rfl) (by kernel_rfl) (by kernel_rfl) (fun _ _ _ h => h) (.inl ⟨by rfl, fun w hSw => by go_simp⟩) (by assumption) ?_
  simp only [Act.put, List.setIfInBounds_toArray, List.set_cons_zero, List.set_cons_succ]
  refine wpAnyH_take (i := 6) (oi := ⟨some 16, .move (.tmp 3), _, _, _, _⟩) (v := .pointer (some ⟨gp, 0, none⟩)) rfl (by kernel_rfl) (by kernel_rfl) (by kernel_rfl) (fun _ _ _ h => h) (.inl ⟨by rfl, fun w hSw => by go_simp⟩) (by assumption) ?_
  simp only [Act.put, List.setIfInBounds_toArray, List.set_cons_zero, List.set_cons_succ]
  refine wpAnyH_take (i := 7) (oi := ⟨some 17, .nilCheck (.tmp 16), _, _, _, _⟩) (v := .pointer (some ⟨gp, 0, none⟩)) rfl (by kernel_rfl) (by kernel_rfl) (by kernel_rfl) (fun _ _ _ h => h) (.inl ⟨by rfl, fun w hSw => by go_simp⟩) (by assumption) ?_
  simp only [Act.put, List.setIfInBounds_toArray, List.set_cons_zero, List.set_cons_succ]
  refine wpAnyH_take (i := 8) (oi := ⟨some 18, .fieldAddr 101 (.tmp 17) 2, _, _, _, _⟩) (v := .pointer (some ⟨gp, 515, none⟩)) rfl (by kernel_rfl) (by kernel_rfl) (by kernel_rfl) (fun _ _ _ h => h) (.inl ⟨by rfl, fun w hSw => by go_simp⟩) (by assumption) ?_
  simp only [Act.put, List.setIfInBounds_toArray, List.set_cons_zero, List.set_cons_succ]
  refine wpAnyH_take (i := 9) (oi := ⟨some 19, .load 3 (.tmp 18), _, _, _, _⟩) (v := .int .i64 L) rfl (by kernel_rfl) (by kernel_rfl) (by kernel_rfl) (fun _ _ _ h => h) (.inl ⟨by rfl, fun w hSw => by have z := HPC.out _ hSw.1; go_simp⟩) (by assumption) ?_
  simp only [Act.put, List.setIfInBounds_toArray, List.set_cons_zero, List.set_cons_succ]
  refine wpAnyH_take (i := 10) (oi := ⟨some 20, .fieldAddr 44 (.tmp 5) 11, _, _, _, _⟩) (v := .pointer (some ⟨g5, 26, none⟩)) rfl (by kernel_rfl) (by kernel_rfl) (by kernel_rfl) (fun _ _ _ h => h) (.inl ⟨by rfl, fun w hSw => by go_simp⟩) (by assumption) ?_
  simp only [Act.put, List.setIfInBounds_toArray, List.set_cons_zero, List.set_cons_succ]
  refine wpAnyH_take (i := 11) (oi := ⟨some 21, .load 3 (.tmp 20), _, _, _, _⟩) (v := .int .i64 L) rfl (by kernel_rfl) (by kernel_rfl) (by kernel_rfl) (fun _ _ _ h => h) (.inl ⟨by rfl, fun w hSw => by have z := HV.out _ _ hSw.2.1; go_simp⟩) (by assumption) ?_
  simp only [Act.put, List.setIfInBounds_toArray, List.set_cons_zero, List.set_cons_succ]
  refine wpAnyH_take (i := 12) (oi := ⟨some 22, .binOp .eql 3 (.tmp 19) (.tmp 21) 3, _, _, _, _⟩) (v := .bool true) rfl (by kernel_rfl) (by kernel_rfl) (by kernel_rfl) (fun _ _ _ h => h) (.inl ⟨by rfl, fun w hSw => by go_simp⟩) (by assumption) ?_
  simp only [Act.put, List.setIfInBounds_toArray, List.set_cons_zero, List.set_cons_succ]
  refine wpAnyH_take (i := 13) (oi := ⟨some 23, .move (.tmp 22), _, _, _, _⟩) (v := .bool true) rfl (by kernel_rfl) (by kernel_rfl) (by kernel_rfl) (fun _ _ _ h => h) (.inl ⟨by rfl, fun w hSw => by go_simp⟩) (by assumption) ?_
  simp only [Act.put, List.setIfInBounds_toArray, List.set_cons_zero, List.set_cons_succ]
  refine wpAnyH_take (i := 14) (oi := ⟨some 24, .move (.tmp 3), _, _, _, _⟩) (v := .pointer (some ⟨gp, 0, none⟩)) rfl (by kernel_rfl) (by kernel_rfl) (by kernel_rfl) (fun _ _ _ h => h) (.inl ⟨by rfl, fun w hSw => by go_simp⟩) (by assumption) ?_
  simp only [Act.put, List.setIfInBounds_toArray, List.set_cons_zero, List.set_cons_succ]
  refine wpAnyH_take (i := 15) (oi := ⟨some 25, .nilCheck (.tmp 24), _, _, _, _⟩) (v := .pointer (some ⟨gp, 0, none⟩)) rfl (by kernel_rfl) (by kernel_rfl) (by kernel_rfl) (fun _ _ _ h => h) (.inl ⟨by rfl, fun w hSw => by go_simp⟩) (by assumption) ?_
  simp only [Act.put, List.setIfInBounds_toArray, List.set_cons_zero, List.set_cons_succ]
  refine wpAnyH_take (i := 16) (oi := ⟨some 26, .fieldAddr 101 (.tmp 25) 1, _, _, _, _⟩) (v := .pointer (some ⟨gp, 387, none⟩)) rfl (by kernel_rfl) (by kernel_rfl) (by kernel_rfl) (fun _ _ _ h => h) (.inl ⟨by rfl, fun w hSw => by go_simp⟩) (by assumption) ?_
  simp only [Act.put, List.setIfInBounds_toArray, List.set_cons_zero, List.set_cons_succ]
  refine wpAnyH_take (i := 17) (oi := ⟨some 27, .load 98 (.tmp 26), _, _, _, _⟩) (v := .agg (inl 128 R).toArray) rfl (by kernel_rfl) (by kernel_rfl) (by kernel_rfl) (fun _ _ _ h => h) (yieldsIf_load_mid (by rfl) 98 (.tmp 26) rfl gp 387 rfl (inl 128 R) _ (fun w hSw => HPR.out _ hSw.1) Tryz.underlying98 rfl (i1.out _)) (by assumption) ?_
  simp only [Act.put, List.setIfInBounds_toArray, List.set_cons_zero, List.set_cons_succ]
  refine wpAnyH_take (i := 19) (oi := ⟨some 29, .load 98 (.tmp 6), _, _, _, _⟩) (v := .agg (inl 128 W0).toArray) rfl (by kernel_rfl) (by kernel_rfl) (by kernel_rfl) (fun _ _ _ h => h) (yieldsIf_load_mid (by rfl) 98 (.tmp 6) rfl g6 0 rfl (inl 128 W0) _ (fun w hSw => hSw.2.2.all) Tryz.underlying98 rfl (i1.out _)) (by assumption) ?_
  simp only [Act.put, List.setIfInBounds_toArray, List.set_cons_zero, List.set_cons_succ]
  refine wpAnyH_ready (rs := [18]) (by kernel_rfl) (by simp) ?_
  refine AllReadyH.cons (o := ⟨some 28, .call ⟨.value (.func 84), #[.tmp 27], _⟩, _, _, _, _⟩) rfl (fun K hK => ?_) AllReadyH.nil
  go_simp
  go_at_call 84
  refine (HL1.out _).mono ?_
  rintro e w5 ⟨rfl, hb⟩
  have HS5 := Lib.hid (HSK.out _ _ HS4.out hb)
  have HB5 := Lib.hid (below_nxt hb HB4.out)
  clear hb
  refine hK.out _ _ HS5.out (fun _hH => ?_)
  clear hK K
  refine wpAnyH_ready (rs := [20]) (by kernel_rfl) (by simp) ?_
  refine AllReadyH.cons (o := ⟨some 30, .call ⟨.value (.func 84), #[.tmp 29], _⟩, _, _, _, _⟩) rfl (fun K hK => ?_) AllReadyH.nil
  go_simp
  go_at_call 84
  refine (HL2.out _).mono ?_
  rintro e w6 ⟨rfl, hb⟩
  have HS6 := Lib.hid (HSK.out _ _ HS5.out hb)
  have HB6 := Lib.hid (below_nxt hb HB5.out)
  clear hb
  refine hK.out _ _ HS6.out (fun _hH => ?_)
  clear hK K
  refine wpAnyH_take (i := 21) (oi := ⟨some 31, .binOp .eql 134 (.tmp 28) (.tmp 30) 134, _, _, _, _⟩) (v := .bool true) rfl (by kernel_rfl) (by kernel_rfl) (by kernel_rfl) (fun _ _ _ h => h) (.inl ⟨by rfl, fun w hSw => run_eql_op w _ 134 134 (.tmp 28) (.tmp 30) rfl _ _ rfl rfl l112_guard true (fun w => HEQ.out w)⟩) (by assumption) ?_
  simp only [Act.put, List.setIfInBounds_toArray, List.set_cons_zero, List.set_cons_succ]
  refine wpAnyH_take (i := 22) (oi := ⟨some 32, .pick (.tmp 23) (.tmp 31) (.const (.bool false)), _, _, _, _⟩) (v := .bool true) rfl (by kernel_rfl) (by kernel_rfl) (by kernel_rfl) (fun _ _ _ h => h) (.inl ⟨by rfl, fun w hSw => by go_simp⟩) (by assumption) ?_
  simp only [Act.put, List.setIfInBounds_toArray, List.set_cons_zero, List.set_cons_succ]
  refine wpAnyH_take (i := 23) (oi := ⟨some 33, .pick (.tmp 15) (.const (.bool true)) (.tmp 32), _, _, _, _⟩) (v := .bool true) rfl (by kernel_rfl) (by kernel_rfl) (by kernel_rfl) (fun _ _ _ h => h) (.inl ⟨by rfl, fun w hSw => by go_simp⟩) (by assumption) ?_
  simp only [Act.put, List.setIfInBounds_toArray, List.set_cons_zero, List.set_cons_succ]
  refine wpAnyH_done (by kernel_rfl) ?_ _
  go_wp2
  go_end0
  exact ⟨rfl, Lib.hid (H.out.below HB6.out), Lib.hid (Chg.of HB6.out)⟩
set_option maxHeartbeats 2000000 in
theorem dputlist_4 (v W0 R : Nat → Int) (L : Int) (S : Sup) (gp : Nat) (h : DK b w gd gv gm gs r Bs N n X) (hr : Row w gp 101 (S.cs ++ ptl R L)) (hgp : gp ≠ gd) (h0 : L ≠ 0) (h1 : L = v 26) (h2 : ¬ ∀ j, j < 112 → R (16 + j) = W0 (16 + j)) (hL : 0 < L ∧ L < 256) (hsl : ∀ j, j < 112 → 0 ≤ R (16 + j) ∧ R (16 + j) ≤ 255) (hn : n ≤ 1000) : Calls Tryz.prog 49 #[.pointer (some ⟨gd, 0, none⟩), .agg (ncs v).toArray, .agg (inl 128 W0).toArray, .pointer (some ⟨gp, 0, none⟩)] w (DPut b w gd gv gm gs r Bs N (n + 1) (X.put L (blk s2 (fun j => R (16 + j)) 112))) := by
  have i1 := Lib.hid info_rows
  have H := Lib.hid h
  have HP := Lib.hid hr
  have HPC := Lib.hid (p := ∀ W, Row W gp 101 (S.cs ++ ptl R L) → W.cell? ⟨gp, 515, none⟩ = some (.int .i64 L)) (fun W h => by rw [h.cell, List.getElem?_append_right (by rw [Sup.cs_len]; omega), Sup.cs_len]; exact ptl_list R L)
  have HPR := Lib.hid (p := ∀ W, Row W gp 101 (S.cs ++ ptl R L) → W.rangeAt gp 387 (inl 128 R)) (fun W h => h.rng (by rw [Sup.cs_len]))
  obtain ⟨v26, hv26⟩ : ∃ v26, v 26 = v26 := ⟨_, rfl⟩
  have HV := Lib.hid (p := ∀ W g5, Row W g5 44 (ncs v) → W.cell? ⟨g5, 26, none⟩ = some (.int .i64 v26)) (fun W g5 h => by rw [← hv26]; exact (h.cell 26).trans rfl)
  rw [hv26] at h1
  subst h1
  have e0 : (L == 0) = false := beq_false_of_ne h0
  have HEQ := Lib.hid (p := ∀ w, (Op.equalIn 10000 134 (.agg (inl 112 fun j => R (16 + j)).toArray) (.agg (inl 112 fun j => W0 (16 + j)).toArray)).run Tryz.prog w = .ok false w) (fun w => by
    have h3 := eq_inl 9998 112 134 Tryz.underlying134 (fun j => R (16 + j)) (fun j => W0 (16 + j)) w
    have h4 : ((List.range 112).all fun j => R (16 + j) == W0 (16 + j)) = false := by
      rw [← Bool.not_eq_true, List.all_eq_true]
      intro h5
      exact h2 fun j hj => beq_iff_eq.1 (h5 j (List.mem_range.2 hj))
    rw [h4] at h3
    exact h3)
  have HL2 := Lib.hid (list_any W0)
  obtain ⟨LW, hLW⟩ : ∃ LW : Nat → Int, (fun j => W0 (16 + j)) = LW := ⟨_, rfl⟩
  rw [hLW] at HEQ HL2
  have HPK := Lib.hid (packlist_ok (fun j => R (16 + j)) ((slotB_iff _ _).2 hsl))
  have HZ := Lib.hid (p := I64 L ∧ n ≤ 1000 ∧ (blk s2 (fun j => R (16 + j)) 112).length = 256) ⟨by unfold I64; omega, hn, blk_len _ _ _ (by decide)⟩
  have HL1 := Lib.hid (list_any R)
  obtain ⟨LR, hLR⟩ : ∃ LR : Nat → Int, (fun j => R (16 + j)) = LR := ⟨_, rfl⟩
  have HLR := Lib.hid hLR
  rw [hLR] at HL1 HEQ HPK HZ
  have HLT := Lib.hid (p := gd < w.heap.size ∧ gp < w.heap.size) ⟨h.lt, hr.lt⟩
  have HLO := Lib.hid h.lo
  have HNE := Lib.hid (p := gp ≠ gd) hgp
  clear h hr hgp hv26 h0 h2 hLR hLW hL hsl hn
  go_enter Tryz.func49, Tryz.ntmps49
  go_wp2_with (first
    | (refine step_box rfl 5 rfl 44 (.tmp 1) rfl (ncs v) rfl ?_; intro g5 w2 hr2 hg2 hb2 hs2
       have HR52 := Lib.hid hr2
       have HB2 := Lib.hid hb2
       clear hr2 hg2 hb2 hs2)
    | (refine step_box rfl 6 rfl 98 (.tmp 2) rfl (inl 128 W0) rfl ?_; intro g6 w3 hr2 hg2 hb2 hs2
       have HR63 := Lib.hid hr2
       have HR53 := Lib.hid (HR52.out.kept hb2)
       have HB3 := Lib.hid (below_nxt hb2 HB2.out)
       clear hr2 hg2 hb2 hs2))
  have HB4 := Lib.hid (p := Below w.heap.size w w3.drew) (HB3.out.trans (below_drw w3 |>.mono HB3.out.size))
  have HS4 := Lib.hid (p := Row w3.drew gp 101 (S.cs ++ ptl R L) ∧ Row w3.drew g5 44 (ncs v) ∧ Row w3.drew g6 98 (inl 128 W0)) ⟨HP.out.kept HB4.out, HR53.out.drew, HR63.out.drew⟩
  have HSK := Lib.hid (p := ∀ W W', (Row W gp 101 (S.cs ++ ptl R L) ∧ Row W g5 44 (ncs v) ∧ Row W g6 98 (inl 128 W0)) → Below W.heap.size W W' → (Row W' gp 101 (S.cs ++ ptl R L) ∧ Row W' g5 44 (ncs v) ∧ Row W' g6 98 (inl 128 W0))) (fun W W' h hb => ⟨h.1.kept hb, h.2.1.kept hb, h.2.2.kept hb⟩)
  refine wp_region_held_drew (S := fun W => Row W gp 101 (S.cs ++ ptl R L) ∧ Row W g5 44 (ncs v) ∧ Row W g6 98 (inl 128 W0)) (by kernel_rfl) HS4.out (fun hHeld => ?_)
  refine wpAnyH_take (i := 0) (oi := ⟨some 10, .move (.tmp 3), _, _, _, _⟩) (v := .pointer (some ⟨gp, 0, none⟩)) rfl (by kernel_rfl) (by kernel_rfl) (by kernel_rfl) (fun _ _ _ h => h) (.inl ⟨by rfl, fun w hSw => by go_simp⟩) (by assumption) ?_
  simp only [Act.put, List.setIfInBounds_toArray, List.set_cons_zero, List.set_cons_succ]
  refine wpAnyH_take (i := 1) (oi := ⟨some 11, .nilCheck (.tmp 10), _, _, _, _⟩) (v := .pointer (some ⟨gp, 0, none⟩)) rfl (by kernel_rfl) (by kernel_rfl) (by kernel_rfl) (fun _ _ _ h => h) (.inl ⟨by rfl, fun w hSw => by go_simp⟩) (by assumption) ?_
  simp only [Act.put, List.setIfInBounds_toArray, List.set_cons_zero, List.set_cons_succ]
  refine wpAnyH_take (i := 2) (oi := ⟨some 12, .fieldAddr 101 (.tmp 11) 2, _, _, _, _⟩) (v := .pointer (some ⟨gp, 515, none⟩)) rfl (by kernel_rfl) (by kernel_rfl) (by kernel_rfl) (fun _ _ _ h => h) (.inl ⟨by rfl, fun w hSw => by go_simp⟩) (by assumption) ?_
  simp only [Act.put, List.setIfInBounds_toArray, List.set_cons_zero, List.set_cons_succ]
  refine wpAnyH_take (i := 3) (oi := ⟨some 13, .load 3 (.tmp 12), _, _, _, _⟩) (v := .int .i64 L) rfl (by kernel_rfl) (by kernel_rfl) (by kernel_rfl) (fun _ _ _ h => h) (.inl ⟨by rfl, fun w hSw => by have z := HPC.out _ hSw.1; go_simp⟩) (by assumption) ?_
  simp only [Act.put, List.setIfInBounds_toArray, List.set_cons_zero, List.set_cons_succ]
  refine wpAnyH_take (i := 4) (oi := ⟨some 14, .binOp .eql 3 (.tmp 13) (.const (.int .i64 0)) 3, _, _, _, _⟩) (v := .bool false) rfl (by kernel_rfl) (by kernel_rfl) (by kernel_rfl) (fun _ _ _ h => h) (.inl ⟨by rfl, fun w hSw => by go_simp⟩) (by assumption) ?_
  simp only [Act.put, List.setIfInBounds_toArray, List.set_cons_zero, List.set_cons_succ]
  refine wpAnyH_take (i := 5) (oi := ⟨some 15, .move (.tmp 14), _, _, _, _⟩) (v := .bool false) rfl (by kernel_rfl) (by kernel_rfl) (by kernel_rfl) (fun _ _ _ h => h) (.inl ⟨by rfl, fun w hSw => by go_simp⟩) (by assumption) ?_
  simp only [Act.put, List.setIfInBounds_toArray, List.set_cons_zero, List.set_cons_succ]
  refine wpAnyH_take (i := 6) (oi := ⟨some 16, .move (.tmp 3), _, _, _, _⟩) (v := .pointer (some ⟨gp, 0, none⟩)) rfl (by kernel_rfl) (by kernel_rfl) (by kernel_rfl) (fun _ _ _ h => h) (.inl ⟨by rfl, fun w hSw => by go_simp⟩) (by assumption) ?_
  simp only [Act.put, List.setIfInBounds_toArray, List.set_cons_zero, List.set_cons_succ]
  refine wpAnyH_take (i := 7) (oi := ⟨some 17, .nilCheck (.tmp 16), _, _, _, _⟩) (v := .pointer (some ⟨gp, 0, none⟩)) rfl (by kernel_rfl) (by kernel_rfl) (by kernel_rfl) (fun _ _ _ h => h) (.inl ⟨by rfl, fun w hSw => by go_simp⟩) (by assumption) ?_
  simp only [Act.put, List.setIfInBounds_toArray, List.set_cons_zero, List.set_cons_succ]
  refine wpAnyH_take (i := 8) (oi := ⟨some 18, .fieldAddr 101 (.tmp 17) 2, _, _, _, _⟩) (v := .pointer (some ⟨gp, 515, none⟩)) rfl (by kernel_rfl) (by kernel_rfl) (by kernel_rfl) (fun _ _ _ h => h) (.inl ⟨by rfl, fun w hSw => by go_simp⟩) (by assumption) ?_
  simp only [Act.put, List.setIfInBounds_toArray, List.set_cons_zero, List.set_cons_succ]
  refine wpAnyH_take (i := 9) (oi := ⟨some 19, .load 3 (.tmp 18), _, _, _, _⟩) (v := .int .i64 L) rfl (by kernel_rfl) (by kernel_rfl) (by kernel_rfl) (fun _ _ _ h => h) (.inl ⟨by rfl, fun w hSw => by have z := HPC.out _ hSw.1; go_simp⟩) (by assumption) ?_
  simp only [Act.put, List.setIfInBounds_toArray, List.set_cons_zero, List.set_cons_succ]
  refine wpAnyH_take (i := 10) (oi := ⟨some 20, .fieldAddr 44 (.tmp 5) 11, _, _, _, _⟩) (v := .pointer (some ⟨g5, 26, none⟩)) rfl (by kernel_rfl) (by kernel_rfl) (by kernel_rfl) (fun _ _ _ h => h) (.inl ⟨by rfl, fun w hSw => by go_simp⟩) (by assumption) ?_
  simp only [Act.put, List.setIfInBounds_toArray, List.set_cons_zero, List.set_cons_succ]
  refine wpAnyH_take (i := 11) (oi := ⟨some 21, .load 3 (.tmp 20), _, _, _, _⟩) (v := .int .i64 L) rfl (by kernel_rfl) (by kernel_rfl) (by kernel_rfl) (fun _ _ _ h => h) (.inl ⟨by rfl, fun w hSw => by have z := HV.out _ _ hSw.2.1; go_simp⟩) (by assumption) ?_
  simp only [Act.put, List.setIfInBounds_toArray, List.set_cons_zero, List.set_cons_succ]
  refine wpAnyH_take (i := 12) (oi := ⟨some 22, .binOp .eql 3 (.tmp 19) (.tmp 21) 3, _, _, _, _⟩) (v := .bool true) rfl (by kernel_rfl) (by kernel_rfl) (by kernel_rfl) (fun _ _ _ h => h) (.inl ⟨by rfl, fun w hSw => by go_simp⟩) (by assumption) ?_
  simp only [Act.put, List.setIfInBounds_toArray, List.set_cons_zero, List.set_cons_succ]
  refine wpAnyH_take (i := 13) (oi := ⟨some 23, .move (.tmp 22), _, _, _, _⟩) (v := .bool true) rfl (by kernel_rfl) (by kernel_rfl) (by kernel_rfl) (fun _ _ _ h => h) (.inl ⟨by rfl, fun w hSw => by go_simp⟩) (by assumption) ?_
  simp only [Act.put, List.setIfInBounds_toArray, List.set_cons_zero, List.set_cons_succ]
  refine wpAnyH_take (i := 14) (oi := ⟨some 24, .move (.tmp 3), _, _, _, _⟩) (v := .pointer (some ⟨gp, 0, none⟩)) rfl (by kernel_rfl) (by kernel_rfl) (by kernel_rfl) (fun _ _ _ h => h) (.inl ⟨by rfl, fun w hSw => by go_simp⟩) (by assumption) ?_
  simp only [Act.put, List.setIfInBounds_toArray, List.set_cons_zero, List.set_cons_succ]
  refine wpAnyH_take (i := 15) (oi := ⟨some 25, .nilCheck (.tmp 24), _, _, _, _⟩) (v := .pointer (some ⟨gp, 0, none⟩)) rfl (by kernel_rfl) (by kernel_rfl) (by kernel_rfl) (fun _ _ _ h => h) (.inl ⟨by rfl, fun w hSw => by go_simp⟩) (by assumption) ?_
  simp only [Act.put, List.setIfInBounds_toArray, List.set_cons_zero, List.set_cons_succ]
  refine wpAnyH_take (i := 16) (oi := ⟨some 26, .fieldAddr 101 (.tmp 25) 1, _, _, _, _⟩) (v := .pointer (some ⟨gp, 387, none⟩)) rfl (by kernel_rfl) (by kernel_rfl) (by kernel_rfl) (fun _ _ _ h => h) (.inl ⟨by rfl, fun w hSw => by go_simp⟩) (by assumption) ?_
  simp only [Act.put, List.setIfInBounds_toArray, List.set_cons_zero, List.set_cons_succ]
  refine wpAnyH_take (i := 17) (oi := ⟨some 27, .load 98 (.tmp 26), _, _, _, _⟩) (v := .agg (inl 128 R).toArray) rfl (by kernel_rfl) (by kernel_rfl) (by kernel_rfl) (fun _ _ _ h => h) (yieldsIf_load_mid (by rfl) 98 (.tmp 26) rfl gp 387 rfl (inl 128 R) _ (fun w hSw => HPR.out _ hSw.1) Tryz.underlying98 rfl (i1.out _)) (by assumption) ?_
  simp only [Act.put, List.setIfInBounds_toArray, List.set_cons_zero, List.set_cons_succ]
  refine wpAnyH_take (i := 19) (oi := ⟨some 29, .load 98 (.tmp 6), _, _, _, _⟩) (v := .agg (inl 128 W0).toArray) rfl (by kernel_rfl) (by kernel_rfl) (by kernel_rfl) (fun _ _ _ h => h) (yieldsIf_load_mid (by rfl) 98 (.tmp 6) rfl g6 0 rfl (inl 128 W0) _ (fun w hSw => hSw.2.2.all) Tryz.underlying98 rfl (i1.out _)) (by assumption) ?_
  simp only [Act.put, List.setIfInBounds_toArray, List.set_cons_zero, List.set_cons_succ]
  refine wpAnyH_ready (rs := [18]) (by kernel_rfl) (by simp) ?_
  refine AllReadyH.cons (o := ⟨some 28, .call ⟨.value (.func 84), #[.tmp 27], _⟩, _, _, _, _⟩) rfl (fun K hK => ?_) AllReadyH.nil
  go_simp
  go_at_call 84
  refine (HL1.out _).mono ?_
  rintro e w5 ⟨rfl, hb⟩
  have HS5 := Lib.hid (HSK.out _ _ HS4.out hb)
  have HB5 := Lib.hid (below_nxt hb HB4.out)
  clear hb
  refine hK.out _ _ HS5.out (fun _hH => ?_)
  clear hK K
  refine wpAnyH_ready (rs := [20]) (by kernel_rfl) (by simp) ?_
  refine AllReadyH.cons (o := ⟨some 30, .call ⟨.value (.func 84), #[.tmp 29], _⟩, _, _, _, _⟩) rfl (fun K hK => ?_) AllReadyH.nil
  go_simp
  go_at_call 84
  refine (HL2.out _).mono ?_
  rintro e w6 ⟨rfl, hb⟩
  have HS6 := Lib.hid (HSK.out _ _ HS5.out hb)
  have HB6 := Lib.hid (below_nxt hb HB5.out)
  clear hb
  refine hK.out _ _ HS6.out (fun _hH => ?_)
  clear hK K
  refine wpAnyH_take (i := 21) (oi := ⟨some 31, .binOp .eql 134 (.tmp 28) (.tmp 30) 134, _, _, _, _⟩) (v := .bool false) rfl (by kernel_rfl) (by kernel_rfl) (by kernel_rfl) (fun _ _ _ h => h) (.inl ⟨by rfl, fun w hSw => run_eql_op w _ 134 134 (.tmp 28) (.tmp 30) rfl _ _ rfl rfl l112_guard false (fun w => HEQ.out w)⟩) (by assumption) ?_
  simp only [Act.put, List.setIfInBounds_toArray, List.set_cons_zero, List.set_cons_succ]
  refine wpAnyH_take (i := 22) (oi := ⟨some 32, .pick (.tmp 23) (.tmp 31) (.const (.bool false)), _, _, _, _⟩) (v := .bool false) rfl (by kernel_rfl) (by kernel_rfl) (by kernel_rfl) (fun _ _ _ h => h) (.inl ⟨by rfl, fun w hSw => by go_simp⟩) (by assumption) ?_
  simp only [Act.put, List.setIfInBounds_toArray, List.set_cons_zero, List.set_cons_succ]
  refine wpAnyH_take (i := 23) (oi := ⟨some 33, .pick (.tmp 15) (.const (.bool true)) (.tmp 32), _, _, _, _⟩) (v := .bool false) rfl (by kernel_rfl) (by kernel_rfl) (by kernel_rfl) (fun _ _ _ h => h) (.inl ⟨by rfl, fun w hSw => by go_simp⟩) (by assumption) ?_
  simp only [Act.put, List.setIfInBounds_toArray, List.set_cons_zero, List.set_cons_succ]
  refine wpAnyH_done (by kernel_rfl) ?_ _
  have HK7 := Lib.hid (H.out.below HB6.out)
  go_wp2_with (first
    | (refine step_load_at rfl 98 (.tmp 37) rfl gp 387 (by rfl) 101 S.cs (inl 128 R) [.int .i64 L] _ HS6.out.1 (by rw [Sup.cs_len]) Tryz.underlying98 rfl (i1.out _) ?_)
    | (go_at_call 84; refine (HL1.out _).mono ?_; rintro e w8 ⟨rfl, hb⟩
       have HS8 := Lib.hid (HSK.out _ _ HS6.out hb)
       have HB8 := Lib.hid (below_nxt hb HB6.out)
       clear hb)
    | (go_at_call 85; refine (HPK.out _).mono ?_; rintro e w9 ⟨A, c, rfl, ho, hb⟩
       have HO := ho
       have HS9 := Lib.hid (HSK.out _ _ HS8.out hb.out)
       have HB9 := Lib.hid (below_nxt hb.out HB8.out)
       have HK9 := Lib.hid (H.out.below HB9.out)
       have c9 := HPC.out _ HS9.out.1
       clear ho hb)
    | (go_at_call 40
       have hput := dput HK9.out ⟨A, c, blk s2 LR 112⟩ (Hol.own HO.out) (by rw [HZ.out.2.2]; decide) L HZ.out.1 HZ.out.2.1
       simp only at hput
       rw [HZ.out.2.2] at hput
       refine hput.mono ?_; rintro e w11 ⟨rfl, hk, hc⟩
       have HK11 := hk
       have HC11 := Lib.hid (p := Chg [gd, gm] w w11) ((Chg.of (F := [gd, gm]) HB9.out).trans hc.out (fun x hx => .inl hx))
       clear hk hc c9 hput))
  go_end0
  rw [HLR.out]
  exact ⟨rfl, HK11, HC11⟩
end
end Go.Proofs.YtfbfeplegdpemaaGreat
