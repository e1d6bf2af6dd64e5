/- Files: what a block holds, and what it holds behind a write. Conditions: those named. -/
import Derived.Test.YtfbfeplegdpemaaGreatEb
set_option linter.unusedVariables false
set_option maxRecDepth 20000
namespace Go.Proofs.YtfbfeplegdpemaaGreat
open Go.RowKit

theorem info_block : (Tryz.prog.info? 105).map (·.size) = some 256 := by kernel_rfl
theorem info_brr (f : Nat → UInt8) : (Tryz.prog.info? 105).map (·.size) = some (brr 256 f).length := by rw [brr_len]; exact info_block
theorem info_u8s : (Tryz.prog.info? 5).map (·.size) = some 1 := by kernel_rfl
theorem zero_block (w : World) : (zeroValue 105).run Tryz.prog w = .ok (.agg (brr 256 fun _ => 0).toArray) w := by
  have h : (zeroValue 105).run Tryz.prog w = .ok (.agg (bc (List.replicate 256 0)).toArray) w := by kernel_rfl
  rw [brr0_bc]
  exact h
theorem brr_same {n : Nat} {f g : Nat → UInt8} (h : ∀ j, j < n → f j = g j) : brr n f = brr n g := by
  unfold brr
  exact List.map_congr_left fun j hj => by rw [h j (List.mem_range.1 hj)]
section
variable {P : Program} {w : World}
theorem k_copy {op : Oper} {a : Act} {Q : Exit → Act → World → Prop} {K : Act → World → Prop} (d s : Operand) (dT sT : TypeId) (ho : op.op = .call { callee := .builtin .copy, args := #[d, s], argTypes := #[dT, sT] })
    (e : TypeId) (hu : P.underlying dT = some (.slice e)) (hs : (P.info? e).map (·.size) = some 1) (g o n dLen dCap : Nat) (t : TypeId) (f : Nat → UInt8) (hd : a.eval d = .slice (some ⟨g, o, none⟩) dLen dCap) (hr : _root_.Go.Proofs.YtfbfeplegdpemaaGreat.Row w g t (brr n f))
    (A : Option Addr) (m c : Nat) (l : List UInt8) (hx : a.eval s = .slice A m c) (hm : m = l.length) (hA : Hol w A l) (hfit : o + Nat.min m dLen ≤ n)
    (h : ∀ w' k, _root_.Go.Proofs.YtfbfeplegdpemaaGreat.Row w' g t (brr n (ov o (l.take dLen) f)) → Hid (Upon g w w') → K (a.put op.dst (goInt k)) w') : Oper.wp P op a w K Q := by
  obtain ⟨w', k, hr1, h2, h3⟩ := run_copy_brr (P := P) dT sT op.type e hu hs g o n dLen dCap t f hr A m c l hm hA hfit
  unfold Oper.wp execOp
  simp only [ho, resolve, invoke, builtin, Sem.run_bind, Sem.run_pure, Result.andThen_ok, List.map_toArray, List.map_cons, List.map_nil, hd, hx, hr1]
  exact h w' k h2 h3
end
/-- Bytes as a function of the place. -/
def bfn (l : L8) (j : Nat) : UInt8 := l.getD j 0
theorem ov_zero {l : L8} {f : Nat → UInt8} (hl : l.length = 256) : brr 256 (ov 0 (l.take 256) f) = brr 256 (bfn l) := brr_same fun j hj => by
  rw [List.take_of_length_le (by omega), ov_in (by omega) (by omega)]
  rfl
/-- What a slot holds, 0 being a hole. -/
def Cont (X : DX) (Bs : List BV) (z : Nat) (f : Nat → UInt8) : Prop := (z = 0 ∧ f = fun _ => 0) ∨ (0 < z ∧ z < 256 ∧ ∃ l, seeX X Bs z = some l ∧ l.length ≤ 1000 ∧ (norm l).length = 256 ∧ f = bfn (norm l))
section
variable {b : Nat} {w w' : World} {gd gv gm gs r : Nat} {Bs : List BV} {N n : Nat} {X X' : DX}
set_option maxHeartbeats 1000000 in
theorem dcontent_hole (z : Nat) (h : DK b w gd gv gm gs r Bs N n X) (hz : z = 0) : Calls Tryz.prog 51 #[.pointer (some ⟨gd, 0, none⟩), .int .i64 (z : Int)] w (DOne b w gd gv gm gs r Bs N n X (.agg (brr 256 (fun _ => 0)).toArray)) := by
  have i1 := Lib.hid info_brr
  have i2 := Lib.hid info_u8s
  have hz0 := Lib.hid zero_block
  have H := Lib.hid h
  have hzn : ((z : Int) != 0) = false := by subst hz; rfl
  obtain ⟨f0, hf0⟩ : ∃ f0 : Nat → UInt8, (fun _ => 0) = f0 := ⟨_, rfl⟩
  rw [hf0] at hz0 ⊢
  clear h hz hf0
  go_enter Tryz.func51, Tryz.ntmps51
  go_wp2_with (first
    | (refine step_alloc rfl 4 rfl 105 rfl _ hz0.out ?_; intro g4 w2 hr2 hg2 hb2 hs2
       have HR42 := Lib.hid hr2
       have HB2 := Lib.hid hb2
       have HG4 := Lib.hid (p := w.heap.size ≤ g4) (Nat.le_of_eq hg2.out.symm)
       clear hr2 hg2 hb2 hs2; have MK := trivial)
    | (clear MK; refine step_alloc rfl 5 rfl 105 rfl _ hz0.out ?_; intro g5 w3 hr2 hg2 hb2 hs2
       have HR53 := Lib.hid hr2
       have HR43 := Lib.hid (HR42.out.kept hb2)
       have HB3 := Lib.hid (below_nxt hb2 HB2.out)
       have HG5 := Lib.hid (p := w.heap.size ≤ g5 ∧ g4 < g5) (by rw [hg2.out]; exact ⟨HB2.out.size, HR42.out.lt⟩)
       clear hr2 hg2 hb2 hs2)
    | (refine step_load rfl 13 rfl 105 (.tmp 5) rfl g5 rfl (brr 256 f0) _ HR53.out.all Tryz.underlying105 rfl (i1.out _) ?_)
    | (refine step_store rfl 105 (.tmp 4) (.tmp 13) rfl g4 (by rfl) _ _ (brr 256 f0) (by rfl) HR43.out (by rw [brr_len]) (i1.out _) (brr_one _ _) ?_; intro w9 hr9 hg9 hs9))
  refine bodyPost_ret (results_cell_row rfl _ _ g4 _ _ _ _ rfl hr9 Tryz.underlying105 rfl (by simpa using i1.out f0)) rfl ?_
  have hb9 := below_own HB3.out hg9 HG4.out
  exact ⟨rfl, Lib.hid (H.out.below hb9), Lib.hid (Chg.of hb9)⟩
set_option maxHeartbeats 1000000 in
theorem dcontent_at (z : Nat) (h : DK b w gd gv gm gs r Bs N n X) (hz : 0 < z ∧ z < 256) (l : L8) (hl : seeX X Bs z = some l) (hlen : l.length ≤ 1000) (h256 : (norm l).length = 256) : Calls Tryz.prog 51 #[.pointer (some ⟨gd, 0, none⟩), .int .i64 (z : Int)] w (DOne b w gd gv gm gs r Bs N n X (.agg (brr 256 (bfn (norm l))).toArray)) := by
  have i1 := Lib.hid info_brr
  have i2 := Lib.hid info_u8s
  have hz0 := Lib.hid zero_block
  have H := Lib.hid h
  have hzn : ((z : Int) != 0) = true := by simp; omega
  have HSEE := Lib.hid (p := I64 (z : Int) ∧ seeX X Bs z = some l ∧ l.length ≤ 1000 ∧ (norm l).length = 256) ⟨by unfold I64; omega, hl, hlen, h256⟩
  have HLT := Lib.hid h.lt
  have HLO := Lib.hid h.lo
  obtain ⟨f0, hf0⟩ : ∃ f0 : Nat → UInt8, (fun _ => 0) = f0 := ⟨_, rfl⟩
  rw [hf0] at hz0
  clear h hz hl hlen h256 hf0
  go_enter Tryz.func51, Tryz.ntmps51
  go_wp2_with (first
    | (refine step_alloc rfl 4 rfl 105 rfl _ hz0.out ?_; intro g4 w2 hr2 hg2 hb2 hs2
       have HR42 := Lib.hid hr2
       have HB2 := Lib.hid hb2
       have HG4 := Lib.hid (p := w.heap.size ≤ g4) (Nat.le_of_eq hg2.out.symm)
       clear hr2 hg2 hb2 hs2; have MK := trivial)
    | (clear MK; refine step_alloc rfl 5 rfl 105 rfl _ hz0.out ?_; intro g5 w3 hr2 hg2 hb2 hs2
       have HR53 := Lib.hid hr2
       have HR43 := Lib.hid (HR42.out.kept hb2)
       have HB3 := Lib.hid (below_nxt hb2 HB2.out)
       have HG5 := Lib.hid (p := w.heap.size ≤ g5 ∧ g4 < g5) (by rw [hg2.out]; exact ⟨HB2.out.size, HR42.out.lt⟩)
       clear hr2 hg2 hb2 hs2))
  refine wp_region_held_drew (S := fun _ => True) (by kernel_rfl) trivial (fun hHeld => ?_)
  refine wpAnyH_take (i := 0) (oi := ⟨some 8, .slice 105 (.tmp 5) none none none, _, _, _, _⟩) (v := .slice (some ⟨g5, 0, none⟩) 256 256) rfl (by kernel_rfl) (by kernel_rfl) (by kernel_rfl) (fun _ _ _ h => h) (.inl ⟨by rfl, fun w hSw => by go_simp⟩) (by assumption) ?_
  simp only [Act.put, List.setIfInBounds_toArray, List.set_cons_zero, List.set_cons_succ]
  refine wpAnyH_take (i := 1) (oi := ⟨some 9, .move (.tmp 0), _, _, _, _⟩) (v := .pointer (some ⟨gd, 0, none⟩)) rfl (by kernel_rfl) (by kernel_rfl) (by kernel_rfl) (fun _ _ _ h => h) (.inl ⟨by rfl, fun w hSw => by go_simp⟩) (by assumption) ?_
  simp only [Act.put, List.setIfInBounds_toArray, List.set_cons_zero, List.set_cons_succ]
  refine wpAnyH_take (i := 2) (oi := ⟨some 10, .move (.tmp 1), _, _, _, _⟩) (v := .int .i64 (z : Int)) rfl (by kernel_rfl) (by kernel_rfl) (by kernel_rfl) (fun _ _ _ h => h) (.inl ⟨by rfl, fun w hSw => by go_simp⟩) (by assumption) ?_
  simp only [Act.put, List.setIfInBounds_toArray, List.set_cons_zero, List.set_cons_succ]
  refine wpAnyH_ready (rs := [3]) (by kernel_rfl) (by simp) ?_
  refine AllReadyH.cons (o := ⟨some 11, .call ⟨.value (.func 43), #[.tmp 9, .tmp 10], _⟩, _, _, _, _⟩) rfl (fun K hK => ?_) AllReadyH.nil
  have HK4 := Lib.hid (H.out.below (HB3.out.trans (below_drw w3 |>.mono HB3.out.size)))
  go_simp
  go_at_call 43
  refine (dsee HK4.out (z : Int) HSEE.out.1 l HSEE.out.2.1 HSEE.out.2.2.1).mono ?_
  rintro e w6 ⟨y, rfl, hy, ho, hk, hc⟩
  have HK6 := hk
  have HC6 := Lib.hid (p := Chg [gd] w w6) ((Chg.of (F := [gd]) (HB3.out.trans (below_drw w3 |>.mono HB3.out.size))).trans hc.out (fun x hx => .inl hx))
  have HR46 := Lib.hid (hc.out.row HR43.out.drew (by have h1 := HLT.out; have h2 := HG4.out; simp; omega))
  have HR56 := Lib.hid (hc.out.row HR53.out.drew (by have h1 := HLT.out; have h2 := HG5.out; simp; omega))
  have HY := hy
  have HO := ho
  clear hy ho hk hc
  refine hK.out _ _ trivial (fun _hH => ?_)
  clear hK K
  refine wpAnyH_ready (rs := [4]) (by kernel_rfl) (by simp) ?_
  refine AllReadyH.cons (o := ⟨some 12, .call ⟨.builtin .copy, #[.tmp 8, .tmp 11], #[22, 22]⟩, _, _, _, _⟩) rfl (fun K hK => ?_) AllReadyH.nil
  have HRQ := Lib.hid (p := brr 256 (ov 0 (y.l.take 256) f0) = brr 256 (bfn (norm l))) (by rw [HY.out]; exact ov_zero HSEE.out.2.2.2)
  refine k_copy (.tmp 8) (.tmp 11) 22 22 rfl 5 Tryz.underlying22 i2.out g5 0 256 256 256 105 f0 (by rfl) HR56.out y.A y.l.length y.c y.l (by rfl) rfl HO.out.hol (by have h1 : Nat.min y.l.length 256 ≤ 256 := Nat.min_le_right _ _; omega) ?_
  intro w7 kk hr7 hu7
  have HR57 := Lib.hid (p := Row w7 g5 105 (brr 256 (bfn (norm l)))) (by rw [← HRQ.out]; exact hr7)
  have HC7 := Lib.hid (p := Chg [gd] w w7) (chg_own HC6.out HG5.out.1 (Chg.one hu7.out.by_))
  have HK7 := Lib.hid (HK6.out.other HR56.out (by decide) (by have := HLO.out; have := HG5.out; omega) (Chg.one hu7.out.by_))
  have HR47 := Lib.hid (HR46.out.grown hu7.out.by_ (fun e => by have := HG5.out; injection e; omega))
  clear hr7 hu7
  refine hK.out _ _ trivial (fun _hH => ?_)
  clear hK K
  refine wpAnyH_done (by kernel_rfl) ?_ _
  obtain ⟨f1, hf1⟩ : ∃ f1, bfn (norm l) = f1 := ⟨_, rfl⟩
  have HF1 := Lib.hid hf1
  rw [hf1] at HR57
  clear hf1 HRQ
  go_wp2_with (first
    | (refine step_load rfl 13 rfl 105 (.tmp 5) rfl g5 rfl (brr 256 f1) _ HR57.out.all Tryz.underlying105 rfl (i1.out _) ?_)
    | (refine step_store rfl 105 (.tmp 4) (.tmp 13) rfl g4 (by rfl) _ _ (brr 256 f1) (by rfl) HR47.out (by rw [brr_len, brr_len]) (i1.out _) (brr_one _ _) ?_; intro w9 hr9 hg9 hs9))
  refine bodyPost_ret (results_cell_row rfl _ _ g4 _ _ _ _ rfl hr9 Tryz.underlying105 rfl (by simpa using i1.out f1)) rfl ?_
  exact ⟨by rw [HF1.out], Lib.hid (HK7.out.other HR47.out (by decide) (by have := HLO.out; have := HG4.out; omega) (Chg.one hg9)), Lib.hid (chg_own HC7.out HG4.out (Chg.one hg9))⟩
theorem dcontent (z : Nat) (f : Nat → UInt8) (h : DK b w gd gv gm gs r Bs N n X) (hc : Cont X Bs z f) : Calls Tryz.prog 51 #[.pointer (some ⟨gd, 0, none⟩), .int .i64 (z : Int)] w (DOne b w gd gv gm gs r Bs N n X (.agg (brr 256 f).toArray)) := by
  rcases hc with ⟨h1, rfl⟩ | ⟨h1, h2, l, h3, h4, h5, rfl⟩
  · exact dcontent_hole z h h1
  · exact dcontent_at z h ⟨h1, h2⟩ l h3 h4 h5
/-- What a slot holds, as far as a block goes. -/
def CW (X : DX) (Bs : List BV) (z : Nat) (f : Nat → UInt8) : Prop := ∃ g, Cont X Bs z g ∧ ∀ j, j < 256 → g j = f j
theorem dcontentW (z : Nat) (f : Nat → UInt8) (h : DK b w gd gv gm gs r Bs N n X) (hc : CW X Bs z f) : Calls Tryz.prog 51 #[.pointer (some ⟨gd, 0, none⟩), .int .i64 (z : Int)] w (DOne b w gd gv gm gs r Bs N n X (.agg (brr 256 f).toArray)) := by
  obtain ⟨g, h1, h2⟩ := hc
  have h3 := dcontent z g h h1
  rw [brr_same h2] at h3
  exact h3
end
end Go.Proofs.YtfbfeplegdpemaaGreat
