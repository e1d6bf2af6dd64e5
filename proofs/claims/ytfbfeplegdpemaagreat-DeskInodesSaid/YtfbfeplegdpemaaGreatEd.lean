/- Files: what a block holds behind a write. Conditions: those named. -/
import Derived.Test.YtfbfeplegdpemaaGreatEc
import Derived.Deep.Cut
set_option linter.unusedVariables false
set_option maxRecDepth 20000
namespace Go.Proofs.YtfbfeplegdpemaaGreat
open Go.RowKit

section
variable {P : Program}
theorem run_max_op (w : World) {a : Act} (o : Oper) (x y : Operand) (ts : Array TypeId) (ho : o.op = .call { callee := .builtin .max, args := #[x, y], argTypes := ts }) (p q m : Int) (hx : a.eval x = .int .i64 p) (hy : a.eval y = .int .i64 q) (hm : (if q > p then q else p) = m) : (execOp a.eval o).run P w = .ok (.value (.int .i64 m)) w := by
  subst hm
  unfold execOp
  simp only [ho, resolve, invoke, builtin, Sem.run_bind, Sem.run_pure, Result.andThen_ok, List.map_toArray, List.map_cons, List.map_nil, hx, hy, run_max_int2]
theorem run_cutd_op (w : World) {a : Act} (o : Oper) (t : TypeId) (x y : Operand) (ho : o.op = .slice t x (some y) none none) (g off n c l m cc : Nat) (zl : Int) (hx : a.eval x = .slice (some ⟨g, off, none⟩) n c) (hy : a.eval y = .int .i64 zl) (hzl : zl = (l : Int)) (hln : l ≤ n) (hlc : l < c) (hm : n - l = m) (hcc : c - l = cc)
    (hu : P.underlying t = some (.slice (P.elem t))) (hs : (P.info? (P.elem t)).map (·.size) = some 1) : (execOp a.eval o).run P w = .ok (.value (.slice (some ⟨g, off + l, none⟩) m cc)) w := by
  subst hzl hm hcc
  have hr : (Instr.sliceAt t (.slice (some ⟨g, off, none⟩) n c) (some (.int .i64 (l : Int))) none none).run P w = .ok (.slice (some ⟨g, off + l, none⟩) (n - l) (c - l)) w := by
    rw [run_sliceAt_slice w _ _ _ _ _ hu, run_slice_l w _ _ _ _ hu .i64 _ (by omega) (by omega), size_of hs]
    have h1 : ¬ c = l := by omega
    simp only [Result.andThen_ok, sliced, Int.toNat_natCast, Nat.mul_one, if_neg h1, Option.map_some, Addr.add_lit]
  unfold execOp
  simp only [ho, hx, hy, Option.map_some, Option.map_none, Sem.run_bind, hr, Result.andThen_ok]
  rfl
end
theorem hol_drop {w : World} {g o : Nat} {l : L8} (h : Hol w (some ⟨g, o, none⟩) l) (q : Nat) : Hol w (some ⟨g, o + q, none⟩) (l.drop q) := by
  rcases h with rfl | ⟨g', o', e, hc⟩
  · exact .inl (by simp)
  · injection e with e
    injection e with e1 e2
    subst e1 e2
    refine .inr ⟨g, o + q, rfl, fun j x hx => ?_⟩
    rw [List.getElem?_drop] at hx
    have := hc (q + j) x hx
    rwa [← Nat.add_assoc] at this
/-- What a block holds behind a write whose bytes begin at a place of it, or ahead of it. -/
def mixF (l : L8) (B : Int) (f : Nat → UInt8) (j : Nat) : UInt8 := if B ≤ (j : Int) ∧ (j : Int) < B + l.length then l.getD ((j : Int) - B).toNat 0 else f j
section
variable {b : Nat} {w w' : World} {gd gv gm gs r : Nat} {Bs : List BV} {N n : Nat} {X X' : DX}
set_option maxHeartbeats 2000000 in
theorem dmixed_1 (z : Nat) (f : Nat → UInt8) (h : DK b w gd gv gm gs r Bs N n X) (hc : Cont X Bs z f) (A : Option Addr) (c m : Nat) (l : L8) (hm : l.length = m) (hmc : m ≤ c) (hD : ∀ W, Chg [gd] w W → Hol W A l) (B Nz Sm : Int) (p q : Nat) (hneg : IntKind.i64.wrap (-B) = Nz) (hsum : IntKind.i64.wrap (B + (m : Int)) = Sm)
    (hp : (if (0 : Int) > B then 0 else B) = (p : Int)) (hq : (if (0 : Int) > Nz then 0 else Nz) = (q : Int)) (hpq : p ≤ 255 ∧ q < m) (h1 : 0 < B) : Calls Tryz.prog 48 #[.pointer (some ⟨gd, 0, none⟩), .int .i64 (z : Int), .int .i64 B, .slice A m c] w (DOne b w gd gv gm gs r Bs N n X (.agg (brr 256 (ov p ((l.drop q).take (256 - p)) f)).toArray)) := by
  have i1 := Lib.hid info_brr
  have i2 := Lib.hid info_u8s
  have hz0 := Lib.hid zero_block
  have H := Lib.hid h
  have HLT := Lib.hid h.lt
  have HLO := Lib.hid h.lo
  obtain ⟨ga, oa, rfl, _, _⟩ := (hD w (Chg.refl _ _)).some_ (by omega)
  have HDD := Lib.hid hD
  have HM := Lib.hid hm
  have HPQ := Lib.hid (p := p ≤ 255 ∧ q < m ∧ m ≤ c) ⟨hpq.1, hpq.2, hmc⟩
  have HP := Lib.hid hp
  have HQ := Lib.hid hq
  have hp1 : (p : Int) ≤ 256 := by omega
  have hp2 : ¬ 256 = p := by omega
  obtain ⟨f0, hf0⟩ : ∃ f0 : Nat → UInt8, (fun _ => 0) = f0 := ⟨_, rfl⟩
  have HF0 := Lib.hid hf0
  rw [hf0] at hz0
  have HC := Lib.hid hc
  clear h hD hm hpq hmc hp hq hf0 hc
  go_enter Tryz.func48, Tryz.ntmps48
  go_wp2_with (first
    | (refine step_alloc rfl 8 rfl 105 rfl _ hz0.out ?_; intro g8 w2 hr2 hg2 hb2 hs2
       have HR82 := Lib.hid hr2
       have HB2 := Lib.hid hb2
       have HG8 := Lib.hid (p := w.heap.size ≤ g8) (Nat.le_of_eq hg2.out.symm)
       clear hr2 hg2 hb2 hs2; have MK := trivial)
    | (clear MK; refine step_alloc rfl 9 rfl 105 rfl _ hz0.out ?_; intro g9 w3 hr2 hg2 hb2 hs2
       have HR93 := Lib.hid hr2
       have HR83 := Lib.hid (HR82.out.kept hb2)
       have HB3 := Lib.hid (below_nxt hb2 HB2.out)
       have HG9 := Lib.hid (p := w.heap.size ≤ g9 ∧ g8 < g9) (by rw [hg2.out]; exact ⟨HB2.out.size, HR82.out.lt⟩)
       clear hr2 hg2 hb2 hs2)
    | (go_at_call 51; refine (dcontent z f (H.out.below HB3.out) HC.out).mono ?_; rintro e w4 ⟨rfl, hk, hc⟩
       have HK4 := hk
       have HC4 := Lib.hid (p := Chg [gd] w w4) ((Chg.of (F := [gd]) HB3.out).trans hc.out (fun x hx => .inl hx))
       have HR84 := Lib.hid (hc.out.row HR83.out (by have h1 := HLT.out; have h2 := HG8.out; simp; omega))
       have HR94 := Lib.hid (hc.out.row HR93.out (by have h1 := HLT.out; have h2 := HG9.out; simp; omega))
       clear hk hc)
    | (refine step_store rfl 105 (.tmp 9) (.tmp 21) rfl g9 rfl _ _ (brr 256 f) rfl HR94.out (by rw [brr_len, brr_len]) (i1.out _) (brr_one _ _) ?_; intro w5 hr9 hg9 hs9
       have HR95 := Lib.hid hr9
       have HK5 := Lib.hid ((HK4.out.other HR94.out (by decide) (by have := HLO.out; have := HG9.out; omega) (Chg.one hg9)))
       have HC5 := Lib.hid (p := Chg [gd] w w5) (chg_own HC4.out HG9.out.1 (Chg.one hg9))
       have HR85 := Lib.hid (HR84.out.grown hg9 (fun e => by have := HG9.out; injection e; omega))
       clear hr9 hg9 hs9))
  refine wp_region_held_drew (S := fun _ => True) (by kernel_rfl) trivial (fun hHeld => ?_)
  refine wpAnyH_take (i := 0) (oi := ⟨some 22, .move (.tmp 2), _, _, _, _⟩) (v := .int .i64 B) rfl (by kernel_rfl) (by kernel_rfl) (by kernel_rfl) (fun _ _ _ h => h) (.inl ⟨by rfl, fun w hSw => by go_simp⟩) (by assumption) ?_
  simp only [Act.put, List.setIfInBounds_toArray, List.set_cons_zero, List.set_cons_succ]
  refine wpAnyH_take (i := 1) (oi := ⟨some 23, .call ⟨.builtin .max, #[.tmp 22, .const (.int .i64 0)], #[3, 3]⟩, _, _, _, _⟩) (v := .int .i64 (p : Int)) rfl (by kernel_rfl) (by kernel_rfl) (by kernel_rfl) (fun _ _ _ h => h) (.inl ⟨by rfl, fun w hSw => run_max_op w _ (.tmp 22) (.const (.int .i64 0)) _ rfl B 0 _ (by rfl) (by rfl) HP.out⟩) (by assumption) ?_
  simp only [Act.put, List.setIfInBounds_toArray, List.set_cons_zero, List.set_cons_succ]
  refine wpAnyH_take (i := 2) (oi := ⟨some 24, .slice 105 (.tmp 9) (some (.tmp 23)) none none, _, _, _, _⟩) (v := .slice (some ⟨g9, p, none⟩) (256 - p) (256 - p)) rfl (by kernel_rfl) (by kernel_rfl) (by kernel_rfl) (fun _ _ _ h => h) (.inl ⟨by rfl, fun w hSw => by go_simp⟩) (by assumption) ?_
  simp only [Act.put, List.setIfInBounds_toArray, List.set_cons_zero, List.set_cons_succ]
  refine wpAnyH_take (i := 3) (oi := ⟨some 25, .move (.tmp 3), _, _, _, _⟩) (v := .slice (some ⟨ga, oa, none⟩) m c) rfl (by kernel_rfl) (by kernel_rfl) (by kernel_rfl) (fun _ _ _ h => h) (.inl ⟨by rfl, fun w hSw => by go_simp⟩) (by assumption) ?_
  simp only [Act.put, List.setIfInBounds_toArray, List.set_cons_zero, List.set_cons_succ]
  refine wpAnyH_take (i := 4) (oi := ⟨some 26, .move (.tmp 2), _, _, _, _⟩) (v := .int .i64 B) rfl (by kernel_rfl) (by kernel_rfl) (by kernel_rfl) (fun _ _ _ h => h) (.inl ⟨by rfl, fun w hSw => by go_simp⟩) (by assumption) ?_
  simp only [Act.put, List.setIfInBounds_toArray, List.set_cons_zero, List.set_cons_succ]
  refine wpAnyH_take (i := 5) (oi := ⟨some 27, .unOp .neg 3 (.tmp 26), _, _, _, _⟩) (v := .int .i64 Nz) rfl (by kernel_rfl) (by kernel_rfl) (by kernel_rfl) (fun _ _ _ h => h) (.inl ⟨by rfl, fun w hSw => by go_simp⟩) (by assumption) ?_
  simp only [Act.put, List.setIfInBounds_toArray, List.set_cons_zero, List.set_cons_succ]
  refine wpAnyH_take (i := 6) (oi := ⟨some 28, .call ⟨.builtin .max, #[.tmp 27, .const (.int .i64 0)], #[3, 3]⟩, _, _, _, _⟩) (v := .int .i64 (q : Int)) rfl (by kernel_rfl) (by kernel_rfl) (by kernel_rfl) (fun _ _ _ h => h) (.inl ⟨by rfl, fun w hSw => run_max_op w _ (.tmp 27) (.const (.int .i64 0)) _ rfl Nz 0 _ (by rfl) (by rfl) HQ.out⟩) (by assumption) ?_
  simp only [Act.put, List.setIfInBounds_toArray, List.set_cons_zero, List.set_cons_succ]
  refine wpAnyH_take (i := 7) (oi := ⟨some 29, .slice 22 (.tmp 25) (some (.tmp 28)) none none, _, _, _, _⟩) (v := .slice (some ⟨ga, oa + q, none⟩) (m - q) (c - q)) rfl (by kernel_rfl) (by kernel_rfl) (by kernel_rfl) (fun _ _ _ h => h) (.inl ⟨by rfl, fun w hSw => run_cutd_op w _ 22 (.tmp 25) (.tmp 28) rfl ga oa m c q (m - q) (c - q) (q : Int) (by rfl) (by rfl) rfl (by have := HPQ.out; omega) (by have := HPQ.out; omega) rfl rfl (by kernel_rfl) (by kernel_rfl)⟩) (by assumption) ?_
  simp only [Act.put, List.setIfInBounds_toArray, List.set_cons_zero, List.set_cons_succ]
  refine wpAnyH_ready (rs := [8]) (by kernel_rfl) (by simp) ?_
  refine AllReadyH.cons (o := ⟨some 30, .call ⟨.builtin .copy, #[.tmp 24, .tmp 29], #[22, 22]⟩, _, _, _, _⟩) rfl (fun K hK => ?_) AllReadyH.nil
  have HH := Lib.hid (HDD.out _ (chg_nxt HC5.out (below_drw _)))
  refine k_copy (.tmp 24) (.tmp 29) 22 22 rfl 5 Tryz.underlying22 i2.out g9 p 256 (256 - p) (256 - p) 105 f (by rfl) HR95.out.drew (some ⟨ga, oa + q, none⟩) (m - q) (c - q) (l.drop q) (by rfl) (by rw [List.length_drop, HM.out]) (hol_drop HH.out q) (by have h1 : Nat.min (m - q) (256 - p) ≤ 256 - p := Nat.min_le_right _ _; have := HPQ.out; omega) ?_
  intro w7 kk hr7 hu7
  obtain ⟨F, hF⟩ : ∃ F, ov p ((l.drop q).take (256 - p)) f = F := ⟨_, rfl⟩
  rw [hF] at hr7
  have HF := Lib.hid hF
  have HR97 := Lib.hid hr7
  have HC7 := Lib.hid (p := Chg [gd] w w7) (chg_own (chg_nxt HC5.out (below_drw _)) HG9.out.1 (Chg.one hu7.out.by_))
  have HK7 := Lib.hid ((HK5.out.below (below_drw _)).other HR95.out.drew (by decide) (by have := HLO.out; have := HG9.out; omega) (Chg.one hu7.out.by_))
  have HR87 := Lib.hid (HR85.out.drew.grown hu7.out.by_ (fun e => by have := HG9.out; injection e; omega))
  clear hr7 hu7 hF
  refine hK.out _ _ trivial (fun _hH => ?_)
  clear hK K
  refine wpAnyH_done (by kernel_rfl) ?_ _
  go_wp2_with (first
    | (refine step_load rfl 31 rfl 105 (.tmp 9) rfl g9 rfl (brr 256 F) _ HR97.out.all Tryz.underlying105 rfl (i1.out _) ?_)
    | (refine step_store rfl 105 (.tmp 8) (.tmp 31) rfl g8 (by rfl) _ _ (brr 256 F) (by rfl) HR87.out (by rw [brr_len, brr_len]) (i1.out _) (brr_one _ _) ?_; intro w9 hr9 hg9 hs9))
  refine bodyPost_ret (results_cell_row rfl _ _ g8 _ _ _ _ rfl hr9 Tryz.underlying105 rfl (by simpa using i1.out F)) rfl ?_
  exact ⟨by rw [HF.out], Lib.hid (HK7.out.other HR87.out (by decide) (by have := HLO.out; have := HG8.out; omega) (Chg.one hg9)), Lib.hid (chg_own HC7.out HG8.out (Chg.one hg9))⟩
set_option maxHeartbeats 2000000 in
theorem dmixed_2 (z : Nat) (f : Nat → UInt8) (h : DK b w gd gv gm gs r Bs N n X) (hc : Cont X Bs z f) (A : Option Addr) (c m : Nat) (l : L8) (hm : l.length = m) (hmc : m ≤ c) (hD : ∀ W, Chg [gd] w W → Hol W A l) (B Nz Sm : Int) (p q : Nat) (hneg : IntKind.i64.wrap (-B) = Nz) (hsum : IntKind.i64.wrap (B + (m : Int)) = Sm)
    (hp : (if (0 : Int) > B then 0 else B) = (p : Int)) (hq : (if (0 : Int) > Nz then 0 else Nz) = (q : Int)) (hpq : p ≤ 255 ∧ q < m) (h1 : ¬ 0 < B) (h2 : Sm < 256) : Calls Tryz.prog 48 #[.pointer (some ⟨gd, 0, none⟩), .int .i64 (z : Int), .int .i64 B, .slice A m c] w (DOne b w gd gv gm gs r Bs N n X (.agg (brr 256 (ov p ((l.drop q).take (256 - p)) f)).toArray)) := by
  have i1 := Lib.hid info_brr
  have i2 := Lib.hid info_u8s
  have hz0 := Lib.hid zero_block
  have H := Lib.hid h
  have HLT := Lib.hid h.lt
  have HLO := Lib.hid h.lo
  obtain ⟨ga, oa, rfl, _, _⟩ := (hD w (Chg.refl _ _)).some_ (by omega)
  have HDD := Lib.hid hD
  have HM := Lib.hid hm
  have HPQ := Lib.hid (p := p ≤ 255 ∧ q < m ∧ m ≤ c) ⟨hpq.1, hpq.2, hmc⟩
  have HP := Lib.hid hp
  have HQ := Lib.hid hq
  have hp1 : (p : Int) ≤ 256 := by omega
  have hp2 : ¬ 256 = p := by omega
  obtain ⟨f0, hf0⟩ : ∃ f0 : Nat → UInt8, (fun _ => 0) = f0 := ⟨_, rfl⟩
  have HF0 := Lib.hid hf0
  rw [hf0] at hz0
  have HC := Lib.hid hc
  clear h hD hm hpq hmc hp hq hf0 hc
  go_enter Tryz.func48, Tryz.ntmps48
  go_wp2_with (first
    | (refine step_alloc rfl 8 rfl 105 rfl _ hz0.out ?_; intro g8 w2 hr2 hg2 hb2 hs2
       have HR82 := Lib.hid hr2
       have HB2 := Lib.hid hb2
       have HG8 := Lib.hid (p := w.heap.size ≤ g8) (Nat.le_of_eq hg2.out.symm)
       clear hr2 hg2 hb2 hs2; have MK := trivial)
    | (clear MK; refine step_alloc rfl 9 rfl 105 rfl _ hz0.out ?_; intro g9 w3 hr2 hg2 hb2 hs2
       have HR93 := Lib.hid hr2
       have HR83 := Lib.hid (HR82.out.kept hb2)
       have HB3 := Lib.hid (below_nxt hb2 HB2.out)
       have HG9 := Lib.hid (p := w.heap.size ≤ g9 ∧ g8 < g9) (by rw [hg2.out]; exact ⟨HB2.out.size, HR82.out.lt⟩)
       clear hr2 hg2 hb2 hs2)
    | (go_at_call 51; refine (dcontent z f (H.out.below HB3.out) HC.out).mono ?_; rintro e w4 ⟨rfl, hk, hc⟩
       have HK4 := hk
       have HC4 := Lib.hid (p := Chg [gd] w w4) ((Chg.of (F := [gd]) HB3.out).trans hc.out (fun x hx => .inl hx))
       have HR84 := Lib.hid (hc.out.row HR83.out (by have h1 := HLT.out; have h2 := HG8.out; simp; omega))
       have HR94 := Lib.hid (hc.out.row HR93.out (by have h1 := HLT.out; have h2 := HG9.out; simp; omega))
       clear hk hc)
    | (refine step_store rfl 105 (.tmp 9) (.tmp 21) rfl g9 rfl _ _ (brr 256 f) rfl HR94.out (by rw [brr_len, brr_len]) (i1.out _) (brr_one _ _) ?_; intro w5 hr9 hg9 hs9
       have HR95 := Lib.hid hr9
       have HK5 := Lib.hid ((HK4.out.other HR94.out (by decide) (by have := HLO.out; have := HG9.out; omega) (Chg.one hg9)))
       have HC5 := Lib.hid (p := Chg [gd] w w5) (chg_own HC4.out HG9.out.1 (Chg.one hg9))
       have HR85 := Lib.hid (HR84.out.grown hg9 (fun e => by have := HG9.out; injection e; omega))
       clear hr9 hg9 hs9))
  refine wp_region_held_drew (S := fun _ => True) (by kernel_rfl) trivial (fun hHeld => ?_)
  refine wpAnyH_take (i := 0) (oi := ⟨some 22, .move (.tmp 2), _, _, _, _⟩) (v := .int .i64 B) rfl (by kernel_rfl) (by kernel_rfl) (by kernel_rfl) (fun _ _ _ h => h) (.inl ⟨by rfl, fun w hSw => by go_simp⟩) (by assumption) ?_
  simp only [Act.put, List.setIfInBounds_toArray, List.set_cons_zero, List.set_cons_succ]
  refine wpAnyH_take (i := 1) (oi := ⟨some 23, .call ⟨.builtin .max, #[.tmp 22, .const (.int .i64 0)], #[3, 3]⟩, _, _, _, _⟩) (v := .int .i64 (p : Int)) rfl (by kernel_rfl) (by kernel_rfl) (by kernel_rfl) (fun _ _ _ h => h) (.inl ⟨by rfl, fun w hSw => run_max_op w _ (.tmp 22) (.const (.int .i64 0)) _ rfl B 0 _ (by rfl) (by rfl) HP.out⟩) (by assumption) ?_
  simp only [Act.put, List.setIfInBounds_toArray, List.set_cons_zero, List.set_cons_succ]
  refine wpAnyH_take (i := 2) (oi := ⟨some 24, .slice 105 (.tmp 9) (some (.tmp 23)) none none, _, _, _, _⟩) (v := .slice (some ⟨g9, p, none⟩) (256 - p) (256 - p)) rfl (by kernel_rfl) (by kernel_rfl) (by kernel_rfl) (fun _ _ _ h => h) (.inl ⟨by rfl, fun w hSw => by go_simp⟩) (by assumption) ?_
  simp only [Act.put, List.setIfInBounds_toArray, List.set_cons_zero, List.set_cons_succ]
  refine wpAnyH_take (i := 3) (oi := ⟨some 25, .move (.tmp 3), _, _, _, _⟩) (v := .slice (some ⟨ga, oa, none⟩) m c) rfl (by kernel_rfl) (by kernel_rfl) (by kernel_rfl) (fun _ _ _ h => h) (.inl ⟨by rfl, fun w hSw => by go_simp⟩) (by assumption) ?_
  simp only [Act.put, List.setIfInBounds_toArray, List.set_cons_zero, List.set_cons_succ]
  refine wpAnyH_take (i := 4) (oi := ⟨some 26, .move (.tmp 2), _, _, _, _⟩) (v := .int .i64 B) rfl (by kernel_rfl) (by kernel_rfl) (by kernel_rfl) (fun _ _ _ h => h) (.inl ⟨by rfl, fun w hSw => by go_simp⟩) (by assumption) ?_
  simp only [Act.put, List.setIfInBounds_toArray, List.set_cons_zero, List.set_cons_succ]
  refine wpAnyH_take (i := 5) (oi := ⟨some 27, .unOp .neg 3 (.tmp 26), _, _, _, _⟩) (v := .int .i64 Nz) rfl (by kernel_rfl) (by kernel_rfl) (by kernel_rfl) (fun _ _ _ h => h) (.inl ⟨by rfl, fun w hSw => by go_simp⟩) (by assumption) ?_
  simp only [Act.put, List.setIfInBounds_toArray, List.set_cons_zero, List.set_cons_succ]
  refine wpAnyH_take (i := 6) (oi := ⟨some 28, .call ⟨.builtin .max, #[.tmp 27, .const (.int .i64 0)], #[3, 3]⟩, _, _, _, _⟩) (v := .int .i64 (q : Int)) rfl (by kernel_rfl) (by kernel_rfl) (by kernel_rfl) (fun _ _ _ h => h) (.inl ⟨by rfl, fun w hSw => run_max_op w _ (.tmp 27) (.const (.int .i64 0)) _ rfl Nz 0 _ (by rfl) (by rfl) HQ.out⟩) (by assumption) ?_
  simp only [Act.put, List.setIfInBounds_toArray, List.set_cons_zero, List.set_cons_succ]
  refine wpAnyH_take (i := 7) (oi := ⟨some 29, .slice 22 (.tmp 25) (some (.tmp 28)) none none, _, _, _, _⟩) (v := .slice (some ⟨ga, oa + q, none⟩) (m - q) (c - q)) rfl (by kernel_rfl) (by kernel_rfl) (by kernel_rfl) (fun _ _ _ h => h) (.inl ⟨by rfl, fun w hSw => run_cutd_op w _ 22 (.tmp 25) (.tmp 28) rfl ga oa m c q (m - q) (c - q) (q : Int) (by rfl) (by rfl) rfl (by have := HPQ.out; omega) (by have := HPQ.out; omega) rfl rfl (by kernel_rfl) (by kernel_rfl)⟩) (by assumption) ?_
  simp only [Act.put, List.setIfInBounds_toArray, List.set_cons_zero, List.set_cons_succ]
  refine wpAnyH_ready (rs := [8]) (by kernel_rfl) (by simp) ?_
  refine AllReadyH.cons (o := ⟨some 30, .call ⟨.builtin .copy, #[.tmp 24, .tmp 29], #[22, 22]⟩, _, _, _, _⟩) rfl (fun K hK => ?_) AllReadyH.nil
  have HH := Lib.hid (HDD.out _ (chg_nxt HC5.out (below_drw _)))
  refine k_copy (.tmp 24) (.tmp 29) 22 22 rfl 5 Tryz.underlying22 i2.out g9 p 256 (256 - p) (256 - p) 105 f (by rfl) HR95.out.drew (some ⟨ga, oa + q, none⟩) (m - q) (c - q) (l.drop q) (by rfl) (by rw [List.length_drop, HM.out]) (hol_drop HH.out q) (by have h1 : Nat.min (m - q) (256 - p) ≤ 256 - p := Nat.min_le_right _ _; have := HPQ.out; omega) ?_
  intro w7 kk hr7 hu7
  obtain ⟨F, hF⟩ : ∃ F, ov p ((l.drop q).take (256 - p)) f = F := ⟨_, rfl⟩
  rw [hF] at hr7
  have HF := Lib.hid hF
  have HR97 := Lib.hid hr7
  have HC7 := Lib.hid (p := Chg [gd] w w7) (chg_own (chg_nxt HC5.out (below_drw _)) HG9.out.1 (Chg.one hu7.out.by_))
  have HK7 := Lib.hid ((HK5.out.below (below_drw _)).other HR95.out.drew (by decide) (by have := HLO.out; have := HG9.out; omega) (Chg.one hu7.out.by_))
  have HR87 := Lib.hid (HR85.out.drew.grown hu7.out.by_ (fun e => by have := HG9.out; injection e; omega))
  clear hr7 hu7 hF
  refine hK.out _ _ trivial (fun _hH => ?_)
  clear hK K
  refine wpAnyH_done (by kernel_rfl) ?_ _
  go_wp2_with (first
    | (refine step_load rfl 31 rfl 105 (.tmp 9) rfl g9 rfl (brr 256 F) _ HR97.out.all Tryz.underlying105 rfl (i1.out _) ?_)
    | (refine step_store rfl 105 (.tmp 8) (.tmp 31) rfl g8 (by rfl) _ _ (brr 256 F) (by rfl) HR87.out (by rw [brr_len, brr_len]) (i1.out _) (brr_one _ _) ?_; intro w9 hr9 hg9 hs9))
  refine bodyPost_ret (results_cell_row rfl _ _ g8 _ _ _ _ rfl hr9 Tryz.underlying105 rfl (by simpa using i1.out F)) rfl ?_
  exact ⟨by rw [HF.out], Lib.hid (HK7.out.other HR87.out (by decide) (by have := HLO.out; have := HG8.out; omega) (Chg.one hg9)), Lib.hid (chg_own HC7.out HG8.out (Chg.one hg9))⟩
set_option maxHeartbeats 2000000 in
theorem dmixed_3 (z : Nat) (f : Nat → UInt8) (h : DK b w gd gv gm gs r Bs N n X) (A : Option Addr) (c m : Nat) (l : L8) (hm : l.length = m) (hmc : m ≤ c) (hD : ∀ W, Chg [gd] w W → Hol W A l) (B Nz Sm : Int) (p q : Nat) (hneg : IntKind.i64.wrap (-B) = Nz) (hsum : IntKind.i64.wrap (B + (m : Int)) = Sm)
    (hp : (if (0 : Int) > B then 0 else B) = (p : Int)) (hq : (if (0 : Int) > Nz then 0 else Nz) = (q : Int)) (hpq : p ≤ 255 ∧ q < m) (h1 : ¬ 0 < B) (h2 : ¬ Sm < 256) : Calls Tryz.prog 48 #[.pointer (some ⟨gd, 0, none⟩), .int .i64 (z : Int), .int .i64 B, .slice A m c] w (DOne b w gd gv gm gs r Bs N n X (.agg (brr 256 (ov p ((l.drop q).take (256 - p)) (fun _ => 0))).toArray)) := by
  have i1 := Lib.hid info_brr
  have i2 := Lib.hid info_u8s
  have hz0 := Lib.hid zero_block
  have H := Lib.hid h
  have HLT := Lib.hid h.lt
  have HLO := Lib.hid h.lo
  obtain ⟨ga, oa, rfl, _, _⟩ := (hD w (Chg.refl _ _)).some_ (by omega)
  have HDD := Lib.hid hD
  have HM := Lib.hid hm
  have HPQ := Lib.hid (p := p ≤ 255 ∧ q < m ∧ m ≤ c) ⟨hpq.1, hpq.2, hmc⟩
  have HP := Lib.hid hp
  have HQ := Lib.hid hq
  have hp1 : (p : Int) ≤ 256 := by omega
  have hp2 : ¬ 256 = p := by omega
  obtain ⟨f0, hf0⟩ : ∃ f0 : Nat → UInt8, (fun _ => 0) = f0 := ⟨_, rfl⟩
  have HF0 := Lib.hid hf0
  rw [hf0] at hz0
  clear h hD hm hpq hmc hp hq hf0
  go_enter Tryz.func48, Tryz.ntmps48
  go_wp2_with (first
    | (refine step_alloc rfl 8 rfl 105 rfl _ hz0.out ?_; intro g8 w2 hr2 hg2 hb2 hs2
       have HR82 := Lib.hid hr2
       have HB2 := Lib.hid hb2
       have HG8 := Lib.hid (p := w.heap.size ≤ g8) (Nat.le_of_eq hg2.out.symm)
       clear hr2 hg2 hb2 hs2; have MK := trivial)
    | (clear MK; refine step_alloc rfl 9 rfl 105 rfl _ hz0.out ?_; intro g9 w3 hr2 hg2 hb2 hs2
       have HR93 := Lib.hid hr2
       have HR83 := Lib.hid (HR82.out.kept hb2)
       have HB3 := Lib.hid (below_nxt hb2 HB2.out)
       have HG9 := Lib.hid (p := w.heap.size ≤ g9 ∧ g8 < g9) (by rw [hg2.out]; exact ⟨HB2.out.size, HR82.out.lt⟩)
       clear hr2 hg2 hb2 hs2))
  have HR95 := HR93
  have HR85 := HR83
  have HK5 := Lib.hid (H.out.below HB3.out)
  have HC5 := Lib.hid (p := Chg [gd] w w3) (Chg.of HB3.out)
  refine wp_region_held_drew (S := fun _ => True) (by kernel_rfl) trivial (fun hHeld => ?_)
  refine wpAnyH_take (i := 0) (oi := ⟨some 22, .move (.tmp 2), _, _, _, _⟩) (v := .int .i64 B) rfl (by kernel_rfl) (by kernel_rfl) (by kernel_rfl) (fun _ _ _ h => h) (.inl ⟨by rfl, fun w hSw => by go_simp⟩) (by assumption) ?_
  simp only [Act.put, List.setIfInBounds_toArray, List.set_cons_zero, List.set_cons_succ]
  refine wpAnyH_take (i := 1) (oi := ⟨some 23, .call ⟨.builtin .max, #[.tmp 22, .const (.int .i64 0)], #[3, 3]⟩, _, _, _, _⟩) (v := .int .i64 (p : Int)) rfl (by kernel_rfl) (by kernel_rfl) (by kernel_rfl) (fun _ _ _ h => h) (.inl ⟨by rfl, fun w hSw => run_max_op w _ (.tmp 22) (.const (.int .i64 0)) _ rfl B 0 _ (by rfl) (by rfl) HP.out⟩) (by assumption) ?_
  simp only [Act.put, List.setIfInBounds_toArray, List.set_cons_zero, List.set_cons_succ]
  refine wpAnyH_take (i := 2) (oi := ⟨some 24, .slice 105 (.tmp 9) (some (.tmp 23)) none none, _, _, _, _⟩) (v := .slice (some ⟨g9, p, none⟩) (256 - p) (256 - p)) rfl (by kernel_rfl) (by kernel_rfl) (by kernel_rfl) (fun _ _ _ h => h) (.inl ⟨by rfl, fun w hSw => by go_simp⟩) (by assumption) ?_
  simp only [Act.put, List.setIfInBounds_toArray, List.set_cons_zero, List.set_cons_succ]
  refine wpAnyH_take (i := 3) (oi := ⟨some 25, .move (.tmp 3), _, _, _, _⟩) (v := .slice (some ⟨ga, oa, none⟩) m c) rfl (by kernel_rfl) (by kernel_rfl) (by kernel_rfl) (fun _ _ _ h => h) (.inl ⟨by rfl, fun w hSw => by go_simp⟩) (by assumption) ?_
  simp only [Act.put, List.setIfInBounds_toArray, List.set_cons_zero, List.set_cons_succ]
  refine wpAnyH_take (i := 4) (oi := ⟨some 26, .move (.tmp 2), _, _, _, _⟩) (v := .int .i64 B) rfl (by kernel_rfl) (by kernel_rfl) (by kernel_rfl) (fun _ _ _ h => h) (.inl ⟨by rfl, fun w hSw => by go_simp⟩) (by assumption) ?_
  simp only [Act.put, List.setIfInBounds_toArray, List.set_cons_zero, List.set_cons_succ]
  refine wpAnyH_take (i := 5) (oi := ⟨some 27, .unOp .neg 3 (.tmp 26), _, _, _, _⟩) (v := .int .i64 Nz) rfl (by kernel_rfl) (by kernel_rfl) (by kernel_rfl) (fun _ _ _ h => h) (.inl ⟨by rfl, fun w hSw => by go_simp⟩) (by assumption) ?_
  simp only [Act.put, List.setIfInBounds_toArray, List.set_cons_zero, List.set_cons_succ]
  refine wpAnyH_take (i := 6) (oi := ⟨some 28, .call ⟨.builtin .max, #[.tmp 27, .const (.int .i64 0)], #[3, 3]⟩, _, _, _, _⟩) (v := .int .i64 (q : Int)) rfl (by kernel_rfl) (by kernel_rfl) (by kernel_rfl) (fun _ _ _ h => h) (.inl ⟨by rfl, fun w hSw => run_max_op w _ (.tmp 27) (.const (.int .i64 0)) _ rfl Nz 0 _ (by rfl) (by rfl) HQ.out⟩) (by assumption) ?_
  simp only [Act.put, List.setIfInBounds_toArray, List.set_cons_zero, List.set_cons_succ]
  refine wpAnyH_take (i := 7) (oi := ⟨some 29, .slice 22 (.tmp 25) (some (.tmp 28)) none none, _, _, _, _⟩) (v := .slice (some ⟨ga, oa + q, none⟩) (m - q) (c - q)) rfl (by kernel_rfl) (by kernel_rfl) (by kernel_rfl) (fun _ _ _ h => h) (.inl ⟨by rfl, fun w hSw => run_cutd_op w _ 22 (.tmp 25) (.tmp 28) rfl ga oa m c q (m - q) (c - q) (q : Int) (by rfl) (by rfl) rfl (by have := HPQ.out; omega) (by have := HPQ.out; omega) rfl rfl (by kernel_rfl) (by kernel_rfl)⟩) (by assumption) ?_
  simp only [Act.put, List.setIfInBounds_toArray, List.set_cons_zero, List.set_cons_succ]
  refine wpAnyH_ready (rs := [8]) (by kernel_rfl) (by simp) ?_
  refine AllReadyH.cons (o := ⟨some 30, .call ⟨.builtin .copy, #[.tmp 24, .tmp 29], #[22, 22]⟩, _, _, _, _⟩) rfl (fun K hK => ?_) AllReadyH.nil
  have HH := Lib.hid (HDD.out _ (chg_nxt HC5.out (below_drw _)))
  refine k_copy (.tmp 24) (.tmp 29) 22 22 rfl 5 Tryz.underlying22 i2.out g9 p 256 (256 - p) (256 - p) 105 f0 (by rfl) HR95.out.drew (some ⟨ga, oa + q, none⟩) (m - q) (c - q) (l.drop q) (by rfl) (by rw [List.length_drop, HM.out]) (hol_drop HH.out q) (by have h1 : Nat.min (m - q) (256 - p) ≤ 256 - p := Nat.min_le_right _ _; have := HPQ.out; omega) ?_
  intro w7 kk hr7 hu7
  obtain ⟨F, hF⟩ : ∃ F, ov p ((l.drop q).take (256 - p)) f0 = F := ⟨_, rfl⟩
  rw [hF] at hr7
  have HF := Lib.hid hF
  have HR97 := Lib.hid hr7
  have HC7 := Lib.hid (p := Chg [gd] w w7) (chg_own (chg_nxt HC5.out (below_drw _)) HG9.out.1 (Chg.one hu7.out.by_))
  have HK7 := Lib.hid ((HK5.out.below (below_drw _)).other HR95.out.drew (by decide) (by have := HLO.out; have := HG9.out; omega) (Chg.one hu7.out.by_))
  have HR87 := Lib.hid (HR85.out.drew.grown hu7.out.by_ (fun e => by have := HG9.out; injection e; omega))
  clear hr7 hu7 hF
  refine hK.out _ _ trivial (fun _hH => ?_)
  clear hK K
  refine wpAnyH_done (by kernel_rfl) ?_ _
  go_wp2_with (first
    | (refine step_load rfl 31 rfl 105 (.tmp 9) rfl g9 rfl (brr 256 F) _ HR97.out.all Tryz.underlying105 rfl (i1.out _) ?_)
    | (refine step_store rfl 105 (.tmp 8) (.tmp 31) rfl g8 (by rfl) _ _ (brr 256 F) (by rfl) HR87.out (by rw [brr_len, brr_len]) (i1.out _) (brr_one _ _) ?_; intro w9 hr9 hg9 hs9))
  refine bodyPost_ret (results_cell_row rfl _ _ g8 _ _ _ _ rfl hr9 Tryz.underlying105 rfl (by simpa using i1.out F)) rfl ?_
  exact ⟨by rw [HF0.out, HF.out], Lib.hid (HK7.out.other HR87.out (by decide) (by have := HLO.out; have := HG8.out; omega) (Chg.one hg9)), Lib.hid (chg_own HC7.out HG8.out (Chg.one hg9))⟩
theorem mix_ov {l : L8} {B : Int} {p q m : Nat} {f : Nat → UInt8} (hm : l.length = m) (hB : (B = (p : Int) ∧ q = 0) ∨ (B = -(q : Int) ∧ p = 0)) (hp : p ≤ 255) (hq : q < m) : brr 256 (ov p ((l.drop q).take (256 - p)) f) = brr 256 (mixF l B f) := brr_same fun j hj => by
  unfold ov mixF
  have hlen : ((l.drop q).take (256 - p)).length = min (256 - p) (m - q) := by rw [List.length_take, List.length_drop, hm]
  rw [hlen, hm]
  by_cases h : p ≤ j ∧ j < p + min (256 - p) (m - q)
  · rw [if_pos h, if_pos (by omega)]
    rw [List.getD_eq_getElem?_getD, List.getD_eq_getElem?_getD, List.getElem?_take, if_pos (by omega), List.getElem?_drop]
    rw [show q + (j - p) = ((j : Int) - B).toNat by omega]
  · rw [if_neg h, if_neg (by omega)]
/-- What a block holds behind a write. -/
theorem dmixed (z : Nat) (f : Nat → UInt8) (h : DK b w gd gv gm gs r Bs N n X) (hc : Cont X Bs z f) (A : Option Addr) (c m : Nat) (l : L8) (hm : l.length = m) (hmc : m ≤ c) (hm3 : 1 ≤ m ∧ m ≤ 32768) (hD : ∀ W, Chg [gd] w W → Hol W A l) (B : Int) (hB : -32768 ≤ B ∧ B ≤ 255) (hB2 : 0 < B + (m : Int)) :
    Calls Tryz.prog 48 #[.pointer (some ⟨gd, 0, none⟩), .int .i64 (z : Int), .int .i64 B, .slice A m c] w (DOne b w gd gv gm gs r Bs N n X (.agg (brr 256 (mixF l B f)).toArray)) := by
  have hneg : IntKind.i64.wrap (-B) = -B := by rw [IntKind.wrap_i64]; omega
  have hsum : IntKind.i64.wrap (B + (m : Int)) = B + (m : Int) := by rw [IntKind.wrap_i64]; omega
  obtain ⟨p, q, h1, h2, h3, h4⟩ : ∃ p q : Nat, ((B = (p : Int) ∧ q = 0) ∨ (B = -(q : Int) ∧ p = 0)) ∧ (if (0 : Int) > B then 0 else B) = (p : Int) ∧ (if (0 : Int) > -B then 0 else -B) = (q : Int) ∧ (p ≤ 255 ∧ q < m) := by
    by_cases hb : 0 ≤ B
    · refine ⟨B.toNat, 0, .inl ⟨by omega, rfl⟩, ?_, ?_, by omega⟩
      · rw [if_neg (by omega)]; omega
      · split <;> omega
    · refine ⟨0, (-B).toNat, .inr ⟨by omega, rfl⟩, ?_, ?_, by omega⟩
      · rw [if_pos (by omega)]; rfl
      · rw [if_neg (by omega)]; omega
  by_cases hb : 0 < B
  · rw [← mix_ov hm h1 h4.1 h4.2]
    exact dmixed_1 z f h hc A c m l hm hmc hD B _ _ p q hneg hsum h2 h3 h4 hb
  · by_cases hs : B + (m : Int) < 256
    · rw [← mix_ov hm h1 h4.1 h4.2]
      exact dmixed_2 z f h hc A c m l hm hmc hD B _ _ p q hneg hsum h2 h3 h4 hb hs
    · have e : brr 256 (mixF l B f) = brr 256 (mixF l B fun _ => 0) := brr_same fun j hj => by
        unfold mixF
        rw [if_pos (by omega), if_pos (by omega)]
      rw [e, ← mix_ov hm h1 h4.1 h4.2]
      exact dmixed_3 z f h A c m l hm hmc hD B _ _ p q hneg hsum h2 h3 h4 hb hs
end
end Go.Proofs.YtfbfeplegdpemaaGreat
