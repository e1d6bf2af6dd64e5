/- What a mounting's first step leaves. Conditions: the vault lies there; the anchor's record may be marked. -/
import Derived.Test.YtpocccnhibjjcaaGreatDoorMgVk
import Derived.Test.YtpocccnhibjjcaaGreatDoorMgCalls
import Derived.Test.YtpocccnhibjjcaaGreatDoorMgTab
import Derived.Test.YtpocccnhibjjcaaGreatDoorMgApp
set_option linter.unusedVariables false
set_option maxRecDepth 20000
namespace Go.Proofs.YtpocccnhibjjcaaGreatDoor
open Go.RowKit

theorem st_store_mid {P : Program} {ops : Array Oper} {op : Oper} {a : Act} {w : World} {K : Act → World → Prop} {Q : Exit → Act → World → Prop} {E : Prop} (hw : Region.wanted op (yielded ops a.tmps) = true) (ty : TypeId) (x y : Operand) (ho : op.op = .store ty x y)
    (b o : Nat) (cs : List Value) (hx : a.eval x = .pointer (some ⟨b, o, none⟩)) (hy : a.eval y = .agg cs.toArray) (ht : w.there b o cs.length) (hi : (P.info? ty).map (·.size) = some cs.length) (h1 : ∀ v ∈ cs, v.oneCell' = true)
    (h : K (a.put op.dst undef) (w.setCells b o cs)) : if Region.wanted op (yielded ops a.tmps) = true then Oper.wp P op a w K Q else E := by
  rw [if_pos hw]
  exact wp_store_mid ty x y ho b o cs.toArray hx hy (by simpa using ht) (by simpa using hi) (all_oneCell_toArray h1) h
theorem bs_rec (r : RecV) (w : World) : (Instr.buildSlice 158 1 #[(0, .agg r.cs.toArray)]).run Tryz.prog w = .ok (.slice (some ⟨w.heap.size, 0, none⟩) 1 1) (w.alloc (.cells r.cs.toArray 87)) := by kernel_rfl
theorem wpList_build1 {ops : Array Oper} {rest : List Oper} {o : Oper} {a : Act} {w : World} {Q : Exit → Act → World → Prop} (hg : o.guard = none) (t : TypeId) (x : Operand) (ho : o.op = .buildSlice 158 1 #[(0, x)]) (r : RecV) (hx : a.eval x = .agg r.cs.toArray)
    (h : ∀ g w', Row w' g 87 r.cs → Hid (g = w.heap.size) → Below w.heap.size w w' → wpList Tryz.prog ops Q rest (a.put o.dst (.slice (some ⟨g, 0, none⟩) 1 1)) w') : wpList Tryz.prog ops Q (o :: rest) a w := by
  refine wpList_plain hg fun K hK => ?_
  unfold Oper.wp execOp
  simp only [ho, Sem.run_bind, List.map_toArray, List.map_cons, List.map_nil, hx, bs_rec, Result.andThen_ok]
  exact hK _ _ (h _ _ (Row.made w _ r.cs) (show _ = _ from rfl) ((Below.refl _ _).alloc (Nat.le_refl _) _))
theorem VC.put_top (c : VC) (r : RecV) : c.cs.take 7 ++ (r.cs ++ c.cs.drop (7 + r.cs.length)) = VC.cs { c with top := r } := by
  unfold VC.cs
  rw [RecV.cs_len, List.take_append_of_le_length (by simp), List.take_of_length_le (by simp), List.drop_append, List.drop_of_length_le (by simp), List.nil_append]
  congr 2
  rw [List.drop_append, List.drop_of_length_le (by simp [RecV.cs_len]), List.nil_append]
  simp [RecV.cs_len]
section
variable {b : Nat} {w w' : World} {FD FA : List Nat} {g q gv : Nat} {L : Nat → Nat → List UInt8} {X : VX}
theorem VB.p_top (h : VB b w FD FA g q gv L X) (r : RecV) : VB b (w.setCells g 7 r.cs) FD FA g q gv L { X with c := { X.c with top := r } } := by
  have hr := row_cellsAt r.cs 7 w _ h.row (by rw [RecV.cs_len, VC.cs_len]; omega)
  rw [VC.put_top] at hr
  have hc : Chg [g] w (w.setCells g 7 r.cs) := (Chg.refl _ _).grown (grown_setsA r.cs w 7) (fun k hk => by injection hk with hk; subst hk; exact .inl (List.mem_singleton.2 rfl))
  have k := h.keep hc (fun j hj => by rw [List.mem_singleton] at hj; subst hj; exact mem_vfoot.2 (.inr (.inr (mem_vown.2 (.inl rfl)))))
  exact h.rowd (G' := X.G) hr hc k.un k.rt k.goi k.gb
theorem VB.top_there (h : VB b w FD FA g q gv L X) : w.there g 7 35 := h.row.is_there 7 35 (by rw [VC.cs_len]; omega)
def VX.entered (X : VX) : VX := { X with ae := X.ae + 1, c := { X.c with e := X.ae + 1, top := X.ar }, S := mkS X.S [X.ar] }
def VOnF (b : Nat) (w : World) (F : List Nat) (g q gv : Nat) (L : Nat → Nat → List UInt8) (X : VX) (U : List (Nat × Nat)) (e : Ending) (w' : World) : Prop :=
  ∃ un, e = .returned (.tuple #[.bool U.isEmpty, .int .i64 0]) ∧ VTo b w F w' g q gv L { X with c := { X.c with un := un, rd := U.isEmpty || X.c.rd, mf := if U.isEmpty then stV 98 g else stV 99 g }, un := U }
set_option maxHeartbeats 1000000 in
theorem venter (h : VB b w FD FA g q gv L X) (hae : X.ae ≤ 900000) (a : Nat) (ha : X.ar.a = (a : Int)) (ha2 : a < 65536) (hok : X.ar.Ok) (hmk : MkOk X.ss.length X.S [X.ar]) (hs : Small X.un) (hq : q + 1 ≤ 900000) :
    Calls Tryz.prog 41 #[.pointer (some ⟨g, 0, none⟩)] w (VOnF b w (vfoot g X.c FD FA) g (q + 1) gv L X.entered (nxtP X.ar X.N X.un)) := by
  have i35 := Lib.hid (p := ∀ r : RecV, (Tryz.prog.info? 87).map (·.size) = some r.cs.length) (fun r => by rw [r.cs_len]; exact info_rec)
  have i36 := Lib.hid (p := ∀ (e : Nat) (r : RecV), (Tryz.prog.info? 92).map (·.size) = some (rtC e r).length) (fun e r => by rw [rtC_len]; exact info_root)
  have hz36 := Lib.hid (p := ∀ w : World, (zeroValue 92).run Tryz.prog w = .ok (.agg (rtC 0 rec0).toArray) w) fun w => by kernel_rfl
  have H := Lib.hid h
  have HMK := Lib.hid hmk
  have HS := Lib.hid hs
  have HQ := Lib.hid hq
  have HA := Lib.hid (p := X.ar.a = (a : Int) ∧ a < 65536 ∧ X.ar.Ok) ⟨ha, ha2, hok⟩
  have c1 := h.row.ga
  obtain ⟨e0, he0⟩ : ∃ e0, X.ae = e0 := ⟨_, rfl⟩
  have HE0 := Lib.hid he0
  rw [he0] at hae
  have ew : IntKind.u32.wrap ((e0 : Int) + 1) = ((e0 + 1 : Nat) : Int) := by rw [IntKind.wrap_u32]; omega
  have HAE := Lib.hid hae
  clear h hae ha ha2 hok hmk hs hq he0
  go_enter Tryz.func41, Tryz.ntmps41
  go_wp2_with (first
    | (go_at_call 68; obtain ⟨kA, hkA, hAn⟩ := H.out.anc; refine (aget hAn).mono ?_; rintro e w2 ⟨rfl, hb2⟩; rw [HE0.out]; have HB2 := Lib.hid hb2; clear hb2 hAn hkA)
    | (refine step_alloc rfl 4 rfl 92 rfl _ hz36.out ?_; intro g4 w4 hr4 hg4 hb4 hs4; have HR4 := Lib.hid hr4; have HB4 := Lib.hid (below_nxt hb4 HB2.out); have HG4 := Lib.hid (p := w.heap.size ≤ g4) (by rw [hg4.out]; exact HB2.out.size); clear hr4 hg4 hb4 hs4)
    | (refine step_store rfl 92 (.tmp 4) (.tmp 9) rfl g4 rfl _ _ (rtC e0 X.ar) rfl HR4.out (by rw [rtC_len, rtC_len]) (i36.out _ _) (rtC_one _ _) ?_; intro w5 hr5 hg5 hs5; have HR5 := Lib.hid hr5; have HB5 := Lib.hid (p := Below w.heap.size w w5) (HB4.out.grown hg5 HB4.out.size (fun q hq => by injection hq with hq; subst hq; exact HG4.out)); have c40 : w5.cell? ⟨g4, 0, none⟩ = some (.int .u32 (e0 : Int)) := (by rw [hr5.cell]; rfl); have f40 := hr5.free 0; clear hr5 hg5 hs5))
  obtain ⟨w6, hw6⟩ : ∃ w6, w5.setCell ⟨g4, 0, none⟩ (.int .u32 ((e0 + 1 : Nat) : Int)) = w6 := ⟨_, rfl⟩
  have hr6 : Row w6 g4 92 (rtC (e0 + 1) X.ar) := by
    rw [← hw6]
    have z := HR5.out.put 0 (.int .u32 ((e0 + 1 : Nat) : Int))
    exact z
  have HR6 := Lib.hid hr6
  have HB6 := Lib.hid (p := Below w.heap.size w w6) (by rw [← hw6]; exact HB5.out.setCell (p := ⟨g4, 0, none⟩) HG4.out _)
  change Code.wp _ _ _ _ (w5.setCell ⟨g4, 0, none⟩ (.int .u32 ((e0 + 1 : Nat) : Int)))
  rw [hw6]
  clear hr6 hw6 c40 f40 c1
  have HV6 := Lib.hid (H.out.below HB6.out)
  have C1 := Lib.hid (p := ∀ w5, Below w6.heap.size w6 w5 → w5.cell? ⟨g, 1, none⟩ = some (.pointer (some ⟨X.c.ga, 0, none⟩))) (fun w5 hb => VAt.ga (HV6.out.row.kept hb))
  refine wp_region_held_drew (S := fun W => W.cell? ⟨g, 1, none⟩ = some (.pointer (some ⟨X.c.ga, 0, none⟩)) ∧ Row W g4 92 (rtC (e0 + 1) X.ar)) (by kernel_rfl) ⟨C1.out _ (below_drw _), HR6.out.drew⟩ (fun hHeld => ?_)
  refine wpAnyH_take (i := 0) (oi := ⟨some 14, .move (.tmp 0), _, _, _, _⟩) (v := .pointer (some ⟨g, 0, none⟩)) rfl (by kernel_rfl) (by kernel_rfl) (by kernel_rfl) (fun _ _ _ h => h) (.inl ⟨by rfl, fun w hSw => by go_simp⟩) (by assumption) ?_
  simp only [Act.put, List.setIfInBounds_toArray, List.set_cons_zero, List.set_cons_succ]
  refine wpAnyH_take (i := 1) (oi := ⟨some 15, .nilCheck (.tmp 14), _, _, _, _⟩) (v := .pointer (some ⟨g, 0, none⟩)) rfl (by kernel_rfl) (by kernel_rfl) (by kernel_rfl) (fun _ _ _ h => h) (.inl ⟨by rfl, fun w hSw => by go_simp⟩) (by assumption) ?_
  simp only [Act.put, List.setIfInBounds_toArray, List.set_cons_zero, List.set_cons_succ]
  refine wpAnyH_take (i := 2) (oi := ⟨some 16, .fieldAddr 90 (.tmp 15) 1, _, _, _, _⟩) (v := .pointer (some ⟨g, 1, none⟩)) rfl (by kernel_rfl) (by kernel_rfl) (by kernel_rfl) (fun _ _ _ h => h) (.inl ⟨by rfl, fun w hSw => by go_simp⟩) (by assumption) ?_
  simp only [Act.put, List.setIfInBounds_toArray, List.set_cons_zero, List.set_cons_succ]
  refine wpAnyH_take (i := 3) (oi := ⟨some 17, .load 30 (.tmp 16), _, _, _, _⟩) (v := .pointer (some ⟨X.c.ga, 0, none⟩)) rfl (by kernel_rfl) (by kernel_rfl) (by kernel_rfl) (fun _ _ _ h => h) (.inl ⟨by rfl, fun w hSw => by have z := hSw.1; go_simp⟩) (by assumption) ?_
  simp only [Act.put, List.setIfInBounds_toArray, List.set_cons_zero, List.set_cons_succ]
  refine wpAnyH_take (i := 4) (oi := ⟨some 18, .load 92 (.tmp 4), _, _, _, _⟩) (v := .agg (rtC (e0 + 1) X.ar).toArray) rfl (by kernel_rfl) (by kernel_rfl) (by kernel_rfl) (fun _ _ _ h => h) (yieldsIf_load_mid (by rfl) 92 (.tmp 4) rfl g4 0 rfl (rtC (e0 + 1) X.ar) _ (fun w hSw => Row.all hSw.2) Tryz.underlying92 rfl (i36.out _ _)) (by assumption) ?_
  simp only [Act.put, List.setIfInBounds_toArray, List.set_cons_zero, List.set_cons_succ]
  refine wpAnyH_ready (rs := [5]) (by kernel_rfl) (by simp) ?_
  refine AllReadyH.cons (o := ⟨some 19, .call ⟨.value (.func 69), #[.tmp 17, .tmp 18], _⟩, _, _, _, _⟩) rfl (fun K hK => ?_) AllReadyH.nil
  go_simp
  obtain ⟨kA, hkA, hAn⟩ := (HV6.out.below (below_drw _)).anc
  have hAn' : AnAt b w6.drew X.c.ga FA e0 X.ar kA := by rw [← HE0.out]; exact hAn
  refine (aset hAn' (by have := (HV6.out.lim); omega) (by have := HAE.out; omega) X.ar a HA.out.1 HA.out.2.1 HA.out.2.2).mono ?_
  rintro x w7 ⟨FA7, rfl, hA7, hc7, hw7⟩
  have HV7 := Lib.hid ((HV6.out.below (below_drw _)).aturn (q' := q + 1) hA7.out hc7.out hw7.out (Nat.le_succ _) (by omega) HQ.out)
  have HR7 := Lib.hid (hc7.out.row HR6.out.drew (fun hx => by have := H.out.lt_a _ hx; have := HG4.out; omega))
  have HC7 := Lib.hid (p := Chg (vfoot g X.c FD FA) w w7) ((Chg.of (F := vfoot g X.c FD FA) (HB6.out.drew)).trans hc7.out (fun j hj => .inl (H.out.in_a j hj)))
  have HW7 := Lib.hid (p := Wider w (vfoot g X.c FD FA) (vfoot g X.c FD FA7)) (fun j hj => by
    rcases VB.wide_a (FD := FD) (g := g) (X := X) hw7.out j hj with h | h
    · exact .inl h
    · exact .inr (Nat.le_trans HB6.out.size h))
  have C7 := Lib.hid (p := w7.cell? ⟨g, 1, none⟩ = some (.pointer (some ⟨X.c.ga, 0, none⟩))) (by have z := VAt.ga HV7.out.row; exact z)
  clear hAn hAn' hA7 hc7 hw7 hkA
  refine hK.out _ _ ⟨C7.out, HR7.out⟩ (fun hH7 => ?_)
  clear hK K
  refine wpAnyH_take (i := 6) (oi := ⟨some 20, .binOp .neq 24 (.tmp 19) (.const (.int .i64 0)) 24, _, _, _, _⟩) (v := .bool false) rfl (by kernel_rfl) (by kernel_rfl) (by kernel_rfl) (fun _ _ _ h => h) (.inl ⟨by rfl, fun w hSw => by go_simp⟩) (by assumption) ?_
  simp only [Act.put, List.setIfInBounds_toArray, List.set_cons_zero, List.set_cons_succ]
  refine wpAnyH_done (by kernel_rfl) ?_ _
  go_wp2_with fail
  have HN4 := Lib.hid (p := some g4 ≠ some g) (fun e => by have h3 : g4 = g := Option.some.inj e; have h1 := H.out.row.lt; have h2 := HG4.out; omega)
  have c5 : w7.drew.cell? ⟨g, 5, none⟩ = some (.int .u32 (X.c.e : Int)) := by have z := VAt.e (HV7.out.below (below_drw _)).row; exact z
  have f5 := (HV7.out.below (below_drw _)).gfr 5
  refine wp_region_held_drew (S := fun W => Row W g4 92 (rtC (e0 + 1) X.ar)) (by kernel_rfl) HR7.out.drew (fun hHeld => ?_)
  refine wpAnyH_take (i := 0) (oi := ⟨some 25, .move (.tmp 0), _, _, _, _⟩) (v := .pointer (some ⟨g, 0, none⟩)) rfl (by kernel_rfl) (by kernel_rfl) (by kernel_rfl) (fun _ _ _ h => h) (.inl ⟨by rfl, fun w hSw => by go_simp⟩) (by assumption) ?_
  simp only [Act.put, List.setIfInBounds_toArray, List.set_cons_zero, List.set_cons_succ]
  refine wpAnyH_take (i := 1) (oi := ⟨some 26, .move (.tmp 0), _, _, _, _⟩) (v := .pointer (some ⟨g, 0, none⟩)) rfl (by kernel_rfl) (by kernel_rfl) (by kernel_rfl) (fun _ _ _ h => h) (.inl ⟨by rfl, fun w hSw => by go_simp⟩) (by assumption) ?_
  simp only [Act.put, List.setIfInBounds_toArray, List.set_cons_zero, List.set_cons_succ]
  refine wpAnyH_take (i := 2) (oi := ⟨some 27, .fieldAddr 92 (.tmp 4) 0, _, _, _, _⟩) (v := .pointer (some ⟨g4, 0, none⟩)) rfl (by kernel_rfl) (by kernel_rfl) (by kernel_rfl) (fun _ _ _ h => h) (.inl ⟨by rfl, fun w hSw => by go_simp⟩) (by assumption) ?_
  simp only [Act.put, List.setIfInBounds_toArray, List.set_cons_zero, List.set_cons_succ]
  refine wpAnyH_take (i := 3) (oi := ⟨some 28, .load 44 (.tmp 27), _, _, _, _⟩) (v := .int .u32 ((e0 + 1 : Nat) : Int)) rfl (by kernel_rfl) (by kernel_rfl) (by kernel_rfl) (fun _ _ _ h => h) (.inl ⟨by rfl, fun w hSw => by have z := (by have y := Row.cell hSw 0; exact y : _ = some (Value.int IntKind.u32 ((e0 + 1 : Nat) : Int))); go_simp⟩) (by assumption) ?_
  simp only [Act.put, List.setIfInBounds_toArray, List.set_cons_zero, List.set_cons_succ]
  refine wpAnyH_take (i := 4) (oi := ⟨some 29, .fieldAddr 92 (.tmp 4) 1, _, _, _, _⟩) (v := .pointer (some ⟨g4, 1, none⟩)) rfl (by kernel_rfl) (by kernel_rfl) (by kernel_rfl) (fun _ _ _ h => h) (.inl ⟨by rfl, fun w hSw => by go_simp⟩) (by assumption) ?_
  simp only [Act.put, List.setIfInBounds_toArray, List.set_cons_zero, List.set_cons_succ]
  refine wpAnyH_take (i := 5) (oi := ⟨some 30, .load 87 (.tmp 29), _, _, _, _⟩) (v := .agg X.ar.cs.toArray) rfl (by kernel_rfl) (by kernel_rfl) (by kernel_rfl) (fun _ _ _ h => h) (yieldsIf_load_mid (by rfl) 87 (.tmp 29) rfl g4 1 rfl X.ar.cs _ (fun w hSw => rt_rec hSw) Tryz.underlying87 rfl (i35.out _)) (by assumption) ?_
  simp only [Act.put, List.setIfInBounds_toArray, List.set_cons_zero, List.set_cons_succ]
  refine wpAnyH_take (i := 6) (oi := ⟨some 31, .nilCheck (.tmp 25), _, _, _, _⟩) (v := .pointer (some ⟨g, 0, none⟩)) rfl (by kernel_rfl) (by kernel_rfl) (by kernel_rfl) (fun _ _ _ h => h) (.inl ⟨by rfl, fun w hSw => by go_simp⟩) (by assumption) ?_
  simp only [Act.put, List.setIfInBounds_toArray, List.set_cons_zero, List.set_cons_succ]
  refine wpAnyH_take (i := 7) (oi := ⟨some 32, .fieldAddr 90 (.tmp 31) 5, _, _, _, _⟩) (v := .pointer (some ⟨g, 5, none⟩)) rfl (by kernel_rfl) (by kernel_rfl) (by kernel_rfl) (fun _ _ _ h => h) (.inl ⟨by rfl, fun w hSw => by go_simp⟩) (by assumption) ?_
  simp only [Act.put, List.setIfInBounds_toArray, List.set_cons_zero, List.set_cons_succ]
  refine wpAnyH_ready (rs := [8]) (by kernel_rfl) (by simp) ?_
  refine AllReadyH.cons (o := ⟨none, .store 44 (.tmp 32) (.tmp 28), _, _, _, _⟩) rfl (fun K hK => ?_) AllReadyH.nil
  go_simp
  have HV8 := Lib.hid ((HV7.out.below (below_drw _)).p_e (e0 + 1))
  have HR8 := Lib.hid (HR7.out.drew.grown (grown_set w7.drew ⟨g, 5, none⟩ (.int .u32 ((e0 + 1 : Nat) : Int))) HN4.out)
  refine hK.out _ _ HR8.out (fun hH8 => ?_)
  clear hK K
  refine wpAnyH_take (i := 9) (oi := ⟨some 33, .nilCheck (.tmp 26), _, _, _, _⟩) (v := .pointer (some ⟨g, 0, none⟩)) rfl (by kernel_rfl) (by kernel_rfl) (by kernel_rfl) (fun _ _ _ h => h) (.inl ⟨by rfl, fun w hSw => by go_simp⟩) (by assumption) ?_
  simp only [Act.put, List.setIfInBounds_toArray, List.set_cons_zero, List.set_cons_succ]
  refine wpAnyH_take (i := 10) (oi := ⟨some 34, .fieldAddr 90 (.tmp 33) 7, _, _, _, _⟩) (v := .pointer (some ⟨g, 7, none⟩)) rfl (by kernel_rfl) (by kernel_rfl) (by kernel_rfl) (fun _ _ _ h => h) (.inl ⟨by rfl, fun w hSw => by go_simp⟩) (by assumption) ?_
  simp only [Act.put, List.setIfInBounds_toArray, List.set_cons_zero, List.set_cons_succ]
  refine wpAnyH_ready (rs := [11]) (by kernel_rfl) (by simp) ?_
  refine AllReadyH.cons (o := ⟨none, .store 87 (.tmp 34) (.tmp 30), _, _, _, _⟩) rfl (fun K hK => ?_) AllReadyH.nil
  refine st_store_mid (by rfl) 87 (.tmp 34) (.tmp 30) rfl g 7 X.ar.cs (by rfl) (by rfl) (by rw [RecV.cs_len]; exact HV8.out.top_there) (i35.out _) (RecV.cs_one _) ?_
  have HV9 := Lib.hid (HV8.out.p_top X.ar)
  have HR9 := Lib.hid (HR8.out.grown (grown_setsA X.ar.cs _ 7) HN4.out)
  refine hK.out _ _ HR9.out (fun hH9 => ?_)
  clear hK K
  refine wpAnyH_done (by kernel_rfl) ?_ _
  obtain ⟨w9, hw9⟩ : ∃ w9, ((w7.setCell ⟨g, 5, none⟩ (.int .u32 ((e0 : Int) + 1))).drew.setCells g 7 X.ar.cs) = w9 := ⟨_, rfl⟩
  have HC9 := Lib.hid (p := Chg [g] w7 w9) (by rw [← hw9]; exact (((chg_g2 (Chg.refl [g] w7) 5 (.int .u32 ((e0 : Int) + 1))).drew).grown (grown_setsA X.ar.cs _ 7) (fun k hk => by injection hk with hk; subst hk; exact .inl (List.mem_singleton.2 rfl))))
  replace HV9 := Lib.hid (p := VB b w9 FD FA7 g (q + 1) gv L { X with ae := e0 + 1, c := { X.c with e := e0 + 1, top := X.ar } }) (by rw [← hw9]; exact HV9.out)
  replace HR9 := Lib.hid (p := Row w9 g4 92 (rtC (e0 + 1) X.ar)) (by rw [← hw9]; exact HR9.out)
  rw [hw9]
  clear hw9 HV8 HR8 c5 f5
  have c42 : w9.rangeAt g 7 X.ar.cs := by have z := VAt.top HV9.out.row; exact z
  have C42 := Lib.hid c42
  clear c42
  go_wp2_with (first
    | (refine wpList_load_mid rfl 87 (.tmp 38) rfl g 7 rfl X.ar.cs _ C42.out Tryz.underlying87 rfl (i35.out _) ?_)
    | (refine wpList_build1 rfl 158 (.tmp 39) rfl X.ar rfl ?_; intro gR wR hrR hgR hbR; have HRR := Lib.hid hrR; have HBR := Lib.hid hbR; have HGR := Lib.hid (p := w9.heap.size ≤ gR) (Nat.le_of_eq hgR.out.symm); clear hrR hgR hbR)
    | (go_at_call 71; refine (vmark (HV9.out.below HBR.out) [X.ar] gR 1 (by simp) (fun j r hj => ?hR) ?hRn HRR.out.lt HMK.out).mono ?_
       case hR =>
         match j, hj with
         | 0, hj => simp at hj; subst hj; exact HRR.out.all
       case hRn => exact no1 (fun e => by have h1 := HV9.out.spc.lt; have h2 := HGR.out; have h3 : gR = X.c.gs := e; have h4 : X.c.gs < w9.heap.size := h1; omega)
       rintro e w10 ⟨rfl, h10, hc10⟩
       have HV10 := Lib.hid h10.out
       have HC10 := Lib.hid hc10.out
       clear h10 hc10)
    | (go_at_call 72; refine (vonward HV10.out HS.out).mono ?_; rintro e w11 ⟨un, rfl, h11, hc11⟩))
  go_ret2
  refine ⟨un, rfl, VTo.of (X := _) (FD' := FD) (FA' := FA7) ?_ ?_ HW7.out⟩
  · have z := h11.out
    unfold VX.entered
    rw [HE0.out]
    exact z
  · refine (((HC7.out.trans HC9.out (fun j hj => ?_)).trans (Chg.of (F := []) HBR.out) (fun j hj => by cases hj)).trans HC10.out (fun j hj => ?_)).trans hc11.out (fun j hj => ?_)
    · exact .inl (one_in H.out (mem_vown.2 (.inl rfl)) j hj)
    · exact .inl (one_in H.out (mem_vown.2 (.inr (.inr (.inr (.inr (.inl rfl)))))) j hj)
    · exact .inl (one_in H.out (mem_vown.2 (.inl rfl)) j hj)
end
end Go.Proofs.YtpocccnhibjjcaaGreatDoor
/- Cursors of package wire: what each call leaves, for every argument (bytes of at most 2^46). No other conditions. -/
set_option linter.unusedVariables false
namespace Go.Proofs.YtpocccnhibjjcaaGreatDoor
open Go.RowKit

def RowB (w : World) (A : Option Addr) (l : List UInt8) : Prop :=
  l = [] ∨ ∃ h off cur, A = some ⟨h, off, none⟩ ∧ w.heap[h]? = some (.cells cur 5 (0, 0)) ∧ ∀ j x, l[j]? = some x → cur[off + j]? = some (.int .u8 (x.toNat : Int))
theorem RowB.hol {w : World} {A : Option Addr} {l : List UInt8} (h : RowB w A l) : Hol w A l := by
  rcases h with rfl | ⟨h, off, cur, rfl, hh, hc⟩
  · exact .inl rfl
  · exact .inr ⟨h, off, rfl, fun j x hx => by rw [cell_of_row w h (off + j) cur _ _ hh]; exact hc j x hx⟩
theorem RowB.take_ {w : World} {A : Option Addr} {l : List UInt8} (h : RowB w A l) (n : Nat) : RowB w A (l.take n) := by
  rcases h with rfl | ⟨h, off, cur, rfl, hh, hc⟩
  · exact .inl (by simp)
  · refine .inr ⟨h, off, cur, rfl, hh, fun j x hx => hc j x ?_⟩
    rw [List.getElem?_take] at hx
    split at hx
    · exact hx
    · cases hx
theorem RowB.drop_ {w : World} {h off : Nat} {l : List UInt8} (hr : RowB w (some ⟨h, off, none⟩) l) (n : Nat) : RowB w (some ⟨h, off + n, none⟩) (l.drop n) := by
  rcases hr with rfl | ⟨h', off', cur, e, hh, hc⟩
  · exact .inl (by simp)
  · injection e with e
    injection e with e1 e2
    subst e1 e2
    refine .inr ⟨h, off + n, cur, rfl, hh, fun j x hx => ?_⟩
    rw [List.getElem?_drop] at hx
    rw [Nat.add_assoc]
    exact hc (n + j) x hx
theorem RowB.grown {w w' : World} {A : Option Addr} {l : List UInt8} (h : RowB w A l) {row : Option Nat} (hg : w.grownBy w' row) (hr : ∀ b off, A = some ⟨b, off, none⟩ → l ≠ [] → some b ≠ row) : RowB w' A l := by
  by_cases hl : l = []
  · exact .inl hl
  · rcases h with h | ⟨h, off, cur, rfl, hh, hc⟩
    · exact absurd h hl
    · exact .inr ⟨h, off, cur, rfl, (hg.block h (Array.getElem?_eq_some_iff.1 hh).1 (hr h off rfl hl)).trans hh, hc⟩
theorem RowB.own {w : World} {base n c : Nat} {A : Option Addr} {l : List UInt8} (h : w.ownsRow base 5 1 (.slice A n c) n (bc l)) : RowB w A l := by
  by_cases hl : l = []
  · exact .inl hl
  · have hn : n = l.length := (own_form h).1
    rcases h.2 with ⟨h1, h2⟩ | ⟨g, cap, cur, h1, hb, hg, hn', hc, hs, ht⟩
    · exact absurd (List.eq_nil_of_length_eq_zero (by omega)) hl
    · simp only [Value.slice.injEq] at h1
      obtain ⟨rfl, _, rfl⟩ := h1
      refine .inr ⟨g, 0, cur, rfl, hg, fun j x hx => ?_⟩
      have hj := get_bc hx
      rw [← ht, List.getElem?_take] at hj
      split at hj
      · simpa using hj
      · cases hj

def Cur (w : World) (g : Nat) (l : List UInt8) (bad : Bool) : Prop :=
  ∃ A c, w.heap[g]? = some (.cells #[.slice A l.length c, .bool bad] 218 (0, 0)) ∧ l.length ≤ c ∧ c ≤ maxLen ∧ RowB w A l ∧ ∀ q o, A = some ⟨q, o, none⟩ → q < g
theorem RowB.apart {w : World} {g : Nat} {cs : Array Value} (hg : w.heap[g]? = some (.cells cs 218 (0, 0))) {A : Option Addr} {l : List UInt8} (h : RowB w A l) :
    ∀ b off, A = some ⟨b, off, none⟩ → l ≠ [] → some b ≠ some g := by
  intro b off hA hl e
  injection e with e
  subst e
  rcases h with h | ⟨h, off', cur, e, hh, _⟩
  · exact absurd h hl
  · rw [hA] at e
    injection e with e
    injection e with e1 e2
    subst e1
    rw [hg] at hh
    injection hh with hh
    injection hh with _ ht
    exact absurd ht (by decide)
theorem Cur.lt {w : World} {g : Nat} {l : List UInt8} {bad : Bool} (h : Cur w g l bad) : g < w.heap.size := by
  obtain ⟨A, c, hg, _⟩ := h
  exact (Array.getElem?_eq_some_iff.1 hg).1
theorem Cur.grown {w w' : World} {g : Nat} {l : List UInt8} {bad : Bool} (h : Cur w g l bad) {row : Option Nat} (hg : w.grownBy w' row) (hne : some g ≠ row)
    (hrow : ∀ k, row = some k → ∀ cs, w.heap[k]? ≠ some (.cells cs 5 (0, 0))) : Cur w' g l bad := by
  obtain ⟨A, c, hh, h1, h2, h3, h4⟩ := h
  refine ⟨A, c, (hg.block g (Array.getElem?_eq_some_iff.1 hh).1 hne).trans hh, h1, h2, h3.grown hg ?_, h4⟩
  intro b off hA hl e
  rcases h3 with h | ⟨h, off', cur, e', hh', _⟩
  · exact hl h
  · rw [hA] at e'
    injection e' with e'
    injection e' with e1 e2
    subst e1
    exact hrow b e.symm cur hh'
theorem Cur.below {w w' : World} {g : Nat} {l : List UInt8} {bad : Bool} (h : Cur w g l bad) (hb : Below w.heap.size w w') : Cur w' g l bad :=
  h.grown (row := none) (grown_of_below hb) (by simp) (by intro k hk; cases hk)
theorem grown_two (w : World) (g : Nat) (a b : Value) : w.grownBy ((w.setCell ⟨g, 0, none⟩ a).setCell ⟨g, 1, none⟩ b) (some g) :=
  grown_trans (grown_set w ⟨g, 0, none⟩ a) (grown_set _ ⟨g, 1, none⟩ b)
theorem cur_set {w : World} {g : Nat} {a b : Value} (hg : w.heap[g]? = some (.cells #[a, b] 218 (0, 0))) (A : Option Addr) (n c : Nat) (l : List UInt8) (bad : Bool) (hn : n = l.length) (h1 : l.length ≤ c) (h2 : c ≤ maxLen) (hr : RowB w A l) (hq : ∀ q o, A = some ⟨q, o, none⟩ → q < g) :
    Cur ((w.setCell ⟨g, 0, none⟩ (.slice A n c)).setCell ⟨g, 1, none⟩ (.bool bad)) g l bad := by
  subst hn
  refine ⟨A, c, ?_, h1, h2, hr.grown (grown_two w g _ _) (RowB.apart hg hr), hq⟩
  rw [heap_set (heap_set hg 0 _) 1 _]
  rfl
theorem cur_set1 {w : World} {g : Nat} {a : Value} {bad : Bool} (hg : w.heap[g]? = some (.cells #[a, .bool bad] 218 (0, 0))) (A : Option Addr) (n c : Nat) (l : List UInt8) (hn : n = l.length) (h1 : l.length ≤ c) (h2 : c ≤ maxLen) (hr : RowB w A l) (hq : ∀ q o, A = some ⟨q, o, none⟩ → q < g) :
    Cur (w.setCell ⟨g, 0, none⟩ (.slice A n c)) g l bad := by
  subst hn
  refine ⟨A, c, ?_, h1, h2, hr.grown (grown_set w ⟨g, 0, none⟩ _) (RowB.apart hg hr), hq⟩
  rw [heap_set hg 0 _]
  rfl

theorem cleft_any (g : Nat) (l : List UInt8) (bad : Bool) (w : World) (hc : Cur w g l bad) :
    Calls Tryz.prog 175 #[.pointer (some ⟨g, 0, none⟩)] w fun e w' => e = .returned (.int .i64 l.length) ∧ w = w' := by
  obtain ⟨A, c, hg, h1, h2, _⟩ := hc
  have hc0 : w.cell? ⟨g, 0, none⟩ = some (.slice A l.length c) := by rw [cell_of_row w g 0 _ _ _ hg]; rfl
  go_enter Tryz.func175, Tryz.ntmps175
  go_wp2
  go_ret
  exact ⟨rfl, rfl⟩
theorem spoil_any (g : Nat) (l : List UInt8) (bad : Bool) (w : World) (hc : Cur w g l bad) :
    Calls Tryz.prog 169 #[.pointer (some ⟨g, 0, none⟩)] w fun e w' => e = .returned (.tuple #[]) ∧ Cur w' g [] true ∧ w.grownBy w' (some g) := by
  obtain ⟨A, c, hg, h1, h2, _⟩ := hc
  have hc0 : w.cell? ⟨g, 0, none⟩ = some (.slice A l.length c) := by rw [cell_of_row w g 0 _ _ _ hg]; rfl
  have hc1 : w.cell? ⟨g, 1, none⟩ = some (.bool bad) := by rw [cell_of_row w g 1 _ _ _ hg]; rfl
  have hf0 : w.frozen? ⟨g, 0, none⟩ = false := by simp [World.frozen?, hg]
  have hf1 : w.frozen? ⟨g, 1, none⟩ = false := by simp [World.frozen?, hg]
  go_enter Tryz.func169, Tryz.ntmps169
  go_wp2
  go_end0
  exact ⟨rfl, cur_set hg none 0 0 [] true rfl (Nat.le_refl _) (by decide) (.inl rfl) (fun q o e => by cases e), grown_two w g _ _⟩

def NextPost (w : World) (g : Nat) (r : List UInt8 × List UInt8 × Bool) (e : Ending) (w' : World) : Prop :=
  ∃ A c, e = .returned (.slice A r.1.length c) ∧ r.1.length ≤ c ∧ c ≤ maxLen ∧ Hol w' A r.1 ∧ Cur w' g r.2.1 r.2.2 ∧ w.grownBy w' (some g)

theorem next_any (g : Nat) (l : List UInt8) (bad : Bool) (n : Int) (w : World) (hc : Cur w g l bad) (hl : l.length ≤ 140737488355328) :
    Calls Tryz.prog 170 #[.pointer (some ⟨g, 0, none⟩), .int .i64 n] w (NextPost w g (nxt n l bad)) := by
  by_cases h0 : n < 0
  · have hnx : nxt n l bad = ([], [], true) := by unfold nxt; rw [if_pos (.inl h0)]
    rw [hnx]
    go_enter Tryz.func170, Tryz.ntmps170
    go_wp2_with (go_at_call 169; refine (spoil_any g l bad _ hc).mono ?_; rintro e w' ⟨rfl, hc', hg'⟩)
    go_ret
    exact ⟨none, 0, rfl, Nat.le_refl _, by decide, .inl rfl, hc', hg'⟩
  have hd : decide (n < 0) = false := by simpa using h0
  by_cases h1 : (l.length : Int) < n
  · have hnx : nxt n l bad = ([], [], true) := by unfold nxt; rw [if_pos (.inr h1)]
    rw [hnx]
    go_enter Tryz.func170, Tryz.ntmps170
    go_wp2_with (first
      | (go_at_call 169; refine (spoil_any g l bad _ hc).mono ?_; rintro e w' ⟨rfl, hc', hg'⟩)
      | (go_at_call 175; refine (cleft_any g l bad _ hc).mono ?_; rintro e w' ⟨rfl, rfl⟩))
    go_ret
    exact ⟨none, 0, rfl, Nat.le_refl _, by decide, .inl rfl, hc', hg'⟩
  have hnx : nxt n l bad = (l.take n.toNat, l.drop n.toNat, bad) := by unfold nxt; rw [if_neg (by omega)]
  rw [hnx]
  by_cases h2 : n = 0
  · subst h2
    go_enter Tryz.func170, Tryz.ntmps170
    go_wp2_with (go_at_call 175; refine (cleft_any g l bad _ hc).mono ?_; rintro e w' ⟨rfl, rfl⟩)
    go_ret
    exact ⟨none, 0, rfl, Nat.le_refl _, by decide, .inl rfl, hc, ⟨rfl, rfl, rfl, Nat.le_refl _, fun _ _ _ => rfl⟩⟩
  obtain ⟨m, rfl⟩ := Int.eq_ofNat_of_zero_le (by omega : 0 ≤ n)
  have hm : 0 < m ∧ m ≤ l.length := by omega
  have hne : l ≠ [] := by intro e; subst e; simp at hm; omega
  obtain ⟨A, c, hg, hl1, hl2, hrow, hqg⟩ := id hc
  obtain ⟨q, off, rfl⟩ : ∃ q off, A = some ⟨q, off, none⟩ := by
    rcases hrow with e | ⟨q, off, cur, e, _⟩
    · exact absurd e hne
    · exact ⟨q, off, e⟩
  have hc0 : w.cell? ⟨g, 0, none⟩ = some (.slice (some ⟨q, off, none⟩) l.length c) := by rw [cell_of_row w g 0 _ _ _ hg]; rfl
  have hf0 : w.frozen? ⟨g, 0, none⟩ = false := by simp [World.frozen?, hg]
  have hb0 : ((m : Int) == 0) = false := by simp; omega
  have hm1 : (m : Int) ≤ l.length := by omega
  have hcm : (l.length : Int) ≤ c := by omega
  have hc63 : (c : Int) ≤ 9223372036854775807 := by unfold maxLen at hl2; omega
  rw [Int.toNat_natCast]
  clear hnx h0 h1 h2 hne
  go_enter Tryz.func170, Tryz.ntmps170
  go_wp2_with (go_at_call 175; refine (cleft_any g l bad _ hc).mono ?_; rintro e w' ⟨rfl, rfl⟩)
  · go_ret
    have hlm : l.length = m := by omega
    have e0 : l.drop m = [] := List.drop_eq_nil_of_le (by omega)
    have e1 : l.take m = l := List.take_of_length_le (by omega)
    rw [e0, e1]
    exact ⟨some ⟨q, off, none⟩, m, by rw [hlm]; rfl, by show l.length ≤ m; omega, by omega, (hrow.hol).grown (grown_set w ⟨g, 0, none⟩ _) (fun b o e => RowB.apart hg hrow b o e (by intro e; subst e; simp at hm; omega)), cur_set1 hg _ _ 0 [] (by simp; omega) (by simp) (by decide) (.inl rfl) hqg, grown_set w ⟨g, 0, none⟩ _⟩
  · go_ret
    have e1 : (l.take m).length = m := by simp; omega
    exact ⟨some ⟨q, off, none⟩, c, by rw [e1]; rfl, by show (l.take m).length ≤ c; omega, hl2, (hrow.hol.take_ m).grown (grown_set w ⟨g, 0, none⟩ _) (fun b o e => RowB.apart hg hrow b o e (by intro e; subst e; simp at hm; omega)),
      cur_set1 hg _ _ (c - m) (l.drop m) (by simp) (by simp; omega) (by omega) (hrow.drop_ m) (fun q2 o2 e => by injection e with e; injection e with e1 e2; subst e1; exact hqg _ _ rfl), grown_set w ⟨g, 0, none⟩ _⟩

def TakePost (w : World) (g : Nat) (r : List UInt8 × List UInt8 × Bool) (e : Ending) (w' : World) : Prop :=
  ∃ v, e = .returned v ∧ w'.ownsRow w.heap.size 5 1 v r.1.length (bc r.1) ∧ Cur w' g r.2.1 r.2.2 ∧ w.grownBy w' (some g)
theorem next_of (g : Nat) (l : List UInt8) (bad : Bool) (n : Int) (w : World) (hc : Cur w g l bad) (hl : l.length ≤ 70368744177664) (r : List UInt8 × List UInt8 × Bool) (hr : nxt n l bad = r) :
    Calls Tryz.prog 170 #[.pointer (some ⟨g, 0, none⟩), .int .i64 n] w (NextPost w g r) := by
  subst hr
  exact next_any g l bad n w hc (by omega)
theorem take_any (g : Nat) (l : List UInt8) (bad : Bool) (n : Int) (w : World) (hc : Cur w g l bad) (hl : l.length ≤ 70368744177664) :
    Calls Tryz.prog 153 #[.pointer (some ⟨g, 0, none⟩), .int .i64 n] w (TakePost w g (nxt n l bad)) := by
  obtain ⟨i, U⟩ := u8_table
  have hle := (nxt_le n l bad).1
  generalize hr : nxt n l bad = r at hle ⊢
  have cN := next_of g l bad n w hc hl r hr
  clear hr
  obtain ⟨out, rest, bd⟩ := r
  replace hle : out.length ≤ l.length := hle
  go_enter Tryz.func153, Tryz.ntmps153
  go_wp2_with (first
    | (go_at_call 170; refine cN.mono ?_; rintro e w1 ⟨A, c, rfl, h1, h2, h3, h4, h5⟩)
    | (at_builtin; refine wpList_app _ rfl _ _ _ rfl 5 i U w.heap.size (.slice none 0 0) 0 [] rfl (World.ownsRow_nil _ _ _ _) A out.length c out rfl rfl h3 (by omega) h5.size ?_; intro v2 w2 hown2 hg2 hat2))
  go_ret
  refine ⟨v2, rfl, by simpa using hown2, h4.below (below_of_grown hg2), grown_trans h5 (grown_of_below ((below_of_grown hg2).mono (Nat.le_refl _)))⟩

def NumPost (w : World) (g : Nat) (r : List UInt8 × List UInt8 × Bool) (e : Ending) (w' : World) : Prop :=
  e = .returned (.int .u64 (num r.1 : Nat)) ∧ Cur w' g r.2.1 r.2.2 ∧ w.grownBy w' (some g)
set_option maxHeartbeats 400000 in
theorem num_any (g : Nat) (l : List UInt8) (bad : Bool) (n : Int) (w : World) (hc : Cur w g l bad) (hl : l.length ≤ 70368744177664) :
    Calls Tryz.prog 152 #[.pointer (some ⟨g, 0, none⟩), .int .i64 n] w (NumPost w g (nnx n l bad)) := by
  by_cases h : wid n = 0
  · have hn : nnx n l bad = ([], [], true) := by unfold nnx; rw [if_pos h]
    rw [hn]
    clear hn
    go_enter Tryz.func152, Tryz.ntmps152
    go_wp2_with (first
      | (go_at_call 146; refine (width_any _ _).mono ?_; rintro e w' ⟨rfl, rfl⟩; rw [h])
      | (go_at_call 169; refine (spoil_any g l bad _ hc).mono ?_; rintro e w' ⟨rfl, hc', hg'⟩))
    go_ret
    exact ⟨rfl, hc', hg'⟩
  · have hn : nnx n l bad = nxt n l bad := by unfold nnx; rw [if_neg h]
    have hle := nxt_one n l bad (by have := wid_pos h; omega)
    have hlt := num_lt (nxt n l bad).1
    have h8 := (wid_pos h).2
    rw [hn]
    generalize hr : nxt n l bad = r at hle hlt ⊢
    have cN := next_of g l bad n w hc hl r hr
    clear hr hn
    obtain ⟨out, rest, bd⟩ := r
    replace hle : out.length ≤ 8 := by have : out.length ≤ n.toNat := hle; omega
    have hw0 : ((wid n : Int) == 0) = false := by simp; omega
    clear h hlt
    go_enter Tryz.func152, Tryz.ntmps152
    go_wp2_with (first
      | (go_at_call 146; refine (width_any _ _).mono ?_; rintro e w' ⟨rfl, rfl⟩)
      | (go_at_call 170; refine cN.mono ?_; rintro e w1 ⟨A, c, rfl, h1, h2, h3, h4, h5⟩))
    replace h1 : out.length ≤ c := h1
    replace h3 : Hol w1 A out := h3
    go_loop [5, 17] (fun v i => ∃ k : Nat, k ≤ out.length ∧ i = .int .i64 k ∧ v = .int .u64 (num (out.take k) : Nat)) (fun _ i => out.length - (intOf i).toNat)
    case atStart => exact ⟨0, Nat.zero_le _, rfl, rfl⟩
    case round =>
      obtain ⟨k, hk, rfl, rfl⟩ := hrel
      by_cases hlt : k < out.length
      · obtain ⟨q, off, rfl, _, hcell⟩ := h3.at_ hlt
        obtain ⟨x, hx⟩ : ∃ x, out[k] = x := ⟨_, rfl⟩
        rw [hx] at hcell
        have hX : x.toNat < 256 := x.toNat_lt
        obtain ⟨N, hN⟩ : ∃ N, num (out.take k) = N := ⟨_, rfl⟩
        rw [hN]
        have HX := Lib.hid hx
        have HN := Lib.hid hN
        clear hx hN
        go_wp2
        go_round
        case rel =>
          refine ⟨k + 1, by omega, by go_num, ?_⟩
          have e1 : out.take (k + 1) = out.take k ++ [x] := by rw [List.take_succ_eq_append_getElem hlt, HX.out]
          have e2 : (out.take k).length = k := by simp; omega
          have e3 := num_lt (out.take k)
          rw [e2, HN.out] at e3
          rw [e1, num_app, e2, HN.out, or_join N x.toNat k e3 hX (by omega)]
        case measure => simp [intOf]; omega
      · go_wp2
        go_ret
        have e1 : out.take k = out := List.take_of_length_le (by omega)
        rw [e1]
        exact ⟨rfl, h4, h5⟩

theorem cur_new_any (A : Option Addr) (c : Nat) (l : List UInt8) (w : World) (hA : Hol w A l) (hb : l.length ≤ 70368744177664) :
    Calls Tryz.prog 150 #[.slice A l.length c] w fun e w' => ∃ g, e = .returned (.pointer (some ⟨g, 0, none⟩)) ∧ w.heap.size ≤ g ∧ Cur w' g l false ∧ Below w.heap.size w w' := by
  go_enter Tryz.func150, Tryz.ntmps150
  go_wp2_with (go_at_call 148; refine (room_any A c l 0 w hA (by omega)).mono ?_; rintro e w1 ⟨v, rfl, hown1, hb1⟩; obtain ⟨_, A1, c1, rfl, h1, h2, h3⟩ := own_form hown1)
  go_ret
  exact ⟨w1.heap.size, rfl, hb1.size, ⟨A1, c1, heap_alloc_new w1 _, h1, h2, (RowB.own hown1).grown (World.grownBy_alloc w1 _ none) (by simp), fun q o e => (hown1.lt q (by rw [e]; rfl)).2⟩, hb1.alloc hb1.size _⟩

end Go.Proofs.YtpocccnhibjjcaaGreatDoor
/- Numbers put behind bytes by the reference, under names. Conditions: those named. -/
set_option linter.unusedVariables false
namespace Go.Proofs.YtpocccnhibjjcaaGreatDoor
open Go.RowKit

end Go.Proofs.YtpocccnhibjjcaaGreatDoor
