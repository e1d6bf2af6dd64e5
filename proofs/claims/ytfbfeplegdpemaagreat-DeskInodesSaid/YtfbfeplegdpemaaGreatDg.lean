/- A desk's inodes: one more made. Conditions: the desk lies there; the super has room, or has none. -/
import Derived.Test.YtfbfeplegdpemaaGreatDf
set_option linter.unusedVariables false
set_option maxRecDepth 20000
namespace Go.Proofs.YtfbfeplegdpemaaGreat
open Go.RowKit

section
variable {b : Nat} {w w' : World} {gd gv gm gs r : Nat} {Bs : List BV} {N n : Nat} {X X' : DX}
set_option maxHeartbeats 4000000 in
theorem dmake_not (v : Nat → Int) (h : DK b w gd gv gm gs r Bs N n X) (hL : LdR Bs X X') (hn : n ≤ 1000) (er : Nat) (her : er ≠ 0)
    (hA : ∀ W, Calls Tryz.prog 38 #[.agg X'.S.cs.toArray, .int .i64 (N : Int)] W fun e w' => e = .returned (.tuple #[.agg X'.S.cs.toArray, .int .i64 0, .int .i64 (er : Int)]) ∧ Below W.heap.size W w') : Calls Tryz.prog 14 #[.pointer (some ⟨gd, 0, none⟩), .agg (ncs v).toArray] w (DOne b w gd gv gm gs r Bs N n X' (.tuple #[.agg (rfc 0 0).toArray, .int .i64 (er : Int)])) := by
  have HBG := Lib.hid (hbegin h hn)
  have HLT := Lib.hid h.lt
  have HLO := Lib.hid h.lo
  have HL := Lib.hid hL
  have HN := Lib.hid hn
  have HA := Lib.hid hA
  have i1 := Lib.hid (fun x : Sup => info_cs x)
  have i2 := Lib.hid (fun k s => info_ref k s)
  have i3 := Lib.hid (fun v => info_ncs v)
  have hz := Lib.hid zero_sup
  have hzr := Lib.hid zero_ref
  have her2 : ((er : Int) != 0) = true := by simp; omega
  clear h hL hn hA her
  go_enter Tryz.func14, Tryz.ntmps14
  go_wp2_with (first
    | (refine step_box rfl 3 rfl 44 (.tmp 1) rfl (ncs v) rfl ?_; intro g3 w2 hr2 hg2 hb2 hs2
       have HR32 := Lib.hid hr2
       have HB2 := Lib.hid hb2
       have HG3 := Lib.hid (p := w.heap.size ≤ g3) (Nat.le_of_eq hg2.out.symm)
       clear hr2 hg2 hb2 hs2)
    | (refine step_alloc rfl 4 rfl 37 rfl _ hzr.out ?_; intro g4 w3 hr3 hg3 hb3 hs3
       have HR43 := Lib.hid hr3
       have HR33 := Lib.hid (HR32.out.kept hb3)
       have HB3 := Lib.hid (below_nxt hb3 HB2.out)
       have HG4 := Lib.hid (p := w.heap.size ≤ g4 ∧ g3 < g4) (by rw [hg3.out]; exact ⟨HB2.out.size, HR32.out.lt⟩)
       clear hr3 hg3 hb3 hs3)
    | (go_at_call 36; refine (HBG.out _ HB3.out).mono ?_; rintro e w4 ⟨rfl, hk, hc⟩
       have HK4 := hk
       have HC4 := Lib.hid (p := Chg [gd] w w4) ((Chg.of (F := [gd]) HB3.out).trans hc.out (fun x hx => .inl hx))
       have HR34 := Lib.hid (hc.out.row HR33.out (by have h1 := HLT.out; have h2 := HG3.out; simp; omega))
       have HR44 := Lib.hid (hc.out.row HR43.out (by have h1 := HLT.out; have h2 := HG4.out; simp; omega))
       clear hk hc)
    | (go_at_call 37; refine (dload HK4.out HL.out).mono ?_; rintro e w5 ⟨rfl, hk, hc⟩
       have HK5 := Lib.hid (hk.out.below (below_drw _))
       have HC5 := Lib.hid (p := Chg [gd] w w5.drew) (chg_nxt (chg_same HC4.out hc.out) (below_drw _))
       have HR35 := Lib.hid (p := Row w5.drew g3 44 (ncs v)) ((hc.out.row HR34.out (by have h1 := HLT.out; have h2 := HG3.out; simp; omega)).drew)
       have HR45 := Lib.hid (p := Row w5.drew g4 37 (rfc 0 0)) ((hc.out.row HR44.out (by have h1 := HLT.out; have h2 := HG4.out; simp; omega)).drew)
       obtain ⟨tl, ah, la, e1, e2, e3, hd⟩ := HK5.out.parts
       have HD := Lib.hid hd
       obtain ⟨DC, hDC⟩ : ∃ DC, ((dhd gv N ++ [Value.bool X'.rd]) ++ (X'.S.cs ++ (X'.S0.cs ++ tl))) = DC := ⟨_, rfl⟩
       have HRNG := Lib.hid (p := ∀ W, Row W gd 88 DC → W.rangeAt gd 3 X'.S.cs ∧ W.cell? ⟨gd, 1, none⟩ = some (.int .i64 (N : Int))) (fun W h => by subst hDC; exact ⟨h.rng rfl, (h.cell 1).trans rfl⟩)
       rw [hDC] at HD
       clear hk hc e1 e2 e3 hd hDC))
  refine wp_region_held_drew (S := fun W => Row W gd 88 DC) (by kernel_rfl) HD.out (fun hHeld => ?_)
  refine wpAnyH_take (i := 0) (oi := ⟨some 16, .move (.tmp 0), _, _, _, _⟩) (v := .pointer (some ⟨gd, 0, none⟩)) rfl (by kernel_rfl) (by kernel_rfl) (by kernel_rfl) (fun _ _ _ h => h) (.inl ⟨by rfl, fun w hSw => by go_simp⟩) (by assumption) ?_
  simp only [Act.put, List.setIfInBounds_toArray, List.set_cons_zero, List.set_cons_succ]
  refine wpAnyH_take (i := 1) (oi := ⟨some 17, .nilCheck (.tmp 16), _, _, _, _⟩) (v := .pointer (some ⟨gd, 0, none⟩)) rfl (by kernel_rfl) (by kernel_rfl) (by kernel_rfl) (fun _ _ _ h => h) (.inl ⟨by rfl, fun w hSw => by go_simp⟩) (by assumption) ?_
  simp only [Act.put, List.setIfInBounds_toArray, List.set_cons_zero, List.set_cons_succ]
  refine wpAnyH_take (i := 2) (oi := ⟨some 18, .fieldAddr 88 (.tmp 17) 2, _, _, _, _⟩) (v := .pointer (some ⟨gd, 2, none⟩)) rfl (by kernel_rfl) (by kernel_rfl) (by kernel_rfl) (fun _ _ _ h => h) (.inl ⟨by rfl, fun w hSw => by go_simp⟩) (by assumption) ?_
  simp only [Act.put, List.setIfInBounds_toArray, List.set_cons_zero, List.set_cons_succ]
  refine wpAnyH_take (i := 3) (oi := ⟨some 19, .fieldAddr 86 (.tmp 18) 1, _, _, _, _⟩) (v := .pointer (some ⟨gd, 3, none⟩)) rfl (by kernel_rfl) (by kernel_rfl) (by kernel_rfl) (fun _ _ _ h => h) (.inl ⟨by rfl, fun w hSw => by go_simp⟩) (by assumption) ?_
  simp only [Act.put, List.setIfInBounds_toArray, List.set_cons_zero, List.set_cons_succ]
  refine wpAnyH_take (i := 4) (oi := ⟨some 20, .load 59 (.tmp 19), _, _, _, _⟩) (v := .agg X'.S.cs.toArray) rfl (by kernel_rfl) (by kernel_rfl) (by kernel_rfl) (fun _ _ _ h => h) (yieldsIf_load_mid (by rfl) 59 (.tmp 19) rfl gd 3 rfl X'.S.cs _ (fun w hSw => (HRNG.out _ hSw).1) Tryz.underlying59 rfl (i1.out _)) (by assumption) ?_
  simp only [Act.put, List.setIfInBounds_toArray, List.set_cons_zero, List.set_cons_succ]
  refine wpAnyH_take (i := 5) (oi := ⟨some 21, .move (.tmp 0), _, _, _, _⟩) (v := .pointer (some ⟨gd, 0, none⟩)) rfl (by kernel_rfl) (by kernel_rfl) (by kernel_rfl) (fun _ _ _ h => h) (.inl ⟨by rfl, fun w hSw => by go_simp⟩) (by assumption) ?_
  simp only [Act.put, List.setIfInBounds_toArray, List.set_cons_zero, List.set_cons_succ]
  refine wpAnyH_take (i := 6) (oi := ⟨some 22, .nilCheck (.tmp 21), _, _, _, _⟩) (v := .pointer (some ⟨gd, 0, none⟩)) rfl (by kernel_rfl) (by kernel_rfl) (by kernel_rfl) (fun _ _ _ h => h) (.inl ⟨by rfl, fun w hSw => by go_simp⟩) (by assumption) ?_
  simp only [Act.put, List.setIfInBounds_toArray, List.set_cons_zero, List.set_cons_succ]
  refine wpAnyH_take (i := 7) (oi := ⟨some 23, .fieldAddr 88 (.tmp 22) 1, _, _, _, _⟩) (v := .pointer (some ⟨gd, 1, none⟩)) rfl (by kernel_rfl) (by kernel_rfl) (by kernel_rfl) (fun _ _ _ h => h) (.inl ⟨by rfl, fun w hSw => by go_simp⟩) (by assumption) ?_
  simp only [Act.put, List.setIfInBounds_toArray, List.set_cons_zero, List.set_cons_succ]
  refine wpAnyH_take (i := 8) (oi := ⟨some 24, .load 3 (.tmp 23), _, _, _, _⟩) (v := .int .i64 (N : Int)) rfl (by kernel_rfl) (by kernel_rfl) (by kernel_rfl) (fun _ _ _ h => h) (.inl ⟨by rfl, fun w hSw => by have z := (HRNG.out _ hSw).2; go_simp⟩) (by assumption) ?_
  simp only [Act.put, List.setIfInBounds_toArray, List.set_cons_zero, List.set_cons_succ]
  refine wpAnyH_ready (rs := [9, 14]) (by kernel_rfl) (by simp) ?_
  refine AllReadyH.cons (o := ⟨some 25, .call ⟨.value (.func 38), #[.tmp 20, .tmp 24], _⟩, _, _, _, _⟩) rfl (fun K hK => ?_) (AllReadyH.cons (o := ⟨some 6, .alloc 59, _, _, _, _⟩) rfl (fun K hK => ?_) AllReadyH.nil)
  · skip
    go_simp
    go_at_call 38
    refine (HA.out _).mono ?_
    rintro e w6 ⟨rfl, hb⟩
    have HBw6 := Lib.hid (p := Below w5.drew.heap.size w5.drew w6) (below_nxt hb (Below.refl w5.drew.heap.size w5.drew))
    have HDw6 := Lib.hid (HD.out.kept HBw6.out)
    clear hb
    refine hK.out _ _ HDw6.out (fun _hH => ?_)
    clear hK K
    refine wpAnyH_take (i := 10) (oi := ⟨some 15, .move (.tmp 25), _, _, _, _⟩) (v := .tuple #[.agg X'.S.cs.toArray, .int .i64 0, .int .i64 (er : Int)]) rfl (by kernel_rfl) (by kernel_rfl) (by kernel_rfl) (fun _ _ _ h => h) (.inl ⟨by rfl, fun w hSw => by go_simp⟩) (by assumption) ?_
    simp only [Act.put, List.setIfInBounds_toArray, List.set_cons_zero, List.set_cons_succ]
    refine wpAnyH_take (i := 11) (oi := ⟨some 26, .extract (.tmp 15) 0, _, _, _, _⟩) (v := .agg X'.S.cs.toArray) rfl (by kernel_rfl) (by kernel_rfl) (by kernel_rfl) (fun _ _ _ h => h) (.inl ⟨by rfl, fun w hSw => by go_simp⟩) (by assumption) ?_
    simp only [Act.put, List.setIfInBounds_toArray, List.set_cons_zero, List.set_cons_succ]
    refine wpAnyH_take (i := 12) (oi := ⟨some 27, .extract (.tmp 15) 1, _, _, _, _⟩) (v := .int .i64 0) rfl (by kernel_rfl) (by kernel_rfl) (by kernel_rfl) (fun _ _ _ h => h) (.inl ⟨by rfl, fun w hSw => by go_simp⟩) (by assumption) ?_
    simp only [Act.put, List.setIfInBounds_toArray, List.set_cons_zero, List.set_cons_succ]
    refine wpAnyH_take (i := 13) (oi := ⟨some 28, .extract (.tmp 15) 2, _, _, _, _⟩) (v := .int .i64 (er : Int)) rfl (by kernel_rfl) (by kernel_rfl) (by kernel_rfl) (fun _ _ _ h => h) (.inl ⟨by rfl, fun w hSw => by go_simp⟩) (by assumption) ?_
    simp only [Act.put, List.setIfInBounds_toArray, List.set_cons_zero, List.set_cons_succ]
    refine wpAnyH_ready (rs := [14]) (by kernel_rfl) (by simp) ?_
    refine AllReadyH.cons (o := ⟨some 6, .alloc 59, _, _, _, _⟩) rfl (fun K hK => ?_) AllReadyH.nil
    refine st_alloc (by rfl) 59 rfl _ hz.out ?_
    intro g6 w7 hr6 hg6 hb
    have HBw7 := Lib.hid (p := Below w5.drew.heap.size w5.drew w7) (below_nxt hb HBw6.out)
    have HDw7 := Lib.hid (HD.out.kept HBw7.out)
    have HR6w7 := Lib.hid hr6
    have HG6 := Lib.hid (p := w5.drew.heap.size ≤ g6) (by rw [hg6.out]; exact HBw6.out.size)
    clear hr6 hg6 hb
    refine hK.out _ _ HDw7.out (fun _hH => ?_)
    clear hK K
    refine wpAnyH_ready (rs := [15]) (by kernel_rfl) (by simp) ?_
    refine AllReadyH.cons (o := ⟨none, .store 59 (.tmp 6) (.tmp 26), _, _, _, _⟩) rfl (fun K hK => ?_) AllReadyH.nil
    refine st_store (by rfl) 59 (.tmp 6) (.tmp 26) rfl g6 (by rfl) 59 _ X'.S.cs (by rfl) HR6w7.out (by simp [Sup.cs_len]) (i1.out _) (Sup.cs_one _) ?_
    intro w8 hr6 hg6
    have HR6 := Lib.hid hr6
    have HB8 := Lib.hid (p := Below w5.drew.heap.size w5.drew w8) (below_own HBw7.out hg6 HG6.out)
    have HD8 := Lib.hid (HD.out.kept HB8.out)
    clear hr6 hg6
    refine hK.out _ _ HD8.out (fun _hH => ?_)
    clear hK K
    refine wpAnyH_take (i := 16) (oi := ⟨some 7, .assign (.tmp 27), _, _, _, _⟩) (v := .int .i64 0) rfl (by kernel_rfl) (by kernel_rfl) (by kernel_rfl) (fun _ _ _ h => h) (.inl ⟨by rfl, fun w hSw => by go_simp⟩) (by assumption) ?_
    simp only [Act.put, List.setIfInBounds_toArray, List.set_cons_zero, List.set_cons_succ]
    refine wpAnyH_take (i := 17) (oi := ⟨some 8, .assign (.tmp 28), _, _, _, _⟩) (v := .int .i64 (er : Int)) rfl (by kernel_rfl) (by kernel_rfl) (by kernel_rfl) (fun _ _ _ h => h) (.inl ⟨by rfl, fun w hSw => by go_simp⟩) (by assumption) ?_
    simp only [Act.put, List.setIfInBounds_toArray, List.set_cons_zero, List.set_cons_succ]
    refine wpAnyH_done (by kernel_rfl) ?_ _
    have HK8 := Lib.hid (HK5.out.below HB8.out)
    have HC8 := Lib.hid (chg_nxt HC5.out HB8.out)
    have HR38 := Lib.hid (HR35.out.kept HB8.out)
    have HR48 := Lib.hid (HR45.out.kept HB8.out)
    clear HK4 HC4 HR34 HR44 HR33 HR43 HR32
    go_wp2_with (first
      | (refine step_build rfl 37 _ rfl [] ?hv _ built_ref0 ?_; case hv => (simp [Act.eval, Act.put]))
      | (refine step_store rfl 37 (.tmp 4) (.tmp 31) rfl g4 rfl _ _ (rfc 0 0) rfl HR48.out rfl (i2.out _ _) (rfc_one _ _) ?_; intro w9 hr9 hg9 hs9
         have HR9 := Lib.hid hr9
         have HG9 := Lib.hid hg9
         clear hr9 hg9 hs9))
    refine bodyPost_ret (results_row_tmp rfl _ _ g4 _ _ _ _ rfl HR9.out Tryz.underlying37 rfl (by simpa using i2.out 0 0)) rfl ?_
    exact ⟨rfl, Lib.hid (HK8.out.other HR48.out (by decide) (by have := HLO.out; have := HG4.out; omega) (Chg.one HG9.out)), Lib.hid (chg_own HC8.out HG4.out.1 (Chg.one HG9.out))⟩
  · skip
    refine st_alloc (by rfl) 59 rfl _ hz.out ?_
    intro g6 w6 hr6 hg6 hb
    have HBw6 := Lib.hid (p := Below w5.drew.heap.size w5.drew w6) (below_nxt hb (Below.refl w5.drew.heap.size w5.drew))
    have HDw6 := Lib.hid (HD.out.kept HBw6.out)
    have HR6w6 := Lib.hid hr6
    have HG6 := Lib.hid (p := w5.drew.heap.size ≤ g6) (by rw [hg6.out]; exact (Below.refl w5.drew.heap.size w5.drew).size)
    clear hr6 hg6 hb
    refine hK.out _ _ HDw6.out (fun _hH => ?_)
    clear hK K
    refine wpAnyH_ready (rs := [9]) (by kernel_rfl) (by simp) ?_
    refine AllReadyH.cons (o := ⟨some 25, .call ⟨.value (.func 38), #[.tmp 20, .tmp 24], _⟩, _, _, _, _⟩) rfl (fun K hK => ?_) AllReadyH.nil
    go_simp
    go_at_call 38
    refine (HA.out _).mono ?_
    rintro e w7 ⟨rfl, hb⟩
    have HBw7 := Lib.hid (p := Below w5.drew.heap.size w5.drew w7) (below_nxt hb HBw6.out)
    have HDw7 := Lib.hid (HD.out.kept HBw7.out)
    have HR6w7 := Lib.hid (HR6w6.out.kept hb)
    clear hb
    refine hK.out _ _ HDw7.out (fun _hH => ?_)
    clear hK K
    refine wpAnyH_take (i := 10) (oi := ⟨some 15, .move (.tmp 25), _, _, _, _⟩) (v := .tuple #[.agg X'.S.cs.toArray, .int .i64 0, .int .i64 (er : Int)]) rfl (by kernel_rfl) (by kernel_rfl) (by kernel_rfl) (fun _ _ _ h => h) (.inl ⟨by rfl, fun w hSw => by go_simp⟩) (by assumption) ?_
    simp only [Act.put, List.setIfInBounds_toArray, List.set_cons_zero, List.set_cons_succ]
    refine wpAnyH_take (i := 11) (oi := ⟨some 26, .extract (.tmp 15) 0, _, _, _, _⟩) (v := .agg X'.S.cs.toArray) rfl (by kernel_rfl) (by kernel_rfl) (by kernel_rfl) (fun _ _ _ h => h) (.inl ⟨by rfl, fun w hSw => by go_simp⟩) (by assumption) ?_
    simp only [Act.put, List.setIfInBounds_toArray, List.set_cons_zero, List.set_cons_succ]
    refine wpAnyH_take (i := 12) (oi := ⟨some 27, .extract (.tmp 15) 1, _, _, _, _⟩) (v := .int .i64 0) rfl (by kernel_rfl) (by kernel_rfl) (by kernel_rfl) (fun _ _ _ h => h) (.inl ⟨by rfl, fun w hSw => by go_simp⟩) (by assumption) ?_
    simp only [Act.put, List.setIfInBounds_toArray, List.set_cons_zero, List.set_cons_succ]
    refine wpAnyH_take (i := 13) (oi := ⟨some 28, .extract (.tmp 15) 2, _, _, _, _⟩) (v := .int .i64 (er : Int)) rfl (by kernel_rfl) (by kernel_rfl) (by kernel_rfl) (fun _ _ _ h => h) (.inl ⟨by rfl, fun w hSw => by go_simp⟩) (by assumption) ?_
    simp only [Act.put, List.setIfInBounds_toArray, List.set_cons_zero, List.set_cons_succ]
    refine wpAnyH_ready (rs := [15]) (by kernel_rfl) (by simp) ?_
    refine AllReadyH.cons (o := ⟨none, .store 59 (.tmp 6) (.tmp 26), _, _, _, _⟩) rfl (fun K hK => ?_) AllReadyH.nil
    refine st_store (by rfl) 59 (.tmp 6) (.tmp 26) rfl g6 (by rfl) 59 _ X'.S.cs (by rfl) HR6w7.out (by simp [Sup.cs_len]) (i1.out _) (Sup.cs_one _) ?_
    intro w8 hr6 hg6
    have HR6 := Lib.hid hr6
    have HB8 := Lib.hid (p := Below w5.drew.heap.size w5.drew w8) (below_own HBw7.out hg6 HG6.out)
    have HD8 := Lib.hid (HD.out.kept HB8.out)
    clear hr6 hg6
    refine hK.out _ _ HD8.out (fun _hH => ?_)
    clear hK K
    refine wpAnyH_take (i := 16) (oi := ⟨some 7, .assign (.tmp 27), _, _, _, _⟩) (v := .int .i64 0) rfl (by kernel_rfl) (by kernel_rfl) (by kernel_rfl) (fun _ _ _ h => h) (.inl ⟨by rfl, fun w hSw => by go_simp⟩) (by assumption) ?_
    simp only [Act.put, List.setIfInBounds_toArray, List.set_cons_zero, List.set_cons_succ]
    refine wpAnyH_take (i := 17) (oi := ⟨some 8, .assign (.tmp 28), _, _, _, _⟩) (v := .int .i64 (er : Int)) rfl (by kernel_rfl) (by kernel_rfl) (by kernel_rfl) (fun _ _ _ h => h) (.inl ⟨by rfl, fun w hSw => by go_simp⟩) (by assumption) ?_
    simp only [Act.put, List.setIfInBounds_toArray, List.set_cons_zero, List.set_cons_succ]
    refine wpAnyH_done (by kernel_rfl) ?_ _
    have HK8 := Lib.hid (HK5.out.below HB8.out)
    have HC8 := Lib.hid (chg_nxt HC5.out HB8.out)
    have HR38 := Lib.hid (HR35.out.kept HB8.out)
    have HR48 := Lib.hid (HR45.out.kept HB8.out)
    clear HK4 HC4 HR34 HR44 HR33 HR43 HR32
    go_wp2_with (first
      | (refine step_build rfl 37 _ rfl [] ?hv _ built_ref0 ?_; case hv => (simp [Act.eval, Act.put]))
      | (refine step_store rfl 37 (.tmp 4) (.tmp 31) rfl g4 rfl _ _ (rfc 0 0) rfl HR48.out rfl (i2.out _ _) (rfc_one _ _) ?_; intro w9 hr9 hg9 hs9
         have HR9 := Lib.hid hr9
         have HG9 := Lib.hid hg9
         clear hr9 hg9 hs9))
    refine bodyPost_ret (results_row_tmp rfl _ _ g4 _ _ _ _ rfl HR9.out Tryz.underlying37 rfl (by simpa using i2.out 0 0)) rfl ?_
    exact ⟨rfl, Lib.hid (HK8.out.other HR48.out (by decide) (by have := HLO.out; have := HG4.out; omega) (Chg.one HG9.out)), Lib.hid (chg_own HC8.out HG4.out.1 (Chg.one HG9.out))⟩
set_option maxHeartbeats 4000000 in
theorem dmake_ok (v : Nat → Int) (h : DK b w gd gv gm gs r Bs N n X) (hL : LdR Bs X X') (hn : n ≤ 1000) (S1 : Sup) (k s s0 : Nat) (hk : k < 65) (hs : s < 256) (hS1 : S1.s = s0 ∧ S1.i k = (s : Int)) (hs0 : s0 + 1 < 18446744073709551616)
    (hA : ∀ W, Calls Tryz.prog 38 #[.agg X'.S.cs.toArray, .int .i64 (N : Int)] W fun e w' => e = .returned (.tuple #[.agg S1.cs.toArray, .int .i64 (k : Int), .int .i64 0]) ∧ Below W.heap.size W w') (v2 : Nat → Int) (hv2 : at1 v 6 (s0 : Int) = v2) (hm : mayB v2 = true) (hw : Wf v2) : Calls Tryz.prog 14 #[.pointer (some ⟨gd, 0, none⟩), .agg (ncs v).toArray] w (fun e w' => e = .returned (.tuple #[.agg (rfc k s0).toArray, .int .i64 0]) ∧ Hid (DK b w' gd gv gm gs r Bs N (n + 1) ((X'.setS (S1.setS (s0 + 1))).put s (blk sz v2 27))) ∧ Hid (Chg [gd, gm] w w')) := by
  have HBG := Lib.hid (hbegin h hn)
  have HLT := Lib.hid h.lt
  have HLO := Lib.hid h.lo
  have HL := Lib.hid hL
  have HN := Lib.hid hn
  have HA := Lib.hid hA
  have i1 := Lib.hid (fun x : Sup => info_cs x)
  have i2 := Lib.hid (fun k s => info_ref k s)
  have i3 := Lib.hid (fun v => info_ncs v)
  have hz := Lib.hid zero_sup
  have hzr := Lib.hid zero_ref
  have HS := Lib.hid (p := S1.s = s0 ∧ S1.i k = (s : Int) ∧ k < 65 ∧ s < 256) ⟨hS1.1, hS1.2, hk, hs⟩
  have hwr : IntKind.u64.wrap ((s0 : Int) + 1) = (s0 : Int) + 1 := by rw [wrap_64]; omega
  have hk65 : (k : Int) < 65 := by omega
  have HPK := Lib.hid (pack_ok v2 hm hw)
  have HV2 := Lib.hid hv2
  clear h hL hn hA hS1 hk hs hs0 hm hw hv2
  go_enter Tryz.func14, Tryz.ntmps14
  go_wp2_with (first
    | (refine step_box rfl 3 rfl 44 (.tmp 1) rfl (ncs v) rfl ?_; intro g3 w2 hr2 hg2 hb2 hs2
       have HR32 := Lib.hid hr2
       have HB2 := Lib.hid hb2
       have HG3 := Lib.hid (p := w.heap.size ≤ g3) (Nat.le_of_eq hg2.out.symm)
       clear hr2 hg2 hb2 hs2)
    | (refine step_alloc rfl 4 rfl 37 rfl _ hzr.out ?_; intro g4 w3 hr3 hg3 hb3 hs3
       have HR43 := Lib.hid hr3
       have HR33 := Lib.hid (HR32.out.kept hb3)
       have HB3 := Lib.hid (below_nxt hb3 HB2.out)
       have HG4 := Lib.hid (p := w.heap.size ≤ g4 ∧ g3 < g4) (by rw [hg3.out]; exact ⟨HB2.out.size, HR32.out.lt⟩)
       clear hr3 hg3 hb3 hs3)
    | (go_at_call 36; refine (HBG.out _ HB3.out).mono ?_; rintro e w4 ⟨rfl, hk, hc⟩
       have HK4 := hk
       have HC4 := Lib.hid (p := Chg [gd] w w4) ((Chg.of (F := [gd]) HB3.out).trans hc.out (fun x hx => .inl hx))
       have HR34 := Lib.hid (hc.out.row HR33.out (by have h1 := HLT.out; have h2 := HG3.out; simp; omega))
       have HR44 := Lib.hid (hc.out.row HR43.out (by have h1 := HLT.out; have h2 := HG4.out; simp; omega))
       clear hk hc)
    | (go_at_call 37; refine (dload HK4.out HL.out).mono ?_; rintro e w5 ⟨rfl, hk, hc⟩
       have HK5 := Lib.hid (hk.out.below (below_drw _))
       have HC5 := Lib.hid (p := Chg [gd] w w5.drew) (chg_nxt (chg_same HC4.out hc.out) (below_drw _))
       have HR35 := Lib.hid (p := Row w5.drew g3 44 (ncs v)) ((hc.out.row HR34.out (by have h1 := HLT.out; have h2 := HG3.out; simp; omega)).drew)
       have HR45 := Lib.hid (p := Row w5.drew g4 37 (rfc 0 0)) ((hc.out.row HR44.out (by have h1 := HLT.out; have h2 := HG4.out; simp; omega)).drew)
       obtain ⟨tl, ah, la, e1, e2, e3, hd⟩ := HK5.out.parts
       have HD := Lib.hid hd
       obtain ⟨DC, hDC⟩ : ∃ DC, ((dhd gv N ++ [Value.bool X'.rd]) ++ (X'.S.cs ++ (X'.S0.cs ++ tl))) = DC := ⟨_, rfl⟩
       have HRNG := Lib.hid (p := ∀ W, Row W gd 88 DC → W.rangeAt gd 3 X'.S.cs ∧ W.cell? ⟨gd, 1, none⟩ = some (.int .i64 (N : Int))) (fun W h => by subst hDC; exact ⟨h.rng rfl, (h.cell 1).trans rfl⟩)
       rw [hDC] at HD
       clear hk hc e1 e2 e3 hd hDC))
  refine wp_region_held_drew (S := fun W => Row W gd 88 DC) (by kernel_rfl) HD.out (fun hHeld => ?_)
  refine wpAnyH_take (i := 0) (oi := ⟨some 16, .move (.tmp 0), _, _, _, _⟩) (v := .pointer (some ⟨gd, 0, none⟩)) rfl (by kernel_rfl) (by kernel_rfl) (by kernel_rfl) (fun _ _ _ h => h) (.inl ⟨by rfl, fun w hSw => by go_simp⟩) (by assumption) ?_
  simp only [Act.put, List.setIfInBounds_toArray, List.set_cons_zero, List.set_cons_succ]
  refine wpAnyH_take (i := 1) (oi := ⟨some 17, .nilCheck (.tmp 16), _, _, _, _⟩) (v := .pointer (some ⟨gd, 0, none⟩)) rfl (by kernel_rfl) (by kernel_rfl) (by kernel_rfl) (fun _ _ _ h => h) (.inl ⟨by rfl, fun w hSw => by go_simp⟩) (by assumption) ?_
  simp only [Act.put, List.setIfInBounds_toArray, List.set_cons_zero, List.set_cons_succ]
  refine wpAnyH_take (i := 2) (oi := ⟨some 18, .fieldAddr 88 (.tmp 17) 2, _, _, _, _⟩) (v := .pointer (some ⟨gd, 2, none⟩)) rfl (by kernel_rfl) (by kernel_rfl) (by kernel_rfl) (fun _ _ _ h => h) (.inl ⟨by rfl, fun w hSw => by go_simp⟩) (by assumption) ?_
  simp only [Act.put, List.setIfInBounds_toArray, List.set_cons_zero, List.set_cons_succ]
  refine wpAnyH_take (i := 3) (oi := ⟨some 19, .fieldAddr 86 (.tmp 18) 1, _, _, _, _⟩) (v := .pointer (some ⟨gd, 3, none⟩)) rfl (by kernel_rfl) (by kernel_rfl) (by kernel_rfl) (fun _ _ _ h => h) (.inl ⟨by rfl, fun w hSw => by go_simp⟩) (by assumption) ?_
  simp only [Act.put, List.setIfInBounds_toArray, List.set_cons_zero, List.set_cons_succ]
  refine wpAnyH_take (i := 4) (oi := ⟨some 20, .load 59 (.tmp 19), _, _, _, _⟩) (v := .agg X'.S.cs.toArray) rfl (by kernel_rfl) (by kernel_rfl) (by kernel_rfl) (fun _ _ _ h => h) (yieldsIf_load_mid (by rfl) 59 (.tmp 19) rfl gd 3 rfl X'.S.cs _ (fun w hSw => (HRNG.out _ hSw).1) Tryz.underlying59 rfl (i1.out _)) (by assumption) ?_
  simp only [Act.put, List.setIfInBounds_toArray, List.set_cons_zero, List.set_cons_succ]
  refine wpAnyH_take (i := 5) (oi := ⟨some 21, .move (.tmp 0), _, _, _, _⟩) (v := .pointer (some ⟨gd, 0, none⟩)) rfl (by kernel_rfl) (by kernel_rfl) (by kernel_rfl) (fun _ _ _ h => h) (.inl ⟨by rfl, fun w hSw => by go_simp⟩) (by assumption) ?_
  simp only [Act.put, List.setIfInBounds_toArray, List.set_cons_zero, List.set_cons_succ]
  refine wpAnyH_take (i := 6) (oi := ⟨some 22, .nilCheck (.tmp 21), _, _, _, _⟩) (v := .pointer (some ⟨gd, 0, none⟩)) rfl (by kernel_rfl) (by kernel_rfl) (by kernel_rfl) (fun _ _ _ h => h) (.inl ⟨by rfl, fun w hSw => by go_simp⟩) (by assumption) ?_
  simp only [Act.put, List.setIfInBounds_toArray, List.set_cons_zero, List.set_cons_succ]
  refine wpAnyH_take (i := 7) (oi := ⟨some 23, .fieldAddr 88 (.tmp 22) 1, _, _, _, _⟩) (v := .pointer (some ⟨gd, 1, none⟩)) rfl (by kernel_rfl) (by kernel_rfl) (by kernel_rfl) (fun _ _ _ h => h) (.inl ⟨by rfl, fun w hSw => by go_simp⟩) (by assumption) ?_
  simp only [Act.put, List.setIfInBounds_toArray, List.set_cons_zero, List.set_cons_succ]
  refine wpAnyH_take (i := 8) (oi := ⟨some 24, .load 3 (.tmp 23), _, _, _, _⟩) (v := .int .i64 (N : Int)) rfl (by kernel_rfl) (by kernel_rfl) (by kernel_rfl) (fun _ _ _ h => h) (.inl ⟨by rfl, fun w hSw => by have z := (HRNG.out _ hSw).2; go_simp⟩) (by assumption) ?_
  simp only [Act.put, List.setIfInBounds_toArray, List.set_cons_zero, List.set_cons_succ]
  refine wpAnyH_ready (rs := [9, 14]) (by kernel_rfl) (by simp) ?_
  refine AllReadyH.cons (o := ⟨some 25, .call ⟨.value (.func 38), #[.tmp 20, .tmp 24], _⟩, _, _, _, _⟩) rfl (fun K hK => ?_) (AllReadyH.cons (o := ⟨some 6, .alloc 59, _, _, _, _⟩) rfl (fun K hK => ?_) AllReadyH.nil)
  · skip
    go_simp
    go_at_call 38
    refine (HA.out _).mono ?_
    rintro e w6 ⟨rfl, hb⟩
    have HBw6 := Lib.hid (p := Below w5.drew.heap.size w5.drew w6) (below_nxt hb (Below.refl w5.drew.heap.size w5.drew))
    have HDw6 := Lib.hid (HD.out.kept HBw6.out)
    clear hb
    refine hK.out _ _ HDw6.out (fun _hH => ?_)
    clear hK K
    refine wpAnyH_take (i := 10) (oi := ⟨some 15, .move (.tmp 25), _, _, _, _⟩) (v := .tuple #[.agg S1.cs.toArray, .int .i64 (k : Int), .int .i64 0]) rfl (by kernel_rfl) (by kernel_rfl) (by kernel_rfl) (fun _ _ _ h => h) (.inl ⟨by rfl, fun w hSw => by go_simp⟩) (by assumption) ?_
    simp only [Act.put, List.setIfInBounds_toArray, List.set_cons_zero, List.set_cons_succ]
    refine wpAnyH_take (i := 11) (oi := ⟨some 26, .extract (.tmp 15) 0, _, _, _, _⟩) (v := .agg S1.cs.toArray) rfl (by kernel_rfl) (by kernel_rfl) (by kernel_rfl) (fun _ _ _ h => h) (.inl ⟨by rfl, fun w hSw => by go_simp⟩) (by assumption) ?_
    simp only [Act.put, List.setIfInBounds_toArray, List.set_cons_zero, List.set_cons_succ]
    refine wpAnyH_take (i := 12) (oi := ⟨some 27, .extract (.tmp 15) 1, _, _, _, _⟩) (v := .int .i64 (k : Int)) rfl (by kernel_rfl) (by kernel_rfl) (by kernel_rfl) (fun _ _ _ h => h) (.inl ⟨by rfl, fun w hSw => by go_simp⟩) (by assumption) ?_
    simp only [Act.put, List.setIfInBounds_toArray, List.set_cons_zero, List.set_cons_succ]
    refine wpAnyH_take (i := 13) (oi := ⟨some 28, .extract (.tmp 15) 2, _, _, _, _⟩) (v := .int .i64 0) rfl (by kernel_rfl) (by kernel_rfl) (by kernel_rfl) (fun _ _ _ h => h) (.inl ⟨by rfl, fun w hSw => by go_simp⟩) (by assumption) ?_
    simp only [Act.put, List.setIfInBounds_toArray, List.set_cons_zero, List.set_cons_succ]
    refine wpAnyH_ready (rs := [14]) (by kernel_rfl) (by simp) ?_
    refine AllReadyH.cons (o := ⟨some 6, .alloc 59, _, _, _, _⟩) rfl (fun K hK => ?_) AllReadyH.nil
    refine st_alloc (by rfl) 59 rfl _ hz.out ?_
    intro g6 w7 hr6 hg6 hb
    have HBw7 := Lib.hid (p := Below w5.drew.heap.size w5.drew w7) (below_nxt hb HBw6.out)
    have HDw7 := Lib.hid (HD.out.kept HBw7.out)
    have HR6w7 := Lib.hid hr6
    have HG6 := Lib.hid (p := w5.drew.heap.size ≤ g6) (by rw [hg6.out]; exact HBw6.out.size)
    clear hr6 hg6 hb
    refine hK.out _ _ HDw7.out (fun _hH => ?_)
    clear hK K
    refine wpAnyH_ready (rs := [15]) (by kernel_rfl) (by simp) ?_
    refine AllReadyH.cons (o := ⟨none, .store 59 (.tmp 6) (.tmp 26), _, _, _, _⟩) rfl (fun K hK => ?_) AllReadyH.nil
    refine st_store (by rfl) 59 (.tmp 6) (.tmp 26) rfl g6 (by rfl) 59 _ S1.cs (by rfl) HR6w7.out (by simp [Sup.cs_len]) (i1.out _) (Sup.cs_one _) ?_
    intro w8 hr6 hg6
    have HR6 := Lib.hid hr6
    have HB8 := Lib.hid (p := Below w5.drew.heap.size w5.drew w8) (below_own HBw7.out hg6 HG6.out)
    have HD8 := Lib.hid (HD.out.kept HB8.out)
    clear hr6 hg6
    refine hK.out _ _ HD8.out (fun _hH => ?_)
    clear hK K
    refine wpAnyH_take (i := 16) (oi := ⟨some 7, .assign (.tmp 27), _, _, _, _⟩) (v := .int .i64 (k : Int)) rfl (by kernel_rfl) (by kernel_rfl) (by kernel_rfl) (fun _ _ _ h => h) (.inl ⟨by rfl, fun w hSw => by go_simp⟩) (by assumption) ?_
    simp only [Act.put, List.setIfInBounds_toArray, List.set_cons_zero, List.set_cons_succ]
    refine wpAnyH_take (i := 17) (oi := ⟨some 8, .assign (.tmp 28), _, _, _, _⟩) (v := .int .i64 0) rfl (by kernel_rfl) (by kernel_rfl) (by kernel_rfl) (fun _ _ _ h => h) (.inl ⟨by rfl, fun w hSw => by go_simp⟩) (by assumption) ?_
    simp only [Act.put, List.setIfInBounds_toArray, List.set_cons_zero, List.set_cons_succ]
    refine wpAnyH_done (by kernel_rfl) ?_ _
    have HK8 := Lib.hid (HK5.out.below HB8.out)
    have HC8 := Lib.hid (chg_nxt HC5.out HB8.out)
    have HR38 := Lib.hid (HR35.out.kept HB8.out)
    have HR48 := Lib.hid (HR45.out.kept HB8.out)
    have HGG := Lib.hid (p := w.heap.size ≤ g6 ∧ g3 < g6 ∧ g4 < g6) ⟨Nat.le_trans HC5.out.size HG6.out, Nat.lt_of_lt_of_le HR35.out.lt HG6.out, Nat.lt_of_lt_of_le HR45.out.lt HG6.out⟩
    have c60 : w8.cell? ⟨g6, 0, none⟩ = some (.int .u64 (s0 : Int)) := by rw [HR6.out.cell, Sup.c_s, HS.out.1]
    have f60 := HR6.out.free 0
    obtain ⟨v6, hv6⟩ : ∃ v6, v 6 = v6 := ⟨_, rfl⟩
    have c36 : w8.cell? ⟨g3, 6, none⟩ = some (.int .u64 v6) := by rw [← hv6]; exact (HR38.out.cell 6).trans rfl
    have f36 := HR38.out.free 6
    have n36 : ¬ g3 = g6 := by have := HGG.out; omega
    have n63 : ¬ g6 = g3 := by have := HGG.out; omega
    obtain ⟨wX, hwX⟩ : ∃ wX, (w8.setCell ⟨g3, 6, none⟩ (.int .u64 (s0 : Int))).setCell ⟨g6, 0, none⟩ (.int .u64 ((s0 : Int) + 1)) = wX := ⟨_, rfl⟩
    have HR3X := Lib.hid (p := Row wX g3 44 (ncs v2)) (by
      rw [← hwX, ← HV2.out]
      have h1 := (HR38.out.put 6 (.int .u64 (s0 : Int))).far (p := ⟨g6, 0, none⟩) n36 (.int .u64 ((s0 : Int) + 1))
      have h2 := ncs_set v (k := 6) (by decide) (s0 : Int)
      rw [show kd 6 = .u64 from rfl] at h2
      rwa [h2] at h1)
    have HR6X := Lib.hid (p := Row wX g6 59 (S1.setS (s0 + 1)).cs) (by
      rw [← hwX]
      have h1 := (HR6.out.far (p := ⟨g3, 6, none⟩) n63 (.int .u64 (s0 : Int))).put 0 (.int .u64 (((s0 + 1 : Nat)) : Int))
      rw [Sup.set_s] at h1
      exact h1)
    have HCX := Lib.hid (p := Chg [g3, g6] w8 wX) (by
      rw [← hwX]
      exact ((Chg.refl [g3, g6] w8).setCell (p := ⟨g3, 6, none⟩) (.inl (by simp)) _).setCell (p := ⟨g6, 0, none⟩) (.inl (by simp)) _)
    have HKX := Lib.hid (p := DK b wX gd gv gm gs r Bs N n X') (by
      have h1 := HK8.out.other (w' := w8.setCell ⟨g3, 6, none⟩ (.int .u64 (s0 : Int))) HR38.out (by decide) (by have := HLO.out; have := HG3.out; omega) ((Chg.refl [g3] w8).setCell (p := ⟨g3, 6, none⟩) (.inl (by simp)) _)
      have h2 := h1.other (w' := wX) (HR6.out.far (p := ⟨g3, 6, none⟩) n63 (.int .u64 (s0 : Int))) (by decide) (by have := HLO.out; have := HGG.out; omega) (by rw [← hwX]; exact (Chg.refl [g6] _).setCell (p := ⟨g6, 0, none⟩) (.inl (by simp)) _)
      exact h2)
    have HCW := Lib.hid (p := Chg [gd] w wX) (HC8.out.trans HCX.out (fun x hx => by
      simp at hx
      rcases hx with rfl | rfl
      · exact .inr HG3.out
      · exact .inr HGG.out.1))
    have HR4X := Lib.hid (HCX.out.row HR48.out (by have := HGG.out; have := HG4.out; simp; omega))
    have HWX := Lib.hid hwX
    clear hv6 hwX HCX HK4 HC4 HR34 HR44 HR33 HR43 HR32
    go_wp2_with (first
      | (rw [HWX.out]
         refine step_load rfl 41 rfl 59 (.tmp 6) rfl g6 rfl (S1.setS (s0 + 1)).cs _ HR6X.out.all Tryz.underlying59 rfl (i1.out _) ?_
         clear c60 f60 c36 f36 n36 n63
         obtain ⟨tl9, ah9, la9, e1, e2, e3, hd⟩ := HKX.out.parts
         have HDX := Lib.hid hd
         have HEX := Lib.hid (p := ah9.length = 775 ∧ (∀ v ∈ ah9, v.oneCell' = true) ∧ tl9 = ah9 ++ dtl false la9) ⟨e1, e2, e3⟩
         clear e1 e2 e3 hd)
      | (refine step_store_at rfl 59 (.tmp 44) (.tmp 41) rfl gd 3 (by rfl) 88 (dhd gv N ++ [Value.bool X'.rd]) X'.S.cs (S1.setS (s0 + 1)).cs (X'.S0.cs ++ tl9) (by rfl) HDX.out rfl (by simp [Sup.cs_len]) (i1.out _) (Sup.cs_one _) ?_
         intro w9 hr9 hg9
         have HK9 := Lib.hid (HKX.out.setS HEX.out.1 HEX.out.2.1 HEX.out.2.2 hr9 (Chg.one hg9))
         have HC9 := Lib.hid (chg_same HCW.out (Chg.one hg9))
         have HR39 := Lib.hid (HR3X.out.grown hg9 (fun e => by have h1 := HG3.out; have h2 := HLT.out; injection e; omega))
         have HR49 := Lib.hid (HR4X.out.grown hg9 (fun e => by have h1 := HG4.out; have h2 := HLT.out; injection e; omega))
         have HR69 := Lib.hid (HR6X.out.grown hg9 (fun e => by have h1 := HGG.out; have h2 := HLT.out; injection e; omega))
         clear hr9 hg9)
      | (refine step_load rfl 46 rfl 44 (.tmp 3) rfl g3 rfl (ncs v2) _ HR39.out.all Tryz.underlying44 rfl (i3.out _) ?_)
      | (go_at_call 39; refine (HPK.out _).mono ?_; rintro e w10 ⟨A, c, rfl, ho, hb⟩
         have HO := ho
         have HK10 := Lib.hid (HK9.out.below hb.out)
         have HC10 := Lib.hid (chg_nxt HC9.out hb.out)
         have HR310 := Lib.hid (HR39.out.kept hb.out)
         have HR410 := Lib.hid (HR49.out.kept hb.out)
         have HBL := Lib.hid (p := (blk sz v2 27).length = 256) (blk_len sz v2 27 (by decide))
         have ck : w10.cell? ⟨g6, 257 + k, none⟩ = some (.int .i64 (s : Int)) := by
           rw [(HR69.out.kept hb.out).cell, ← HS.out.2.1]
           exact Sup.c_i (S1.setS (s0 + 1)) HS.out.2.2.1
         clear ho hb)
      | (go_at_call 40
         have hput := dput HK10.out ⟨A, c, blk sz v2 27⟩ (Hol.own HO.out) (by rw [HBL.out]; decide) (s : Int) (by have := HS.out; unfold I64; omega) HN.out
         simp only at hput
         rw [HBL.out] at hput
         refine hput.mono ?_; rintro e w11 ⟨rfl, hk, hc⟩
         have HK11 := hk
         have HC11 := Lib.hid (p := Chg [gd, gm] w w11) (((HC10.out.wider (fun x hx => .inl (by simp at hx ⊢; exact .inl hx))).trans hc.out (fun x hx => .inl hx)))
         have hne := HK10.out.view
         have HR411 := Lib.hid (hc.out.row HR410.out (by
           obtain ⟨C, hv, _⟩ := hne
           have h1 : g4 ≠ gm := fun e => hv.map.no_cells _ _ _ (e ▸ HR410.out.heap)
           have h2 := HG4.out
           have h3 := HLT.out
           simp
           exact ⟨by omega, h1⟩))
         have HR311 := Lib.hid (hc.out.row HR310.out (by
           obtain ⟨C, hv, _⟩ := hne
           have h1 : g3 ≠ gm := fun e => hv.map.no_cells _ _ _ (e ▸ HR310.out.heap)
           have h2 := HG3.out
           have h3 := HLT.out
           simp
           exact ⟨by omega, h1⟩))
         have c36b : w11.cell? ⟨g3, 6, none⟩ = some (.int .u64 (s0 : Int)) := by
           have h1 : v2 6 = (s0 : Int) := by rw [← HV2.out, at1_same]
           rw [← h1]
           exact (HR311.out.cell 6).trans rfl
         clear hk hc hne ck hput)
      | (refine step_build rfl 37 _ rfl [(0, .int .i64 (k : Int)), (1, .int .u64 (s0 : Int))] ?hv _ (built_ref k s0) ?_; case hv => (simp [Act.eval, Act.put]))
      | (refine step_store rfl 37 (.tmp 4) (.tmp 60) rfl g4 rfl _ _ (rfc k s0) rfl HR411.out rfl (i2.out _ _) (rfc_one _ _) ?_; intro w12 hr9 hg9 hs9
         have HR9 := Lib.hid hr9
         have HG9 := Lib.hid hg9
         clear hr9 hg9 hs9))
    refine bodyPost_ret (results_row_tmp rfl _ _ g4 _ _ _ _ rfl HR9.out Tryz.underlying37 rfl (by simpa using i2.out k s0)) rfl ?_
    exact ⟨rfl, Lib.hid (HK11.out.other HR411.out (by decide) (by have := HLO.out; have := HG4.out; omega) (Chg.one HG9.out)), Lib.hid (chg_own HC11.out HG4.out.1 (Chg.one HG9.out))⟩
  · skip
    refine st_alloc (by rfl) 59 rfl _ hz.out ?_
    intro g6 w6 hr6 hg6 hb
    have HBw6 := Lib.hid (p := Below w5.drew.heap.size w5.drew w6) (below_nxt hb (Below.refl w5.drew.heap.size w5.drew))
    have HDw6 := Lib.hid (HD.out.kept HBw6.out)
    have HR6w6 := Lib.hid hr6
    have HG6 := Lib.hid (p := w5.drew.heap.size ≤ g6) (by rw [hg6.out]; exact (Below.refl w5.drew.heap.size w5.drew).size)
    clear hr6 hg6 hb
    refine hK.out _ _ HDw6.out (fun _hH => ?_)
    clear hK K
    refine wpAnyH_ready (rs := [9]) (by kernel_rfl) (by simp) ?_
    refine AllReadyH.cons (o := ⟨some 25, .call ⟨.value (.func 38), #[.tmp 20, .tmp 24], _⟩, _, _, _, _⟩) rfl (fun K hK => ?_) AllReadyH.nil
    go_simp
    go_at_call 38
    refine (HA.out _).mono ?_
    rintro e w7 ⟨rfl, hb⟩
    have HBw7 := Lib.hid (p := Below w5.drew.heap.size w5.drew w7) (below_nxt hb HBw6.out)
    have HDw7 := Lib.hid (HD.out.kept HBw7.out)
    have HR6w7 := Lib.hid (HR6w6.out.kept hb)
    clear hb
    refine hK.out _ _ HDw7.out (fun _hH => ?_)
    clear hK K
    refine wpAnyH_take (i := 10) (oi := ⟨some 15, .move (.tmp 25), _, _, _, _⟩) (v := .tuple #[.agg S1.cs.toArray, .int .i64 (k : Int), .int .i64 0]) rfl (by kernel_rfl) (by kernel_rfl) (by kernel_rfl) (fun _ _ _ h => h) (.inl ⟨by rfl, fun w hSw => by go_simp⟩) (by assumption) ?_
    simp only [Act.put, List.setIfInBounds_toArray, List.set_cons_zero, List.set_cons_succ]
    refine wpAnyH_take (i := 11) (oi := ⟨some 26, .extract (.tmp 15) 0, _, _, _, _⟩) (v := .agg S1.cs.toArray) rfl (by kernel_rfl) (by kernel_rfl) (by kernel_rfl) (fun _ _ _ h => h) (.inl ⟨by rfl, fun w hSw => by go_simp⟩) (by assumption) ?_
    simp only [Act.put, List.setIfInBounds_toArray, List.set_cons_zero, List.set_cons_succ]
    refine wpAnyH_take (i := 12) (oi := ⟨some 27, .extract (.tmp 15) 1, _, _, _, _⟩) (v := .int .i64 (k : Int)) rfl (by kernel_rfl) (by kernel_rfl) (by kernel_rfl) (fun _ _ _ h => h) (.inl ⟨by rfl, fun w hSw => by go_simp⟩) (by assumption) ?_
    simp only [Act.put, List.setIfInBounds_toArray, List.set_cons_zero, List.set_cons_succ]
    refine wpAnyH_take (i := 13) (oi := ⟨some 28, .extract (.tmp 15) 2, _, _, _, _⟩) (v := .int .i64 0) rfl (by kernel_rfl) (by kernel_rfl) (by kernel_rfl) (fun _ _ _ h => h) (.inl ⟨by rfl, fun w hSw => by go_simp⟩) (by assumption) ?_
    simp only [Act.put, List.setIfInBounds_toArray, List.set_cons_zero, List.set_cons_succ]
    refine wpAnyH_ready (rs := [15]) (by kernel_rfl) (by simp) ?_
    refine AllReadyH.cons (o := ⟨none, .store 59 (.tmp 6) (.tmp 26), _, _, _, _⟩) rfl (fun K hK => ?_) AllReadyH.nil
    refine st_store (by rfl) 59 (.tmp 6) (.tmp 26) rfl g6 (by rfl) 59 _ S1.cs (by rfl) HR6w7.out (by simp [Sup.cs_len]) (i1.out _) (Sup.cs_one _) ?_
    intro w8 hr6 hg6
    have HR6 := Lib.hid hr6
    have HB8 := Lib.hid (p := Below w5.drew.heap.size w5.drew w8) (below_own HBw7.out hg6 HG6.out)
    have HD8 := Lib.hid (HD.out.kept HB8.out)
    clear hr6 hg6
    refine hK.out _ _ HD8.out (fun _hH => ?_)
    clear hK K
    refine wpAnyH_take (i := 16) (oi := ⟨some 7, .assign (.tmp 27), _, _, _, _⟩) (v := .int .i64 (k : Int)) rfl (by kernel_rfl) (by kernel_rfl) (by kernel_rfl) (fun _ _ _ h => h) (.inl ⟨by rfl, fun w hSw => by go_simp⟩) (by assumption) ?_
    simp only [Act.put, List.setIfInBounds_toArray, List.set_cons_zero, List.set_cons_succ]
    refine wpAnyH_take (i := 17) (oi := ⟨some 8, .assign (.tmp 28), _, _, _, _⟩) (v := .int .i64 0) rfl (by kernel_rfl) (by kernel_rfl) (by kernel_rfl) (fun _ _ _ h => h) (.inl ⟨by rfl, fun w hSw => by go_simp⟩) (by assumption) ?_
    simp only [Act.put, List.setIfInBounds_toArray, List.set_cons_zero, List.set_cons_succ]
    refine wpAnyH_done (by kernel_rfl) ?_ _
    have HK8 := Lib.hid (HK5.out.below HB8.out)
    have HC8 := Lib.hid (chg_nxt HC5.out HB8.out)
    have HR38 := Lib.hid (HR35.out.kept HB8.out)
    have HR48 := Lib.hid (HR45.out.kept HB8.out)
    have HGG := Lib.hid (p := w.heap.size ≤ g6 ∧ g3 < g6 ∧ g4 < g6) ⟨Nat.le_trans HC5.out.size HG6.out, Nat.lt_of_lt_of_le HR35.out.lt HG6.out, Nat.lt_of_lt_of_le HR45.out.lt HG6.out⟩
    have c60 : w8.cell? ⟨g6, 0, none⟩ = some (.int .u64 (s0 : Int)) := by rw [HR6.out.cell, Sup.c_s, HS.out.1]
    have f60 := HR6.out.free 0
    obtain ⟨v6, hv6⟩ : ∃ v6, v 6 = v6 := ⟨_, rfl⟩
    have c36 : w8.cell? ⟨g3, 6, none⟩ = some (.int .u64 v6) := by rw [← hv6]; exact (HR38.out.cell 6).trans rfl
    have f36 := HR38.out.free 6
    have n36 : ¬ g3 = g6 := by have := HGG.out; omega
    have n63 : ¬ g6 = g3 := by have := HGG.out; omega
    obtain ⟨wX, hwX⟩ : ∃ wX, (w8.setCell ⟨g3, 6, none⟩ (.int .u64 (s0 : Int))).setCell ⟨g6, 0, none⟩ (.int .u64 ((s0 : Int) + 1)) = wX := ⟨_, rfl⟩
    have HR3X := Lib.hid (p := Row wX g3 44 (ncs v2)) (by
      rw [← hwX, ← HV2.out]
      have h1 := (HR38.out.put 6 (.int .u64 (s0 : Int))).far (p := ⟨g6, 0, none⟩) n36 (.int .u64 ((s0 : Int) + 1))
      have h2 := ncs_set v (k := 6) (by decide) (s0 : Int)
      rw [show kd 6 = .u64 from rfl] at h2
      rwa [h2] at h1)
    have HR6X := Lib.hid (p := Row wX g6 59 (S1.setS (s0 + 1)).cs) (by
      rw [← hwX]
      have h1 := (HR6.out.far (p := ⟨g3, 6, none⟩) n63 (.int .u64 (s0 : Int))).put 0 (.int .u64 (((s0 + 1 : Nat)) : Int))
      rw [Sup.set_s] at h1
      exact h1)
    have HCX := Lib.hid (p := Chg [g3, g6] w8 wX) (by
      rw [← hwX]
      exact ((Chg.refl [g3, g6] w8).setCell (p := ⟨g3, 6, none⟩) (.inl (by simp)) _).setCell (p := ⟨g6, 0, none⟩) (.inl (by simp)) _)
    have HKX := Lib.hid (p := DK b wX gd gv gm gs r Bs N n X') (by
      have h1 := HK8.out.other (w' := w8.setCell ⟨g3, 6, none⟩ (.int .u64 (s0 : Int))) HR38.out (by decide) (by have := HLO.out; have := HG3.out; omega) ((Chg.refl [g3] w8).setCell (p := ⟨g3, 6, none⟩) (.inl (by simp)) _)
      have h2 := h1.other (w' := wX) (HR6.out.far (p := ⟨g3, 6, none⟩) n63 (.int .u64 (s0 : Int))) (by decide) (by have := HLO.out; have := HGG.out; omega) (by rw [← hwX]; exact (Chg.refl [g6] _).setCell (p := ⟨g6, 0, none⟩) (.inl (by simp)) _)
      exact h2)
    have HCW := Lib.hid (p := Chg [gd] w wX) (HC8.out.trans HCX.out (fun x hx => by
      simp at hx
      rcases hx with rfl | rfl
      · exact .inr HG3.out
      · exact .inr HGG.out.1))
    have HR4X := Lib.hid (HCX.out.row HR48.out (by have := HGG.out; have := HG4.out; simp; omega))
    have HWX := Lib.hid hwX
    clear hv6 hwX HCX HK4 HC4 HR34 HR44 HR33 HR43 HR32
    go_wp2_with (first
      | (rw [HWX.out]
         refine step_load rfl 41 rfl 59 (.tmp 6) rfl g6 rfl (S1.setS (s0 + 1)).cs _ HR6X.out.all Tryz.underlying59 rfl (i1.out _) ?_
         clear c60 f60 c36 f36 n36 n63
         obtain ⟨tl9, ah9, la9, e1, e2, e3, hd⟩ := HKX.out.parts
         have HDX := Lib.hid hd
         have HEX := Lib.hid (p := ah9.length = 775 ∧ (∀ v ∈ ah9, v.oneCell' = true) ∧ tl9 = ah9 ++ dtl false la9) ⟨e1, e2, e3⟩
         clear e1 e2 e3 hd)
      | (refine step_store_at rfl 59 (.tmp 44) (.tmp 41) rfl gd 3 (by rfl) 88 (dhd gv N ++ [Value.bool X'.rd]) X'.S.cs (S1.setS (s0 + 1)).cs (X'.S0.cs ++ tl9) (by rfl) HDX.out rfl (by simp [Sup.cs_len]) (i1.out _) (Sup.cs_one _) ?_
         intro w9 hr9 hg9
         have HK9 := Lib.hid (HKX.out.setS HEX.out.1 HEX.out.2.1 HEX.out.2.2 hr9 (Chg.one hg9))
         have HC9 := Lib.hid (chg_same HCW.out (Chg.one hg9))
         have HR39 := Lib.hid (HR3X.out.grown hg9 (fun e => by have h1 := HG3.out; have h2 := HLT.out; injection e; omega))
         have HR49 := Lib.hid (HR4X.out.grown hg9 (fun e => by have h1 := HG4.out; have h2 := HLT.out; injection e; omega))
         have HR69 := Lib.hid (HR6X.out.grown hg9 (fun e => by have h1 := HGG.out; have h2 := HLT.out; injection e; omega))
         clear hr9 hg9)
      | (refine step_load rfl 46 rfl 44 (.tmp 3) rfl g3 rfl (ncs v2) _ HR39.out.all Tryz.underlying44 rfl (i3.out _) ?_)
      | (go_at_call 39; refine (HPK.out _).mono ?_; rintro e w10 ⟨A, c, rfl, ho, hb⟩
         have HO := ho
         have HK10 := Lib.hid (HK9.out.below hb.out)
         have HC10 := Lib.hid (chg_nxt HC9.out hb.out)
         have HR310 := Lib.hid (HR39.out.kept hb.out)
         have HR410 := Lib.hid (HR49.out.kept hb.out)
         have HBL := Lib.hid (p := (blk sz v2 27).length = 256) (blk_len sz v2 27 (by decide))
         have ck : w10.cell? ⟨g6, 257 + k, none⟩ = some (.int .i64 (s : Int)) := by
           rw [(HR69.out.kept hb.out).cell, ← HS.out.2.1]
           exact Sup.c_i (S1.setS (s0 + 1)) HS.out.2.2.1
         clear ho hb)
      | (go_at_call 40
         have hput := dput HK10.out ⟨A, c, blk sz v2 27⟩ (Hol.own HO.out) (by rw [HBL.out]; decide) (s : Int) (by have := HS.out; unfold I64; omega) HN.out
         simp only at hput
         rw [HBL.out] at hput
         refine hput.mono ?_; rintro e w11 ⟨rfl, hk, hc⟩
         have HK11 := hk
         have HC11 := Lib.hid (p := Chg [gd, gm] w w11) (((HC10.out.wider (fun x hx => .inl (by simp at hx ⊢; exact .inl hx))).trans hc.out (fun x hx => .inl hx)))
         have hne := HK10.out.view
         have HR411 := Lib.hid (hc.out.row HR410.out (by
           obtain ⟨C, hv, _⟩ := hne
           have h1 : g4 ≠ gm := fun e => hv.map.no_cells _ _ _ (e ▸ HR410.out.heap)
           have h2 := HG4.out
           have h3 := HLT.out
           simp
           exact ⟨by omega, h1⟩))
         have HR311 := Lib.hid (hc.out.row HR310.out (by
           obtain ⟨C, hv, _⟩ := hne
           have h1 : g3 ≠ gm := fun e => hv.map.no_cells _ _ _ (e ▸ HR310.out.heap)
           have h2 := HG3.out
           have h3 := HLT.out
           simp
           exact ⟨by omega, h1⟩))
         have c36b : w11.cell? ⟨g3, 6, none⟩ = some (.int .u64 (s0 : Int)) := by
           have h1 : v2 6 = (s0 : Int) := by rw [← HV2.out, at1_same]
           rw [← h1]
           exact (HR311.out.cell 6).trans rfl
         clear hk hc hne ck hput)
      | (refine step_build rfl 37 _ rfl [(0, .int .i64 (k : Int)), (1, .int .u64 (s0 : Int))] ?hv _ (built_ref k s0) ?_; case hv => (simp [Act.eval, Act.put]))
      | (refine step_store rfl 37 (.tmp 4) (.tmp 60) rfl g4 rfl _ _ (rfc k s0) rfl HR411.out rfl (i2.out _ _) (rfc_one _ _) ?_; intro w12 hr9 hg9 hs9
         have HR9 := Lib.hid hr9
         have HG9 := Lib.hid hg9
         clear hr9 hg9 hs9))
    refine bodyPost_ret (results_row_tmp rfl _ _ g4 _ _ _ _ rfl HR9.out Tryz.underlying37 rfl (by simpa using i2.out k s0)) rfl ?_
    exact ⟨rfl, Lib.hid (HK11.out.other HR411.out (by decide) (by have := HLO.out; have := HG4.out; omega) (Chg.one HG9.out)), Lib.hid (chg_own HC11.out HG4.out.1 (Chg.one HG9.out))⟩
end
end Go.Proofs.YtfbfeplegdpemaaGreat
