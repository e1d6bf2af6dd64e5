/- symMerge, where one of the two runs has one entry. Conditions: both are in order, neither is empty, the closure's key lies there. -/
import Derived.Test.YtijffkklhgnknaaDoorQj
set_option linter.unusedVariables false
set_option maxRecDepth 20000
namespace Go.Proofs.YtijffkklhgnknaaDoor
open Go.RowKit

/-- What a merge leaves. -/
def Mgd (w : World) (gr : Nat) (P X Y S : List Ent) (Z : List Value) (e : Ending) (w' : World) : Prop := e = .returned (.tuple #[]) ∧ ∃ M, ER w' gr (P ++ (M ++ S)) Z ∧ Ord Ent.ck M ∧ SameK Ent.ck (X ++ Y) M ∧ Chg [gr] w w'
/-- The middle of two places, as the library reckons it. -/
theorem half_ (x y h : Nat) (hh : (x + y) / 2 = h) (hx : x + y ≤ 4000000) : IntKind.i64.wrap ((x : Int) + (y : Int)) = ((x + y : Nat) : Int) ∧ IntKind.u64.wrap ((x + y : Nat) : Int) = ((x + y : Nat) : Int) ∧ ((x + y : Nat) : Int) / 2 = (h : Int) ∧ IntKind.u64.wrap (h : Int) = (h : Int) ∧ IntKind.i64.wrap (h : Int) = (h : Int) := by
  refine ⟨?_, ?_, ?_, ?_, ?_⟩
  · rw [IntKind.wrap_i64]; omega
  · rw [IntKind.wrap_u64]; omega
  · omega
  · rw [IntKind.wrap_u64]; omega
  · rw [IntKind.wrap_i64]; omega
set_option maxHeartbeats 8000000 in
theorem symmerge_one (gr gk n cp a m b : Nat) (P Y S : List Ent) (x : Ent) (Z : List Value) (hP : P.length = a) (hm : a + 1 = m) (hY : m + Y.length = b) (hn : b + S.length = n) (hmax : n ≤ 1000000) (hy : Ord Ent.ck Y) (w : World) (hk : w.cell? ⟨gk, 0, none⟩ = some (.func (.func 55) #[] #[])) (hkr : gk ≠ gr)
    (h : ER w gr (P ++ (x :: (Y ++ S))) Z) : Calls Tryd.prog 86 #[.slice (some ⟨gr, 0, none⟩) n cp, .int .i64 (a : Int), .int .i64 (m : Int), .int .i64 (b : Int), .func (.func 71) #[] #[.pointer (some ⟨gk, 0, none⟩)]] w (Mgd w gr P [x] Y S Z) := by
  have H := Lib.hid h
  have HK := Lib.hid (And.intro hk hkr)
  have HX := Lib.hid (p := P.length = a ∧ a + 1 = m ∧ m + Y.length = b ∧ b + S.length = n ∧ n ≤ 1000000) ⟨hP, hm, hY, hn, hmax⟩
  have HO := Lib.hid hy
  obtain ⟨cur, hcur⟩ : ∃ cur, P ++ (x :: (Y ++ S)) = cur := ⟨_, rfl⟩
  have HGA := Lib.hid (p := cur[a]? = some x) (by rw [← hcur, List.getElem?_append_right (by omega), hP, Nat.sub_self]; rfl)
  have HGY := Lib.hid (p := ∀ q, q < Y.length → cur[m + q]? = Y[q]?) (fun q hq => by
    rw [← hcur, List.getElem?_append_right (by omega), show m + q - P.length = q + 1 by omega, List.getElem?_cons_succ, List.getElem?_append_left hq])
  have HCL := Lib.hid (p := cur.length = n) (by rw [← hcur]; simp only [List.length_append, List.length_cons]; omega)
  have HCUR := Lib.hid hcur
  rw [hcur] at H
  have hw1 : IntKind.i64.wrap ((m : Int) - (a : Int)) = 1 := by rw [IntKind.wrap_i64]; omega
  have han : (a : Int) < (n : Int) := by omega
  clear h hk hkr hP hm hY hn hmax hy hcur
  go_enter Tryd.func86, Tryd.ntmps86
  go_wp2
  go_loopw [10, 11] (fun u v wr => ∃ i j : Nat, u = .int .i64 (i : Int) ∧ v = .int .i64 (j : Int) ∧ Hid (m ≤ i ∧ i ≤ j ∧ j ≤ b) ∧ Hid ((∀ q y, Y[q]? = some y → m + q < i → y.ck < x.ck) ∧ ∀ q y, Y[q]? = some y → j ≤ m + q → x.ck ≤ y.ck) ∧ Hid (ER wr gr cur Z) ∧ Hid (Chg [gr] w wr)) (fun u v _ => (intOf v).toNat - (intOf u).toNat)
  case atStart => exact ⟨m, b, rfl, rfl, Lib.hid ⟨Nat.le_refl _, by have := HX.out; omega, Nat.le_refl _⟩, Lib.hid ⟨fun q y _ h => absurd h (by omega), fun q y hq h => by have h1 := (List.getElem?_eq_some_iff.1 hq).1; have := HX.out; omega⟩, H, Lib.hid (Chg.refl _ _)⟩
  case round =>
    clear H
    obtain ⟨i, j, rfl, rfl, HI, HB, HR, HC⟩ := hrel
    rename World => wo
    by_cases hij : i < j
    · have hiji : (i : Int) < (j : Int) := by omega
      obtain ⟨hh, hhe⟩ : ∃ hh, (i + j) / 2 = hh := ⟨_, rfl⟩
      have HH := Lib.hid (p := i ≤ hh ∧ hh < j) (by omega)
      obtain ⟨z1, z2, z3, z4, z5⟩ := half_ i j hh hhe (by have := HI.out; have := HX.out; omega)
      have hhw : IntKind.i64.wrap ((hh : Int) + 1) = ((hh + 1 : Nat) : Int) := by rw [IntKind.wrap_i64]; have := HI.out; have := HX.out; omega
      obtain ⟨h1, hh1⟩ : ∃ h1, hh + 1 = h1 := ⟨_, rfl⟩
      rw [hh1] at hhw
      have HH1 := Lib.hid hh1
      obtain ⟨ij, hije⟩ : ∃ ij, i + j = ij := ⟨_, rfl⟩
      rw [hije] at z1 z2 z3
      have hhn : (hh : Int) < (n : Int) := by have := HI.out; have := HX.out; omega
      obtain ⟨y, hyq⟩ : ∃ y, Y[hh - m]? = some y := ⟨_, List.getElem?_eq_getElem (by have := HI.out; have := HX.out; omega)⟩
      have HYQ := Lib.hid hyq
      have HGa := Lib.hid (p := cur[hh]? = some y) (by
        have h9 := HGY.out (hh - m) (by have := HI.out; have := HX.out; omega)
        rw [show m + (hh - m) = hh by have := HI.out; omega] at h9
        rw [h9]; exact hyq)
      have HGb := HGA
      have HRd := Lib.hid (HR.out.kept (below_drw wo))
      have HCd := Lib.hid (HC.out.drew)
      have HKd := Lib.hid (HCd.out.cell HK.out.1 (by simp; exact HK.out.2))
      obtain ⟨cv, hcv⟩ : ∃ cv, cmpv y.ck x.ck = cv := ⟨_, rfl⟩
      have HIJ := Lib.hid hij
      clear hij hhe hh1 hije hyq
      by_cases hlt : y.ck < x.ck
      · have hc0 : cv < 0 := by rw [← hcv]; exact (cmpv_neg _ _).2 hlt
        have HLT := Lib.hid hlt
        clear hlt
        go_upto_region 5 with fail
        have HSQ := Lib.hid (p := ∀ W, Below wo.drew.heap.size wo.drew W → W.rangeAt gr (hh * 5) (ecs y) ∧ W.rangeAt gr (a * 5) (ecs x)) (fun W hb => ⟨(HRd.out.kept hb).at_ HGa.out, (HRd.out.kept hb).at_ HGb.out⟩)
        refine wp_region_held_drew (S := fun W => W.rangeAt gr (hh * 5) (ecs y) ∧ W.rangeAt gr (a * 5) (ecs x)) (by kernel_rfl) (HSQ.out _ (Below.refl _ _)) (fun hHeld => ?_)
        refine wpAnyH_take (i := 0) (oi := ⟨some 40, .move (.tmp 4), _, _, _, _⟩) (v := .func (.func 71) #[] #[.pointer (some ⟨gk, 0, none⟩)]) rfl (by kernel_rfl) (by kernel_rfl) (by kernel_rfl) (fun _ _ _ h => h) (.inl ⟨by rfl, fun w hSw => by go_simp⟩) (by assumption) ?_
        simp only [Act.put, List.setIfInBounds_toArray, List.set_cons_zero, List.set_cons_succ]
        refine wpAnyH_take (i := 1) (oi := ⟨some 41, .move (.tmp 0), _, _, _, _⟩) (v := .slice (some ⟨gr, 0, none⟩) n cp) rfl (by kernel_rfl) (by kernel_rfl) (by kernel_rfl) (fun _ _ _ h => h) (.inl ⟨by rfl, fun w hSw => by go_simp⟩) (by assumption) ?_
        simp only [Act.put, List.setIfInBounds_toArray, List.set_cons_zero, List.set_cons_succ]
        refine wpAnyH_take (i := 2) (oi := ⟨some 42, .move (.tmp 12), _, _, _, _⟩) (v := .int .i64 (hh : Int)) rfl (by kernel_rfl) (by kernel_rfl) (by kernel_rfl) (fun _ _ _ h => h) (.inl ⟨by rfl, fun w hSw => by go_simp⟩) (by assumption) ?_
        simp only [Act.put, List.setIfInBounds_toArray, List.set_cons_zero, List.set_cons_succ]
        refine wpAnyH_take (i := 3) (oi := ⟨some 43, .indexAddr 22 (.tmp 41) (.tmp 42), _, _, _, _⟩) (v := .pointer (some ⟨gr, hh * 5, none⟩)) rfl (by kernel_rfl) (by kernel_rfl) (by kernel_rfl) (fun _ _ _ h => h) (.inl ⟨by rfl, fun w hSw => by go_simp⟩) (by assumption) ?_
        simp only [Act.put, List.setIfInBounds_toArray, List.set_cons_zero, List.set_cons_succ]
        refine wpAnyH_take (i := 4) (oi := ⟨some 44, .load 42 (.tmp 43), _, _, _, _⟩) (v := .agg (ecs y).toArray) rfl (by kernel_rfl) (by kernel_rfl) (by kernel_rfl) (fun _ _ _ h => h) (yieldsIf_load_mid (by rfl) 42 (.tmp 43) rfl gr (hh * 5) rfl (ecs y) _ (fun w hSw => hSw.1) Tryd.underlying42 rfl (info_ent y)) (by assumption) ?_
        simp only [Act.put, List.setIfInBounds_toArray, List.set_cons_zero, List.set_cons_succ]
        refine wpAnyH_take (i := 5) (oi := ⟨some 45, .move (.tmp 0), _, _, _, _⟩) (v := .slice (some ⟨gr, 0, none⟩) n cp) rfl (by kernel_rfl) (by kernel_rfl) (by kernel_rfl) (fun _ _ _ h => h) (.inl ⟨by rfl, fun w hSw => by go_simp⟩) (by assumption) ?_
        simp only [Act.put, List.setIfInBounds_toArray, List.set_cons_zero, List.set_cons_succ]
        refine wpAnyH_take (i := 6) (oi := ⟨some 46, .move (.tmp 1), _, _, _, _⟩) (v := .int .i64 (a : Int)) rfl (by kernel_rfl) (by kernel_rfl) (by kernel_rfl) (fun _ _ _ h => h) (.inl ⟨by rfl, fun w hSw => by go_simp⟩) (by assumption) ?_
        simp only [Act.put, List.setIfInBounds_toArray, List.set_cons_zero, List.set_cons_succ]
        refine wpAnyH_take (i := 7) (oi := ⟨some 47, .indexAddr 22 (.tmp 45) (.tmp 46), _, _, _, _⟩) (v := .pointer (some ⟨gr, a * 5, none⟩)) rfl (by kernel_rfl) (by kernel_rfl) (by kernel_rfl) (fun _ _ _ h => h) (.inl ⟨by rfl, fun w hSw => by go_simp⟩) (by assumption) ?_
        simp only [Act.put, List.setIfInBounds_toArray, List.set_cons_zero, List.set_cons_succ]
        refine wpAnyH_take (i := 8) (oi := ⟨some 48, .load 42 (.tmp 47), _, _, _, _⟩) (v := .agg (ecs x).toArray) rfl (by kernel_rfl) (by kernel_rfl) (by kernel_rfl) (fun _ _ _ h => h) (yieldsIf_load_mid (by rfl) 42 (.tmp 47) rfl gr (a * 5) rfl (ecs x) _ (fun w hSw => hSw.2) Tryd.underlying42 rfl (info_ent x)) (by assumption) ?_
        simp only [Act.put, List.setIfInBounds_toArray, List.set_cons_zero, List.set_cons_succ]
        refine wpAnyH_ready (rs := [9]) (by kernel_rfl) (by simp) ?_
        refine AllReadyH.cons (o := ⟨some 49, .call ⟨.value (.tmp 40), #[.tmp 44, .tmp 48], _⟩, _, _, _, _⟩) rfl (fun K hK => ?_) AllReadyH.nil
        go_simp
        go_at_call 71
        refine (bycmp_any y x gk _ HKd.out).mono ?_
        rintro e wd ⟨rfl, hb⟩
        rw [hcv]
        have HBd := Lib.hid hb
        clear hb
        refine hK.out _ _ (HSQ.out _ HBd.out) (fun _hc => ?_)
        clear hK K
        refine wpAnyH_take (i := 10) (oi := ⟨some 50, .binOp .lss 3 (.tmp 49) (.const (.int .i64 0)) 3, _, _, _, _⟩) (v := .bool true) rfl (by kernel_rfl) (by kernel_rfl) (by kernel_rfl) (fun _ _ _ h => h) (.inl ⟨by rfl, fun w hSw => by go_simp⟩) (by assumption) ?_
        simp only [Act.put, List.setIfInBounds_toArray, List.set_cons_zero, List.set_cons_succ]
        refine wpAnyH_done (by kernel_rfl) ?_ _
        have HR9 := Lib.hid (HRd.out.kept HBd.out)
        have HC9 := Lib.hid (HCd.out.trans (Chg.of (F := [gr]) HBd.out) (fun z hz => .inl hz))
        clear HRd HCd HKd HSQ HR HC
        go_wp2_with fail
        go_roundw
        case rel => exact ⟨h1, j, rfl, rfl, Lib.hid (by have := HI.out; have := HH.out; have := HH1.out; omega), Lib.hid ⟨fun q y' hq hl => by
            by_cases e : m + q = hh
            · have h9 := HYQ.out
              rw [show hh - m = q by omega, hq] at h9
              injection h9 with h9
              rw [h9]
              exact HLT.out
            · have h9 := HO.out.get hq HYQ.out (by have := HI.out; have := HH1.out; omega)
              have := HLT.out
              omega, HB.out.2⟩, HR9, HC9⟩
        case measure => have := HIJ.out; have := HH.out; have := HH1.out; simp [intOf]; omega
      · have hc0 : ¬ cv < 0 := by rw [← hcv]; exact fun h => hlt ((cmpv_neg _ _).1 h)
        have HLT := Lib.hid (p := x.ck ≤ y.ck) (by omega)
        clear hlt
        go_upto_region 5 with fail
        have HSQ := Lib.hid (p := ∀ W, Below wo.drew.heap.size wo.drew W → W.rangeAt gr (hh * 5) (ecs y) ∧ W.rangeAt gr (a * 5) (ecs x)) (fun W hb => ⟨(HRd.out.kept hb).at_ HGa.out, (HRd.out.kept hb).at_ HGb.out⟩)
        refine wp_region_held_drew (S := fun W => W.rangeAt gr (hh * 5) (ecs y) ∧ W.rangeAt gr (a * 5) (ecs x)) (by kernel_rfl) (HSQ.out _ (Below.refl _ _)) (fun hHeld => ?_)
        refine wpAnyH_take (i := 0) (oi := ⟨some 40, .move (.tmp 4), _, _, _, _⟩) (v := .func (.func 71) #[] #[.pointer (some ⟨gk, 0, none⟩)]) rfl (by kernel_rfl) (by kernel_rfl) (by kernel_rfl) (fun _ _ _ h => h) (.inl ⟨by rfl, fun w hSw => by go_simp⟩) (by assumption) ?_
        simp only [Act.put, List.setIfInBounds_toArray, List.set_cons_zero, List.set_cons_succ]
        refine wpAnyH_take (i := 1) (oi := ⟨some 41, .move (.tmp 0), _, _, _, _⟩) (v := .slice (some ⟨gr, 0, none⟩) n cp) rfl (by kernel_rfl) (by kernel_rfl) (by kernel_rfl) (fun _ _ _ h => h) (.inl ⟨by rfl, fun w hSw => by go_simp⟩) (by assumption) ?_
        simp only [Act.put, List.setIfInBounds_toArray, List.set_cons_zero, List.set_cons_succ]
        refine wpAnyH_take (i := 2) (oi := ⟨some 42, .move (.tmp 12), _, _, _, _⟩) (v := .int .i64 (hh : Int)) rfl (by kernel_rfl) (by kernel_rfl) (by kernel_rfl) (fun _ _ _ h => h) (.inl ⟨by rfl, fun w hSw => by go_simp⟩) (by assumption) ?_
        simp only [Act.put, List.setIfInBounds_toArray, List.set_cons_zero, List.set_cons_succ]
        refine wpAnyH_take (i := 3) (oi := ⟨some 43, .indexAddr 22 (.tmp 41) (.tmp 42), _, _, _, _⟩) (v := .pointer (some ⟨gr, hh * 5, none⟩)) rfl (by kernel_rfl) (by kernel_rfl) (by kernel_rfl) (fun _ _ _ h => h) (.inl ⟨by rfl, fun w hSw => by go_simp⟩) (by assumption) ?_
        simp only [Act.put, List.setIfInBounds_toArray, List.set_cons_zero, List.set_cons_succ]
        refine wpAnyH_take (i := 4) (oi := ⟨some 44, .load 42 (.tmp 43), _, _, _, _⟩) (v := .agg (ecs y).toArray) rfl (by kernel_rfl) (by kernel_rfl) (by kernel_rfl) (fun _ _ _ h => h) (yieldsIf_load_mid (by rfl) 42 (.tmp 43) rfl gr (hh * 5) rfl (ecs y) _ (fun w hSw => hSw.1) Tryd.underlying42 rfl (info_ent y)) (by assumption) ?_
        simp only [Act.put, List.setIfInBounds_toArray, List.set_cons_zero, List.set_cons_succ]
        refine wpAnyH_take (i := 5) (oi := ⟨some 45, .move (.tmp 0), _, _, _, _⟩) (v := .slice (some ⟨gr, 0, none⟩) n cp) rfl (by kernel_rfl) (by kernel_rfl) (by kernel_rfl) (fun _ _ _ h => h) (.inl ⟨by rfl, fun w hSw => by go_simp⟩) (by assumption) ?_
        simp only [Act.put, List.setIfInBounds_toArray, List.set_cons_zero, List.set_cons_succ]
        refine wpAnyH_take (i := 6) (oi := ⟨some 46, .move (.tmp 1), _, _, _, _⟩) (v := .int .i64 (a : Int)) rfl (by kernel_rfl) (by kernel_rfl) (by kernel_rfl) (fun _ _ _ h => h) (.inl ⟨by rfl, fun w hSw => by go_simp⟩) (by assumption) ?_
        simp only [Act.put, List.setIfInBounds_toArray, List.set_cons_zero, List.set_cons_succ]
        refine wpAnyH_take (i := 7) (oi := ⟨some 47, .indexAddr 22 (.tmp 45) (.tmp 46), _, _, _, _⟩) (v := .pointer (some ⟨gr, a * 5, none⟩)) rfl (by kernel_rfl) (by kernel_rfl) (by kernel_rfl) (fun _ _ _ h => h) (.inl ⟨by rfl, fun w hSw => by go_simp⟩) (by assumption) ?_
        simp only [Act.put, List.setIfInBounds_toArray, List.set_cons_zero, List.set_cons_succ]
        refine wpAnyH_take (i := 8) (oi := ⟨some 48, .load 42 (.tmp 47), _, _, _, _⟩) (v := .agg (ecs x).toArray) rfl (by kernel_rfl) (by kernel_rfl) (by kernel_rfl) (fun _ _ _ h => h) (yieldsIf_load_mid (by rfl) 42 (.tmp 47) rfl gr (a * 5) rfl (ecs x) _ (fun w hSw => hSw.2) Tryd.underlying42 rfl (info_ent x)) (by assumption) ?_
        simp only [Act.put, List.setIfInBounds_toArray, List.set_cons_zero, List.set_cons_succ]
        refine wpAnyH_ready (rs := [9]) (by kernel_rfl) (by simp) ?_
        refine AllReadyH.cons (o := ⟨some 49, .call ⟨.value (.tmp 40), #[.tmp 44, .tmp 48], _⟩, _, _, _, _⟩) rfl (fun K hK => ?_) AllReadyH.nil
        go_simp
        go_at_call 71
        refine (bycmp_any y x gk _ HKd.out).mono ?_
        rintro e wd ⟨rfl, hb⟩
        rw [hcv]
        have HBd := Lib.hid hb
        clear hb
        refine hK.out _ _ (HSQ.out _ HBd.out) (fun _hc => ?_)
        clear hK K
        refine wpAnyH_take (i := 10) (oi := ⟨some 50, .binOp .lss 3 (.tmp 49) (.const (.int .i64 0)) 3, _, _, _, _⟩) (v := .bool false) rfl (by kernel_rfl) (by kernel_rfl) (by kernel_rfl) (fun _ _ _ h => h) (.inl ⟨by rfl, fun w hSw => by go_simp⟩) (by assumption) ?_
        simp only [Act.put, List.setIfInBounds_toArray, List.set_cons_zero, List.set_cons_succ]
        refine wpAnyH_done (by kernel_rfl) ?_ _
        have HR9 := Lib.hid (HRd.out.kept HBd.out)
        have HC9 := Lib.hid (HCd.out.trans (Chg.of (F := [gr]) HBd.out) (fun z hz => .inl hz))
        clear HRd HCd HKd HSQ HR HC
        go_wp2_with fail
        go_roundw
        case rel => exact ⟨i, hh, rfl, rfl, Lib.hid (by have := HI.out; have := HH.out; omega), Lib.hid ⟨HB.out.1, fun q y' hq hl => by
            have h9 := HO.out.get HYQ.out hq (by omega)
            have := HLT.out
            omega⟩, HR9, HC9⟩
        case measure => have := HIJ.out; have := HH.out; simp [intOf]; omega
    · have hiji : ¬ (i : Int) < (j : Int) := by omega
      have hije : i = j := by have := HI.out; omega
      subst hije
      clear hij
      obtain ⟨Y1, Y2, hY12, hY1⟩ : ∃ Y1 Y2, Y = Y1 ++ Y2 ∧ Y1.length = i - m := ⟨Y.take (i - m), Y.drop (i - m), (List.take_append_drop _ _).symm, by rw [List.length_take]; have := HI.out; have := HX.out; omega⟩
      have HY12 := Lib.hid (p := Y = Y1 ++ Y2 ∧ m + Y1.length = i) ⟨hY12, by have := HI.out; omega⟩
      have HY1 := Lib.hid (p := (∀ y ∈ Y1, y.ck < x.ck) ∧ ∀ y ∈ Y2, x.ck ≤ y.ck) ⟨fun y hy => by
          obtain ⟨q, hq⟩ := List.mem_iff_getElem?.1 hy
          have hql := (List.getElem?_eq_some_iff.1 hq).1
          exact HB.out.1 q y (by rw [HY12.out.1, List.getElem?_append_left hql]; exact hq) (by have := HY12.out; omega), fun y hy => by
          obtain ⟨q, hq⟩ := List.mem_iff_getElem?.1 hy
          exact HB.out.2 (Y1.length + q) y (by rw [HY12.out.1, List.getElem?_append_right (by omega), Nat.add_sub_cancel_left]; exact hq) (by have := HY12.out; omega)⟩
      obtain ⟨ip, hip⟩ : ∃ ip, i - 1 = ip := ⟨_, rfl⟩
      have hiw : IntKind.i64.wrap ((i : Int) - 1) = (ip : Int) := by rw [IntKind.wrap_i64]; have := HI.out; have := HX.out; omega
      have HIP := Lib.hid (p := ip + 1 = i) (by have := HI.out; have := HX.out; omega)
      clear hY12 hY1 hip
      go_wp2
      go_loopw [13] (fun u wr => ∃ (k : Nat) (A B : List Ent), u = .int .i64 (k : Int) ∧ Hid (Y1 = A ++ B ∧ a + A.length = k) ∧ Hid (ER wr gr (P ++ (A ++ (x :: (B ++ (Y2 ++ S))))) Z) ∧ Hid (Chg [gr] w wr)) (fun u _ => ip - (intOf u).toNat)
      case atStart => exact ⟨a, [], Y1, rfl, Lib.hid ⟨rfl, rfl⟩, Lib.hid (by have h9 := HR.out; rw [← HCUR.out, HY12.out.1] at h9; simpa only [List.nil_append, List.append_assoc] using h9), HC⟩
      case round =>
        clear HR HC
        obtain ⟨k, A, B, rfl, HA, HR, HC⟩ := hrel
        rename World => wo
        by_cases hki : k < ip
        · have hkii : (k : Int) < (ip : Int) := by omega
          obtain ⟨y, B', hB⟩ : ∃ y B', B = y :: B' := by
            cases hB : B with
            | nil =>
              have h1 := HA.out
              have h2 := congrArg List.length h1.1
              rw [hB, List.append_nil] at h2
              have h3 := HY12.out
              have h4 := HIP.out
              have h5 := HX.out
              omega
            | cons y B' => exact ⟨y, B', rfl⟩
          obtain ⟨k1, hk1⟩ : ∃ k1, k + 1 = k1 := ⟨_, rfl⟩
          have hkw : IntKind.i64.wrap ((k : Int) + 1) = (k1 : Int) := by rw [IntKind.wrap_i64]; have := HIP.out; have := HI.out; have := HX.out; omega
          obtain ⟨c2, hc2⟩ : ∃ c2, P ++ (A ++ (x :: (B ++ (Y2 ++ S)))) = c2 := ⟨_, rfl⟩
          have hc3 : c2 = (P ++ A) ++ x :: ([] ++ y :: (B' ++ (Y2 ++ S))) := by rw [← hc2, hB]; simp only [List.append_assoc, List.cons_append, List.nil_append]
          have hPA : (P ++ A).length = k := by rw [List.length_append, HX.out.1]; exact HA.out.2
          have hlen : c2.length = n := by
            have h1 := congrArg List.length HA.out.1
            have h2 := congrArg List.length HY12.out.1
            have h3 := HX.out
            rw [← hc2]
            simp only [List.length_append, List.length_cons] at h1 h2 ⊢
            omega
          have hk1n : k1 < n := by have := HIP.out; have := HI.out; have := HX.out; omega
          have hkn1 : (k : Int) < (n : Int) := by omega
          have hkn2 : (k1 : Int) < (n : Int) := by omega
          have HGi := Lib.hid (p := c2[k]? = some x) (by rw [hc3, List.getElem?_append_right (by omega), hPA, Nat.sub_self]; rfl)
          have HGj := Lib.hid (p := c2[k1]? = some y) (by rw [hc3, List.getElem?_append_right (by omega), hPA, show k1 - k = 1 by omega]; rfl)
          have HLi := Lib.hid (p := k < c2.length) (by omega)
          have HLj := Lib.hid (p := k1 < c2.length) (by omega)
          have HSW := Lib.hid (p := swp c2 k k1 x y = P ++ ((A ++ [y]) ++ (x :: (B' ++ (Y2 ++ S))))) (by
            rw [hc3, swp_mid (P ++ A) [] _ x y k k1 hPA (by simpa using hk1)]
            simp only [List.append_assoc, List.cons_append, List.nil_append])
          have HBB := Lib.hid (p := B = y :: B' ∧ k + 1 = k1) ⟨hB, hk1⟩
          rw [hc2] at HR
          have HRd := Lib.hid (HR.out.kept (below_drw wo))
          have HCd := Lib.hid (HC.out.drew)
          clear hB hk1 hc2 hc3 hPA hlen hk1n hki
          go_upto_region 11 with fail
          refine wp_region_held_drew (S := fun _ => True) (by kernel_rfl) trivial (fun hHeld => ?_)
          refine wpAnyH_take (i := 0) (oi := ⟨some 61, .move (.tmp 0), _, _, _, _⟩) (v := .slice (some ⟨gr, 0, none⟩) n cp) rfl (by kernel_rfl) (by kernel_rfl) (by kernel_rfl) (fun _ _ _ h => h) (.inl ⟨by rfl, fun w hSw => by go_simp⟩) (by assumption) ?_
          simp only [Act.put, List.setIfInBounds_toArray, List.set_cons_zero, List.set_cons_succ]
          refine wpAnyH_take (i := 1) (oi := ⟨some 62, .move (.tmp 13), _, _, _, _⟩) (v := .int .i64 (k : Int)) rfl (by kernel_rfl) (by kernel_rfl) (by kernel_rfl) (fun _ _ _ h => h) (.inl ⟨by rfl, fun w hSw => by go_simp⟩) (by assumption) ?_
          simp only [Act.put, List.setIfInBounds_toArray, List.set_cons_zero, List.set_cons_succ]
          refine wpAnyH_take (i := 2) (oi := ⟨some 63, .move (.tmp 0), _, _, _, _⟩) (v := .slice (some ⟨gr, 0, none⟩) n cp) rfl (by kernel_rfl) (by kernel_rfl) (by kernel_rfl) (fun _ _ _ h => h) (.inl ⟨by rfl, fun w hSw => by go_simp⟩) (by assumption) ?_
          simp only [Act.put, List.setIfInBounds_toArray, List.set_cons_zero, List.set_cons_succ]
          refine wpAnyH_take (i := 3) (oi := ⟨some 64, .move (.tmp 13), _, _, _, _⟩) (v := .int .i64 (k : Int)) rfl (by kernel_rfl) (by kernel_rfl) (by kernel_rfl) (fun _ _ _ h => h) (.inl ⟨by rfl, fun w hSw => by go_simp⟩) (by assumption) ?_
          simp only [Act.put, List.setIfInBounds_toArray, List.set_cons_zero, List.set_cons_succ]
          refine wpAnyH_take (i := 4) (oi := ⟨some 65, .binOp .add 3 (.tmp 64) (.const (.int .i64 1)) 3, _, _, _, _⟩) (v := .int .i64 (k1 : Int)) rfl (by kernel_rfl) (by kernel_rfl) (by kernel_rfl) (fun _ _ _ h => h) (.inl ⟨by rfl, fun w hSw => by go_simp⟩) (by assumption) ?_
          simp only [Act.put, List.setIfInBounds_toArray, List.set_cons_zero, List.set_cons_succ]
          refine wpAnyH_take (i := 5) (oi := ⟨some 66, .move (.tmp 0), _, _, _, _⟩) (v := .slice (some ⟨gr, 0, none⟩) n cp) rfl (by kernel_rfl) (by kernel_rfl) (by kernel_rfl) (fun _ _ _ h => h) (.inl ⟨by rfl, fun w hSw => by go_simp⟩) (by assumption) ?_
          simp only [Act.put, List.setIfInBounds_toArray, List.set_cons_zero, List.set_cons_succ]
          refine wpAnyH_take (i := 6) (oi := ⟨some 67, .move (.tmp 13), _, _, _, _⟩) (v := .int .i64 (k : Int)) rfl (by kernel_rfl) (by kernel_rfl) (by kernel_rfl) (fun _ _ _ h => h) (.inl ⟨by rfl, fun w hSw => by go_simp⟩) (by assumption) ?_
          simp only [Act.put, List.setIfInBounds_toArray, List.set_cons_zero, List.set_cons_succ]
          refine wpAnyH_take (i := 7) (oi := ⟨some 68, .binOp .add 3 (.tmp 67) (.const (.int .i64 1)) 3, _, _, _, _⟩) (v := .int .i64 (k1 : Int)) rfl (by kernel_rfl) (by kernel_rfl) (by kernel_rfl) (fun _ _ _ h => h) (.inl ⟨by rfl, fun w hSw => by go_simp⟩) (by assumption) ?_
          simp only [Act.put, List.setIfInBounds_toArray, List.set_cons_zero, List.set_cons_succ]
          refine wpAnyH_take (i := 8) (oi := ⟨some 69, .indexAddr 22 (.tmp 66) (.tmp 68), _, _, _, _⟩) (v := .pointer (some ⟨gr, k1 * 5, none⟩)) rfl (by kernel_rfl) (by kernel_rfl) (by kernel_rfl) (fun _ _ _ h => h) (.inl ⟨by rfl, fun w hSw => by go_simp⟩) (by assumption) ?_
          simp only [Act.put, List.setIfInBounds_toArray, List.set_cons_zero, List.set_cons_succ]
          refine wpAnyH_take (i := 10) (oi := ⟨some 71, .move (.tmp 0), _, _, _, _⟩) (v := .slice (some ⟨gr, 0, none⟩) n cp) rfl (by kernel_rfl) (by kernel_rfl) (by kernel_rfl) (fun _ _ _ h => h) (.inl ⟨by rfl, fun w hSw => by go_simp⟩) (by assumption) ?_
          simp only [Act.put, List.setIfInBounds_toArray, List.set_cons_zero, List.set_cons_succ]
          refine wpAnyH_take (i := 11) (oi := ⟨some 72, .move (.tmp 13), _, _, _, _⟩) (v := .int .i64 (k : Int)) rfl (by kernel_rfl) (by kernel_rfl) (by kernel_rfl) (fun _ _ _ h => h) (.inl ⟨by rfl, fun w hSw => by go_simp⟩) (by assumption) ?_
          simp only [Act.put, List.setIfInBounds_toArray, List.set_cons_zero, List.set_cons_succ]
          refine wpAnyH_take (i := 12) (oi := ⟨some 73, .indexAddr 22 (.tmp 71) (.tmp 72), _, _, _, _⟩) (v := .pointer (some ⟨gr, k * 5, none⟩)) rfl (by kernel_rfl) (by kernel_rfl) (by kernel_rfl) (fun _ _ _ h => h) (.inl ⟨by rfl, fun w hSw => by go_simp⟩) (by assumption) ?_
          simp only [Act.put, List.setIfInBounds_toArray, List.set_cons_zero, List.set_cons_succ]
          refine wpAnyH_ready (rs := [9, 13]) (by kernel_rfl) (by simp) ?_
          refine AllReadyH.cons (o := ⟨some 70, .load 42 (.tmp 69), _, _, _, _⟩) rfl (fun K hK => ?_) (AllReadyH.cons (o := ⟨some 74, .load 42 (.tmp 73), _, _, _, _⟩) rfl (fun K hK => ?_) AllReadyH.nil)
          · skip
            refine st_load_ent (by rfl) (.tmp 69) rfl gr k1 rfl c2 Z y HRd.out HGj.out ?_
            refine hK.out _ _ trivial (fun _hs => ?_)
            clear hK K
            refine wpAnyH_ready (rs := [13]) (by kernel_rfl) (by simp) ?_
            refine AllReadyH.cons (o := ⟨some 74, .load 42 (.tmp 73), _, _, _, _⟩) rfl (fun K hK => ?_) AllReadyH.nil
            refine st_load_ent (by rfl) (.tmp 73) rfl gr k rfl c2 Z x HRd.out HGi.out ?_
            refine hK.out _ _ trivial (fun _hs => ?_)
            clear hK K
            refine wpAnyH_take (i := 14) (oi := ⟨some 75, .indexAddr 22 (.tmp 61) (.tmp 62), _, _, _, _⟩) (v := .pointer (some ⟨gr, k * 5, none⟩)) rfl (by kernel_rfl) (by kernel_rfl) (by kernel_rfl) (fun _ _ _ h => h) (.inl ⟨by rfl, fun w hSw => by go_simp⟩) (by assumption) ?_
            simp only [Act.put, List.setIfInBounds_toArray, List.set_cons_zero, List.set_cons_succ]
            refine wpAnyH_ready (rs := [15]) (by kernel_rfl) (by simp) ?_
            refine AllReadyH.cons (o := ⟨none, .store 42 (.tmp 75) (.tmp 70), _, _, _, _⟩) rfl (fun K hK => ?_) AllReadyH.nil
            refine st_put_ent (by rfl) (.tmp 75) (.tmp 70) rfl gr k rfl y rfl c2 Z HRd.out HLi.out ?_
            intro w2 hr2 hg2
            have HR2 := Lib.hid hr2
            have HC2 := Lib.hid (HCd.out.trans (Chg.one hg2) (fun z hz => .inl hz))
            clear hr2 hg2
            refine hK.out _ _ trivial (fun _hs => ?_)
            clear hK K
            refine wpAnyH_take (i := 16) (oi := ⟨some 76, .indexAddr 22 (.tmp 63) (.tmp 65), _, _, _, _⟩) (v := .pointer (some ⟨gr, k1 * 5, none⟩)) rfl (by kernel_rfl) (by kernel_rfl) (by kernel_rfl) (fun _ _ _ h => h) (.inl ⟨by rfl, fun w hSw => by go_simp⟩) (by assumption) ?_
            simp only [Act.put, List.setIfInBounds_toArray, List.set_cons_zero, List.set_cons_succ]
            refine wpAnyH_ready (rs := [17]) (by kernel_rfl) (by simp) ?_
            refine AllReadyH.cons (o := ⟨none, .store 42 (.tmp 76) (.tmp 74), _, _, _, _⟩) rfl (fun K hK => ?_) AllReadyH.nil
            refine st_put_ent (by rfl) (.tmp 76) (.tmp 74) rfl gr k1 rfl x rfl _ Z HR2.out (by rw [List.length_set]; exact HLj.out) ?_
            intro w3 hr2 hg2
            have HR3 := Lib.hid (p := ER w3 gr (swp c2 k k1 x y) Z) hr2
            have HC3 := Lib.hid (HC2.out.trans (Chg.one hg2) (fun z hz => .inl hz))
            clear hr2 hg2
            refine hK.out _ _ trivial (fun _hs => ?_)
            clear hK K
            refine wpAnyH_done (by kernel_rfl) ?_ _
            go_wp2_with fail
            go_roundw
            case rel => exact ⟨k1, A ++ [y], B', rfl, Lib.hid ⟨by rw [HA.out.1, HBB.out.1]; simp only [List.append_assoc, List.cons_append, List.nil_append], by rw [List.length_append, List.length_singleton]; have := HA.out; have := HBB.out; omega⟩, Lib.hid (by rw [← HSW.out]; exact HR3.out), HC3⟩
            case measure => have := HBB.out; simp [intOf]; omega
          · skip
            refine st_load_ent (by rfl) (.tmp 73) rfl gr k rfl c2 Z x HRd.out HGi.out ?_
            refine hK.out _ _ trivial (fun _hs => ?_)
            clear hK K
            refine wpAnyH_ready (rs := [9]) (by kernel_rfl) (by simp) ?_
            refine AllReadyH.cons (o := ⟨some 70, .load 42 (.tmp 69), _, _, _, _⟩) rfl (fun K hK => ?_) AllReadyH.nil
            refine st_load_ent (by rfl) (.tmp 69) rfl gr k1 rfl c2 Z y HRd.out HGj.out ?_
            refine hK.out _ _ trivial (fun _hs => ?_)
            clear hK K
            refine wpAnyH_take (i := 14) (oi := ⟨some 75, .indexAddr 22 (.tmp 61) (.tmp 62), _, _, _, _⟩) (v := .pointer (some ⟨gr, k * 5, none⟩)) rfl (by kernel_rfl) (by kernel_rfl) (by kernel_rfl) (fun _ _ _ h => h) (.inl ⟨by rfl, fun w hSw => by go_simp⟩) (by assumption) ?_
            simp only [Act.put, List.setIfInBounds_toArray, List.set_cons_zero, List.set_cons_succ]
            refine wpAnyH_ready (rs := [15]) (by kernel_rfl) (by simp) ?_
            refine AllReadyH.cons (o := ⟨none, .store 42 (.tmp 75) (.tmp 70), _, _, _, _⟩) rfl (fun K hK => ?_) AllReadyH.nil
            refine st_put_ent (by rfl) (.tmp 75) (.tmp 70) rfl gr k rfl y rfl c2 Z HRd.out HLi.out ?_
            intro w2 hr2 hg2
            have HR2 := Lib.hid hr2
            have HC2 := Lib.hid (HCd.out.trans (Chg.one hg2) (fun z hz => .inl hz))
            clear hr2 hg2
            refine hK.out _ _ trivial (fun _hs => ?_)
            clear hK K
            refine wpAnyH_take (i := 16) (oi := ⟨some 76, .indexAddr 22 (.tmp 63) (.tmp 65), _, _, _, _⟩) (v := .pointer (some ⟨gr, k1 * 5, none⟩)) rfl (by kernel_rfl) (by kernel_rfl) (by kernel_rfl) (fun _ _ _ h => h) (.inl ⟨by rfl, fun w hSw => by go_simp⟩) (by assumption) ?_
            simp only [Act.put, List.setIfInBounds_toArray, List.set_cons_zero, List.set_cons_succ]
            refine wpAnyH_ready (rs := [17]) (by kernel_rfl) (by simp) ?_
            refine AllReadyH.cons (o := ⟨none, .store 42 (.tmp 76) (.tmp 74), _, _, _, _⟩) rfl (fun K hK => ?_) AllReadyH.nil
            refine st_put_ent (by rfl) (.tmp 76) (.tmp 74) rfl gr k1 rfl x rfl _ Z HR2.out (by rw [List.length_set]; exact HLj.out) ?_
            intro w3 hr2 hg2
            have HR3 := Lib.hid (p := ER w3 gr (swp c2 k k1 x y) Z) hr2
            have HC3 := Lib.hid (HC2.out.trans (Chg.one hg2) (fun z hz => .inl hz))
            clear hr2 hg2
            refine hK.out _ _ trivial (fun _hs => ?_)
            clear hK K
            refine wpAnyH_done (by kernel_rfl) ?_ _
            go_wp2_with fail
            go_roundw
            case rel => exact ⟨k1, A ++ [y], B', rfl, Lib.hid ⟨by rw [HA.out.1, HBB.out.1]; simp only [List.append_assoc, List.cons_append, List.nil_append], by rw [List.length_append, List.length_singleton]; have := HA.out; have := HBB.out; omega⟩, Lib.hid (by rw [← HSW.out]; exact HR3.out), HC3⟩
            case measure => have := HBB.out; simp [intOf]; omega
        · have hkii : ¬ (k : Int) < (ip : Int) := by omega
          clear hki
          go_wp2
          go_end0
          have hB0 : B = [] := by
            have h1 := HA.out
            have h2 := congrArg List.length h1.1
            rw [List.length_append] at h2
            have h3 := HY12.out
            have h4 := HIP.out
            have h5 := HX.out
            exact List.eq_nil_of_length_eq_zero (by omega)
          have hA1 : Y1 = A := by rw [HA.out.1, hB0, List.append_nil]
          refine ⟨rfl, A ++ x :: Y2, ?_, ?_, ?_, HC.out⟩
          · have h9 := HR.out
            rw [hB0] at h9
            simpa only [List.nil_append, List.append_assoc, List.cons_append] using h9
          · have h9 := HO.out
            rw [HY12.out.1, hA1] at h9
            exact Ord.app h9.left (List.pairwise_cons.2 ⟨fun y hy => HY1.out.2 y hy, h9.right⟩) (fun u hu v hv => by
              have h10 := HY1.out.1 u (by rw [hA1]; exact hu)
              rcases List.mem_cons.1 hv with e1 | e1
              · rw [e1]; omega
              · exact h9.across u hu v e1)
          · rw [HY12.out.1, hA1]
            have h9 : SameK Ent.ck ([x] ++ A) (A ++ [x]) := SameK.swap (fun u hu v hv h => by
              rw [List.mem_singleton] at hu
              subst hu
              have := HY1.out.1 v (by rw [hA1]; exact hv)
              omega)
            have h10 := h9.app (SameK.refl (key := Ent.ck) Y2)
            simpa only [List.append_assoc, List.cons_append, List.nil_append] using h10
end Go.Proofs.YtijffkklhgnknaaDoor
