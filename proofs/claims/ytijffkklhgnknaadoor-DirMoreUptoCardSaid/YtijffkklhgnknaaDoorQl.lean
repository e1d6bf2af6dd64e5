/- symMerge, where the second of the two runs has one entry. Conditions: the first is in order, and has two or more; the closure's key lies there. -/
import Derived.Test.YtijffkklhgnknaaDoorQk
set_option linter.unusedVariables false
set_option maxRecDepth 20000
namespace Go.Proofs.YtijffkklhgnknaaDoor
open Go.RowKit

set_option maxHeartbeats 8000000 in
theorem symmerge_right (gr gk n cp a m b : Nat) (P X S : List Ent) (y : Ent) (Z : List Value) (hP : P.length = a) (hX : a + X.length = m) (hx2 : 2 ≤ X.length) (hb : m + 1 = b) (hn : b + S.length = n) (hmax : n ≤ 1000000) (hy : Ord Ent.ck X) (w : World) (hk : w.cell? ⟨gk, 0, none⟩ = some (.func (.func 55) #[] #[])) (hkr : gk ≠ gr)
    (h : ER w gr (P ++ (X ++ (y :: S))) Z) : Calls Tryd.prog 86 #[.slice (some ⟨gr, 0, none⟩) n cp, .int .i64 (a : Int), .int .i64 (m : Int), .int .i64 (b : Int), .func (.func 71) #[] #[.pointer (some ⟨gk, 0, none⟩)]] w (Mgd w gr P X [y] S Z) := by
  have H := Lib.hid h
  have HK := Lib.hid (And.intro hk hkr)
  have HX := Lib.hid (p := P.length = a ∧ a + X.length = m ∧ m + 1 = b ∧ b + S.length = n ∧ n ≤ 1000000 ∧ 2 ≤ X.length) ⟨hP, hX, hb, hn, hmax, hx2⟩
  have HO := Lib.hid hy
  obtain ⟨cur, hcur⟩ : ∃ cur, P ++ (X ++ (y :: S)) = cur := ⟨_, rfl⟩
  have HGM := Lib.hid (p := cur[m]? = some y) (by rw [← hcur, List.getElem?_append_right (by omega), List.getElem?_append_right (by omega), show m - P.length - X.length = 0 by omega]; rfl)
  have HGX := Lib.hid (p := ∀ q, q < X.length → cur[a + q]? = X[q]?) (fun q hq => by
    rw [← hcur, List.getElem?_append_right (by omega), show a + q - P.length = q by omega, List.getElem?_append_left hq])
  have HCL := Lib.hid (p := cur.length = n) (by rw [← hcur]; simp only [List.length_append, List.length_cons]; omega)
  have HCUR := Lib.hid hcur
  rw [hcur] at H
  obtain ⟨xl, hxl⟩ : ∃ xl, m - a = xl := ⟨_, rfl⟩
  have hw1 : IntKind.i64.wrap ((m : Int) - (a : Int)) = (xl : Int) := by rw [IntKind.wrap_i64]; omega
  have hx1 : ((xl : Int) == 1) = false := beq_false_of_ne (by omega)
  have hx1n : ¬ (xl : Int) = 1 := by omega
  have hw2 : IntKind.i64.wrap ((b : Int) - (m : Int)) = 1 := by rw [IntKind.wrap_i64]; omega
  have hmn : (m : Int) < (n : Int) := by omega
  clear h hk hkr hP hX hx2 hb hn hmax hy hcur hxl
  go_enter Tryd.func86, Tryd.ntmps86
  go_wp2
  go_loopw [14, 15] (fun u v wr => ∃ i j : Nat, u = .int .i64 (i : Int) ∧ v = .int .i64 (j : Int) ∧ Hid (a ≤ i ∧ i ≤ j ∧ j ≤ m) ∧ Hid ((∀ q x, X[q]? = some x → a + q < i → x.ck ≤ y.ck) ∧ ∀ q x, X[q]? = some x → j ≤ a + q → y.ck < x.ck) ∧ Hid (ER wr gr cur Z) ∧ Hid (Chg [gr] w wr)) (fun u v _ => (intOf v).toNat - (intOf u).toNat)
  case atStart => exact ⟨a, m, rfl, rfl, Lib.hid ⟨Nat.le_refl _, by have := HX.out; omega, Nat.le_refl _⟩, Lib.hid ⟨fun q x _ h => absurd h (by omega), fun q x hq h => by have h1 := (List.getElem?_eq_some_iff.1 hq).1; have := HX.out; omega⟩, H, Lib.hid (Chg.refl _ _)⟩
  case round =>
    clear H
    obtain ⟨i, j, rfl, rfl, HI, HB, HR, HC⟩ := hrel
    rename World => wo
    by_cases hij : i < j
    · have hiji : (i : Int) < (j : Int) := by omega
      obtain ⟨hh, hhe⟩ : ∃ hh, (i + j) / 2 = hh := ⟨_, rfl⟩
      have HH := Lib.hid (p := i ≤ hh ∧ hh < j) (by omega)
      obtain ⟨z1, z2, z3, z4, z5⟩ := half_ i j hh hhe (by have := HI.out; have := HX.out; omega)
      have hhw : IntKind.i64.wrap ((hh : Int) + 1) = ((hh + 1 : Nat) : Int) := by rw [IntKind.wrap_i64]; have := HI.out; have := HX.out; omega
      obtain ⟨h1, hh1⟩ : ∃ h1, hh + 1 = h1 := ⟨_, rfl⟩
      rw [hh1] at hhw
      have HH1 := Lib.hid hh1
      obtain ⟨ij, hije⟩ : ∃ ij, i + j = ij := ⟨_, rfl⟩
      rw [hije] at z1 z2 z3
      have hhn : (hh : Int) < (n : Int) := by have := HI.out; have := HX.out; omega
      obtain ⟨x, hxq⟩ : ∃ x, X[hh - a]? = some x := ⟨_, List.getElem?_eq_getElem (by have := HI.out; have := HX.out; omega)⟩
      have HXQ := Lib.hid hxq
      have HGb := Lib.hid (p := cur[hh]? = some x) (by
        have h9 := HGX.out (hh - a) (by have := HI.out; have := HX.out; omega)
        rw [show a + (hh - a) = hh by have := HI.out; omega] at h9
        rw [h9]; exact hxq)
      have HGa := HGM
      have HRd := Lib.hid (HR.out.kept (below_drw wo))
      have HCd := Lib.hid (HC.out.drew)
      have HKd := Lib.hid (HCd.out.cell HK.out.1 (by simp; exact HK.out.2))
      obtain ⟨cv, hcv⟩ : ∃ cv, cmpv y.ck x.ck = cv := ⟨_, rfl⟩
      have HIJ := Lib.hid hij
      clear hij hhe hh1 hije hxq
      by_cases hlt : y.ck < x.ck
      · have hc0 : cv < 0 := by rw [← hcv]; exact (cmpv_neg _ _).2 hlt
        have HLT := Lib.hid hlt
        clear hlt
        go_upto_region 17 with fail
        have HSQ := Lib.hid (p := ∀ W, Below wo.drew.heap.size wo.drew W → W.rangeAt gr (m * 5) (ecs y) ∧ W.rangeAt gr (hh * 5) (ecs x)) (fun W hb => ⟨(HRd.out.kept hb).at_ HGa.out, (HRd.out.kept hb).at_ HGb.out⟩)
        refine wp_region_held_drew (S := fun W => W.rangeAt gr (m * 5) (ecs y) ∧ W.rangeAt gr (hh * 5) (ecs x)) (by kernel_rfl) (HSQ.out _ (Below.refl _ _)) (fun hHeld => ?_)
        refine wpAnyH_take (i := 0) (oi := ⟨some 92, .move (.tmp 4), _, _, _, _⟩) (v := .func (.func 71) #[] #[.pointer (some ⟨gk, 0, none⟩)]) rfl (by kernel_rfl) (by kernel_rfl) (by kernel_rfl) (fun _ _ _ h => h) (.inl ⟨by rfl, fun w hSw => by go_simp⟩) (by assumption) ?_
        simp only [Act.put, List.setIfInBounds_toArray, List.set_cons_zero, List.set_cons_succ]
        refine wpAnyH_take (i := 1) (oi := ⟨some 93, .move (.tmp 0), _, _, _, _⟩) (v := .slice (some ⟨gr, 0, none⟩) n cp) rfl (by kernel_rfl) (by kernel_rfl) (by kernel_rfl) (fun _ _ _ h => h) (.inl ⟨by rfl, fun w hSw => by go_simp⟩) (by assumption) ?_
        simp only [Act.put, List.setIfInBounds_toArray, List.set_cons_zero, List.set_cons_succ]
        refine wpAnyH_take (i := 2) (oi := ⟨some 94, .move (.tmp 2), _, _, _, _⟩) (v := .int .i64 (m : Int)) rfl (by kernel_rfl) (by kernel_rfl) (by kernel_rfl) (fun _ _ _ h => h) (.inl ⟨by rfl, fun w hSw => by go_simp⟩) (by assumption) ?_
        simp only [Act.put, List.setIfInBounds_toArray, List.set_cons_zero, List.set_cons_succ]
        refine wpAnyH_take (i := 3) (oi := ⟨some 95, .indexAddr 22 (.tmp 93) (.tmp 94), _, _, _, _⟩) (v := .pointer (some ⟨gr, m * 5, none⟩)) rfl (by kernel_rfl) (by kernel_rfl) (by kernel_rfl) (fun _ _ _ h => h) (.inl ⟨by rfl, fun w hSw => by go_simp⟩) (by assumption) ?_
        simp only [Act.put, List.setIfInBounds_toArray, List.set_cons_zero, List.set_cons_succ]
        refine wpAnyH_take (i := 4) (oi := ⟨some 96, .load 42 (.tmp 95), _, _, _, _⟩) (v := .agg (ecs y).toArray) rfl (by kernel_rfl) (by kernel_rfl) (by kernel_rfl) (fun _ _ _ h => h) (yieldsIf_load_mid (by rfl) 42 (.tmp 95) rfl gr (m * 5) rfl (ecs y) _ (fun w hSw => hSw.1) Tryd.underlying42 rfl (info_ent y)) (by assumption) ?_
        simp only [Act.put, List.setIfInBounds_toArray, List.set_cons_zero, List.set_cons_succ]
        refine wpAnyH_take (i := 5) (oi := ⟨some 97, .move (.tmp 0), _, _, _, _⟩) (v := .slice (some ⟨gr, 0, none⟩) n cp) rfl (by kernel_rfl) (by kernel_rfl) (by kernel_rfl) (fun _ _ _ h => h) (.inl ⟨by rfl, fun w hSw => by go_simp⟩) (by assumption) ?_
        simp only [Act.put, List.setIfInBounds_toArray, List.set_cons_zero, List.set_cons_succ]
        refine wpAnyH_take (i := 6) (oi := ⟨some 98, .move (.tmp 16), _, _, _, _⟩) (v := .int .i64 (hh : Int)) rfl (by kernel_rfl) (by kernel_rfl) (by kernel_rfl) (fun _ _ _ h => h) (.inl ⟨by rfl, fun w hSw => by go_simp⟩) (by assumption) ?_
        simp only [Act.put, List.setIfInBounds_toArray, List.set_cons_zero, List.set_cons_succ]
        refine wpAnyH_take (i := 7) (oi := ⟨some 99, .indexAddr 22 (.tmp 97) (.tmp 98), _, _, _, _⟩) (v := .pointer (some ⟨gr, hh * 5, none⟩)) rfl (by kernel_rfl) (by kernel_rfl) (by kernel_rfl) (fun _ _ _ h => h) (.inl ⟨by rfl, fun w hSw => by go_simp⟩) (by assumption) ?_
        simp only [Act.put, List.setIfInBounds_toArray, List.set_cons_zero, List.set_cons_succ]
        refine wpAnyH_take (i := 8) (oi := ⟨some 100, .load 42 (.tmp 99), _, _, _, _⟩) (v := .agg (ecs x).toArray) rfl (by kernel_rfl) (by kernel_rfl) (by kernel_rfl) (fun _ _ _ h => h) (yieldsIf_load_mid (by rfl) 42 (.tmp 99) rfl gr (hh * 5) rfl (ecs x) _ (fun w hSw => hSw.2) Tryd.underlying42 rfl (info_ent x)) (by assumption) ?_
        simp only [Act.put, List.setIfInBounds_toArray, List.set_cons_zero, List.set_cons_succ]
        refine wpAnyH_ready (rs := [9]) (by kernel_rfl) (by simp) ?_
        refine AllReadyH.cons (o := ⟨some 101, .call ⟨.value (.tmp 92), #[.tmp 96, .tmp 100], _⟩, _, _, _, _⟩) rfl (fun K hK => ?_) AllReadyH.nil
        go_simp
        go_at_call 71
        refine (bycmp_any y x gk _ HKd.out).mono ?_
        rintro e wd ⟨rfl, hb⟩
        rw [hcv]
        have HBd := Lib.hid hb
        clear hb
        refine hK.out _ _ (HSQ.out _ HBd.out) (fun _hc => ?_)
        clear hK K
        refine wpAnyH_take (i := 10) (oi := ⟨some 102, .binOp .lss 3 (.tmp 101) (.const (.int .i64 0)) 3, _, _, _, _⟩) (v := .bool true) rfl (by kernel_rfl) (by kernel_rfl) (by kernel_rfl) (fun _ _ _ h => h) (.inl ⟨by rfl, fun w hSw => by go_simp⟩) (by assumption) ?_
        simp only [Act.put, List.setIfInBounds_toArray, List.set_cons_zero, List.set_cons_succ]
        refine wpAnyH_take (i := 11) (oi := ⟨some 103, .unOp .not 4 (.tmp 102), _, _, _, _⟩) (v := .bool false) rfl (by kernel_rfl) (by kernel_rfl) (by kernel_rfl) (fun _ _ _ h => h) (.inl ⟨by rfl, fun w hSw => by go_simp⟩) (by assumption) ?_
        simp only [Act.put, List.setIfInBounds_toArray, List.set_cons_zero, List.set_cons_succ]
        refine wpAnyH_done (by kernel_rfl) ?_ _
        have HR9 := Lib.hid (HRd.out.kept HBd.out)
        have HC9 := Lib.hid (HCd.out.trans (Chg.of (F := [gr]) HBd.out) (fun z hz => .inl hz))
        clear HRd HCd HKd HSQ HR HC
        go_wp2_with fail
        go_roundw
        case rel => exact ⟨i, hh, rfl, rfl, Lib.hid (by have := HI.out; have := HH.out; omega), Lib.hid ⟨HB.out.1, fun q x' hq hl => by
            have h9 := HO.out.get HXQ.out hq (by omega)
            have := HLT.out
            omega⟩, HR9, HC9⟩
        case measure => have := HIJ.out; have := HH.out; simp [intOf]; omega
      · have hc0 : ¬ cv < 0 := by rw [← hcv]; exact fun h => hlt ((cmpv_neg _ _).1 h)
        have HLT := Lib.hid (p := x.ck ≤ y.ck) (by omega)
        clear hlt
        go_upto_region 17 with fail
        have HSQ := Lib.hid (p := ∀ W, Below wo.drew.heap.size wo.drew W → W.rangeAt gr (m * 5) (ecs y) ∧ W.rangeAt gr (hh * 5) (ecs x)) (fun W hb => ⟨(HRd.out.kept hb).at_ HGa.out, (HRd.out.kept hb).at_ HGb.out⟩)
        refine wp_region_held_drew (S := fun W => W.rangeAt gr (m * 5) (ecs y) ∧ W.rangeAt gr (hh * 5) (ecs x)) (by kernel_rfl) (HSQ.out _ (Below.refl _ _)) (fun hHeld => ?_)
        refine wpAnyH_take (i := 0) (oi := ⟨some 92, .move (.tmp 4), _, _, _, _⟩) (v := .func (.func 71) #[] #[.pointer (some ⟨gk, 0, none⟩)]) rfl (by kernel_rfl) (by kernel_rfl) (by kernel_rfl) (fun _ _ _ h => h) (.inl ⟨by rfl, fun w hSw => by go_simp⟩) (by assumption) ?_
        simp only [Act.put, List.setIfInBounds_toArray, List.set_cons_zero, List.set_cons_succ]
        refine wpAnyH_take (i := 1) (oi := ⟨some 93, .move (.tmp 0), _, _, _, _⟩) (v := .slice (some ⟨gr, 0, none⟩) n cp) rfl (by kernel_rfl) (by kernel_rfl) (by kernel_rfl) (fun _ _ _ h => h) (.inl ⟨by rfl, fun w hSw => by go_simp⟩) (by assumption) ?_
        simp only [Act.put, List.setIfInBounds_toArray, List.set_cons_zero, List.set_cons_succ]
        refine wpAnyH_take (i := 2) (oi := ⟨some 94, .move (.tmp 2), _, _, _, _⟩) (v := .int .i64 (m : Int)) rfl (by kernel_rfl) (by kernel_rfl) (by kernel_rfl) (fun _ _ _ h => h) (.inl ⟨by rfl, fun w hSw => by go_simp⟩) (by assumption) ?_
        simp only [Act.put, List.setIfInBounds_toArray, List.set_cons_zero, List.set_cons_succ]
        refine wpAnyH_take (i := 3) (oi := ⟨some 95, .indexAddr 22 (.tmp 93) (.tmp 94), _, _, _, _⟩) (v := .pointer (some ⟨gr, m * 5, none⟩)) rfl (by kernel_rfl) (by kernel_rfl) (by kernel_rfl) (fun _ _ _ h => h) (.inl ⟨by rfl, fun w hSw => by go_simp⟩) (by assumption) ?_
        simp only [Act.put, List.setIfInBounds_toArray, List.set_cons_zero, List.set_cons_succ]
        refine wpAnyH_take (i := 4) (oi := ⟨some 96, .load 42 (.tmp 95), _, _, _, _⟩) (v := .agg (ecs y).toArray) rfl (by kernel_rfl) (by kernel_rfl) (by kernel_rfl) (fun _ _ _ h => h) (yieldsIf_load_mid (by rfl) 42 (.tmp 95) rfl gr (m * 5) rfl (ecs y) _ (fun w hSw => hSw.1) Tryd.underlying42 rfl (info_ent y)) (by assumption) ?_
        simp only [Act.put, List.setIfInBounds_toArray, List.set_cons_zero, List.set_cons_succ]
        refine wpAnyH_take (i := 5) (oi := ⟨some 97, .move (.tmp 0), _, _, _, _⟩) (v := .slice (some ⟨gr, 0, none⟩) n cp) rfl (by kernel_rfl) (by kernel_rfl) (by kernel_rfl) (fun _ _ _ h => h) (.inl ⟨by rfl, fun w hSw => by go_simp⟩) (by assumption) ?_
        simp only [Act.put, List.setIfInBounds_toArray, List.set_cons_zero, List.set_cons_succ]
        refine wpAnyH_take (i := 6) (oi := ⟨some 98, .move (.tmp 16), _, _, _, _⟩) (v := .int .i64 (hh : Int)) rfl (by kernel_rfl) (by kernel_rfl) (by kernel_rfl) (fun _ _ _ h => h) (.inl ⟨by rfl, fun w hSw => by go_simp⟩) (by assumption) ?_
        simp only [Act.put, List.setIfInBounds_toArray, List.set_cons_zero, List.set_cons_succ]
        refine wpAnyH_take (i := 7) (oi := ⟨some 99, .indexAddr 22 (.tmp 97) (.tmp 98), _, _, _, _⟩) (v := .pointer (some ⟨gr, hh * 5, none⟩)) rfl (by kernel_rfl) (by kernel_rfl) (by kernel_rfl) (fun _ _ _ h => h) (.inl ⟨by rfl, fun w hSw => by go_simp⟩) (by assumption) ?_
        simp only [Act.put, List.setIfInBounds_toArray, List.set_cons_zero, List.set_cons_succ]
        refine wpAnyH_take (i := 8) (oi := ⟨some 100, .load 42 (.tmp 99), _, _, _, _⟩) (v := .agg (ecs x).toArray) rfl (by kernel_rfl) (by kernel_rfl) (by kernel_rfl) (fun _ _ _ h => h) (yieldsIf_load_mid (by rfl) 42 (.tmp 99) rfl gr (hh * 5) rfl (ecs x) _ (fun w hSw => hSw.2) Tryd.underlying42 rfl (info_ent x)) (by assumption) ?_
        simp only [Act.put, List.setIfInBounds_toArray, List.set_cons_zero, List.set_cons_succ]
        refine wpAnyH_ready (rs := [9]) (by kernel_rfl) (by simp) ?_
        refine AllReadyH.cons (o := ⟨some 101, .call ⟨.value (.tmp 92), #[.tmp 96, .tmp 100], _⟩, _, _, _, _⟩) rfl (fun K hK => ?_) AllReadyH.nil
        go_simp
        go_at_call 71
        refine (bycmp_any y x gk _ HKd.out).mono ?_
        rintro e wd ⟨rfl, hb⟩
        rw [hcv]
        have HBd := Lib.hid hb
        clear hb
        refine hK.out _ _ (HSQ.out _ HBd.out) (fun _hc => ?_)
        clear hK K
        refine wpAnyH_take (i := 10) (oi := ⟨some 102, .binOp .lss 3 (.tmp 101) (.const (.int .i64 0)) 3, _, _, _, _⟩) (v := .bool false) rfl (by kernel_rfl) (by kernel_rfl) (by kernel_rfl) (fun _ _ _ h => h) (.inl ⟨by rfl, fun w hSw => by go_simp⟩) (by assumption) ?_
        simp only [Act.put, List.setIfInBounds_toArray, List.set_cons_zero, List.set_cons_succ]
        refine wpAnyH_take (i := 11) (oi := ⟨some 103, .unOp .not 4 (.tmp 102), _, _, _, _⟩) (v := .bool true) rfl (by kernel_rfl) (by kernel_rfl) (by kernel_rfl) (fun _ _ _ h => h) (.inl ⟨by rfl, fun w hSw => by go_simp⟩) (by assumption) ?_
        simp only [Act.put, List.setIfInBounds_toArray, List.set_cons_zero, List.set_cons_succ]
        refine wpAnyH_done (by kernel_rfl) ?_ _
        have HR9 := Lib.hid (HRd.out.kept HBd.out)
        have HC9 := Lib.hid (HCd.out.trans (Chg.of (F := [gr]) HBd.out) (fun z hz => .inl hz))
        clear HRd HCd HKd HSQ HR HC
        go_wp2_with fail
        go_roundw
        case rel => exact ⟨h1, j, rfl, rfl, Lib.hid (by have := HI.out; have := HH.out; have := HH1.out; omega), Lib.hid ⟨fun q x' hq hl => by
            have h9 := HO.out.get hq HXQ.out (by have := HI.out; have := HH1.out; omega)
            have := HLT.out
            omega, HB.out.2⟩, HR9, HC9⟩
        case measure => have := HIJ.out; have := HH.out; have := HH1.out; simp [intOf]; omega
    · have hiji : ¬ (i : Int) < (j : Int) := by omega
      have hije : i = j := by have := HI.out; omega
      subst hije
      clear hij
      go_wp2
      go_loopw [17] (fun u wr => ∃ (k : Nat) (A B : List Ent), u = .int .i64 (k : Int) ∧ Hid (X = A ++ B ∧ a + A.length = k ∧ i ≤ k) ∧ Hid (ER wr gr (P ++ (A ++ (y :: (B ++ S)))) Z) ∧ Hid (Chg [gr] w wr)) (fun u _ => (intOf u).toNat)
      case atStart => exact ⟨m, X, [], rfl, Lib.hid ⟨(List.append_nil _).symm, HX.out.2.1, HI.out.2.2⟩, Lib.hid (by have h9 := HR.out; rw [← HCUR.out] at h9; simpa only [List.nil_append] using h9), HC⟩
      case round =>
        clear HR HC
        obtain ⟨k, A, B, rfl, HA, HR, HC⟩ := hrel
        rename World => wo
        by_cases hki : i < k
        · have hkii : (i : Int) < (k : Int) := by omega
          obtain ⟨A', l, hA⟩ : ∃ A' l, A = A' ++ [l] := by
            rcases List.eq_nil_or_concat A with h9 | ⟨A', l, h9⟩
            · have h1 := HA.out.2.1
              rw [h9] at h1
              have h2 := HI.out
              simp at h1
              omega
            · exact ⟨A', l, by rw [h9, List.concat_eq_append]⟩
          obtain ⟨kp, hkp⟩ : ∃ kp, k - 1 = kp := ⟨_, rfl⟩
          have hkk : kp + 1 = k := by omega
          have hAl : a + A'.length = kp := by have h1 := HA.out.2.1; rw [hA, List.length_append, List.length_singleton] at h1; omega
          have hkw : IntKind.i64.wrap ((k : Int) - 1) = (kp : Int) := by rw [IntKind.wrap_i64]; have h1 := congrArg List.length HA.out.1; rw [List.length_append] at h1; have := HA.out; have := HX.out; omega
          obtain ⟨c2, hc2⟩ : ∃ c2, P ++ (A ++ (y :: (B ++ S))) = c2 := ⟨_, rfl⟩
          have hc3 : c2 = (P ++ A') ++ l :: (y :: (B ++ S)) := by rw [← hc2, hA]; simp only [List.append_assoc, List.cons_append, List.nil_append]
          have hPA : (P ++ A').length = kp := by rw [List.length_append, HX.out.1]; exact hAl
          have hlen : c2.length = n ∧ k < n := by
            have h1 := congrArg List.length HA.out.1
            have h3 := HX.out
            have h4 := HA.out
            rw [← hc2]
            simp only [List.length_append, List.length_cons] at h1 ⊢
            omega
          have hkn1 : (k : Int) < (n : Int) := by omega
          have hkn2 : (kp : Int) < (n : Int) := by omega
          have HGi := Lib.hid (p := c2[k]? = some y) (by rw [hc3, List.getElem?_append_right (by omega), hPA, show k - kp = 1 by omega]; rfl)
          have HGj := Lib.hid (p := c2[kp]? = some l) (by rw [hc3, List.getElem?_append_right (by omega), hPA, Nat.sub_self]; rfl)
          have HLi := Lib.hid (p := k < c2.length) (by omega)
          have HLj := Lib.hid (p := kp < c2.length) (by omega)
          have HSW := Lib.hid (p := swp c2 k kp y l = P ++ (A' ++ (y :: ((l :: B) ++ S)))) (by
            rw [hc3, swp_down (P ++ A') _ l y kp k hPA hkk]
            simp only [List.append_assoc, List.cons_append])
          have HAA := Lib.hid (p := A = A' ++ [l] ∧ kp + 1 = k ∧ a + A'.length = kp ∧ i ≤ kp) ⟨hA, hkk, hAl, by omega⟩
          rw [hc2] at HR
          have HRd := Lib.hid (HR.out.kept (below_drw wo))
          have HCd := Lib.hid (HC.out.drew)
          clear hA hkp hkk hAl hc2 hc3 hPA hlen hki
          go_upto_region 23 with fail
          refine wp_region_held_drew (S := fun _ => True) (by kernel_rfl) trivial (fun hHeld => ?_)
          refine wpAnyH_take (i := 0) (oi := ⟨some 113, .move (.tmp 0), _, _, _, _⟩) (v := .slice (some ⟨gr, 0, none⟩) n cp) rfl (by kernel_rfl) (by kernel_rfl) (by kernel_rfl) (fun _ _ _ h => h) (.inl ⟨by rfl, fun w hSw => by go_simp⟩) (by assumption) ?_
          simp only [Act.put, List.setIfInBounds_toArray, List.set_cons_zero, List.set_cons_succ]
          refine wpAnyH_take (i := 1) (oi := ⟨some 114, .move (.tmp 17), _, _, _, _⟩) (v := .int .i64 (k : Int)) rfl (by kernel_rfl) (by kernel_rfl) (by kernel_rfl) (fun _ _ _ h => h) (.inl ⟨by rfl, fun w hSw => by go_simp⟩) (by assumption) ?_
          simp only [Act.put, List.setIfInBounds_toArray, List.set_cons_zero, List.set_cons_succ]
          refine wpAnyH_take (i := 2) (oi := ⟨some 115, .move (.tmp 0), _, _, _, _⟩) (v := .slice (some ⟨gr, 0, none⟩) n cp) rfl (by kernel_rfl) (by kernel_rfl) (by kernel_rfl) (fun _ _ _ h => h) (.inl ⟨by rfl, fun w hSw => by go_simp⟩) (by assumption) ?_
          simp only [Act.put, List.setIfInBounds_toArray, List.set_cons_zero, List.set_cons_succ]
          refine wpAnyH_take (i := 3) (oi := ⟨some 116, .move (.tmp 17), _, _, _, _⟩) (v := .int .i64 (k : Int)) rfl (by kernel_rfl) (by kernel_rfl) (by kernel_rfl) (fun _ _ _ h => h) (.inl ⟨by rfl, fun w hSw => by go_simp⟩) (by assumption) ?_
          simp only [Act.put, List.setIfInBounds_toArray, List.set_cons_zero, List.set_cons_succ]
          refine wpAnyH_take (i := 4) (oi := ⟨some 117, .binOp .sub 3 (.tmp 116) (.const (.int .i64 1)) 3, _, _, _, _⟩) (v := .int .i64 (kp : Int)) rfl (by kernel_rfl) (by kernel_rfl) (by kernel_rfl) (fun _ _ _ h => h) (.inl ⟨by rfl, fun w hSw => by go_simp⟩) (by assumption) ?_
          simp only [Act.put, List.setIfInBounds_toArray, List.set_cons_zero, List.set_cons_succ]
          refine wpAnyH_take (i := 5) (oi := ⟨some 118, .move (.tmp 0), _, _, _, _⟩) (v := .slice (some ⟨gr, 0, none⟩) n cp) rfl (by kernel_rfl) (by kernel_rfl) (by kernel_rfl) (fun _ _ _ h => h) (.inl ⟨by rfl, fun w hSw => by go_simp⟩) (by assumption) ?_
          simp only [Act.put, List.setIfInBounds_toArray, List.set_cons_zero, List.set_cons_succ]
          refine wpAnyH_take (i := 6) (oi := ⟨some 119, .move (.tmp 17), _, _, _, _⟩) (v := .int .i64 (k : Int)) rfl (by kernel_rfl) (by kernel_rfl) (by kernel_rfl) (fun _ _ _ h => h) (.inl ⟨by rfl, fun w hSw => by go_simp⟩) (by assumption) ?_
          simp only [Act.put, List.setIfInBounds_toArray, List.set_cons_zero, List.set_cons_succ]
          refine wpAnyH_take (i := 7) (oi := ⟨some 120, .binOp .sub 3 (.tmp 119) (.const (.int .i64 1)) 3, _, _, _, _⟩) (v := .int .i64 (kp : Int)) rfl (by kernel_rfl) (by kernel_rfl) (by kernel_rfl) (fun _ _ _ h => h) (.inl ⟨by rfl, fun w hSw => by go_simp⟩) (by assumption) ?_
          simp only [Act.put, List.setIfInBounds_toArray, List.set_cons_zero, List.set_cons_succ]
          refine wpAnyH_take (i := 8) (oi := ⟨some 121, .indexAddr 22 (.tmp 118) (.tmp 120), _, _, _, _⟩) (v := .pointer (some ⟨gr, kp * 5, none⟩)) rfl (by kernel_rfl) (by kernel_rfl) (by kernel_rfl) (fun _ _ _ h => h) (.inl ⟨by rfl, fun w hSw => by go_simp⟩) (by assumption) ?_
          simp only [Act.put, List.setIfInBounds_toArray, List.set_cons_zero, List.set_cons_succ]
          refine wpAnyH_take (i := 10) (oi := ⟨some 123, .move (.tmp 0), _, _, _, _⟩) (v := .slice (some ⟨gr, 0, none⟩) n cp) rfl (by kernel_rfl) (by kernel_rfl) (by kernel_rfl) (fun _ _ _ h => h) (.inl ⟨by rfl, fun w hSw => by go_simp⟩) (by assumption) ?_
          simp only [Act.put, List.setIfInBounds_toArray, List.set_cons_zero, List.set_cons_succ]
          refine wpAnyH_take (i := 11) (oi := ⟨some 124, .move (.tmp 17), _, _, _, _⟩) (v := .int .i64 (k : Int)) rfl (by kernel_rfl) (by kernel_rfl) (by kernel_rfl) (fun _ _ _ h => h) (.inl ⟨by rfl, fun w hSw => by go_simp⟩) (by assumption) ?_
          simp only [Act.put, List.setIfInBounds_toArray, List.set_cons_zero, List.set_cons_succ]
          refine wpAnyH_take (i := 12) (oi := ⟨some 125, .indexAddr 22 (.tmp 123) (.tmp 124), _, _, _, _⟩) (v := .pointer (some ⟨gr, k * 5, none⟩)) rfl (by kernel_rfl) (by kernel_rfl) (by kernel_rfl) (fun _ _ _ h => h) (.inl ⟨by rfl, fun w hSw => by go_simp⟩) (by assumption) ?_
          simp only [Act.put, List.setIfInBounds_toArray, List.set_cons_zero, List.set_cons_succ]
          refine wpAnyH_ready (rs := [9, 13]) (by kernel_rfl) (by simp) ?_
          refine AllReadyH.cons (o := ⟨some 122, .load 42 (.tmp 121), _, _, _, _⟩) rfl (fun K hK => ?_) (AllReadyH.cons (o := ⟨some 126, .load 42 (.tmp 125), _, _, _, _⟩) rfl (fun K hK => ?_) AllReadyH.nil)
          · skip
            refine st_load_ent (by rfl) (.tmp 121) rfl gr kp rfl c2 Z l HRd.out HGj.out ?_
            refine hK.out _ _ trivial (fun _hs => ?_)
            clear hK K
            refine wpAnyH_ready (rs := [13]) (by kernel_rfl) (by simp) ?_
            refine AllReadyH.cons (o := ⟨some 126, .load 42 (.tmp 125), _, _, _, _⟩) rfl (fun K hK => ?_) AllReadyH.nil
            refine st_load_ent (by rfl) (.tmp 125) rfl gr k rfl c2 Z y HRd.out HGi.out ?_
            refine hK.out _ _ trivial (fun _hs => ?_)
            clear hK K
            refine wpAnyH_take (i := 14) (oi := ⟨some 127, .indexAddr 22 (.tmp 113) (.tmp 114), _, _, _, _⟩) (v := .pointer (some ⟨gr, k * 5, none⟩)) rfl (by kernel_rfl) (by kernel_rfl) (by kernel_rfl) (fun _ _ _ h => h) (.inl ⟨by rfl, fun w hSw => by go_simp⟩) (by assumption) ?_
            simp only [Act.put, List.setIfInBounds_toArray, List.set_cons_zero, List.set_cons_succ]
            refine wpAnyH_ready (rs := [15]) (by kernel_rfl) (by simp) ?_
            refine AllReadyH.cons (o := ⟨none, .store 42 (.tmp 127) (.tmp 122), _, _, _, _⟩) rfl (fun K hK => ?_) AllReadyH.nil
            refine st_put_ent (by rfl) (.tmp 127) (.tmp 122) rfl gr k rfl l rfl c2 Z HRd.out HLi.out ?_
            intro w2 hr2 hg2
            have HR2 := Lib.hid hr2
            have HC2 := Lib.hid (HCd.out.trans (Chg.one hg2) (fun z hz => .inl hz))
            clear hr2 hg2
            refine hK.out _ _ trivial (fun _hs => ?_)
            clear hK K
            refine wpAnyH_take (i := 16) (oi := ⟨some 128, .indexAddr 22 (.tmp 115) (.tmp 117), _, _, _, _⟩) (v := .pointer (some ⟨gr, kp * 5, none⟩)) rfl (by kernel_rfl) (by kernel_rfl) (by kernel_rfl) (fun _ _ _ h => h) (.inl ⟨by rfl, fun w hSw => by go_simp⟩) (by assumption) ?_
            simp only [Act.put, List.setIfInBounds_toArray, List.set_cons_zero, List.set_cons_succ]
            refine wpAnyH_ready (rs := [17]) (by kernel_rfl) (by simp) ?_
            refine AllReadyH.cons (o := ⟨none, .store 42 (.tmp 128) (.tmp 126), _, _, _, _⟩) rfl (fun K hK => ?_) AllReadyH.nil
            refine st_put_ent (by rfl) (.tmp 128) (.tmp 126) rfl gr kp rfl y rfl _ Z HR2.out (by rw [List.length_set]; exact HLj.out) ?_
            intro w3 hr2 hg2
            have HR3 := Lib.hid (p := ER w3 gr (swp c2 k kp y l) Z) hr2
            have HC3 := Lib.hid (HC2.out.trans (Chg.one hg2) (fun z hz => .inl hz))
            clear hr2 hg2
            refine hK.out _ _ trivial (fun _hs => ?_)
            clear hK K
            refine wpAnyH_done (by kernel_rfl) ?_ _
            go_wp2_with fail
            go_roundw
            case rel => exact ⟨kp, A', l :: B, rfl, Lib.hid ⟨by rw [HA.out.1, HAA.out.1]; simp only [List.append_assoc, List.cons_append, List.nil_append], HAA.out.2.2.1, HAA.out.2.2.2⟩, Lib.hid (by rw [← HSW.out]; exact HR3.out), HC3⟩
            case measure => have := HAA.out; simp [intOf]; omega
          · skip
            refine st_load_ent (by rfl) (.tmp 125) rfl gr k rfl c2 Z y HRd.out HGi.out ?_
            refine hK.out _ _ trivial (fun _hs => ?_)
            clear hK K
            refine wpAnyH_ready (rs := [9]) (by kernel_rfl) (by simp) ?_
            refine AllReadyH.cons (o := ⟨some 122, .load 42 (.tmp 121), _, _, _, _⟩) rfl (fun K hK => ?_) AllReadyH.nil
            refine st_load_ent (by rfl) (.tmp 121) rfl gr kp rfl c2 Z l HRd.out HGj.out ?_
            refine hK.out _ _ trivial (fun _hs => ?_)
            clear hK K
            refine wpAnyH_take (i := 14) (oi := ⟨some 127, .indexAddr 22 (.tmp 113) (.tmp 114), _, _, _, _⟩) (v := .pointer (some ⟨gr, k * 5, none⟩)) rfl (by kernel_rfl) (by kernel_rfl) (by kernel_rfl) (fun _ _ _ h => h) (.inl ⟨by rfl, fun w hSw => by go_simp⟩) (by assumption) ?_
            simp only [Act.put, List.setIfInBounds_toArray, List.set_cons_zero, List.set_cons_succ]
            refine wpAnyH_ready (rs := [15]) (by kernel_rfl) (by simp) ?_
            refine AllReadyH.cons (o := ⟨none, .store 42 (.tmp 127) (.tmp 122), _, _, _, _⟩) rfl (fun K hK => ?_) AllReadyH.nil
            refine st_put_ent (by rfl) (.tmp 127) (.tmp 122) rfl gr k rfl l rfl c2 Z HRd.out HLi.out ?_
            intro w2 hr2 hg2
            have HR2 := Lib.hid hr2
            have HC2 := Lib.hid (HCd.out.trans (Chg.one hg2) (fun z hz => .inl hz))
            clear hr2 hg2
            refine hK.out _ _ trivial (fun _hs => ?_)
            clear hK K
            refine wpAnyH_take (i := 16) (oi := ⟨some 128, .indexAddr 22 (.tmp 115) (.tmp 117), _, _, _, _⟩) (v := .pointer (some ⟨gr, kp * 5, none⟩)) rfl (by kernel_rfl) (by kernel_rfl) (by kernel_rfl) (fun _ _ _ h => h) (.inl ⟨by rfl, fun w hSw => by go_simp⟩) (by assumption) ?_
            simp only [Act.put, List.setIfInBounds_toArray, List.set_cons_zero, List.set_cons_succ]
            refine wpAnyH_ready (rs := [17]) (by kernel_rfl) (by simp) ?_
            refine AllReadyH.cons (o := ⟨none, .store 42 (.tmp 128) (.tmp 126), _, _, _, _⟩) rfl (fun K hK => ?_) AllReadyH.nil
            refine st_put_ent (by rfl) (.tmp 128) (.tmp 126) rfl gr kp rfl y rfl _ Z HR2.out (by rw [List.length_set]; exact HLj.out) ?_
            intro w3 hr2 hg2
            have HR3 := Lib.hid (p := ER w3 gr (swp c2 k kp y l) Z) hr2
            have HC3 := Lib.hid (HC2.out.trans (Chg.one hg2) (fun z hz => .inl hz))
            clear hr2 hg2
            refine hK.out _ _ trivial (fun _hs => ?_)
            clear hK K
            refine wpAnyH_done (by kernel_rfl) ?_ _
            go_wp2_with fail
            go_roundw
            case rel => exact ⟨kp, A', l :: B, rfl, Lib.hid ⟨by rw [HA.out.1, HAA.out.1]; simp only [List.append_assoc, List.cons_append, List.nil_append], HAA.out.2.2.1, HAA.out.2.2.2⟩, Lib.hid (by rw [← HSW.out]; exact HR3.out), HC3⟩
            case measure => have := HAA.out; simp [intOf]; omega
        · have hkii : ¬ (i : Int) < (k : Int) := by omega
          have hke : i = k := by have := HA.out; omega
          subst hke
          clear hki
          go_wp2
          go_end0
          have hle : (∀ x ∈ A, x.ck ≤ y.ck) ∧ ∀ x ∈ B, y.ck < x.ck := ⟨fun x hx => by
            obtain ⟨q, hq⟩ := List.mem_iff_getElem?.1 hx
            have hql := (List.getElem?_eq_some_iff.1 hq).1
            exact HB.out.1 q x (by rw [HA.out.1, List.getElem?_append_left hql]; exact hq) (by have := HA.out; omega), fun x hx => by
            obtain ⟨q, hq⟩ := List.mem_iff_getElem?.1 hx
            exact HB.out.2 (A.length + q) x (by rw [HA.out.1, List.getElem?_append_right (by omega), Nat.add_sub_cancel_left]; exact hq) (by have := HA.out; omega)⟩
          refine ⟨rfl, A ++ y :: B, ?_, ?_, ?_, HC.out⟩
          · have h9 := HR.out
            simpa only [List.append_assoc, List.cons_append] using h9
          · have h9 := HO.out
            rw [HA.out.1] at h9
            exact ord_ins h9 hle.2 hle.1
          · rw [HA.out.1]
            exact SameK.ins (fun z hz h => by have := hle.2 z hz; omega)
end Go.Proofs.YtijffkklhgnknaaDoor
