/- A run of a row's entries, put in order one by one: insertionSort. Conditions: the closure's key lies there. -/
import Derived.Test.YtijffkklhgnknaaDoorQi
set_option linter.unusedVariables false
set_option maxRecDepth 20000
namespace Go.Proofs.YtijffkklhgnknaaDoor
open Go.RowKit

theorem swp_down (A B : List Ent) (l e : Ent) (i j : Nat) (hi : A.length = i) (hj : i + 1 = j) : swp (A ++ l :: (e :: B)) j i e l = A ++ e :: (l :: B) := by
  subst hi hj
  unfold swp
  rw [List.set_append_right _ _ (by omega), show A.length + 1 - A.length = 1 by omega, List.set_cons_succ, List.set_cons_zero, List.set_append_right _ _ (Nat.le_refl _), Nat.sub_self, List.set_cons_zero]
/-- What an order's step leaves. -/
theorem ord_ins {L R : List Ent} {e : Ent} (h : Ord Ent.ck (L ++ R)) (hR : ∀ x ∈ R, e.ck < x.ck) (hL : ∀ x ∈ L, x.ck ≤ e.ck) : Ord Ent.ck (L ++ e :: R) := by
  refine h.left.app (List.pairwise_cons.2 ⟨fun x hx => Nat.le_of_lt (hR x hx), h.right⟩) (fun x hx y hy => ?_)
  rcases List.mem_cons.1 hy with e1 | e1
  · rw [e1]; exact hL x hx
  · exact Nat.le_trans (hL x hx) (Nat.le_of_lt (hR y e1))
set_option maxHeartbeats 8000000 in
theorem insertion_any (gr gk n cp a b : Nat) (P X S : List Ent) (Z : List Value) (hP : P.length = a) (hX : a + X.length = b) (hn : b + S.length = n) (hmax : n ≤ 1000000) (w : World) (hk : w.cell? ⟨gk, 0, none⟩ = some (.func (.func 55) #[] #[])) (hkr : gk ≠ gr)
    (h : ER w gr (P ++ (X ++ S)) Z) : Calls Tryd.prog 85 #[.slice (some ⟨gr, 0, none⟩) n cp, .int .i64 (a : Int), .int .i64 (b : Int), .func (.func 71) #[] #[.pointer (some ⟨gk, 0, none⟩)]] w fun e w' => e = .returned (.tuple #[]) ∧ ∃ X', ER w' gr (P ++ (X' ++ S)) Z ∧ Ord Ent.ck X' ∧ SameK Ent.ck X X' ∧ Chg [gr] w w' := by
  have H := Lib.hid h
  have HK := Lib.hid (And.intro hk hkr)
  have HX := Lib.hid (p := P.length = a ∧ a + X.length = b ∧ b + S.length = n ∧ n ≤ 1000000) ⟨hP, hX, hn, hmax⟩
  have haw : IntKind.i64.wrap ((a : Int) + 1) = ((a + 1 : Nat) : Int) := by rw [IntKind.wrap_i64]; omega
  obtain ⟨a1, ha1⟩ : ∃ a1, a + 1 = a1 := ⟨_, rfl⟩
  rw [ha1] at haw
  have HA1 := Lib.hid ha1
  clear h hk hkr hP hX hn hmax ha1
  by_cases h0 : X.length = 0
  · have hno : ¬ (a1 : Int) < (b : Int) := by have := HX.out; have := HA1.out; omega
    go_enter Tryd.func85, Tryd.ntmps85
    go_wp2
    go_loopw [8] (fun x wr => x = .int .i64 (a1 : Int) ∧ wr = w) (fun _ _ => 0)
    case atStart => exact ⟨rfl, rfl⟩
    case round =>
      obtain ⟨rfl, rfl⟩ := hrel
      go_wp2
      go_end0
      refine ⟨rfl, X, H.out, ?_, SameK.refl _, Chg.refl _ _⟩
      rw [List.eq_nil_of_length_eq_zero h0]
      exact Ord.nil
  have H0 := Lib.hid (p := 0 < X.length) (by omega)
  clear h0
  go_enter Tryd.func85, Tryd.ntmps85
  go_wp2
  go_loopw [8] (fun x wr => ∃ (i c : Nat) (X1 : List Ent), x = .int .i64 (i : Int) ∧ Hid (i = a + c ∧ 1 ≤ c ∧ c ≤ X.length ∧ X1.length = c) ∧ Hid (Ord Ent.ck X1 ∧ SameK Ent.ck (X.take c) X1) ∧ Hid (ER wr gr (P ++ (X1 ++ (X.drop c ++ S))) Z) ∧ Hid (Chg [gr] w wr)) (fun x _ => b - (intOf x).toNat)
  case atStart =>
    refine ⟨a1, 1, X.take 1, rfl, Lib.hid ⟨HA1.out.symm, Nat.le_refl _, H0.out, by rw [List.length_take]; have := H0.out; omega⟩, Lib.hid ⟨?_, SameK.refl _⟩, Lib.hid ?_, Lib.hid (Chg.refl _ _)⟩
    · cases hx : X with
      | nil => exact Ord.nil
      | cons x t => exact Ord.one x
    · have h1 := H.out
      have h2 : X.take 1 ++ (X.drop 1 ++ S) = X ++ S := by rw [← List.append_assoc, List.take_append_drop]
      rw [h2]
      exact h1
  case round =>
    clear H haw
    obtain ⟨i, c, X1, rfl, HI, HO, HR, HC⟩ := hrel
    rename World => wi
    by_cases hi : i < b
    · have hii : (i : Int) < (b : Int) := by omega
      obtain ⟨i1, hi1⟩ : ∃ i1, i + 1 = i1 := ⟨_, rfl⟩
      have hiw : IntKind.i64.wrap ((i : Int) + 1) = (i1 : Int) := by rw [IntKind.wrap_i64]; have := HX.out; omega
      have HI1 := Lib.hid (And.intro hi1 hi)
      have hcx : c < X.length := by have := HI.out; have := HX.out; omega
      obtain ⟨e, he⟩ : ∃ e, X[c]? = some e := ⟨_, List.getElem?_eq_getElem hcx⟩
      have hd : X.drop c = e :: X.drop (c + 1) := by
        rw [← List.getElem_cons_drop hcx]
        have h9 : X[c] = e := (List.getElem?_eq_some_iff.1 he).2
        rw [h9]
      have htk : X.take (c + 1) = X.take c ++ [e] := by
        have h9 : X[c] = e := (List.getElem?_eq_some_iff.1 he).2
        rw [List.take_succ_eq_append_getElem hcx, h9]
      have HTK := Lib.hid htk
      rw [hd] at HR
      have HCX := Lib.hid hcx
      clear hi1 hi hcx he hd htk
      go_wp2
      go_loopw [9] (fun x wr => ∃ (j : Nat) (L R : List Ent), x = .int .i64 (j : Int) ∧ Hid (a + L.length = j ∧ X1 = L ++ R) ∧ Hid (∀ y ∈ R, e.ck < y.ck) ∧ Hid (ER wr gr (P ++ (L ++ (e :: (R ++ (X.drop (c + 1) ++ S))))) Z) ∧ Hid (Chg [gr] w wr)) (fun x _ => (intOf x).toNat)
      case atStart => exact ⟨i, X1, [], rfl, Lib.hid ⟨by have := HI.out; omega, (List.append_nil _).symm⟩, Lib.hid (fun _ h => by cases h), Lib.hid (by rw [List.nil_append, ← List.cons_append]; exact HR.out), HC⟩
      case round =>
        clear HR HC
        obtain ⟨j, L, R, rfl, HL, HRR, HR, HC⟩ := hrel
        rename World => wo
        have HRd := Lib.hid (HR.out.kept (below_drw wo))
        have HCd := Lib.hid (HC.out.drew)
        have HKd := Lib.hid ((HCd.out.cell HK.out.1 (by simp; exact HK.out.2)))
        obtain ⟨cur, hcur⟩ : ∃ cur, P ++ (L ++ (e :: (R ++ (X.drop (c + 1) ++ S)))) = cur := ⟨_, rfl⟩
        have hout : ∀ wz, ER wz gr cur Z → (∀ x ∈ L, x.ck ≤ e.ck) → ER wz gr (P ++ ((L ++ e :: R) ++ (X.drop (c + 1) ++ S))) Z ∧ Ord Ent.ck (L ++ e :: R) ∧ SameK Ent.ck (X.take (c + 1)) (L ++ e :: R) ∧ (L ++ e :: R).length = c + 1 := fun wz hz hle => by
          refine ⟨?_, ?_, ?_, ?_⟩
          · rw [← hcur] at hz
            simpa only [List.append_assoc, List.cons_append] using hz
          · have h1 := HO.out.1
            rw [HL.out.2] at h1
            exact ord_ins h1 HRR.out hle
          · rw [HTK.out]
            have h1 := HO.out.2.app (SameK.refl [e])
            rw [HL.out.2] at h1
            exact h1.trans (SameK.ins (fun y hy h9 => by have := HRR.out y hy; omega))
          · have h1 := HI.out.2.2.2
            rw [HL.out.2] at h1
            simp only [List.length_append, List.length_cons] at h1 ⊢
            omega
        have HOUT := Lib.hid hout
        rw [hcur] at HR HRd
        clear hout
        by_cases hj : a < j
        · have hji : (a : Int) < (j : Int) := by omega
          obtain ⟨L', l, hLl⟩ : ∃ L' l, L = L' ++ [l] := by
            rcases List.eq_nil_or_concat L with h9 | ⟨L', l, h9⟩
            · exact absurd (by rw [h9] at HL; have := HL.out.1; simp at this; omega) (Nat.lt_irrefl a ∘ fun h => h)
            · exact ⟨L', l, by rw [h9, List.concat_eq_append]⟩
          obtain ⟨jp, hjp⟩ : ∃ jp, j - 1 = jp := ⟨_, rfl⟩
          have hlen : a + L'.length = jp ∧ jp + 1 = j := by
            have h1 := HL.out.1
            rw [hLl, List.length_append, List.length_singleton] at h1
            omega
          have hcur2 : cur = (P ++ L') ++ l :: (e :: (R ++ (X.drop (c + 1) ++ S))) := by rw [← hcur, hLl]; simp only [List.append_assoc, List.cons_append, List.nil_append]
          have hPL : (P ++ L').length = jp := by rw [List.length_append, HX.out.1]; exact hlen.1
          have hjn : j < cur.length ∧ cur.length = n := by
            have h1 := HI.out
            have h2 := HX.out
            have h3 := HCX.out
            have h4 := HL.out
            have h5 := congrArg List.length h4.2
            rw [← hcur]
            simp only [List.length_append, List.length_cons, List.length_drop] at h5 ⊢
            omega
          have hjn1 : (j : Int) < (n : Int) := by omega
          have hjn2 : (jp : Int) < (n : Int) := by omega
          have hjw : IntKind.i64.wrap ((j : Int) - 1) = (jp : Int) := by rw [IntKind.wrap_i64]; have := HX.out; omega
          have HGa := Lib.hid (p := cur[j]? = some e) (by rw [hcur2, List.getElem?_append_right (by omega), hPL, show j - jp = 1 by omega]; rfl)
          have HGb := Lib.hid (p := cur[jp]? = some l) (by rw [hcur2, List.getElem?_append_right (by omega), hPL, Nat.sub_self]; rfl)
          have HLi := Lib.hid (p := j < cur.length) hjn.1
          have HLj := Lib.hid (p := jp < cur.length) (by omega)
          have HSW := Lib.hid (p := swp cur j jp e l = P ++ (L' ++ (e :: ((l :: R) ++ (X.drop (c + 1) ++ S))))) (by
            rw [hcur2, swp_down (P ++ L') _ l e jp j hPL hlen.2]
            simp only [List.append_assoc, List.cons_append])
          have HLL := Lib.hid (p := a + L'.length = jp ∧ jp + 1 = j ∧ L = L' ++ [l]) ⟨hlen.1, hlen.2, hLl⟩
          clear hj hLl hjp hlen hcur2 hPL hjn hcur
          obtain ⟨cv, hcv⟩ : ∃ cv, cmpv e.ck l.ck = cv := ⟨_, rfl⟩
          by_cases hlt : e.ck < l.ck
          · have hc0 : cv < 0 := by rw [← hcv]; exact (cmpv_neg _ _).2 hlt
            have HLT := Lib.hid hlt
            clear hlt
            go_upto_region 4 with fail
            have HSQ := Lib.hid (p := ∀ W, Below wo.drew.heap.size wo.drew W → W.rangeAt gr (j * 5) (ecs e) ∧ W.rangeAt gr (jp * 5) (ecs l)) (fun W hb => ⟨(HRd.out.kept hb).at_ HGa.out, (HRd.out.kept hb).at_ HGb.out⟩)
            refine wp_region_held_drew (S := fun W => W.rangeAt gr (j * 5) (ecs e) ∧ W.rangeAt gr (jp * 5) (ecs l)) (by kernel_rfl) (HSQ.out _ (Below.refl _ _)) (fun hHeld => ?_)
            refine wpAnyH_take (i := 0) (oi := ⟨some 18, .move (.tmp 9), _, _, _, _⟩) (v := .int .i64 (j : Int)) rfl (by kernel_rfl) (by kernel_rfl) (by kernel_rfl) (fun _ _ _ h => h) (.inl ⟨by rfl, fun w hSw => by go_simp⟩) (by assumption) ?_
            simp only [Act.put, List.setIfInBounds_toArray, List.set_cons_zero, List.set_cons_succ]
            refine wpAnyH_take (i := 1) (oi := ⟨some 19, .move (.tmp 1), _, _, _, _⟩) (v := .int .i64 (a : Int)) rfl (by kernel_rfl) (by kernel_rfl) (by kernel_rfl) (fun _ _ _ h => h) (.inl ⟨by rfl, fun w hSw => by go_simp⟩) (by assumption) ?_
            simp only [Act.put, List.setIfInBounds_toArray, List.set_cons_zero, List.set_cons_succ]
            refine wpAnyH_take (i := 2) (oi := ⟨some 20, .binOp .gtr 3 (.tmp 18) (.tmp 19) 3, _, _, _, _⟩) (v := .bool true) rfl (by kernel_rfl) (by kernel_rfl) (by kernel_rfl) (fun _ _ _ h => h) (.inl ⟨by rfl, fun w hSw => by go_simp⟩) (by assumption) ?_
            simp only [Act.put, List.setIfInBounds_toArray, List.set_cons_zero, List.set_cons_succ]
            refine wpAnyH_take (i := 3) (oi := ⟨some 21, .move (.tmp 20), _, _, _, _⟩) (v := .bool true) rfl (by kernel_rfl) (by kernel_rfl) (by kernel_rfl) (fun _ _ _ h => h) (.inl ⟨by rfl, fun w hSw => by go_simp⟩) (by assumption) ?_
            simp only [Act.put, List.setIfInBounds_toArray, List.set_cons_zero, List.set_cons_succ]
            refine wpAnyH_take (i := 4) (oi := ⟨some 22, .move (.tmp 3), _, _, _, _⟩) (v := .func (.func 71) #[] #[.pointer (some ⟨gk, 0, none⟩)]) rfl (by kernel_rfl) (by kernel_rfl) (by kernel_rfl) (fun _ _ _ h => h) (.inl ⟨by rfl, fun w hSw => by go_simp⟩) (by assumption) ?_
            simp only [Act.put, List.setIfInBounds_toArray, List.set_cons_zero, List.set_cons_succ]
            refine wpAnyH_take (i := 5) (oi := ⟨some 23, .move (.tmp 0), _, _, _, _⟩) (v := .slice (some ⟨gr, 0, none⟩) n cp) rfl (by kernel_rfl) (by kernel_rfl) (by kernel_rfl) (fun _ _ _ h => h) (.inl ⟨by rfl, fun w hSw => by go_simp⟩) (by assumption) ?_
            simp only [Act.put, List.setIfInBounds_toArray, List.set_cons_zero, List.set_cons_succ]
            refine wpAnyH_take (i := 6) (oi := ⟨some 24, .move (.tmp 9), _, _, _, _⟩) (v := .int .i64 (j : Int)) rfl (by kernel_rfl) (by kernel_rfl) (by kernel_rfl) (fun _ _ _ h => h) (.inl ⟨by rfl, fun w hSw => by go_simp⟩) (by assumption) ?_
            simp only [Act.put, List.setIfInBounds_toArray, List.set_cons_zero, List.set_cons_succ]
            refine wpAnyH_take (i := 7) (oi := ⟨some 25, .indexAddr 22 (.tmp 23) (.tmp 24), _, _, _, _⟩) (v := .pointer (some ⟨gr, j * 5, none⟩)) rfl (by kernel_rfl) (by kernel_rfl) (by kernel_rfl) (fun _ _ _ h => h) (.inl ⟨by rfl, fun w hSw => by go_simp⟩) (by assumption) ?_
            simp only [Act.put, List.setIfInBounds_toArray, List.set_cons_zero, List.set_cons_succ]
            refine wpAnyH_take (i := 8) (oi := ⟨some 26, .load 42 (.tmp 25), _, _, _, _⟩) (v := .agg (ecs e).toArray) rfl (by kernel_rfl) (by kernel_rfl) (by kernel_rfl) (fun _ _ _ h => h) (yieldsIf_load_mid (by rfl) 42 (.tmp 25) rfl gr (j * 5) rfl (ecs e) _ (fun w hSw => hSw.1) Tryd.underlying42 rfl (info_ent e)) (by assumption) ?_
            simp only [Act.put, List.setIfInBounds_toArray, List.set_cons_zero, List.set_cons_succ]
            refine wpAnyH_take (i := 9) (oi := ⟨some 27, .move (.tmp 0), _, _, _, _⟩) (v := .slice (some ⟨gr, 0, none⟩) n cp) rfl (by kernel_rfl) (by kernel_rfl) (by kernel_rfl) (fun _ _ _ h => h) (.inl ⟨by rfl, fun w hSw => by go_simp⟩) (by assumption) ?_
            simp only [Act.put, List.setIfInBounds_toArray, List.set_cons_zero, List.set_cons_succ]
            refine wpAnyH_take (i := 10) (oi := ⟨some 28, .move (.tmp 9), _, _, _, _⟩) (v := .int .i64 (j : Int)) rfl (by kernel_rfl) (by kernel_rfl) (by kernel_rfl) (fun _ _ _ h => h) (.inl ⟨by rfl, fun w hSw => by go_simp⟩) (by assumption) ?_
            simp only [Act.put, List.setIfInBounds_toArray, List.set_cons_zero, List.set_cons_succ]
            refine wpAnyH_take (i := 11) (oi := ⟨some 29, .binOp .sub 3 (.tmp 28) (.const (.int .i64 1)) 3, _, _, _, _⟩) (v := .int .i64 (jp : Int)) rfl (by kernel_rfl) (by kernel_rfl) (by kernel_rfl) (fun _ _ _ h => h) (.inl ⟨by rfl, fun w hSw => by go_simp⟩) (by assumption) ?_
            simp only [Act.put, List.setIfInBounds_toArray, List.set_cons_zero, List.set_cons_succ]
            refine wpAnyH_take (i := 12) (oi := ⟨some 30, .indexAddr 22 (.tmp 27) (.tmp 29), _, _, _, _⟩) (v := .pointer (some ⟨gr, jp * 5, none⟩)) rfl (by kernel_rfl) (by kernel_rfl) (by kernel_rfl) (fun _ _ _ h => h) (.inl ⟨by rfl, fun w hSw => by go_simp⟩) (by assumption) ?_
            simp only [Act.put, List.setIfInBounds_toArray, List.set_cons_zero, List.set_cons_succ]
            refine wpAnyH_take (i := 13) (oi := ⟨some 31, .load 42 (.tmp 30), _, _, _, _⟩) (v := .agg (ecs l).toArray) rfl (by kernel_rfl) (by kernel_rfl) (by kernel_rfl) (fun _ _ _ h => h) (yieldsIf_load_mid (by rfl) 42 (.tmp 30) rfl gr (jp * 5) rfl (ecs l) _ (fun w hSw => hSw.2) Tryd.underlying42 rfl (info_ent l)) (by assumption) ?_
            simp only [Act.put, List.setIfInBounds_toArray, List.set_cons_zero, List.set_cons_succ]
            refine wpAnyH_ready (rs := [14]) (by kernel_rfl) (by simp) ?_
            refine AllReadyH.cons (o := ⟨some 32, .call ⟨.value (.tmp 22), #[.tmp 26, .tmp 31], _⟩, _, _, _, _⟩) rfl (fun K hK => ?_) AllReadyH.nil
            go_simp
            go_at_call 71
            refine (bycmp_any e l gk _ HKd.out).mono ?_
            rintro e wd ⟨rfl, hb⟩
            rw [hcv]
            have HBd := Lib.hid hb
            clear hb
            refine hK.out _ _ (HSQ.out _ HBd.out) (fun _hc => ?_)
            clear hK K
            refine wpAnyH_take (i := 15) (oi := ⟨some 33, .binOp .lss 3 (.tmp 32) (.const (.int .i64 0)) 3, _, _, _, _⟩) (v := .bool true) rfl (by kernel_rfl) (by kernel_rfl) (by kernel_rfl) (fun _ _ _ h => h) (.inl ⟨by rfl, fun w hSw => by go_simp⟩) (by assumption) ?_
            simp only [Act.put, List.setIfInBounds_toArray, List.set_cons_zero, List.set_cons_succ]
            refine wpAnyH_take (i := 16) (oi := ⟨some 34, .pick (.tmp 21) (.tmp 33) (.const (.bool false)), _, _, _, _⟩) (v := .bool true) rfl (by kernel_rfl) (by kernel_rfl) (by kernel_rfl) (fun _ _ _ h => h) (.inl ⟨by rfl, fun w hSw => by go_simp⟩) (by assumption) ?_
            simp only [Act.put, List.setIfInBounds_toArray, List.set_cons_zero, List.set_cons_succ]
            refine wpAnyH_done (by kernel_rfl) ?_ _
            have HR4 := Lib.hid (HRd.out.kept HBd.out)
            have HC4 := Lib.hid (HCd.out.trans (Chg.of (F := [gr]) HBd.out) (fun z hz => .inl hz))
            clear HRd HCd HKd HSQ HR HC
            go_upto_region 6 with fail
            have HRd := Lib.hid (HR4.out.kept (below_drw wd))
            have HCd := Lib.hid (HC4.out.drew)
            have HGi := HGa
            have HGj := HGb
            refine wp_region_held_drew (S := fun _ => True) (by kernel_rfl) trivial (fun hHeld => ?_)
            refine wpAnyH_take (i := 0) (oi := ⟨some 37, .move (.tmp 0), _, _, _, _⟩) (v := .slice (some ⟨gr, 0, none⟩) n cp) rfl (by kernel_rfl) (by kernel_rfl) (by kernel_rfl) (fun _ _ _ h => h) (.inl ⟨by rfl, fun w hSw => by go_simp⟩) (by assumption) ?_
            simp only [Act.put, List.setIfInBounds_toArray, List.set_cons_zero, List.set_cons_succ]
            refine wpAnyH_take (i := 1) (oi := ⟨some 38, .move (.tmp 9), _, _, _, _⟩) (v := .int .i64 (j : Int)) rfl (by kernel_rfl) (by kernel_rfl) (by kernel_rfl) (fun _ _ _ h => h) (.inl ⟨by rfl, fun w hSw => by go_simp⟩) (by assumption) ?_
            simp only [Act.put, List.setIfInBounds_toArray, List.set_cons_zero, List.set_cons_succ]
            refine wpAnyH_take (i := 2) (oi := ⟨some 39, .move (.tmp 0), _, _, _, _⟩) (v := .slice (some ⟨gr, 0, none⟩) n cp) rfl (by kernel_rfl) (by kernel_rfl) (by kernel_rfl) (fun _ _ _ h => h) (.inl ⟨by rfl, fun w hSw => by go_simp⟩) (by assumption) ?_
            simp only [Act.put, List.setIfInBounds_toArray, List.set_cons_zero, List.set_cons_succ]
            refine wpAnyH_take (i := 3) (oi := ⟨some 40, .move (.tmp 9), _, _, _, _⟩) (v := .int .i64 (j : Int)) rfl (by kernel_rfl) (by kernel_rfl) (by kernel_rfl) (fun _ _ _ h => h) (.inl ⟨by rfl, fun w hSw => by go_simp⟩) (by assumption) ?_
            simp only [Act.put, List.setIfInBounds_toArray, List.set_cons_zero, List.set_cons_succ]
            refine wpAnyH_take (i := 4) (oi := ⟨some 41, .binOp .sub 3 (.tmp 40) (.const (.int .i64 1)) 3, _, _, _, _⟩) (v := .int .i64 (jp : Int)) rfl (by kernel_rfl) (by kernel_rfl) (by kernel_rfl) (fun _ _ _ h => h) (.inl ⟨by rfl, fun w hSw => by go_simp⟩) (by assumption) ?_
            simp only [Act.put, List.setIfInBounds_toArray, List.set_cons_zero, List.set_cons_succ]
            refine wpAnyH_take (i := 5) (oi := ⟨some 42, .move (.tmp 0), _, _, _, _⟩) (v := .slice (some ⟨gr, 0, none⟩) n cp) rfl (by kernel_rfl) (by kernel_rfl) (by kernel_rfl) (fun _ _ _ h => h) (.inl ⟨by rfl, fun w hSw => by go_simp⟩) (by assumption) ?_
            simp only [Act.put, List.setIfInBounds_toArray, List.set_cons_zero, List.set_cons_succ]
            refine wpAnyH_take (i := 6) (oi := ⟨some 43, .move (.tmp 9), _, _, _, _⟩) (v := .int .i64 (j : Int)) rfl (by kernel_rfl) (by kernel_rfl) (by kernel_rfl) (fun _ _ _ h => h) (.inl ⟨by rfl, fun w hSw => by go_simp⟩) (by assumption) ?_
            simp only [Act.put, List.setIfInBounds_toArray, List.set_cons_zero, List.set_cons_succ]
            refine wpAnyH_take (i := 7) (oi := ⟨some 44, .binOp .sub 3 (.tmp 43) (.const (.int .i64 1)) 3, _, _, _, _⟩) (v := .int .i64 (jp : Int)) rfl (by kernel_rfl) (by kernel_rfl) (by kernel_rfl) (fun _ _ _ h => h) (.inl ⟨by rfl, fun w hSw => by go_simp⟩) (by assumption) ?_
            simp only [Act.put, List.setIfInBounds_toArray, List.set_cons_zero, List.set_cons_succ]
            refine wpAnyH_take (i := 8) (oi := ⟨some 45, .indexAddr 22 (.tmp 42) (.tmp 44), _, _, _, _⟩) (v := .pointer (some ⟨gr, jp * 5, none⟩)) rfl (by kernel_rfl) (by kernel_rfl) (by kernel_rfl) (fun _ _ _ h => h) (.inl ⟨by rfl, fun w hSw => by go_simp⟩) (by assumption) ?_
            simp only [Act.put, List.setIfInBounds_toArray, List.set_cons_zero, List.set_cons_succ]
            refine wpAnyH_take (i := 10) (oi := ⟨some 47, .move (.tmp 0), _, _, _, _⟩) (v := .slice (some ⟨gr, 0, none⟩) n cp) rfl (by kernel_rfl) (by kernel_rfl) (by kernel_rfl) (fun _ _ _ h => h) (.inl ⟨by rfl, fun w hSw => by go_simp⟩) (by assumption) ?_
            simp only [Act.put, List.setIfInBounds_toArray, List.set_cons_zero, List.set_cons_succ]
            refine wpAnyH_take (i := 11) (oi := ⟨some 48, .move (.tmp 9), _, _, _, _⟩) (v := .int .i64 (j : Int)) rfl (by kernel_rfl) (by kernel_rfl) (by kernel_rfl) (fun _ _ _ h => h) (.inl ⟨by rfl, fun w hSw => by go_simp⟩) (by assumption) ?_
            simp only [Act.put, List.setIfInBounds_toArray, List.set_cons_zero, List.set_cons_succ]
            refine wpAnyH_take (i := 12) (oi := ⟨some 49, .indexAddr 22 (.tmp 47) (.tmp 48), _, _, _, _⟩) (v := .pointer (some ⟨gr, j * 5, none⟩)) rfl (by kernel_rfl) (by kernel_rfl) (by kernel_rfl) (fun _ _ _ h => h) (.inl ⟨by rfl, fun w hSw => by go_simp⟩) (by assumption) ?_
            simp only [Act.put, List.setIfInBounds_toArray, List.set_cons_zero, List.set_cons_succ]
            refine wpAnyH_ready (rs := [9, 13]) (by kernel_rfl) (by simp) ?_
            refine AllReadyH.cons (o := ⟨some 46, .load 42 (.tmp 45), _, _, _, _⟩) rfl (fun K hK => ?_) (AllReadyH.cons (o := ⟨some 50, .load 42 (.tmp 49), _, _, _, _⟩) rfl (fun K hK => ?_) AllReadyH.nil)
            · skip
              refine st_load_ent (by rfl) (.tmp 45) rfl gr jp rfl cur Z l HRd.out HGj.out ?_
              refine hK.out _ _ trivial (fun _hs => ?_)
              clear hK K
              refine wpAnyH_ready (rs := [13]) (by kernel_rfl) (by simp) ?_
              refine AllReadyH.cons (o := ⟨some 50, .load 42 (.tmp 49), _, _, _, _⟩) rfl (fun K hK => ?_) AllReadyH.nil
              refine st_load_ent (by rfl) (.tmp 49) rfl gr j rfl cur Z e HRd.out HGi.out ?_
              refine hK.out _ _ trivial (fun _hs => ?_)
              clear hK K
              refine wpAnyH_take (i := 14) (oi := ⟨some 51, .indexAddr 22 (.tmp 37) (.tmp 38), _, _, _, _⟩) (v := .pointer (some ⟨gr, j * 5, none⟩)) rfl (by kernel_rfl) (by kernel_rfl) (by kernel_rfl) (fun _ _ _ h => h) (.inl ⟨by rfl, fun w hSw => by go_simp⟩) (by assumption) ?_
              simp only [Act.put, List.setIfInBounds_toArray, List.set_cons_zero, List.set_cons_succ]
              refine wpAnyH_ready (rs := [15]) (by kernel_rfl) (by simp) ?_
              refine AllReadyH.cons (o := ⟨none, .store 42 (.tmp 51) (.tmp 46), _, _, _, _⟩) rfl (fun K hK => ?_) AllReadyH.nil
              refine st_put_ent (by rfl) (.tmp 51) (.tmp 46) rfl gr j rfl l rfl cur Z HRd.out HLi.out ?_
              intro w2 hr2 hg2
              have HR2 := Lib.hid hr2
              have HC2 := Lib.hid (HCd.out.trans (Chg.one hg2) (fun z hz => .inl hz))
              clear hr2 hg2
              refine hK.out _ _ trivial (fun _hs => ?_)
              clear hK K
              refine wpAnyH_take (i := 16) (oi := ⟨some 52, .indexAddr 22 (.tmp 39) (.tmp 41), _, _, _, _⟩) (v := .pointer (some ⟨gr, jp * 5, none⟩)) rfl (by kernel_rfl) (by kernel_rfl) (by kernel_rfl) (fun _ _ _ h => h) (.inl ⟨by rfl, fun w hSw => by go_simp⟩) (by assumption) ?_
              simp only [Act.put, List.setIfInBounds_toArray, List.set_cons_zero, List.set_cons_succ]
              refine wpAnyH_ready (rs := [17]) (by kernel_rfl) (by simp) ?_
              refine AllReadyH.cons (o := ⟨none, .store 42 (.tmp 52) (.tmp 50), _, _, _, _⟩) rfl (fun K hK => ?_) AllReadyH.nil
              refine st_put_ent (by rfl) (.tmp 52) (.tmp 50) rfl gr jp rfl e rfl _ Z HR2.out (by rw [List.length_set]; exact HLj.out) ?_
              intro w3 hr2 hg2
              have HR3 := Lib.hid (p := ER w3 gr (swp cur j jp e l) Z) hr2
              have HC3 := Lib.hid (HC2.out.trans (Chg.one hg2) (fun z hz => .inl hz))
              clear hr2 hg2
              refine hK.out _ _ trivial (fun _hs => ?_)
              clear hK K
              refine wpAnyH_done (by kernel_rfl) ?_ _
              go_wp2_with fail
              go_roundw
              case rel => exact ⟨jp, L', l :: R, rfl, Lib.hid ⟨HLL.out.1, by rw [HL.out.2, HLL.out.2.2]; simp only [List.append_assoc, List.cons_append, List.nil_append]⟩, Lib.hid (fun y hy => by rcases List.mem_cons.1 hy with h9 | h9; exact h9 ▸ HLT.out; exact HRR.out y h9), Lib.hid (by rw [← HSW.out]; exact HR3.out), HC3⟩
              case measure => have := HLL.out; simp [intOf]; omega
            · skip
              refine st_load_ent (by rfl) (.tmp 49) rfl gr j rfl cur Z e HRd.out HGi.out ?_
              refine hK.out _ _ trivial (fun _hs => ?_)
              clear hK K
              refine wpAnyH_ready (rs := [9]) (by kernel_rfl) (by simp) ?_
              refine AllReadyH.cons (o := ⟨some 46, .load 42 (.tmp 45), _, _, _, _⟩) rfl (fun K hK => ?_) AllReadyH.nil
              refine st_load_ent (by rfl) (.tmp 45) rfl gr jp rfl cur Z l HRd.out HGj.out ?_
              refine hK.out _ _ trivial (fun _hs => ?_)
              clear hK K
              refine wpAnyH_take (i := 14) (oi := ⟨some 51, .indexAddr 22 (.tmp 37) (.tmp 38), _, _, _, _⟩) (v := .pointer (some ⟨gr, j * 5, none⟩)) rfl (by kernel_rfl) (by kernel_rfl) (by kernel_rfl) (fun _ _ _ h => h) (.inl ⟨by rfl, fun w hSw => by go_simp⟩) (by assumption) ?_
              simp only [Act.put, List.setIfInBounds_toArray, List.set_cons_zero, List.set_cons_succ]
              refine wpAnyH_ready (rs := [15]) (by kernel_rfl) (by simp) ?_
              refine AllReadyH.cons (o := ⟨none, .store 42 (.tmp 51) (.tmp 46), _, _, _, _⟩) rfl (fun K hK => ?_) AllReadyH.nil
              refine st_put_ent (by rfl) (.tmp 51) (.tmp 46) rfl gr j rfl l rfl cur Z HRd.out HLi.out ?_
              intro w2 hr2 hg2
              have HR2 := Lib.hid hr2
              have HC2 := Lib.hid (HCd.out.trans (Chg.one hg2) (fun z hz => .inl hz))
              clear hr2 hg2
              refine hK.out _ _ trivial (fun _hs => ?_)
              clear hK K
              refine wpAnyH_take (i := 16) (oi := ⟨some 52, .indexAddr 22 (.tmp 39) (.tmp 41), _, _, _, _⟩) (v := .pointer (some ⟨gr, jp * 5, none⟩)) rfl (by kernel_rfl) (by kernel_rfl) (by kernel_rfl) (fun _ _ _ h => h) (.inl ⟨by rfl, fun w hSw => by go_simp⟩) (by assumption) ?_
              simp only [Act.put, List.setIfInBounds_toArray, List.set_cons_zero, List.set_cons_succ]
              refine wpAnyH_ready (rs := [17]) (by kernel_rfl) (by simp) ?_
              refine AllReadyH.cons (o := ⟨none, .store 42 (.tmp 52) (.tmp 50), _, _, _, _⟩) rfl (fun K hK => ?_) AllReadyH.nil
              refine st_put_ent (by rfl) (.tmp 52) (.tmp 50) rfl gr jp rfl e rfl _ Z HR2.out (by rw [List.length_set]; exact HLj.out) ?_
              intro w3 hr2 hg2
              have HR3 := Lib.hid (p := ER w3 gr (swp cur j jp e l) Z) hr2
              have HC3 := Lib.hid (HC2.out.trans (Chg.one hg2) (fun z hz => .inl hz))
              clear hr2 hg2
              refine hK.out _ _ trivial (fun _hs => ?_)
              clear hK K
              refine wpAnyH_done (by kernel_rfl) ?_ _
              go_wp2_with fail
              go_roundw
              case rel => exact ⟨jp, L', l :: R, rfl, Lib.hid ⟨HLL.out.1, by rw [HL.out.2, HLL.out.2.2]; simp only [List.append_assoc, List.cons_append, List.nil_append]⟩, Lib.hid (fun y hy => by rcases List.mem_cons.1 hy with h9 | h9; exact h9 ▸ HLT.out; exact HRR.out y h9), Lib.hid (by rw [← HSW.out]; exact HR3.out), HC3⟩
              case measure => have := HLL.out; simp [intOf]; omega
          · have hc0 : ¬ cv < 0 := by rw [← hcv]; exact fun h => hlt ((cmpv_neg _ _).1 h)
            have HLE := Lib.hid (p := ∀ x ∈ L, x.ck ≤ e.ck) (fun x hx => by
              have h1 : x.ck ≤ l.ck := by
                rw [HLL.out.2.2] at hx
                rcases List.mem_append.1 hx with h2 | h2
                · have h3 := HO.out.1
                  rw [HL.out.2, HLL.out.2.2] at h3
                  exact h3.left.across x h2 l (List.mem_singleton.2 rfl)
                · rw [List.mem_singleton] at h2
                  rw [h2]
                  exact Nat.le_refl _
              omega)
            clear hlt
            go_upto_region 4 with fail
            have HSQ := Lib.hid (p := ∀ W, Below wo.drew.heap.size wo.drew W → W.rangeAt gr (j * 5) (ecs e) ∧ W.rangeAt gr (jp * 5) (ecs l)) (fun W hb => ⟨(HRd.out.kept hb).at_ HGa.out, (HRd.out.kept hb).at_ HGb.out⟩)
            refine wp_region_held_drew (S := fun W => W.rangeAt gr (j * 5) (ecs e) ∧ W.rangeAt gr (jp * 5) (ecs l)) (by kernel_rfl) (HSQ.out _ (Below.refl _ _)) (fun hHeld => ?_)
            refine wpAnyH_take (i := 0) (oi := ⟨some 18, .move (.tmp 9), _, _, _, _⟩) (v := .int .i64 (j : Int)) rfl (by kernel_rfl) (by kernel_rfl) (by kernel_rfl) (fun _ _ _ h => h) (.inl ⟨by rfl, fun w hSw => by go_simp⟩) (by assumption) ?_
            simp only [Act.put, List.setIfInBounds_toArray, List.set_cons_zero, List.set_cons_succ]
            refine wpAnyH_take (i := 1) (oi := ⟨some 19, .move (.tmp 1), _, _, _, _⟩) (v := .int .i64 (a : Int)) rfl (by kernel_rfl) (by kernel_rfl) (by kernel_rfl) (fun _ _ _ h => h) (.inl ⟨by rfl, fun w hSw => by go_simp⟩) (by assumption) ?_
            simp only [Act.put, List.setIfInBounds_toArray, List.set_cons_zero, List.set_cons_succ]
            refine wpAnyH_take (i := 2) (oi := ⟨some 20, .binOp .gtr 3 (.tmp 18) (.tmp 19) 3, _, _, _, _⟩) (v := .bool true) rfl (by kernel_rfl) (by kernel_rfl) (by kernel_rfl) (fun _ _ _ h => h) (.inl ⟨by rfl, fun w hSw => by go_simp⟩) (by assumption) ?_
            simp only [Act.put, List.setIfInBounds_toArray, List.set_cons_zero, List.set_cons_succ]
            refine wpAnyH_take (i := 3) (oi := ⟨some 21, .move (.tmp 20), _, _, _, _⟩) (v := .bool true) rfl (by kernel_rfl) (by kernel_rfl) (by kernel_rfl) (fun _ _ _ h => h) (.inl ⟨by rfl, fun w hSw => by go_simp⟩) (by assumption) ?_
            simp only [Act.put, List.setIfInBounds_toArray, List.set_cons_zero, List.set_cons_succ]
            refine wpAnyH_take (i := 4) (oi := ⟨some 22, .move (.tmp 3), _, _, _, _⟩) (v := .func (.func 71) #[] #[.pointer (some ⟨gk, 0, none⟩)]) rfl (by kernel_rfl) (by kernel_rfl) (by kernel_rfl) (fun _ _ _ h => h) (.inl ⟨by rfl, fun w hSw => by go_simp⟩) (by assumption) ?_
            simp only [Act.put, List.setIfInBounds_toArray, List.set_cons_zero, List.set_cons_succ]
            refine wpAnyH_take (i := 5) (oi := ⟨some 23, .move (.tmp 0), _, _, _, _⟩) (v := .slice (some ⟨gr, 0, none⟩) n cp) rfl (by kernel_rfl) (by kernel_rfl) (by kernel_rfl) (fun _ _ _ h => h) (.inl ⟨by rfl, fun w hSw => by go_simp⟩) (by assumption) ?_
            simp only [Act.put, List.setIfInBounds_toArray, List.set_cons_zero, List.set_cons_succ]
            refine wpAnyH_take (i := 6) (oi := ⟨some 24, .move (.tmp 9), _, _, _, _⟩) (v := .int .i64 (j : Int)) rfl (by kernel_rfl) (by kernel_rfl) (by kernel_rfl) (fun _ _ _ h => h) (.inl ⟨by rfl, fun w hSw => by go_simp⟩) (by assumption) ?_
            simp only [Act.put, List.setIfInBounds_toArray, List.set_cons_zero, List.set_cons_succ]
            refine wpAnyH_take (i := 7) (oi := ⟨some 25, .indexAddr 22 (.tmp 23) (.tmp 24), _, _, _, _⟩) (v := .pointer (some ⟨gr, j * 5, none⟩)) rfl (by kernel_rfl) (by kernel_rfl) (by kernel_rfl) (fun _ _ _ h => h) (.inl ⟨by rfl, fun w hSw => by go_simp⟩) (by assumption) ?_
            simp only [Act.put, List.setIfInBounds_toArray, List.set_cons_zero, List.set_cons_succ]
            refine wpAnyH_take (i := 8) (oi := ⟨some 26, .load 42 (.tmp 25), _, _, _, _⟩) (v := .agg (ecs e).toArray) rfl (by kernel_rfl) (by kernel_rfl) (by kernel_rfl) (fun _ _ _ h => h) (yieldsIf_load_mid (by rfl) 42 (.tmp 25) rfl gr (j * 5) rfl (ecs e) _ (fun w hSw => hSw.1) Tryd.underlying42 rfl (info_ent e)) (by assumption) ?_
            simp only [Act.put, List.setIfInBounds_toArray, List.set_cons_zero, List.set_cons_succ]
            refine wpAnyH_take (i := 9) (oi := ⟨some 27, .move (.tmp 0), _, _, _, _⟩) (v := .slice (some ⟨gr, 0, none⟩) n cp) rfl (by kernel_rfl) (by kernel_rfl) (by kernel_rfl) (fun _ _ _ h => h) (.inl ⟨by rfl, fun w hSw => by go_simp⟩) (by assumption) ?_
            simp only [Act.put, List.setIfInBounds_toArray, List.set_cons_zero, List.set_cons_succ]
            refine wpAnyH_take (i := 10) (oi := ⟨some 28, .move (.tmp 9), _, _, _, _⟩) (v := .int .i64 (j : Int)) rfl (by kernel_rfl) (by kernel_rfl) (by kernel_rfl) (fun _ _ _ h => h) (.inl ⟨by rfl, fun w hSw => by go_simp⟩) (by assumption) ?_
            simp only [Act.put, List.setIfInBounds_toArray, List.set_cons_zero, List.set_cons_succ]
            refine wpAnyH_take (i := 11) (oi := ⟨some 29, .binOp .sub 3 (.tmp 28) (.const (.int .i64 1)) 3, _, _, _, _⟩) (v := .int .i64 (jp : Int)) rfl (by kernel_rfl) (by kernel_rfl) (by kernel_rfl) (fun _ _ _ h => h) (.inl ⟨by rfl, fun w hSw => by go_simp⟩) (by assumption) ?_
            simp only [Act.put, List.setIfInBounds_toArray, List.set_cons_zero, List.set_cons_succ]
            refine wpAnyH_take (i := 12) (oi := ⟨some 30, .indexAddr 22 (.tmp 27) (.tmp 29), _, _, _, _⟩) (v := .pointer (some ⟨gr, jp * 5, none⟩)) rfl (by kernel_rfl) (by kernel_rfl) (by kernel_rfl) (fun _ _ _ h => h) (.inl ⟨by rfl, fun w hSw => by go_simp⟩) (by assumption) ?_
            simp only [Act.put, List.setIfInBounds_toArray, List.set_cons_zero, List.set_cons_succ]
            refine wpAnyH_take (i := 13) (oi := ⟨some 31, .load 42 (.tmp 30), _, _, _, _⟩) (v := .agg (ecs l).toArray) rfl (by kernel_rfl) (by kernel_rfl) (by kernel_rfl) (fun _ _ _ h => h) (yieldsIf_load_mid (by rfl) 42 (.tmp 30) rfl gr (jp * 5) rfl (ecs l) _ (fun w hSw => hSw.2) Tryd.underlying42 rfl (info_ent l)) (by assumption) ?_
            simp only [Act.put, List.setIfInBounds_toArray, List.set_cons_zero, List.set_cons_succ]
            refine wpAnyH_ready (rs := [14]) (by kernel_rfl) (by simp) ?_
            refine AllReadyH.cons (o := ⟨some 32, .call ⟨.value (.tmp 22), #[.tmp 26, .tmp 31], _⟩, _, _, _, _⟩) rfl (fun K hK => ?_) AllReadyH.nil
            go_simp
            go_at_call 71
            refine (bycmp_any e l gk _ HKd.out).mono ?_
            rintro e wd ⟨rfl, hb⟩
            rw [hcv]
            have HBd := Lib.hid hb
            clear hb
            refine hK.out _ _ (HSQ.out _ HBd.out) (fun _hc => ?_)
            clear hK K
            refine wpAnyH_take (i := 15) (oi := ⟨some 33, .binOp .lss 3 (.tmp 32) (.const (.int .i64 0)) 3, _, _, _, _⟩) (v := .bool false) rfl (by kernel_rfl) (by kernel_rfl) (by kernel_rfl) (fun _ _ _ h => h) (.inl ⟨by rfl, fun w hSw => by go_simp⟩) (by assumption) ?_
            simp only [Act.put, List.setIfInBounds_toArray, List.set_cons_zero, List.set_cons_succ]
            refine wpAnyH_take (i := 16) (oi := ⟨some 34, .pick (.tmp 21) (.tmp 33) (.const (.bool false)), _, _, _, _⟩) (v := .bool false) rfl (by kernel_rfl) (by kernel_rfl) (by kernel_rfl) (fun _ _ _ h => h) (.inl ⟨by rfl, fun w hSw => by go_simp⟩) (by assumption) ?_
            simp only [Act.put, List.setIfInBounds_toArray, List.set_cons_zero, List.set_cons_succ]
            refine wpAnyH_done (by kernel_rfl) ?_ _
            have HR9 := Lib.hid (HRd.out.kept HBd.out)
            have HC9 := Lib.hid (HCd.out.trans (Chg.of (F := [gr]) HBd.out) (fun z hz => .inl hz))
            clear HRd HCd HKd HSQ HR HC
            obtain ⟨hz1, hz2, hz3, hz4⟩ := HOUT.out _ HR9.out HLE.out
            go_wp2_with fail
            go_roundw
            case rel => exact ⟨i1, c + 1, L ++ e :: R, rfl, Lib.hid ⟨by have := HI.out; have := HI1.out; omega, by omega, HCX.out, hz4⟩, Lib.hid ⟨hz2, hz3⟩, Lib.hid hz1, HC9⟩
            case measure => have := HI1.out; simp [intOf]; omega
        · have hji : ¬ (a : Int) < (j : Int) := by omega
          have HLE := Lib.hid (p := ∀ x ∈ L, x.ck ≤ e.ck) (fun x hx => by
            have h1 := HL.out.1
            rw [List.eq_nil_of_length_eq_zero (by omega : L.length = 0)] at hx
            cases hx)
          clear hj hcur
          go_upto_region 4 with fail
          refine wp_region_held_drew (S := fun _ => True) (by kernel_rfl) trivial (fun hHeld => ?_)
          refine wpAnyH_take (i := 0) (oi := ⟨some 18, .move (.tmp 9), _, _, _, _⟩) (v := .int .i64 (j : Int)) rfl (by kernel_rfl) (by kernel_rfl) (by kernel_rfl) (fun _ _ _ h => h) (.inl ⟨by rfl, fun w hSw => by go_simp⟩) (by assumption) ?_
          simp only [Act.put, List.setIfInBounds_toArray, List.set_cons_zero, List.set_cons_succ]
          refine wpAnyH_take (i := 1) (oi := ⟨some 19, .move (.tmp 1), _, _, _, _⟩) (v := .int .i64 (a : Int)) rfl (by kernel_rfl) (by kernel_rfl) (by kernel_rfl) (fun _ _ _ h => h) (.inl ⟨by rfl, fun w hSw => by go_simp⟩) (by assumption) ?_
          simp only [Act.put, List.setIfInBounds_toArray, List.set_cons_zero, List.set_cons_succ]
          refine wpAnyH_take (i := 2) (oi := ⟨some 20, .binOp .gtr 3 (.tmp 18) (.tmp 19) 3, _, _, _, _⟩) (v := .bool false) rfl (by kernel_rfl) (by kernel_rfl) (by kernel_rfl) (fun _ _ _ h => h) (.inl ⟨by rfl, fun w hSw => by go_simp⟩) (by assumption) ?_
          simp only [Act.put, List.setIfInBounds_toArray, List.set_cons_zero, List.set_cons_succ]
          refine wpAnyH_take (i := 3) (oi := ⟨some 21, .move (.tmp 20), _, _, _, _⟩) (v := .bool false) rfl (by kernel_rfl) (by kernel_rfl) (by kernel_rfl) (fun _ _ _ h => h) (.inl ⟨by rfl, fun w hSw => by go_simp⟩) (by assumption) ?_
          simp only [Act.put, List.setIfInBounds_toArray, List.set_cons_zero, List.set_cons_succ]
          refine wpAnyH_take (i := 4) (oi := ⟨some 22, .move (.tmp 3), _, _, _, _⟩) (v := undef) rfl (by kernel_rfl) (by kernel_rfl) (by kernel_rfl) (fun _ _ _ h => h) (.inr ⟨by rfl, rfl⟩) (by assumption) ?_
          simp only [Act.put, List.setIfInBounds_toArray, List.set_cons_zero, List.set_cons_succ]
          refine wpAnyH_take (i := 5) (oi := ⟨some 23, .move (.tmp 0), _, _, _, _⟩) (v := undef) rfl (by kernel_rfl) (by kernel_rfl) (by kernel_rfl) (fun _ _ _ h => h) (.inr ⟨by rfl, rfl⟩) (by assumption) ?_
          simp only [Act.put, List.setIfInBounds_toArray, List.set_cons_zero, List.set_cons_succ]
          refine wpAnyH_take (i := 6) (oi := ⟨some 24, .move (.tmp 9), _, _, _, _⟩) (v := undef) rfl (by kernel_rfl) (by kernel_rfl) (by kernel_rfl) (fun _ _ _ h => h) (.inr ⟨by rfl, rfl⟩) (by assumption) ?_
          simp only [Act.put, List.setIfInBounds_toArray, List.set_cons_zero, List.set_cons_succ]
          refine wpAnyH_take (i := 7) (oi := ⟨some 25, .indexAddr 22 (.tmp 23) (.tmp 24), _, _, _, _⟩) (v := undef) rfl (by kernel_rfl) (by kernel_rfl) (by kernel_rfl) (fun _ _ _ h => h) (.inr ⟨by rfl, rfl⟩) (by assumption) ?_
          simp only [Act.put, List.setIfInBounds_toArray, List.set_cons_zero, List.set_cons_succ]
          refine wpAnyH_take (i := 8) (oi := ⟨some 26, .load 42 (.tmp 25), _, _, _, _⟩) (v := undef) rfl (by kernel_rfl) (by kernel_rfl) (by kernel_rfl) (fun _ _ _ h => h) (.inr ⟨by rfl, rfl⟩) (by assumption) ?_
          simp only [Act.put, List.setIfInBounds_toArray, List.set_cons_zero, List.set_cons_succ]
          refine wpAnyH_take (i := 9) (oi := ⟨some 27, .move (.tmp 0), _, _, _, _⟩) (v := undef) rfl (by kernel_rfl) (by kernel_rfl) (by kernel_rfl) (fun _ _ _ h => h) (.inr ⟨by rfl, rfl⟩) (by assumption) ?_
          simp only [Act.put, List.setIfInBounds_toArray, List.set_cons_zero, List.set_cons_succ]
          refine wpAnyH_take (i := 10) (oi := ⟨some 28, .move (.tmp 9), _, _, _, _⟩) (v := undef) rfl (by kernel_rfl) (by kernel_rfl) (by kernel_rfl) (fun _ _ _ h => h) (.inr ⟨by rfl, rfl⟩) (by assumption) ?_
          simp only [Act.put, List.setIfInBounds_toArray, List.set_cons_zero, List.set_cons_succ]
          refine wpAnyH_take (i := 11) (oi := ⟨some 29, .binOp .sub 3 (.tmp 28) (.const (.int .i64 1)) 3, _, _, _, _⟩) (v := undef) rfl (by kernel_rfl) (by kernel_rfl) (by kernel_rfl) (fun _ _ _ h => h) (.inr ⟨by rfl, rfl⟩) (by assumption) ?_
          simp only [Act.put, List.setIfInBounds_toArray, List.set_cons_zero, List.set_cons_succ]
          refine wpAnyH_take (i := 12) (oi := ⟨some 30, .indexAddr 22 (.tmp 27) (.tmp 29), _, _, _, _⟩) (v := undef) rfl (by kernel_rfl) (by kernel_rfl) (by kernel_rfl) (fun _ _ _ h => h) (.inr ⟨by rfl, rfl⟩) (by assumption) ?_
          simp only [Act.put, List.setIfInBounds_toArray, List.set_cons_zero, List.set_cons_succ]
          refine wpAnyH_take (i := 13) (oi := ⟨some 31, .load 42 (.tmp 30), _, _, _, _⟩) (v := undef) rfl (by kernel_rfl) (by kernel_rfl) (by kernel_rfl) (fun _ _ _ h => h) (.inr ⟨by rfl, rfl⟩) (by assumption) ?_
          simp only [Act.put, List.setIfInBounds_toArray, List.set_cons_zero, List.set_cons_succ]
          refine wpAnyH_take (i := 14) (oi := ⟨some 32, .call ⟨.value (.tmp 22), #[.tmp 26, .tmp 31], _⟩, _, _, _, _⟩) (v := undef) rfl (by kernel_rfl) (by kernel_rfl) (by kernel_rfl) (fun _ _ _ h => h) (.inr ⟨by rfl, rfl⟩) (by assumption) ?_
          simp only [Act.put, List.setIfInBounds_toArray, List.set_cons_zero, List.set_cons_succ]
          refine wpAnyH_take (i := 15) (oi := ⟨some 33, .binOp .lss 3 (.tmp 32) (.const (.int .i64 0)) 3, _, _, _, _⟩) (v := undef) rfl (by kernel_rfl) (by kernel_rfl) (by kernel_rfl) (fun _ _ _ h => h) (.inr ⟨by rfl, rfl⟩) (by assumption) ?_
          simp only [Act.put, List.setIfInBounds_toArray, List.set_cons_zero, List.set_cons_succ]
          refine wpAnyH_take (i := 16) (oi := ⟨some 34, .pick (.tmp 21) (.tmp 33) (.const (.bool false)), _, _, _, _⟩) (v := .bool false) rfl (by kernel_rfl) (by kernel_rfl) (by kernel_rfl) (fun _ _ _ h => h) (.inl ⟨by rfl, fun w hSw => by go_simp⟩) (by assumption) ?_
          simp only [Act.put, List.setIfInBounds_toArray, List.set_cons_zero, List.set_cons_succ]
          refine wpAnyH_done (by kernel_rfl) ?_ _
          have HR9 := HRd
          have HC9 := HCd
          clear HRd HCd HKd HR HC
          obtain ⟨hz1, hz2, hz3, hz4⟩ := HOUT.out _ HR9.out HLE.out
          go_wp2_with fail
          go_roundw
          case rel => exact ⟨i1, c + 1, L ++ e :: R, rfl, Lib.hid ⟨by have := HI.out; have := HI1.out; omega, by omega, HCX.out, hz4⟩, Lib.hid ⟨hz2, hz3⟩, Lib.hid hz1, HC9⟩
          case measure => have := HI1.out; simp [intOf]; omega
    · have hin : ¬ (i : Int) < (b : Int) := by omega
      have hce : c = X.length := by have := HI.out; have := HX.out; omega
      subst hce
      clear hi
      go_wp2
      go_end0
      refine ⟨rfl, X1, ?_, HO.out.1, ?_, HC.out⟩
      · have h1 := HR.out
        rw [List.drop_of_length_le (Nat.le_refl _), List.nil_append] at h1
        exact h1
      · have h1 := HO.out.2
        rw [List.take_of_length_le (Nat.le_refl _)] at h1
        exact h1
end Go.Proofs.YtijffkklhgnknaaDoor
