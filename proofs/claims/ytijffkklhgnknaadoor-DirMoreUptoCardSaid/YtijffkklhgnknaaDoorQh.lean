/- Two runs of entries of a row, exchanged: swapRange. Conditions: the runs lie in the row, apart. -/
import Derived.Test.YtijffkklhgnknaaDoorQg
import Derived.BigQuiet
import Derived.Deep.QuietTactic
import Derived.Shelf.SlicesQ.Load
import Derived.Laws.IdiomCopy
import Derived.BigRegion
import Derived.Deep.RegionLaw
set_option linter.unusedVariables false
set_option maxRecDepth 20000
namespace Go.Proofs.YtijffkklhgnknaaDoor
open Go.RowKit

theorem swp_mid (A B C : List Ent) (x y : Ent) (i j : Nat) (hi : A.length = i) (hj : i + 1 + B.length = j) : swp (A ++ x :: (B ++ y :: C)) i j x y = A ++ y :: (B ++ x :: C) := by
  subst hi hj
  unfold swp
  rw [List.set_append_right _ _ (Nat.le_refl _), Nat.sub_self, List.set_cons_zero, List.set_append_right _ _ (by omega), show A.length + 1 + B.length - A.length = B.length + 1 by omega, List.set_cons_succ, List.set_append_right _ _ (Nat.le_refl _), Nat.sub_self, List.set_cons_zero]
/-- An entry loaded, cell by cell; stored. -/
theorem er_load {w : World} {g i : Nat} {xs : List Ent} {Z : List Value} {x : Ent} (h : ER w g xs Z) (hx : xs[i]? = some x) : Sem.run Tryd.prog (loadCellsFrom ⟨g, i * 5, none⟩ 0 5 #[]) w = .ok (ecs x).toArray w :=
  run_loadCellsFrom_list Tryd.prog w ⟨g, i * 5, none⟩ (ecs x) 5 rfl (fun j v hv => by rw [Addr.add_lit]; exact h.at_ hx j v hv)
theorem er_stores {w : World} {g i : Nat} {xs : List Ent} {Z : List Value} (h : ER w g xs Z) (hi : i < xs.length) (e : Ent) : Sem.run Tryd.prog (storeCells ⟨g, i * 5, none⟩ (ecs e) 0) w = .ok () (w.setCells g (i * 5) (ecs e)) := by
  have hx0 : xs[i]? = some xs[i] := List.getElem?_eq_getElem hi
  have hr' : Row w g 42 ((xs.take i).flatMap ecs ++ (ecs xs[i] ++ ((xs.drop (i + 1)).flatMap ecs ++ Z))) := by
    have h1 := h
    unfold ER at h1
    rw [ecs_at hx0, List.append_assoc, List.append_assoc] at h1
    exact h1
  have h2 := hr'.is_there (i * 5) (ecs e).length (by rw [List.length_append, ecs_take (by omega), List.length_append, ecs_len, ecs_len]; omega)
  exact run_storeCells_cells (P := Tryd.prog) g (i * 5) (ecs e) 0 w (fun j hj => (h2 j hj).1) (fun j hj => (h2 j hj).2) (ecs_one e)
/-- How far the exchange is. -/
def xch (P X M Y S : List Ent) (i : Nat) : List Ent := P ++ ((Y.take i ++ X.drop i) ++ (M ++ ((X.take i ++ Y.drop i) ++ S)))
theorem xch_zero (P X M Y S : List Ent) : xch P X M Y S 0 = P ++ (X ++ (M ++ (Y ++ S))) := by simp [xch]
theorem xch_all (P X M Y S : List Ent) (k : Nat) (hX : X.length = k) (hY : Y.length = k) : xch P X M Y S k = P ++ (Y ++ (M ++ (X ++ S))) := by
  unfold xch
  rw [List.take_of_length_le (by omega), List.take_of_length_le (by omega), List.drop_of_length_le (by omega), List.drop_of_length_le (by omega), List.append_nil, List.append_nil]
theorem xch_split (P X M Y S : List Ent) (k i : Nat) (hX : X.length = k) (hY : Y.length = k) (hi : i < k) : ∃ x y B, X[i]? = some x ∧ Y[i]? = some y ∧ B.length = k - 1 + M.length ∧
    xch P X M Y S i = (P ++ Y.take i) ++ x :: (B ++ y :: (Y.drop (i + 1) ++ S)) ∧ xch P X M Y S (i + 1) = (P ++ Y.take i) ++ y :: (B ++ x :: (Y.drop (i + 1) ++ S)) := by
  have hx : i < X.length := by omega
  have hy : i < Y.length := by omega
  refine ⟨X[i], Y[i], X.drop (i + 1) ++ (M ++ X.take i), List.getElem?_eq_getElem hx, List.getElem?_eq_getElem hy, ?_, ?_, ?_⟩
  · simp only [List.length_append, List.length_drop, List.length_take]
    omega
  · unfold xch
    rw [← List.getElem_cons_drop hx, ← List.getElem_cons_drop hy]
    simp only [List.append_assoc, List.cons_append]
  · unfold xch
    rw [List.take_succ_eq_append_getElem hx, List.take_succ_eq_append_getElem hy]
    simp only [List.append_assoc, List.cons_append, List.nil_append]
theorem xch_len (P X M Y S : List Ent) (k i : Nat) (hX : X.length = k) (hY : Y.length = k) (hi : i ≤ k) : (xch P X M Y S i).length = P.length + k + M.length + k + S.length := by
  unfold xch
  simp only [List.length_append, List.length_take, List.length_drop]
  omega
set_option maxHeartbeats 4000000 in
theorem swaprange_any (gr n cp a b k : Nat) (F : Value) (P X M Y S : List Ent) (Z : List Value) (hX : X.length = k) (hY : Y.length = k) (ha : P.length = a) (hb : a + k + M.length = b) (hn : a + k + M.length + k + S.length = n) (hmax : n ≤ 1000000) (w : World)
    (h : ER w gr (P ++ (X ++ (M ++ (Y ++ S)))) Z) : Calls Tryd.prog 88 #[.slice (some ⟨gr, 0, none⟩) n cp, .int .i64 (a : Int), .int .i64 (b : Int), .int .i64 (k : Int), F] w fun e w' => e = .returned (.tuple #[]) ∧ ER w' gr (P ++ (Y ++ (M ++ (X ++ S)))) Z ∧ Chg [gr] w w' := by
  have H := Lib.hid h
  have HX := Lib.hid (p := X.length = k ∧ Y.length = k ∧ P.length = a ∧ a + k + M.length = b ∧ a + k + M.length + k + S.length = n ∧ n ≤ 1000000) ⟨hX, hY, ha, hb, hn, hmax⟩
  have i1 := Lib.hid info_ent
  clear h hX hY ha hb hn hmax
  go_enter Tryd.func88, Tryd.ntmps88
  go_wp2
  go_loopw [10] (fun x wr => ∃ i : Nat, Hid (i ≤ k) ∧ x = .int .i64 (i : Int) ∧ Hid (ER wr gr (xch P X M Y S i) Z) ∧ Hid (Chg [gr] w wr)) (fun x _ => k - (intOf x).toNat)
  case atStart => exact ⟨0, Lib.hid (Nat.zero_le _), rfl, Lib.hid (by rw [xch_zero]; exact H.out), Lib.hid (Chg.refl _ _)⟩
  case round =>
    obtain ⟨i, HI, rfl, HR, HC⟩ := hrel
    rename World => wo
    by_cases hi : i < k
    · have hii : (i : Int) < (k : Int) := by omega
      have hiw : IntKind.i64.wrap ((i : Int) + 1) = (i : Int) + 1 := by rw [IntKind.wrap_i64]; have := HX.out; omega
      obtain ⟨x, y, B, hx, hy, hB, e1, e2⟩ := xch_split P X M Y S k i HX.out.1 HX.out.2.1 hi
      obtain ⟨p, hp⟩ : ∃ p, a + i = p := ⟨_, rfl⟩
      obtain ⟨q, hq⟩ : ∃ q, b + i = q := ⟨_, rfl⟩
      have hpl : (P ++ Y.take i).length = p := by rw [List.length_append, List.length_take, HX.out.2.1, HX.out.2.2.1]; omega
      have hqp : p + 1 + B.length = q := by have := HX.out; omega
      have HPQ := Lib.hid (p := p < n ∧ q < n) (by have := HX.out; omega)
      have hpw : IntKind.i64.wrap ((a : Int) + (i : Int)) = (p : Int) := by rw [IntKind.wrap_i64]; have := HX.out; omega
      have hqw : IntKind.i64.wrap ((b : Int) + (i : Int)) = (q : Int) := by rw [IntKind.wrap_i64]; have := HX.out; omega
      have hpn : (p : Int) < (n : Int) := by have := HPQ.out; omega
      have hqn : (q : Int) < (n : Int) := by have := HPQ.out; omega
      rw [e1] at HR
      have HL := Lib.hid (p := ((P ++ Y.take i) ++ x :: (B ++ y :: (Y.drop (i + 1) ++ S))).length = n) (by rw [← e1, xch_len P X M Y S k i HX.out.1 HX.out.2.1 HI.out]; have := HX.out; omega)
      have HG1 := Lib.hid (p := ((P ++ Y.take i) ++ x :: (B ++ y :: (Y.drop (i + 1) ++ S)))[p]? = some x) (by rw [← hpl, List.getElem?_append_right (Nat.le_refl _), Nat.sub_self]; rfl)
      have HG2 := Lib.hid (p := ((P ++ Y.take i) ++ x :: (B ++ y :: (Y.drop (i + 1) ++ S)))[q]? = some y) (by
        rw [List.getElem?_append_right (by omega), hpl, show q - p = B.length + 1 by omega, List.getElem?_cons_succ, List.getElem?_append_right (Nat.le_refl _), Nat.sub_self]
        rfl)
      have HS := Lib.hid (swp_mid (P ++ Y.take i) B (Y.drop (i + 1) ++ S) x y p q hpl hqp)
      have HE2 := Lib.hid e2
      have HII := Lib.hid hi
      clear hx hy hB e1 e2 hp hq hpl hqp hi
      generalize (P ++ Y.take i) ++ x :: (B ++ y :: (Y.drop (i + 1) ++ S)) = cur at HR HL HG1 HG2 HS
      go_upto_region 3 with fail
      have HRd := Lib.hid (HR.out.kept (below_drw wo))
      have HCd := Lib.hid (HC.out.drew)
      have HGi := HG1
      have HGj := HG2
      have HLi := Lib.hid (p := p < cur.length) (by rw [HL.out]; exact HPQ.out.1)
      have HLj := Lib.hid (p := q < cur.length) (by rw [HL.out]; exact HPQ.out.2)
      refine wp_region_held_drew (S := fun _ => True) (by kernel_rfl) trivial (fun hHeld => ?_)
      refine wpAnyH_take (i := 0) (oi := ⟨some 16, .move (.tmp 0), _, _, _, _⟩) (v := .slice (some ⟨gr, 0, none⟩) n cp) rfl (by kernel_rfl) (by kernel_rfl) (by kernel_rfl) (fun _ _ _ h => h) (.inl ⟨by rfl, fun w hSw => by go_simp⟩) (by assumption) ?_
      simp only [Act.put, List.setIfInBounds_toArray, List.set_cons_zero, List.set_cons_succ]
      refine wpAnyH_take (i := 1) (oi := ⟨some 17, .move (.tmp 1), _, _, _, _⟩) (v := .int .i64 (a : Int)) rfl (by kernel_rfl) (by kernel_rfl) (by kernel_rfl) (fun _ _ _ h => h) (.inl ⟨by rfl, fun w hSw => by go_simp⟩) (by assumption) ?_
      simp only [Act.put, List.setIfInBounds_toArray, List.set_cons_zero, List.set_cons_succ]
      refine wpAnyH_take (i := 2) (oi := ⟨some 18, .move (.tmp 10), _, _, _, _⟩) (v := .int .i64 (i : Int)) rfl (by kernel_rfl) (by kernel_rfl) (by kernel_rfl) (fun _ _ _ h => h) (.inl ⟨by rfl, fun w hSw => by go_simp⟩) (by assumption) ?_
      simp only [Act.put, List.setIfInBounds_toArray, List.set_cons_zero, List.set_cons_succ]
      refine wpAnyH_take (i := 3) (oi := ⟨some 19, .binOp .add 3 (.tmp 17) (.tmp 18) 3, _, _, _, _⟩) (v := .int .i64 (p : Int)) rfl (by kernel_rfl) (by kernel_rfl) (by kernel_rfl) (fun _ _ _ h => h) (.inl ⟨by rfl, fun w hSw => by go_simp⟩) (by assumption) ?_
      simp only [Act.put, List.setIfInBounds_toArray, List.set_cons_zero, List.set_cons_succ]
      refine wpAnyH_take (i := 4) (oi := ⟨some 20, .move (.tmp 0), _, _, _, _⟩) (v := .slice (some ⟨gr, 0, none⟩) n cp) rfl (by kernel_rfl) (by kernel_rfl) (by kernel_rfl) (fun _ _ _ h => h) (.inl ⟨by rfl, fun w hSw => by go_simp⟩) (by assumption) ?_
      simp only [Act.put, List.setIfInBounds_toArray, List.set_cons_zero, List.set_cons_succ]
      refine wpAnyH_take (i := 5) (oi := ⟨some 21, .move (.tmp 2), _, _, _, _⟩) (v := .int .i64 (b : Int)) rfl (by kernel_rfl) (by kernel_rfl) (by kernel_rfl) (fun _ _ _ h => h) (.inl ⟨by rfl, fun w hSw => by go_simp⟩) (by assumption) ?_
      simp only [Act.put, List.setIfInBounds_toArray, List.set_cons_zero, List.set_cons_succ]
      refine wpAnyH_take (i := 6) (oi := ⟨some 22, .move (.tmp 10), _, _, _, _⟩) (v := .int .i64 (i : Int)) rfl (by kernel_rfl) (by kernel_rfl) (by kernel_rfl) (fun _ _ _ h => h) (.inl ⟨by rfl, fun w hSw => by go_simp⟩) (by assumption) ?_
      simp only [Act.put, List.setIfInBounds_toArray, List.set_cons_zero, List.set_cons_succ]
      refine wpAnyH_take (i := 7) (oi := ⟨some 23, .binOp .add 3 (.tmp 21) (.tmp 22) 3, _, _, _, _⟩) (v := .int .i64 (q : Int)) rfl (by kernel_rfl) (by kernel_rfl) (by kernel_rfl) (fun _ _ _ h => h) (.inl ⟨by rfl, fun w hSw => by go_simp⟩) (by assumption) ?_
      simp only [Act.put, List.setIfInBounds_toArray, List.set_cons_zero, List.set_cons_succ]
      refine wpAnyH_take (i := 8) (oi := ⟨some 24, .move (.tmp 0), _, _, _, _⟩) (v := .slice (some ⟨gr, 0, none⟩) n cp) rfl (by kernel_rfl) (by kernel_rfl) (by kernel_rfl) (fun _ _ _ h => h) (.inl ⟨by rfl, fun w hSw => by go_simp⟩) (by assumption) ?_
      simp only [Act.put, List.setIfInBounds_toArray, List.set_cons_zero, List.set_cons_succ]
      refine wpAnyH_take (i := 9) (oi := ⟨some 25, .move (.tmp 2), _, _, _, _⟩) (v := .int .i64 (b : Int)) rfl (by kernel_rfl) (by kernel_rfl) (by kernel_rfl) (fun _ _ _ h => h) (.inl ⟨by rfl, fun w hSw => by go_simp⟩) (by assumption) ?_
      simp only [Act.put, List.setIfInBounds_toArray, List.set_cons_zero, List.set_cons_succ]
      refine wpAnyH_take (i := 10) (oi := ⟨some 26, .move (.tmp 10), _, _, _, _⟩) (v := .int .i64 (i : Int)) rfl (by kernel_rfl) (by kernel_rfl) (by kernel_rfl) (fun _ _ _ h => h) (.inl ⟨by rfl, fun w hSw => by go_simp⟩) (by assumption) ?_
      simp only [Act.put, List.setIfInBounds_toArray, List.set_cons_zero, List.set_cons_succ]
      refine wpAnyH_take (i := 11) (oi := ⟨some 27, .binOp .add 3 (.tmp 25) (.tmp 26) 3, _, _, _, _⟩) (v := .int .i64 (q : Int)) rfl (by kernel_rfl) (by kernel_rfl) (by kernel_rfl) (fun _ _ _ h => h) (.inl ⟨by rfl, fun w hSw => by go_simp⟩) (by assumption) ?_
      simp only [Act.put, List.setIfInBounds_toArray, List.set_cons_zero, List.set_cons_succ]
      refine wpAnyH_take (i := 12) (oi := ⟨some 28, .indexAddr 22 (.tmp 24) (.tmp 27), _, _, _, _⟩) (v := .pointer (some ⟨gr, q * 5, none⟩)) rfl (by kernel_rfl) (by kernel_rfl) (by kernel_rfl) (fun _ _ _ h => h) (.inl ⟨by rfl, fun w hSw => by go_simp⟩) (by assumption) ?_
      simp only [Act.put, List.setIfInBounds_toArray, List.set_cons_zero, List.set_cons_succ]
      refine wpAnyH_take (i := 14) (oi := ⟨some 30, .move (.tmp 0), _, _, _, _⟩) (v := .slice (some ⟨gr, 0, none⟩) n cp) rfl (by kernel_rfl) (by kernel_rfl) (by kernel_rfl) (fun _ _ _ h => h) (.inl ⟨by rfl, fun w hSw => by go_simp⟩) (by assumption) ?_
      simp only [Act.put, List.setIfInBounds_toArray, List.set_cons_zero, List.set_cons_succ]
      refine wpAnyH_take (i := 15) (oi := ⟨some 31, .move (.tmp 1), _, _, _, _⟩) (v := .int .i64 (a : Int)) rfl (by kernel_rfl) (by kernel_rfl) (by kernel_rfl) (fun _ _ _ h => h) (.inl ⟨by rfl, fun w hSw => by go_simp⟩) (by assumption) ?_
      simp only [Act.put, List.setIfInBounds_toArray, List.set_cons_zero, List.set_cons_succ]
      refine wpAnyH_take (i := 16) (oi := ⟨some 32, .move (.tmp 10), _, _, _, _⟩) (v := .int .i64 (i : Int)) rfl (by kernel_rfl) (by kernel_rfl) (by kernel_rfl) (fun _ _ _ h => h) (.inl ⟨by rfl, fun w hSw => by go_simp⟩) (by assumption) ?_
      simp only [Act.put, List.setIfInBounds_toArray, List.set_cons_zero, List.set_cons_succ]
      refine wpAnyH_take (i := 17) (oi := ⟨some 33, .binOp .add 3 (.tmp 31) (.tmp 32) 3, _, _, _, _⟩) (v := .int .i64 (p : Int)) rfl (by kernel_rfl) (by kernel_rfl) (by kernel_rfl) (fun _ _ _ h => h) (.inl ⟨by rfl, fun w hSw => by go_simp⟩) (by assumption) ?_
      simp only [Act.put, List.setIfInBounds_toArray, List.set_cons_zero, List.set_cons_succ]
      refine wpAnyH_take (i := 18) (oi := ⟨some 34, .indexAddr 22 (.tmp 30) (.tmp 33), _, _, _, _⟩) (v := .pointer (some ⟨gr, p * 5, none⟩)) rfl (by kernel_rfl) (by kernel_rfl) (by kernel_rfl) (fun _ _ _ h => h) (.inl ⟨by rfl, fun w hSw => by go_simp⟩) (by assumption) ?_
      simp only [Act.put, List.setIfInBounds_toArray, List.set_cons_zero, List.set_cons_succ]
      refine wpAnyH_ready (rs := [13, 19]) (by kernel_rfl) (by simp) ?_
      refine AllReadyH.cons (o := ⟨some 29, .load 42 (.tmp 28), _, _, _, _⟩) rfl (fun K hK => ?_) (AllReadyH.cons (o := ⟨some 35, .load 42 (.tmp 34), _, _, _, _⟩) rfl (fun K hK => ?_) AllReadyH.nil)
      · skip
        refine st_load_ent (by rfl) (.tmp 28) rfl gr q rfl cur Z y HRd.out HGj.out ?_
        refine hK.out _ _ trivial (fun _hs => ?_)
        clear hK K
        refine wpAnyH_ready (rs := [19]) (by kernel_rfl) (by simp) ?_
        refine AllReadyH.cons (o := ⟨some 35, .load 42 (.tmp 34), _, _, _, _⟩) rfl (fun K hK => ?_) AllReadyH.nil
        refine st_load_ent (by rfl) (.tmp 34) rfl gr p rfl cur Z x HRd.out HGi.out ?_
        refine hK.out _ _ trivial (fun _hs => ?_)
        clear hK K
        refine wpAnyH_take (i := 20) (oi := ⟨some 36, .indexAddr 22 (.tmp 16) (.tmp 19), _, _, _, _⟩) (v := .pointer (some ⟨gr, p * 5, none⟩)) rfl (by kernel_rfl) (by kernel_rfl) (by kernel_rfl) (fun _ _ _ h => h) (.inl ⟨by rfl, fun w hSw => by go_simp⟩) (by assumption) ?_
        simp only [Act.put, List.setIfInBounds_toArray, List.set_cons_zero, List.set_cons_succ]
        refine wpAnyH_ready (rs := [21]) (by kernel_rfl) (by simp) ?_
        refine AllReadyH.cons (o := ⟨none, .store 42 (.tmp 36) (.tmp 29), _, _, _, _⟩) rfl (fun K hK => ?_) AllReadyH.nil
        refine st_put_ent (by rfl) (.tmp 36) (.tmp 29) rfl gr p rfl y rfl cur Z HRd.out HLi.out ?_
        intro w2 hr2 hg2
        have HR2 := Lib.hid hr2
        have HC2 := Lib.hid (HCd.out.trans (Chg.one hg2) (fun z hz => .inl hz))
        clear hr2 hg2
        refine hK.out _ _ trivial (fun _hs => ?_)
        clear hK K
        refine wpAnyH_take (i := 22) (oi := ⟨some 37, .indexAddr 22 (.tmp 20) (.tmp 23), _, _, _, _⟩) (v := .pointer (some ⟨gr, q * 5, none⟩)) rfl (by kernel_rfl) (by kernel_rfl) (by kernel_rfl) (fun _ _ _ h => h) (.inl ⟨by rfl, fun w hSw => by go_simp⟩) (by assumption) ?_
        simp only [Act.put, List.setIfInBounds_toArray, List.set_cons_zero, List.set_cons_succ]
        refine wpAnyH_ready (rs := [23]) (by kernel_rfl) (by simp) ?_
        refine AllReadyH.cons (o := ⟨none, .store 42 (.tmp 37) (.tmp 35), _, _, _, _⟩) rfl (fun K hK => ?_) AllReadyH.nil
        refine st_put_ent (by rfl) (.tmp 37) (.tmp 35) rfl gr q rfl x rfl _ Z HR2.out (by rw [List.length_set]; exact HLj.out) ?_
        intro w3 hr2 hg2
        have HR3 := Lib.hid (p := ER w3 gr (swp cur p q x y) Z) hr2
        have HC3 := Lib.hid (HC2.out.trans (Chg.one hg2) (fun z hz => .inl hz))
        clear hr2 hg2
        refine hK.out _ _ trivial (fun _hs => ?_)
        clear hK K
        refine wpAnyH_done (by kernel_rfl) ?_ _
        go_wp2_with fail
        go_roundw
        case rel => exact ⟨i + 1, HII, by go_num, Lib.hid (by rw [HE2.out, ← HS.out]; exact HR3.out), HC3⟩
        case measure => have := HII.out; simp [intOf]; omega
      · skip
        refine st_load_ent (by rfl) (.tmp 34) rfl gr p rfl cur Z x HRd.out HGi.out ?_
        refine hK.out _ _ trivial (fun _hs => ?_)
        clear hK K
        refine wpAnyH_ready (rs := [13]) (by kernel_rfl) (by simp) ?_
        refine AllReadyH.cons (o := ⟨some 29, .load 42 (.tmp 28), _, _, _, _⟩) rfl (fun K hK => ?_) AllReadyH.nil
        refine st_load_ent (by rfl) (.tmp 28) rfl gr q rfl cur Z y HRd.out HGj.out ?_
        refine hK.out _ _ trivial (fun _hs => ?_)
        clear hK K
        refine wpAnyH_take (i := 20) (oi := ⟨some 36, .indexAddr 22 (.tmp 16) (.tmp 19), _, _, _, _⟩) (v := .pointer (some ⟨gr, p * 5, none⟩)) rfl (by kernel_rfl) (by kernel_rfl) (by kernel_rfl) (fun _ _ _ h => h) (.inl ⟨by rfl, fun w hSw => by go_simp⟩) (by assumption) ?_
        simp only [Act.put, List.setIfInBounds_toArray, List.set_cons_zero, List.set_cons_succ]
        refine wpAnyH_ready (rs := [21]) (by kernel_rfl) (by simp) ?_
        refine AllReadyH.cons (o := ⟨none, .store 42 (.tmp 36) (.tmp 29), _, _, _, _⟩) rfl (fun K hK => ?_) AllReadyH.nil
        refine st_put_ent (by rfl) (.tmp 36) (.tmp 29) rfl gr p rfl y rfl cur Z HRd.out HLi.out ?_
        intro w2 hr2 hg2
        have HR2 := Lib.hid hr2
        have HC2 := Lib.hid (HCd.out.trans (Chg.one hg2) (fun z hz => .inl hz))
        clear hr2 hg2
        refine hK.out _ _ trivial (fun _hs => ?_)
        clear hK K
        refine wpAnyH_take (i := 22) (oi := ⟨some 37, .indexAddr 22 (.tmp 20) (.tmp 23), _, _, _, _⟩) (v := .pointer (some ⟨gr, q * 5, none⟩)) rfl (by kernel_rfl) (by kernel_rfl) (by kernel_rfl) (fun _ _ _ h => h) (.inl ⟨by rfl, fun w hSw => by go_simp⟩) (by assumption) ?_
        simp only [Act.put, List.setIfInBounds_toArray, List.set_cons_zero, List.set_cons_succ]
        refine wpAnyH_ready (rs := [23]) (by kernel_rfl) (by simp) ?_
        refine AllReadyH.cons (o := ⟨none, .store 42 (.tmp 37) (.tmp 35), _, _, _, _⟩) rfl (fun K hK => ?_) AllReadyH.nil
        refine st_put_ent (by rfl) (.tmp 37) (.tmp 35) rfl gr q rfl x rfl _ Z HR2.out (by rw [List.length_set]; exact HLj.out) ?_
        intro w3 hr2 hg2
        have HR3 := Lib.hid (p := ER w3 gr (swp cur p q x y) Z) hr2
        have HC3 := Lib.hid (HC2.out.trans (Chg.one hg2) (fun z hz => .inl hz))
        clear hr2 hg2
        refine hK.out _ _ trivial (fun _hs => ?_)
        clear hK K
        refine wpAnyH_done (by kernel_rfl) ?_ _
        go_wp2_with fail
        go_roundw
        case rel => exact ⟨i + 1, HII, by go_num, Lib.hid (by rw [HE2.out, ← HS.out]; exact HR3.out), HC3⟩
        case measure => have := HII.out; simp [intOf]; omega
    · have hiz : ¬ (i : Int) < (k : Int) := by omega
      have hik : i = k := by have := HI.out; omega
      subst hik
      clear hi
      go_wp2
      go_end0
      exact ⟨rfl, by rw [← xch_all P X M Y S i HX.out.1 HX.out.2.1]; exact HR.out, HC.out⟩
end Go.Proofs.YtijffkklhgnknaaDoor
