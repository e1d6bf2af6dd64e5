/- The walk of GrantBack, and the laws' first test. Conditions: those named. -/
import Derived.Test.YtcebbpdclgejdaaGw
import Derived.Test.YtcebbpdclgejdaaGr
set_option linter.unusedVariables false
set_option maxRecDepth 20000
namespace Go.Proofs.Ytcebbpdclgejdaa
open Go.RowKit

theorem run_eql_op {P : Program} (w : World) {a : Act} (o : Oper) (t t' : TypeId) (x y : Operand) (ho : o.op = .binOp .eql t x y t') (xs ys : Array Value) (hx : a.eval x = .agg xs) (hy : a.eval y = .agg ys) (hg : P.eqGuardType P.depth t = false) (b : Bool)
    (he : ∀ w, (Op.equalIn 10000 t (.agg xs) (.agg ys)).run P w = .ok b w) : (execOp a.eval o).run P w = .ok (.value (.bool b)) w := by
  unfold execOp
  simp only [ho, hx, hy, Sem.run_bind, run_eqGuard_agg w _ t x y xs ys hg, run_eql_struct, he, Result.andThen_ok]
  rfl
theorem run_neq_op {P : Program} (w : World) {a : Act} (o : Oper) (t t' : TypeId) (x y : Operand) (ho : o.op = .binOp .neq t x y t') (xs ys : Array Value) (hx : a.eval x = .agg xs) (hy : a.eval y = .agg ys) (hg : P.eqGuardType P.depth t = false) (b : Bool)
    (he : ∀ w, (Op.equalIn 10000 t (.agg xs) (.agg ys)).run P w = .ok b w) : (execOp a.eval o).run P w = .ok (.value (.bool (!b))) w := by
  unfold execOp
  simp only [ho, hx, hy, Sem.run_bind, run_eqGuard_agg w _ t x y xs ys hg, run_neq_struct, he, Result.andThen_ok]
  rfl
/-! The laws' first test. -/
def supA : Sup := (supN.setU 1 true).setI 1 1
theorem supA_two : cb supA.u 256 = 2 := by decide +kernel
theorem gawake_any (w : World) : Calls Try.prog 7 #[] w fun e w' => e = .returned (.bool true) ∧ Below w.heap.size w w' := by
  have i1 := Lib.hid (fun x : Sup => info_cs x)
  have hz0 := Lib.hid zero_sup
  have HAD := Lib.hid (fun w => add_ok supN 256 0 1 (by omega) rfl (fun j hj => by omega) (by omega) (by omega) rfl (fun j hj => by obtain rfl : j = 0 := (by omega); rfl) w)
  have HTK := Lib.hid (fun w => take_no supA 2 (fun j h1 h2 => by
    rcases (by omega : j = 0 ∨ j = 1) with rfl | rfl
    · rfl
    · rfl) w)
  have HCN := Lib.hid (fun w => count_any supA w)
  rw [supA_two] at HCN
  have hAI := Lib.hid (p := supA.i 1 = 1) rfl
  obtain ⟨y, hy⟩ : ∃ y, supA = y := ⟨_, rfl⟩
  have HAD' := Lib.hid (p := ∀ w, Calls Try.prog 15 #[.agg supN.cs.toArray, .int .i64 256] w fun e w' => e = .returned (.tuple #[.agg y.cs.toArray, .int .i64 1, .int .i64 0]) ∧ Below w.heap.size w w') (by rw [← hy]; exact HAD.out)
  rw [hy] at HTK HCN hAI
  clear HAD hy
  go_enter Try.func7, Try.ntmps7
  go_wp2_with (first
    | go_skip
    | go_big_skip
    | (go_at_call 13; refine (gnew_any _).mono ?_; rintro e w1 ⟨rfl, hb1⟩; have HB1 := Lib.hid hb1; clear hb1)
    | (go_at_call 15; refine (HAD'.out _).mono ?_; rintro e w2 ⟨rfl, hb2⟩; have HB2 := Lib.hid (below_nxt hb2 HB1.out); clear hb2)
    | (refine step_alloc rfl 1 rfl 27 rfl _ hz0.out ?_; intro g3 w3 hr3 hg3 hb3 hs3
       have R3 := Lib.hid hr3
       have HB3 := Lib.hid (below_nxt hb3 HB2.out)
       have Q3 := Lib.hid (p := w.heap.size ≤ g3) (by rw [hg3.out]; exact HB2.out.size)
       clear hr3 hg3 hb3 hs3)
    | (refine step_store rfl 27 (.tmp 1) (.tmp 10) rfl g3 (by rfl) _ sup0.cs y.cs (by rfl) R3.out (by rw [Sup.cs_len, Sup.cs_len]) (i1.out _) (Sup.cs_one _) ?_; intro w4 hr4 hg4 hs4
       have R4 := Lib.hid hr4
       have HB4 := Lib.hid (below_own HB3.out hg4 Q3.out)
       clear hr4 hg4 hs4)
    | (refine step_load rfl 14 rfl 27 (.tmp 1) rfl g3 rfl y.cs _ R4.out.all Try.underlying27 rfl (i1.out _) ?_)
    | (go_at_call 14; refine (HTK.out _).mono ?_; rintro e w5 ⟨rfl, hb5⟩
       have R5 := Lib.hid (R4.out.kept hb5)
       have HB5 := Lib.hid (below_nxt hb5 HB4.out)
       clear hb5)
    | (refine step_alloc rfl 4 rfl 27 rfl _ hz0.out ?_; intro g6 w6 hr6 hg6 hb6 hs6
       have R6 := Lib.hid hr6
       have R56 := Lib.hid (R5.out.kept hb6)
       have HB6 := Lib.hid (below_nxt hb6 HB5.out)
       have Q6 := Lib.hid (p := w.heap.size ≤ g6 ∧ g3 < g6) (by rw [hg6.out]; exact ⟨HB5.out.size, R5.out.lt⟩)
       clear hr6 hg6 hb6 hs6)
    | (refine step_store rfl 27 (.tmp 4) (.tmp 16) rfl g6 (by rfl) _ sup0.cs y.cs (by rfl) R6.out (by rw [Sup.cs_len, Sup.cs_len]) (i1.out _) (Sup.cs_one _) ?_; intro w7 hr7 hg7 hs7
       have R7 := Lib.hid (R56.out.grown hg7 (by intro e; injection e with e; have := Q6.out; omega))
       have HB7 := Lib.hid (below_own HB6.out hg7 Q6.out.1)
       have c7 : w7.cell? ⟨g3, 258, none⟩ = some (.int .i64 1) := by rw [R7.out.cell, show 258 = 257 + 1 from rfl, y.c_i (by omega), hAI.out]
       clear hr7 hg7 hs7)
    | (refine step_load_g (by rfl) 36 rfl 27 (.tmp 1) rfl g3 rfl y.cs _ R7.out.all Try.underlying27 rfl (i1.out _) ?_)
    | (go_at_call 18; refine (HCN.out _).mono ?_; rintro e w8 ⟨rfl, hb8⟩
       have HB8 := Lib.hid (below_nxt hb8 HB7.out)
       clear hb8))
  go_ret
  exact ⟨rfl, HB8.out⟩
/-! What follows of a super that may be. -/
theorem cb_congr {f g : Nat → Bool} : ∀ n, (∀ j, j < n → f j = g j) → cb f n = cb g n
  | 0, _ => rfl
  | n + 1, h => by
    show cb f n + _ = cb g n + _
    rw [cb_congr n (fun j hj => h j (by omega)), h n (by omega)]
theorem cb_set {f : Nat → Bool} {k : Nat} (hf : f k = false) : ∀ n, k < n → cb (at1 f k true) n = cb f n + 1
  | n + 1, hk => by
    show cb (at1 f k true) n + (if at1 f k true n then 1 else 0) = cb f n + (if f n then 1 else 0) + 1
    by_cases e : k = n
    · subst e
      rw [at1_same, hf, cb_congr k (fun j hj => at1_other f true (by omega))]
      rfl
    · rw [at1_other f true (by omega), cb_set hf n (by omega)]
      omega
theorem cb_all {f : Nat → Bool} : ∀ n, (∀ j, j < n → f j = true) → cb f n = n
  | 0, _ => rfl
  | n + 1, h => by
    show cb f n + (if f n then 1 else 0) = n + 1
    rw [cb_all n (fun j hj => h j (by omega)), h n (by omega)]
    rfl
theorem free_ne {x : Sup} (h : x.May) {k : Nat} (hu : x.u k = false) : k ≠ 0 := fun e => by
  subst e
  rw [h.2.1] at hu
  cases hu
theorem give_back {x : Sup} (h : x.May) {k : Nat} (hk : k < 256) (hu : x.u k = false) : ((x.setU k true).give (k : Int)).eqb x = true := by
  have h0 := free_ne h hu
  have e : (x.setU k true).give (k : Int) = (x.setU k true).setU k false := by unfold Sup.give; rw [if_pos (by omega), Int.toNat_natCast]
  rw [e]
  refine (Sup.eqb_iff _ _).2 ⟨rfl, fun j hj => ?_, fun _ _ => rfl, fun _ _ => rfl⟩
  show at1 (at1 x.u k true) k false j = x.u j
  by_cases e : j = k
  · subst e
    rw [at1_same, hu]
  · rw [at1_other _ _ e, at1_other _ _ e]
theorem less_back {x : Sup} (h : x.May) {k p : Nat} (hk : k < 256) (hu : x.u k = false) (hp : p < 65) (hi : x.i p = 0) : (((x.setU k true).setI p k).less p).eqb x = true := by
  have h0 := free_ne h hu
  have e1 : ((x.setU k true).setI p (k : Int)).i p = (k : Int) := at1_same _ _ _
  have e : ((x.setU k true).setI p (k : Int)).give (k : Int) = ((x.setU k true).setI p (k : Int)).setU k false := by unfold Sup.give; rw [if_pos (by omega), Int.toNat_natCast]
  unfold Sup.less
  rw [e1, e]
  have ho : x.o p = false := by
    have := h.2.2.2 p hp
    unfold Sup.OkA at this
    rwa [if_pos hi] at this
  refine (Sup.eqb_iff _ _).2 ⟨rfl, fun j hj => ?_, fun j hj => ?_, fun j hj => ?_⟩
  · show at1 (at1 x.u k true) k false j = x.u j
    by_cases e : j = k
    · subst e
      rw [at1_same, hu]
    · rw [at1_other _ _ e, at1_other _ _ e]
  · show at1 (at1 x.i p (k : Int)) p 0 j = x.i j
    by_cases e : j = p
    · subst e
      rw [at1_same, hi]
    · rw [at1_other _ _ e, at1_other _ _ e]
  · show at1 x.o p false j = x.o j
    by_cases e : j = p
    · subst e
      rw [at1_same, ho]
    · rw [at1_other _ _ e]
theorem more_has {x : Sup} {k j : Nat} (hk : k ≠ 0) (hj : j < 64) (hi : x.i (j + 1) = 0) : cb ((x.setU k true).setI (j + 1) k).has 64 = cb x.has 64 + 1 := by
  have hf : x.has j = false := by unfold Sup.has; rw [hi]; rfl
  rw [← cb_set hf 64 hj]
  refine cb_congr 64 fun q hq => ?_
  show (at1 x.i (j + 1) (k : Int) (q + 1) != 0) = at1 x.has j true q
  by_cases e : q = j
  · subst e
    rw [at1_same, at1_same]
    simp; omega
  · rw [at1_other _ _ (by omega), at1_other _ _ e]
    rfl
theorem full_has {x : Sup} (h : ∀ j, j < 64 → x.i (j + 1) ≠ 0) : cb x.has 64 = 64 := cb_all 64 fun j hj => by
  unfold Sup.has
  simpa using h j hj
theorem gback_not (x : Sup) (z : Int) (h : ¬ x.May) (w : World) : Calls Try.prog 6 #[.agg x.cs.toArray, .int .i64 z] w fun e w' => e = .returned (.bool true) ∧ Below w.heap.size w w' := by
  have i1 := Lib.hid (fun x : Sup => info_cs x)
  have HPK := Lib.hid (fun w => gpack_not x h w)
  clear h
  go_enter Try.func6, Try.ntmps6
  go_wp2_with (first
    | (refine step_box rfl 2 rfl 27 (.tmp 0) rfl x.cs rfl ?_; intro g2 w2 hr2 hg2 hb2 hs2
       have R2 := Lib.hid hr2
       have HB2 := Lib.hid hb2
       have Q2 := Lib.hid (p := w.heap.size ≤ g2) (by rw [hg2.out]; exact Nat.le_refl _)
       clear hr2 hb2 hg2 hs2)
    | (go_at_call 7; refine (gawake_any _).mono ?_; rintro e w3 ⟨rfl, hb3⟩
       have R3 := Lib.hid (R2.out.kept hb3)
       have HB3 := Lib.hid (below_nxt hb3 HB2.out)
       clear hb3)
    | (refine step_load rfl 16 rfl 27 (.tmp 2) rfl g2 rfl x.cs _ R3.out.all Try.underlying27 rfl (i1.out _) ?_)
    | (go_at_call 8; refine (HPK.out _).mono ?_; rintro e w4 ⟨rfl, hb4⟩; have HB4 := Lib.hid (below_nxt hb4 HB3.out); clear hb4))
  go_ret
  exact ⟨rfl, HB4.out⟩
set_option maxHeartbeats 4000000 in
theorem gback_c (x : Sup) (z : Int) (h : x.May) (hs64 : x.s < 18446744073709551616) (hn : ∀ j : Nat, j < 256 → (j : Int) < z → x.u j = true) (j : Nat) (hj : j < 64) (h0 : x.i (j + 1) = 0) (hbj : ∀ q, q < j → x.i (q + 1) ≠ 0) (w : World) : Calls Try.prog 6 #[.agg x.cs.toArray, .int .i64 z] w fun e w' => e = .returned (.bool true) ∧ Below w.heap.size w w' := by
  have i1 := Lib.hid (fun x : Sup => info_cs x)
  have hz0 := Lib.hid zero_sup
  have HPK := Lib.hid (fun w => gpack_ok x h hs64 w)
  have HTK := Lib.hid (fun w => take_no x z hn w)
  have HAD := Lib.hid (fun w => add_nospace x z j hj h0 hbj hn w)
  clear hj h0 hbj
  clear h hs64 hn
  go_enter Try.func6, Try.ntmps6
  go_wp2_with (first
    | (refine step_box rfl 2 rfl 27 (.tmp 0) rfl x.cs rfl ?_; intro g2 w2 hr2 hg2 hb2 hs2
       have R2 := Lib.hid hr2
       have HB2 := Lib.hid hb2
       have Q2 := Lib.hid (p := w.heap.size ≤ g2) (by rw [hg2.out]; exact Nat.le_refl _)
       clear hr2 hb2 hg2 hs2)
    | (go_at_call 7; refine (gawake_any _).mono ?_; rintro e w3 ⟨rfl, hb3⟩
       have R3 := Lib.hid (R2.out.kept hb3)
       have HB3 := Lib.hid (below_nxt hb3 HB2.out)
       clear hb3)
    | (refine step_load rfl 16 rfl 27 (.tmp 2) rfl g2 rfl x.cs _ R3.out.all Try.underlying27 rfl (i1.out _) ?_)
    | (go_at_call 8; refine (HPK.out _).mono ?_; rintro e w4 ⟨g4, c4, rfl, _, hb4⟩
       have R4 := Lib.hid (R3.out.kept hb4.out)
       have HB4 := Lib.hid (below_nxt hb4.out HB3.out)
       clear hb4)
    | (refine step_load rfl 23 rfl 27 (.tmp 2) rfl g2 rfl x.cs _ R4.out.all Try.underlying27 rfl (i1.out _) ?_)
    | (go_at_call 14; refine (HTK.out _).mono ?_; rintro e w5 ⟨rfl, hb5⟩
       have R5 := Lib.hid (R4.out.kept hb5)
       have HB5 := Lib.hid (below_nxt hb5 HB4.out)
       clear hb5)
    | (refine step_alloc rfl 7 rfl 27 rfl _ hz0.out ?_; intro g7 w7 hr7 hg7 hb7 hs7
       have R7 := Lib.hid hr7
       have R27 := Lib.hid (R5.out.kept hb7)
       have HB7 := Lib.hid (below_nxt hb7 HB5.out)
       have Q7 := Lib.hid (p := w.heap.size ≤ g7 ∧ g2 < g7) (by rw [hg7.out]; exact ⟨HB5.out.size, R5.out.lt⟩)
       clear hr7 hg7 hb7 hs7)
    | (refine step_store rfl 27 (.tmp 7) (.tmp 26) rfl g7 (by rfl) _ sup0.cs x.cs (by rfl) R7.out (by rw [Sup.cs_len, Sup.cs_len]) (i1.out _) (Sup.cs_one _) ?_; intro w8 hr8 hg8 hs8
       have R8 := Lib.hid hr8
       have R28 := Lib.hid (R27.out.grown hg8 (by intro e; injection e with e; have := Q7.out; omega))
       have HB8 := Lib.hid (below_own HB7.out hg8 Q7.out.1)
       clear hr8 hg8 hs8))
  have hSS : Row w8.drew g2 27 x.cs ∧ Row w8.drew g7 27 x.cs := ⟨R28.out.kept (below_drw' w8), R8.out.kept (below_drw' w8)⟩
  have HBD := Lib.hid (below_nxt (below_drw' w8) HB8.out)
  refine wp_region_held_drew (S := fun w' => Row w' g2 27 x.cs ∧ Row w' g7 27 x.cs) (by kernel_rfl) hSS (fun hHeld => ?_)
  refine wpAnyH_take (i := 0) (oi := ⟨some 29, .move (.tmp 9), _, _, _, _⟩) (v := .int .i64 28) rfl (by kernel_rfl) (by kernel_rfl) (by kernel_rfl) (fun _ _ _ h => h) (.inl ⟨by rfl, fun w hSw => by go_simp⟩) (by assumption) ?_
  simp only [Act.put, List.setIfInBounds_toArray, List.set_cons_zero, List.set_cons_succ]
  refine wpAnyH_take (i := 1) (oi := ⟨some 30, .binOp .eql 30 (.tmp 29) (.const (.int .i64 0)) 30, _, _, _, _⟩) (v := .bool false) rfl (by kernel_rfl) (by kernel_rfl) (by kernel_rfl) (fun _ _ _ h => h) (.inl ⟨by rfl, fun w hSw => by go_simp⟩) (by assumption) ?_
  simp only [Act.put, List.setIfInBounds_toArray, List.set_cons_zero, List.set_cons_succ]
  refine wpAnyH_take (i := 2) (oi := ⟨some 31, .move (.tmp 30), _, _, _, _⟩) (v := .bool false) rfl (by kernel_rfl) (by kernel_rfl) (by kernel_rfl) (fun _ _ _ h => h) (.inl ⟨by rfl, fun w hSw => by go_simp⟩) (by assumption) ?_
  simp only [Act.put, List.setIfInBounds_toArray, List.set_cons_zero, List.set_cons_succ]
  refine wpAnyH_take (i := 3) (oi := ⟨some 32, .load 27 (.tmp 7), _, _, _, _⟩) (v := undef) rfl (by kernel_rfl) (by kernel_rfl) (by kernel_rfl) (fun _ _ _ h => h) (.inr ⟨by rfl, rfl⟩) (by assumption) ?_
  simp only [Act.put, List.setIfInBounds_toArray, List.set_cons_zero, List.set_cons_succ]
  refine wpAnyH_take (i := 4) (oi := ⟨some 33, .move (.tmp 8), _, _, _, _⟩) (v := undef) rfl (by kernel_rfl) (by kernel_rfl) (by kernel_rfl) (fun _ _ _ h => h) (.inr ⟨by rfl, rfl⟩) (by assumption) ?_
  simp only [Act.put, List.setIfInBounds_toArray, List.set_cons_zero, List.set_cons_succ]
  refine wpAnyH_take (i := 5) (oi := ⟨some 34, .call ⟨.value (.func 17), #[.tmp 32, .tmp 33], _⟩, _, _, _, _⟩) (v := undef) rfl (by kernel_rfl) (by kernel_rfl) (by kernel_rfl) (fun _ _ _ h => h) (.inr ⟨by rfl, rfl⟩) (by assumption) ?_
  simp only [Act.put, List.setIfInBounds_toArray, List.set_cons_zero, List.set_cons_succ]
  refine wpAnyH_take (i := 6) (oi := ⟨some 35, .load 27 (.tmp 2), _, _, _, _⟩) (v := undef) rfl (by kernel_rfl) (by kernel_rfl) (by kernel_rfl) (fun _ _ _ h => h) (.inr ⟨by rfl, rfl⟩) (by assumption) ?_
  simp only [Act.put, List.setIfInBounds_toArray, List.set_cons_zero, List.set_cons_succ]
  refine wpAnyH_take (i := 7) (oi := ⟨some 36, .binOp .neq 27 (.tmp 34) (.tmp 35) 27, _, _, _, _⟩) (v := undef) rfl (by kernel_rfl) (by kernel_rfl) (by kernel_rfl) (fun _ _ _ h => h) (.inr ⟨by rfl, rfl⟩) (by assumption) ?_
  simp only [Act.put, List.setIfInBounds_toArray, List.set_cons_zero, List.set_cons_succ]
  refine wpAnyH_take (i := 8) (oi := ⟨some 37, .move (.tmp 36), _, _, _, _⟩) (v := undef) rfl (by kernel_rfl) (by kernel_rfl) (by kernel_rfl) (fun _ _ _ h => h) (.inr ⟨by rfl, rfl⟩) (by assumption) ?_
  simp only [Act.put, List.setIfInBounds_toArray, List.set_cons_zero, List.set_cons_succ]
  refine wpAnyH_take (i := 9) (oi := ⟨some 38, .load 27 (.tmp 7), _, _, _, _⟩) (v := undef) rfl (by kernel_rfl) (by kernel_rfl) (by kernel_rfl) (fun _ _ _ h => h) (.inr ⟨by rfl, rfl⟩) (by assumption) ?_
  simp only [Act.put, List.setIfInBounds_toArray, List.set_cons_zero, List.set_cons_succ]
  refine wpAnyH_take (i := 10) (oi := ⟨some 39, .call ⟨.value (.func 18), #[.tmp 38], _⟩, _, _, _, _⟩) (v := undef) rfl (by kernel_rfl) (by kernel_rfl) (by kernel_rfl) (fun _ _ _ h => h) (.inr ⟨by rfl, rfl⟩) (by assumption) ?_
  simp only [Act.put, List.setIfInBounds_toArray, List.set_cons_zero, List.set_cons_succ]
  refine wpAnyH_take (i := 11) (oi := ⟨some 40, .load 27 (.tmp 2), _, _, _, _⟩) (v := undef) rfl (by kernel_rfl) (by kernel_rfl) (by kernel_rfl) (fun _ _ _ h => h) (.inr ⟨by rfl, rfl⟩) (by assumption) ?_
  simp only [Act.put, List.setIfInBounds_toArray, List.set_cons_zero, List.set_cons_succ]
  refine wpAnyH_take (i := 12) (oi := ⟨some 41, .call ⟨.value (.func 18), #[.tmp 40], _⟩, _, _, _, _⟩) (v := undef) rfl (by kernel_rfl) (by kernel_rfl) (by kernel_rfl) (fun _ _ _ h => h) (.inr ⟨by rfl, rfl⟩) (by assumption) ?_
  simp only [Act.put, List.setIfInBounds_toArray, List.set_cons_zero, List.set_cons_succ]
  refine wpAnyH_take (i := 13) (oi := ⟨some 42, .binOp .add 3 (.tmp 41) (.const (.int .i64 1)) 3, _, _, _, _⟩) (v := undef) rfl (by kernel_rfl) (by kernel_rfl) (by kernel_rfl) (fun _ _ _ h => h) (.inr ⟨by rfl, rfl⟩) (by assumption) ?_
  simp only [Act.put, List.setIfInBounds_toArray, List.set_cons_zero, List.set_cons_succ]
  refine wpAnyH_take (i := 14) (oi := ⟨some 43, .binOp .neq 3 (.tmp 39) (.tmp 42) 3, _, _, _, _⟩) (v := undef) rfl (by kernel_rfl) (by kernel_rfl) (by kernel_rfl) (fun _ _ _ h => h) (.inr ⟨by rfl, rfl⟩) (by assumption) ?_
  simp only [Act.put, List.setIfInBounds_toArray, List.set_cons_zero, List.set_cons_succ]
  refine wpAnyH_take (i := 15) (oi := ⟨some 44, .pick (.tmp 37) (.const (.bool true)) (.tmp 43), _, _, _, _⟩) (v := undef) rfl (by kernel_rfl) (by kernel_rfl) (by kernel_rfl) (fun _ _ _ h => h) (.inr ⟨by rfl, rfl⟩) (by assumption) ?_
  simp only [Act.put, List.setIfInBounds_toArray, List.set_cons_zero, List.set_cons_succ]
  refine wpAnyH_take (i := 16) (oi := ⟨some 45, .pick (.tmp 31) (.tmp 44) (.const (.bool false)), _, _, _, _⟩) (v := .bool false) rfl (by kernel_rfl) (by kernel_rfl) (by kernel_rfl) (fun _ _ _ h => h) (.inl ⟨by rfl, fun w hSw => by go_simp⟩) (by assumption) ?_
  simp only [Act.put, List.setIfInBounds_toArray, List.set_cons_zero, List.set_cons_succ]
  refine wpAnyH_take (i := 17) (oi := ⟨some 46, .move (.tmp 45), _, _, _, _⟩) (v := .bool false) rfl (by kernel_rfl) (by kernel_rfl) (by kernel_rfl) (fun _ _ _ h => h) (.inl ⟨by rfl, fun w hSw => by go_simp⟩) (by assumption) ?_
  simp only [Act.put, List.setIfInBounds_toArray, List.set_cons_zero, List.set_cons_succ]
  refine wpAnyH_take (i := 18) (oi := ⟨some 47, .move (.tmp 9), _, _, _, _⟩) (v := .int .i64 28) rfl (by kernel_rfl) (by kernel_rfl) (by kernel_rfl) (fun _ _ _ h => h) (.inl ⟨by rfl, fun w hSw => by go_simp⟩) (by assumption) ?_
  simp only [Act.put, List.setIfInBounds_toArray, List.set_cons_zero, List.set_cons_succ]
  refine wpAnyH_take (i := 19) (oi := ⟨some 48, .binOp .neq 30 (.tmp 47) (.const (.int .i64 0)) 30, _, _, _, _⟩) (v := .bool true) rfl (by kernel_rfl) (by kernel_rfl) (by kernel_rfl) (fun _ _ _ h => h) (.inl ⟨by rfl, fun w hSw => by go_simp⟩) (by assumption) ?_
  simp only [Act.put, List.setIfInBounds_toArray, List.set_cons_zero, List.set_cons_succ]
  refine wpAnyH_take (i := 20) (oi := ⟨some 49, .move (.tmp 48), _, _, _, _⟩) (v := .bool true) rfl (by kernel_rfl) (by kernel_rfl) (by kernel_rfl) (fun _ _ _ h => h) (.inl ⟨by rfl, fun w hSw => by go_simp⟩) (by assumption) ?_
  simp only [Act.put, List.setIfInBounds_toArray, List.set_cons_zero, List.set_cons_succ]
  refine wpAnyH_take (i := 21) (oi := ⟨some 50, .load 27 (.tmp 7), _, _, _, _⟩) (v := .agg x.cs.toArray) rfl (by kernel_rfl) (by kernel_rfl) (by kernel_rfl) (fun _ _ _ h => h) (yieldsIf_load_mid (by rfl) 27 (.tmp 7) rfl g7 0 rfl x.cs _ (fun w hSw => hSw.2.all) Try.underlying27 rfl (i1.out _)) (by assumption) ?_
  simp only [Act.put, List.setIfInBounds_toArray, List.set_cons_zero, List.set_cons_succ]
  refine wpAnyH_take (i := 22) (oi := ⟨some 51, .load 27 (.tmp 2), _, _, _, _⟩) (v := .agg x.cs.toArray) rfl (by kernel_rfl) (by kernel_rfl) (by kernel_rfl) (fun _ _ _ h => h) (yieldsIf_load_mid (by rfl) 27 (.tmp 2) rfl g2 0 rfl x.cs _ (fun w hSw => hSw.1.all) Try.underlying27 rfl (i1.out _)) (by assumption) ?_
  simp only [Act.put, List.setIfInBounds_toArray, List.set_cons_zero, List.set_cons_succ]
  refine wpAnyH_take (i := 23) (oi := ⟨some 52, .binOp .neq 27 (.tmp 50) (.tmp 51) 27, _, _, _, _⟩) (v := .bool false) rfl (by kernel_rfl) (by kernel_rfl) (by kernel_rfl) (fun _ _ _ h => h) (.inl ⟨by rfl, fun w hSw => by exact run_neq_op (P := Try.prog) w _ 27 27 (.tmp 50) (.tmp 51) rfl x.cs.toArray x.cs.toArray (by rfl) (by rfl) sup_guard true (fun w => by rw [eq_sup 9997]; exact congrArg (fun b => Result.ok b w) (Sup.eqb_refl x))⟩) (by assumption) ?_
  simp only [Act.put, List.setIfInBounds_toArray, List.set_cons_zero, List.set_cons_succ]
  refine wpAnyH_take (i := 24) (oi := ⟨some 53, .pick (.tmp 49) (.tmp 52) (.const (.bool false)), _, _, _, _⟩) (v := .bool false) rfl (by kernel_rfl) (by kernel_rfl) (by kernel_rfl) (fun _ _ _ h => h) (.inl ⟨by rfl, fun w hSw => by go_simp⟩) (by assumption) ?_
  simp only [Act.put, List.setIfInBounds_toArray, List.set_cons_zero, List.set_cons_succ]
  refine wpAnyH_take (i := 25) (oi := ⟨some 54, .pick (.tmp 46) (.const (.bool true)) (.tmp 53), _, _, _, _⟩) (v := .bool false) rfl (by kernel_rfl) (by kernel_rfl) (by kernel_rfl) (fun _ _ _ h => h) (.inl ⟨by rfl, fun w hSw => by go_simp⟩) (by assumption) ?_
  simp only [Act.put, List.setIfInBounds_toArray, List.set_cons_zero, List.set_cons_succ]
  refine wpAnyH_done (by kernel_rfl) ?_ _
  go_wp2_with (first
    | (refine step_load rfl 56 rfl 27 (.tmp 2) rfl g2 rfl x.cs _ hSS.1.all Try.underlying27 rfl (i1.out _) ?_)
    | (go_at_call 15; refine (HAD.out _).mono ?_; rintro e w20 ⟨rfl, hb20⟩
       have R20 := Lib.hid (hSS.1.kept hb20)
       have HB20 := Lib.hid (below_nxt hb20 HBD.out)
       clear hb20)
    | (refine step_alloc rfl 10 rfl 27 rfl _ hz0.out ?_; intro g21 w21 hr21 hg21 hb21 hs21
       have R21 := Lib.hid hr21
       have R221 := Lib.hid (R20.out.kept hb21)
       have HB21 := Lib.hid (below_nxt hb21 HB20.out)
       have Q21 := Lib.hid (p := w.heap.size ≤ g21 ∧ g2 < g21) (by rw [hg21.out]; exact ⟨HB20.out.size, R20.out.lt⟩)
       clear hr21 hg21 hb21 hs21)
    | (refine step_store rfl 27 (.tmp 10) (.tmp 59) rfl g21 (by rfl) _ sup0.cs x.cs (by rfl) R21.out (by rw [Sup.cs_len, Sup.cs_len]) (i1.out _) (Sup.cs_one _) ?_; intro w22 hr22 hg22 hs22
       have R22 := Lib.hid hr22
       have R222 := Lib.hid (R221.out.grown hg22 (by intro e; injection e with e; have := Q21.out; omega))
       have HB22 := Lib.hid (below_own HB21.out hg22 Q21.out.1)
       clear hr22 hg22 hs22)
    | go_skip
    | go_big_skip
    | (refine step_load rfl 85 rfl 27 (.tmp 10) rfl g21 rfl x.cs _ R22.out.all Try.underlying27 rfl (i1.out _) ?_)
    | (refine step_load rfl 86 rfl 27 (.tmp 2) rfl g2 rfl x.cs _ R222.out.all Try.underlying27 rfl (i1.out _) ?_)
    | (refine step_eql (by rfl) 27 27 (.tmp 85) (.tmp 86) rfl x.cs.toArray x.cs.toArray (by rfl) (by rfl) sup_guard true (fun w => by rw [eq_sup 9997, Sup.eqb_refl]) ?_)
    | (refine step_load_g (by rfl) 92 rfl 27 (.tmp 2) rfl g2 rfl x.cs _ R222.out.all Try.underlying27 rfl (i1.out _) ?_)
    | (go_at_call 19; refine (HIN.out _).mono ?_; rintro e w23 ⟨rfl, hb23⟩
       have HB23 := Lib.hid (below_nxt hb23 HB22.out)
       clear hb23))
  go_ret
  exact ⟨rfl, HB22.out⟩
set_option maxHeartbeats 4000000 in
theorem gback_d (x : Sup) (z : Int) (h : x.May) (hs64 : x.s < 18446744073709551616) (hn : ∀ j : Nat, j < 256 → (j : Int) < z → x.u j = true) (hf : ∀ j, j < 64 → x.i (j + 1) ≠ 0) (w : World) : Calls Try.prog 6 #[.agg x.cs.toArray, .int .i64 z] w fun e w' => e = .returned (.bool true) ∧ Below w.heap.size w w' := by
  have i1 := Lib.hid (fun x : Sup => info_cs x)
  have hz0 := Lib.hid zero_sup
  have HPK := Lib.hid (fun w => gpack_ok x h hs64 w)
  have HTK := Lib.hid (fun w => take_no x z hn w)
  have HAD := Lib.hid (fun w => add_full x z hf w)
  have HIN := Lib.hid (fun w => inodes_any x w)
  rw [full_has hf] at HIN
  clear h hs64 hn
  clear hf
  go_enter Try.func6, Try.ntmps6
  go_wp2_with (first
    | (refine step_box rfl 2 rfl 27 (.tmp 0) rfl x.cs rfl ?_; intro g2 w2 hr2 hg2 hb2 hs2
       have R2 := Lib.hid hr2
       have HB2 := Lib.hid hb2
       have Q2 := Lib.hid (p := w.heap.size ≤ g2) (by rw [hg2.out]; exact Nat.le_refl _)
       clear hr2 hb2 hg2 hs2)
    | (go_at_call 7; refine (gawake_any _).mono ?_; rintro e w3 ⟨rfl, hb3⟩
       have R3 := Lib.hid (R2.out.kept hb3)
       have HB3 := Lib.hid (below_nxt hb3 HB2.out)
       clear hb3)
    | (refine step_load rfl 16 rfl 27 (.tmp 2) rfl g2 rfl x.cs _ R3.out.all Try.underlying27 rfl (i1.out _) ?_)
    | (go_at_call 8; refine (HPK.out _).mono ?_; rintro e w4 ⟨g4, c4, rfl, _, hb4⟩
       have R4 := Lib.hid (R3.out.kept hb4.out)
       have HB4 := Lib.hid (below_nxt hb4.out HB3.out)
       clear hb4)
    | (refine step_load rfl 23 rfl 27 (.tmp 2) rfl g2 rfl x.cs _ R4.out.all Try.underlying27 rfl (i1.out _) ?_)
    | (go_at_call 14; refine (HTK.out _).mono ?_; rintro e w5 ⟨rfl, hb5⟩
       have R5 := Lib.hid (R4.out.kept hb5)
       have HB5 := Lib.hid (below_nxt hb5 HB4.out)
       clear hb5)
    | (refine step_alloc rfl 7 rfl 27 rfl _ hz0.out ?_; intro g7 w7 hr7 hg7 hb7 hs7
       have R7 := Lib.hid hr7
       have R27 := Lib.hid (R5.out.kept hb7)
       have HB7 := Lib.hid (below_nxt hb7 HB5.out)
       have Q7 := Lib.hid (p := w.heap.size ≤ g7 ∧ g2 < g7) (by rw [hg7.out]; exact ⟨HB5.out.size, R5.out.lt⟩)
       clear hr7 hg7 hb7 hs7)
    | (refine step_store rfl 27 (.tmp 7) (.tmp 26) rfl g7 (by rfl) _ sup0.cs x.cs (by rfl) R7.out (by rw [Sup.cs_len, Sup.cs_len]) (i1.out _) (Sup.cs_one _) ?_; intro w8 hr8 hg8 hs8
       have R8 := Lib.hid hr8
       have R28 := Lib.hid (R27.out.grown hg8 (by intro e; injection e with e; have := Q7.out; omega))
       have HB8 := Lib.hid (below_own HB7.out hg8 Q7.out.1)
       clear hr8 hg8 hs8))
  have hSS : Row w8.drew g2 27 x.cs ∧ Row w8.drew g7 27 x.cs := ⟨R28.out.kept (below_drw' w8), R8.out.kept (below_drw' w8)⟩
  have HBD := Lib.hid (below_nxt (below_drw' w8) HB8.out)
  refine wp_region_held_drew (S := fun w' => Row w' g2 27 x.cs ∧ Row w' g7 27 x.cs) (by kernel_rfl) hSS (fun hHeld => ?_)
  refine wpAnyH_take (i := 0) (oi := ⟨some 29, .move (.tmp 9), _, _, _, _⟩) (v := .int .i64 28) rfl (by kernel_rfl) (by kernel_rfl) (by kernel_rfl) (fun _ _ _ h => h) (.inl ⟨by rfl, fun w hSw => by go_simp⟩) (by assumption) ?_
  simp only [Act.put, List.setIfInBounds_toArray, List.set_cons_zero, List.set_cons_succ]
  refine wpAnyH_take (i := 1) (oi := ⟨some 30, .binOp .eql 30 (.tmp 29) (.const (.int .i64 0)) 30, _, _, _, _⟩) (v := .bool false) rfl (by kernel_rfl) (by kernel_rfl) (by kernel_rfl) (fun _ _ _ h => h) (.inl ⟨by rfl, fun w hSw => by go_simp⟩) (by assumption) ?_
  simp only [Act.put, List.setIfInBounds_toArray, List.set_cons_zero, List.set_cons_succ]
  refine wpAnyH_take (i := 2) (oi := ⟨some 31, .move (.tmp 30), _, _, _, _⟩) (v := .bool false) rfl (by kernel_rfl) (by kernel_rfl) (by kernel_rfl) (fun _ _ _ h => h) (.inl ⟨by rfl, fun w hSw => by go_simp⟩) (by assumption) ?_
  simp only [Act.put, List.setIfInBounds_toArray, List.set_cons_zero, List.set_cons_succ]
  refine wpAnyH_take (i := 3) (oi := ⟨some 32, .load 27 (.tmp 7), _, _, _, _⟩) (v := undef) rfl (by kernel_rfl) (by kernel_rfl) (by kernel_rfl) (fun _ _ _ h => h) (.inr ⟨by rfl, rfl⟩) (by assumption) ?_
  simp only [Act.put, List.setIfInBounds_toArray, List.set_cons_zero, List.set_cons_succ]
  refine wpAnyH_take (i := 4) (oi := ⟨some 33, .move (.tmp 8), _, _, _, _⟩) (v := undef) rfl (by kernel_rfl) (by kernel_rfl) (by kernel_rfl) (fun _ _ _ h => h) (.inr ⟨by rfl, rfl⟩) (by assumption) ?_
  simp only [Act.put, List.setIfInBounds_toArray, List.set_cons_zero, List.set_cons_succ]
  refine wpAnyH_take (i := 5) (oi := ⟨some 34, .call ⟨.value (.func 17), #[.tmp 32, .tmp 33], _⟩, _, _, _, _⟩) (v := undef) rfl (by kernel_rfl) (by kernel_rfl) (by kernel_rfl) (fun _ _ _ h => h) (.inr ⟨by rfl, rfl⟩) (by assumption) ?_
  simp only [Act.put, List.setIfInBounds_toArray, List.set_cons_zero, List.set_cons_succ]
  refine wpAnyH_take (i := 6) (oi := ⟨some 35, .load 27 (.tmp 2), _, _, _, _⟩) (v := undef) rfl (by kernel_rfl) (by kernel_rfl) (by kernel_rfl) (fun _ _ _ h => h) (.inr ⟨by rfl, rfl⟩) (by assumption) ?_
  simp only [Act.put, List.setIfInBounds_toArray, List.set_cons_zero, List.set_cons_succ]
  refine wpAnyH_take (i := 7) (oi := ⟨some 36, .binOp .neq 27 (.tmp 34) (.tmp 35) 27, _, _, _, _⟩) (v := undef) rfl (by kernel_rfl) (by kernel_rfl) (by kernel_rfl) (fun _ _ _ h => h) (.inr ⟨by rfl, rfl⟩) (by assumption) ?_
  simp only [Act.put, List.setIfInBounds_toArray, List.set_cons_zero, List.set_cons_succ]
  refine wpAnyH_take (i := 8) (oi := ⟨some 37, .move (.tmp 36), _, _, _, _⟩) (v := undef) rfl (by kernel_rfl) (by kernel_rfl) (by kernel_rfl) (fun _ _ _ h => h) (.inr ⟨by rfl, rfl⟩) (by assumption) ?_
  simp only [Act.put, List.setIfInBounds_toArray, List.set_cons_zero, List.set_cons_succ]
  refine wpAnyH_take (i := 9) (oi := ⟨some 38, .load 27 (.tmp 7), _, _, _, _⟩) (v := undef) rfl (by kernel_rfl) (by kernel_rfl) (by kernel_rfl) (fun _ _ _ h => h) (.inr ⟨by rfl, rfl⟩) (by assumption) ?_
  simp only [Act.put, List.setIfInBounds_toArray, List.set_cons_zero, List.set_cons_succ]
  refine wpAnyH_take (i := 10) (oi := ⟨some 39, .call ⟨.value (.func 18), #[.tmp 38], _⟩, _, _, _, _⟩) (v := undef) rfl (by kernel_rfl) (by kernel_rfl) (by kernel_rfl) (fun _ _ _ h => h) (.inr ⟨by rfl, rfl⟩) (by assumption) ?_
  simp only [Act.put, List.setIfInBounds_toArray, List.set_cons_zero, List.set_cons_succ]
  refine wpAnyH_take (i := 11) (oi := ⟨some 40, .load 27 (.tmp 2), _, _, _, _⟩) (v := undef) rfl (by kernel_rfl) (by kernel_rfl) (by kernel_rfl) (fun _ _ _ h => h) (.inr ⟨by rfl, rfl⟩) (by assumption) ?_
  simp only [Act.put, List.setIfInBounds_toArray, List.set_cons_zero, List.set_cons_succ]
  refine wpAnyH_take (i := 12) (oi := ⟨some 41, .call ⟨.value (.func 18), #[.tmp 40], _⟩, _, _, _, _⟩) (v := undef) rfl (by kernel_rfl) (by kernel_rfl) (by kernel_rfl) (fun _ _ _ h => h) (.inr ⟨by rfl, rfl⟩) (by assumption) ?_
  simp only [Act.put, List.setIfInBounds_toArray, List.set_cons_zero, List.set_cons_succ]
  refine wpAnyH_take (i := 13) (oi := ⟨some 42, .binOp .add 3 (.tmp 41) (.const (.int .i64 1)) 3, _, _, _, _⟩) (v := undef) rfl (by kernel_rfl) (by kernel_rfl) (by kernel_rfl) (fun _ _ _ h => h) (.inr ⟨by rfl, rfl⟩) (by assumption) ?_
  simp only [Act.put, List.setIfInBounds_toArray, List.set_cons_zero, List.set_cons_succ]
  refine wpAnyH_take (i := 14) (oi := ⟨some 43, .binOp .neq 3 (.tmp 39) (.tmp 42) 3, _, _, _, _⟩) (v := undef) rfl (by kernel_rfl) (by kernel_rfl) (by kernel_rfl) (fun _ _ _ h => h) (.inr ⟨by rfl, rfl⟩) (by assumption) ?_
  simp only [Act.put, List.setIfInBounds_toArray, List.set_cons_zero, List.set_cons_succ]
  refine wpAnyH_take (i := 15) (oi := ⟨some 44, .pick (.tmp 37) (.const (.bool true)) (.tmp 43), _, _, _, _⟩) (v := undef) rfl (by kernel_rfl) (by kernel_rfl) (by kernel_rfl) (fun _ _ _ h => h) (.inr ⟨by rfl, rfl⟩) (by assumption) ?_
  simp only [Act.put, List.setIfInBounds_toArray, List.set_cons_zero, List.set_cons_succ]
  refine wpAnyH_take (i := 16) (oi := ⟨some 45, .pick (.tmp 31) (.tmp 44) (.const (.bool false)), _, _, _, _⟩) (v := .bool false) rfl (by kernel_rfl) (by kernel_rfl) (by kernel_rfl) (fun _ _ _ h => h) (.inl ⟨by rfl, fun w hSw => by go_simp⟩) (by assumption) ?_
  simp only [Act.put, List.setIfInBounds_toArray, List.set_cons_zero, List.set_cons_succ]
  refine wpAnyH_take (i := 17) (oi := ⟨some 46, .move (.tmp 45), _, _, _, _⟩) (v := .bool false) rfl (by kernel_rfl) (by kernel_rfl) (by kernel_rfl) (fun _ _ _ h => h) (.inl ⟨by rfl, fun w hSw => by go_simp⟩) (by assumption) ?_
  simp only [Act.put, List.setIfInBounds_toArray, List.set_cons_zero, List.set_cons_succ]
  refine wpAnyH_take (i := 18) (oi := ⟨some 47, .move (.tmp 9), _, _, _, _⟩) (v := .int .i64 28) rfl (by kernel_rfl) (by kernel_rfl) (by kernel_rfl) (fun _ _ _ h => h) (.inl ⟨by rfl, fun w hSw => by go_simp⟩) (by assumption) ?_
  simp only [Act.put, List.setIfInBounds_toArray, List.set_cons_zero, List.set_cons_succ]
  refine wpAnyH_take (i := 19) (oi := ⟨some 48, .binOp .neq 30 (.tmp 47) (.const (.int .i64 0)) 30, _, _, _, _⟩) (v := .bool true) rfl (by kernel_rfl) (by kernel_rfl) (by kernel_rfl) (fun _ _ _ h => h) (.inl ⟨by rfl, fun w hSw => by go_simp⟩) (by assumption) ?_
  simp only [Act.put, List.setIfInBounds_toArray, List.set_cons_zero, List.set_cons_succ]
  refine wpAnyH_take (i := 20) (oi := ⟨some 49, .move (.tmp 48), _, _, _, _⟩) (v := .bool true) rfl (by kernel_rfl) (by kernel_rfl) (by kernel_rfl) (fun _ _ _ h => h) (.inl ⟨by rfl, fun w hSw => by go_simp⟩) (by assumption) ?_
  simp only [Act.put, List.setIfInBounds_toArray, List.set_cons_zero, List.set_cons_succ]
  refine wpAnyH_take (i := 21) (oi := ⟨some 50, .load 27 (.tmp 7), _, _, _, _⟩) (v := .agg x.cs.toArray) rfl (by kernel_rfl) (by kernel_rfl) (by kernel_rfl) (fun _ _ _ h => h) (yieldsIf_load_mid (by rfl) 27 (.tmp 7) rfl g7 0 rfl x.cs _ (fun w hSw => hSw.2.all) Try.underlying27 rfl (i1.out _)) (by assumption) ?_
  simp only [Act.put, List.setIfInBounds_toArray, List.set_cons_zero, List.set_cons_succ]
  refine wpAnyH_take (i := 22) (oi := ⟨some 51, .load 27 (.tmp 2), _, _, _, _⟩) (v := .agg x.cs.toArray) rfl (by kernel_rfl) (by kernel_rfl) (by kernel_rfl) (fun _ _ _ h => h) (yieldsIf_load_mid (by rfl) 27 (.tmp 2) rfl g2 0 rfl x.cs _ (fun w hSw => hSw.1.all) Try.underlying27 rfl (i1.out _)) (by assumption) ?_
  simp only [Act.put, List.setIfInBounds_toArray, List.set_cons_zero, List.set_cons_succ]
  refine wpAnyH_take (i := 23) (oi := ⟨some 52, .binOp .neq 27 (.tmp 50) (.tmp 51) 27, _, _, _, _⟩) (v := .bool false) rfl (by kernel_rfl) (by kernel_rfl) (by kernel_rfl) (fun _ _ _ h => h) (.inl ⟨by rfl, fun w hSw => by exact run_neq_op (P := Try.prog) w _ 27 27 (.tmp 50) (.tmp 51) rfl x.cs.toArray x.cs.toArray (by rfl) (by rfl) sup_guard true (fun w => by rw [eq_sup 9997]; exact congrArg (fun b => Result.ok b w) (Sup.eqb_refl x))⟩) (by assumption) ?_
  simp only [Act.put, List.setIfInBounds_toArray, List.set_cons_zero, List.set_cons_succ]
  refine wpAnyH_take (i := 24) (oi := ⟨some 53, .pick (.tmp 49) (.tmp 52) (.const (.bool false)), _, _, _, _⟩) (v := .bool false) rfl (by kernel_rfl) (by kernel_rfl) (by kernel_rfl) (fun _ _ _ h => h) (.inl ⟨by rfl, fun w hSw => by go_simp⟩) (by assumption) ?_
  simp only [Act.put, List.setIfInBounds_toArray, List.set_cons_zero, List.set_cons_succ]
  refine wpAnyH_take (i := 25) (oi := ⟨some 54, .pick (.tmp 46) (.const (.bool true)) (.tmp 53), _, _, _, _⟩) (v := .bool false) rfl (by kernel_rfl) (by kernel_rfl) (by kernel_rfl) (fun _ _ _ h => h) (.inl ⟨by rfl, fun w hSw => by go_simp⟩) (by assumption) ?_
  simp only [Act.put, List.setIfInBounds_toArray, List.set_cons_zero, List.set_cons_succ]
  refine wpAnyH_done (by kernel_rfl) ?_ _
  go_wp2_with (first
    | (refine step_load rfl 56 rfl 27 (.tmp 2) rfl g2 rfl x.cs _ hSS.1.all Try.underlying27 rfl (i1.out _) ?_)
    | (go_at_call 15; refine (HAD.out _).mono ?_; rintro e w20 ⟨rfl, hb20⟩
       have R20 := Lib.hid (hSS.1.kept hb20)
       have HB20 := Lib.hid (below_nxt hb20 HBD.out)
       clear hb20)
    | (refine step_alloc rfl 10 rfl 27 rfl _ hz0.out ?_; intro g21 w21 hr21 hg21 hb21 hs21
       have R21 := Lib.hid hr21
       have R221 := Lib.hid (R20.out.kept hb21)
       have HB21 := Lib.hid (below_nxt hb21 HB20.out)
       have Q21 := Lib.hid (p := w.heap.size ≤ g21 ∧ g2 < g21) (by rw [hg21.out]; exact ⟨HB20.out.size, R20.out.lt⟩)
       clear hr21 hg21 hb21 hs21)
    | (refine step_store rfl 27 (.tmp 10) (.tmp 59) rfl g21 (by rfl) _ sup0.cs x.cs (by rfl) R21.out (by rw [Sup.cs_len, Sup.cs_len]) (i1.out _) (Sup.cs_one _) ?_; intro w22 hr22 hg22 hs22
       have R22 := Lib.hid hr22
       have R222 := Lib.hid (R221.out.grown hg22 (by intro e; injection e with e; have := Q21.out; omega))
       have HB22 := Lib.hid (below_own HB21.out hg22 Q21.out.1)
       clear hr22 hg22 hs22)
    | go_skip
    | go_big_skip
    | (refine step_load rfl 85 rfl 27 (.tmp 10) rfl g21 rfl x.cs _ R22.out.all Try.underlying27 rfl (i1.out _) ?_)
    | (refine step_load rfl 86 rfl 27 (.tmp 2) rfl g2 rfl x.cs _ R222.out.all Try.underlying27 rfl (i1.out _) ?_)
    | (refine step_eql (by rfl) 27 27 (.tmp 85) (.tmp 86) rfl x.cs.toArray x.cs.toArray (by rfl) (by rfl) sup_guard true (fun w => by rw [eq_sup 9997, Sup.eqb_refl]) ?_)
    | (refine step_load_g (by rfl) 92 rfl 27 (.tmp 2) rfl g2 rfl x.cs _ R222.out.all Try.underlying27 rfl (i1.out _) ?_)
    | (go_at_call 19; refine (HIN.out _).mono ?_; rintro e w23 ⟨rfl, hb23⟩
       have HB23 := Lib.hid (below_nxt hb23 HB22.out)
       clear hb23))
  go_ret
  exact ⟨rfl, HB23.out⟩
set_option maxHeartbeats 4000000 in
theorem gback_b (x : Sup) (z : Int) (h : x.May) (hs64 : x.s < 18446744073709551616) (k : Nat) (hk : k < 256) (hz : (k : Int) < z) (hu : x.u k = false) (hb : ∀ j, j < k → x.u j = true) (hf : ∀ j, j < 64 → x.i (j + 1) ≠ 0) (w : World) : Calls Try.prog 6 #[.agg x.cs.toArray, .int .i64 z] w fun e w' => e = .returned (.bool true) ∧ Below w.heap.size w w' := by
  have i1 := Lib.hid (fun x : Sup => info_cs x)
  have hz0 := Lib.hid zero_sup
  have HPK := Lib.hid (fun w => gpack_ok x h hs64 w)
  have HEQ := Lib.hid (give_back h hk hu)
  have HCT0 := Lib.hid (fun w => count_any (x.setU k true) w)
  have HCX := Lib.hid (fun w => count_any x w)
  have HGV := Lib.hid (fun w => give_any (x.setU k true) (k : Int) w)
  have HTK := Lib.hid (fun w => take_ok x z k hk hz hu hb w)
  have hcs := cb_set hu 256 hk
  have HK0 := Lib.hid (free_ne h hu)
  obtain ⟨N, hN⟩ : ∃ N, cb x.u 256 = N := ⟨_, rfl⟩
  have hN256 : N ≤ 256 := by rw [← hN]; exact cb_le _ _
  rw [hN] at HCX hcs
  have HCT := Lib.hid (p := ∀ w, Calls Try.prog 18 #[.agg (x.setU k true).cs.toArray] w fun e w' => e = .returned (.int .i64 ((N + 1 : Nat) : Int)) ∧ Below w.heap.size w w') (fun w => by have q := HCT0.out w; rw [show cb (x.setU k true).u 256 = N + 1 from hcs] at q; exact q)
  have hNw : IntKind.i64.wrap ((N : Int) + 1) = ((N + 1 : Nat) : Int) := by rw [IntKind.wrap_i64]; omega
  clear HCT0 hcs hN
  have HAD := Lib.hid (fun w => add_full x z hf w)
  have HIN := Lib.hid (fun w => inodes_any x w)
  rw [full_has hf] at HIN
  obtain ⟨t, ht⟩ : ∃ t, x.setU k true = t := ⟨_, rfl⟩
  rw [ht] at HEQ HCT HGV HTK
  obtain ⟨y, hy⟩ : ∃ y, t.give (k : Int) = y := ⟨_, rfl⟩
  rw [hy] at HEQ HGV
  clear hy ht
  clear h hs64 hk hz hu hb
  clear hf
  go_enter Try.func6, Try.ntmps6
  go_wp2_with (first
    | (refine step_box rfl 2 rfl 27 (.tmp 0) rfl x.cs rfl ?_; intro g2 w2 hr2 hg2 hb2 hs2
       have R2 := Lib.hid hr2
       have HB2 := Lib.hid hb2
       have Q2 := Lib.hid (p := w.heap.size ≤ g2) (by rw [hg2.out]; exact Nat.le_refl _)
       clear hr2 hb2 hg2 hs2)
    | (go_at_call 7; refine (gawake_any _).mono ?_; rintro e w3 ⟨rfl, hb3⟩
       have R3 := Lib.hid (R2.out.kept hb3)
       have HB3 := Lib.hid (below_nxt hb3 HB2.out)
       clear hb3)
    | (refine step_load rfl 16 rfl 27 (.tmp 2) rfl g2 rfl x.cs _ R3.out.all Try.underlying27 rfl (i1.out _) ?_)
    | (go_at_call 8; refine (HPK.out _).mono ?_; rintro e w4 ⟨g4, c4, rfl, _, hb4⟩
       have R4 := Lib.hid (R3.out.kept hb4.out)
       have HB4 := Lib.hid (below_nxt hb4.out HB3.out)
       clear hb4)
    | (refine step_load rfl 23 rfl 27 (.tmp 2) rfl g2 rfl x.cs _ R4.out.all Try.underlying27 rfl (i1.out _) ?_)
    | (go_at_call 14; refine (HTK.out _).mono ?_; rintro e w5 ⟨rfl, hb5⟩
       have R5 := Lib.hid (R4.out.kept hb5)
       have HB5 := Lib.hid (below_nxt hb5 HB4.out)
       clear hb5)
    | (refine step_alloc rfl 7 rfl 27 rfl _ hz0.out ?_; intro g7 w7 hr7 hg7 hb7 hs7
       have R7 := Lib.hid hr7
       have R27 := Lib.hid (R5.out.kept hb7)
       have HB7 := Lib.hid (below_nxt hb7 HB5.out)
       have Q7 := Lib.hid (p := w.heap.size ≤ g7 ∧ g2 < g7) (by rw [hg7.out]; exact ⟨HB5.out.size, R5.out.lt⟩)
       clear hr7 hg7 hb7 hs7)
    | (refine step_store rfl 27 (.tmp 7) (.tmp 26) rfl g7 (by rfl) _ sup0.cs t.cs (by rfl) R7.out (by rw [Sup.cs_len, Sup.cs_len]) (i1.out _) (Sup.cs_one _) ?_; intro w8 hr8 hg8 hs8
       have R8 := Lib.hid hr8
       have R28 := Lib.hid (R27.out.grown hg8 (by intro e; injection e with e; have := Q7.out; omega))
       have HB8 := Lib.hid (below_own HB7.out hg8 Q7.out.1)
       clear hr8 hg8 hs8))
  have hSS : Row w8.drew g2 27 x.cs ∧ Row w8.drew g7 27 t.cs := ⟨R28.out.kept (below_drw' w8), R8.out.kept (below_drw' w8)⟩
  have HBD := Lib.hid (below_nxt (below_drw' w8) HB8.out)
  refine wp_region_held_drew (S := fun w' => Row w' g2 27 x.cs ∧ Row w' g7 27 t.cs) (by kernel_rfl) hSS (fun hHeld => ?_)
  refine wpAnyH_take (i := 0) (oi := ⟨some 29, .move (.tmp 9), _, _, _, _⟩) (v := .int .i64 0) rfl (by kernel_rfl) (by kernel_rfl) (by kernel_rfl) (fun _ _ _ h => h) (.inl ⟨by rfl, fun w hSw => by go_simp⟩) (by assumption) ?_
  simp only [Act.put, List.setIfInBounds_toArray, List.set_cons_zero, List.set_cons_succ]
  refine wpAnyH_take (i := 1) (oi := ⟨some 30, .binOp .eql 30 (.tmp 29) (.const (.int .i64 0)) 30, _, _, _, _⟩) (v := .bool true) rfl (by kernel_rfl) (by kernel_rfl) (by kernel_rfl) (fun _ _ _ h => h) (.inl ⟨by rfl, fun w hSw => by go_simp⟩) (by assumption) ?_
  simp only [Act.put, List.setIfInBounds_toArray, List.set_cons_zero, List.set_cons_succ]
  refine wpAnyH_take (i := 2) (oi := ⟨some 31, .move (.tmp 30), _, _, _, _⟩) (v := .bool true) rfl (by kernel_rfl) (by kernel_rfl) (by kernel_rfl) (fun _ _ _ h => h) (.inl ⟨by rfl, fun w hSw => by go_simp⟩) (by assumption) ?_
  simp only [Act.put, List.setIfInBounds_toArray, List.set_cons_zero, List.set_cons_succ]
  refine wpAnyH_take (i := 3) (oi := ⟨some 32, .load 27 (.tmp 7), _, _, _, _⟩) (v := .agg t.cs.toArray) rfl (by kernel_rfl) (by kernel_rfl) (by kernel_rfl) (fun _ _ _ h => h) (yieldsIf_load_mid (by rfl) 27 (.tmp 7) rfl g7 0 rfl t.cs _ (fun w hSw => hSw.2.all) Try.underlying27 rfl (i1.out _)) (by assumption) ?_
  simp only [Act.put, List.setIfInBounds_toArray, List.set_cons_zero, List.set_cons_succ]
  refine wpAnyH_take (i := 4) (oi := ⟨some 33, .move (.tmp 8), _, _, _, _⟩) (v := .int .i64 (k : Int)) rfl (by kernel_rfl) (by kernel_rfl) (by kernel_rfl) (fun _ _ _ h => h) (.inl ⟨by rfl, fun w hSw => by go_simp⟩) (by assumption) ?_
  simp only [Act.put, List.setIfInBounds_toArray, List.set_cons_zero, List.set_cons_succ]
  refine wpAnyH_take (i := 6) (oi := ⟨some 35, .load 27 (.tmp 2), _, _, _, _⟩) (v := .agg x.cs.toArray) rfl (by kernel_rfl) (by kernel_rfl) (by kernel_rfl) (fun _ _ _ h => h) (yieldsIf_load_mid (by rfl) 27 (.tmp 2) rfl g2 0 rfl x.cs _ (fun w hSw => hSw.1.all) Try.underlying27 rfl (i1.out _)) (by assumption) ?_
  simp only [Act.put, List.setIfInBounds_toArray, List.set_cons_zero, List.set_cons_succ]
  refine wpAnyH_ready (rs := [5]) (by kernel_rfl) (by simp) ?_
  refine AllReadyH.cons (o := ⟨some 34, .call ⟨.value (.func 17), #[.tmp 32, .tmp 33], _⟩, _, _, _, _⟩) rfl (fun K hK => ?_) AllReadyH.nil
  go_simp
  refine (HGV.out _).mono ?_
  rintro e w9 ⟨rfl, hb9⟩
  have hS9 : Row w9 g2 27 x.cs ∧ Row w9 g7 27 t.cs := ⟨hSS.1.kept hb9, hSS.2.kept hb9⟩
  have HB9 := Lib.hid (below_nxt hb9 HBD.out)
  clear hb9
  refine hK.out _ _ hS9 (fun _hH9 => ?_)
  clear hK K
  refine wpAnyH_take (i := 7) (oi := ⟨some 36, .binOp .neq 27 (.tmp 34) (.tmp 35) 27, _, _, _, _⟩) (v := .bool false) rfl (by kernel_rfl) (by kernel_rfl) (by kernel_rfl) (fun _ _ _ h => h) (.inl ⟨by rfl, fun w hSw => by exact run_neq_op (P := Try.prog) w _ 27 27 (.tmp 34) (.tmp 35) rfl y.cs.toArray x.cs.toArray (by rfl) (by rfl) sup_guard true (fun w => by rw [eq_sup 9997]; exact congrArg (fun b => Result.ok b w) HEQ.out)⟩) (by assumption) ?_
  simp only [Act.put, List.setIfInBounds_toArray, List.set_cons_zero, List.set_cons_succ]
  refine wpAnyH_take (i := 8) (oi := ⟨some 37, .move (.tmp 36), _, _, _, _⟩) (v := .bool false) rfl (by kernel_rfl) (by kernel_rfl) (by kernel_rfl) (fun _ _ _ h => h) (.inl ⟨by rfl, fun w hSw => by go_simp⟩) (by assumption) ?_
  simp only [Act.put, List.setIfInBounds_toArray, List.set_cons_zero, List.set_cons_succ]
  refine wpAnyH_take (i := 9) (oi := ⟨some 38, .load 27 (.tmp 7), _, _, _, _⟩) (v := .agg t.cs.toArray) rfl (by kernel_rfl) (by kernel_rfl) (by kernel_rfl) (fun _ _ _ h => h) (yieldsIf_load_mid (by rfl) 27 (.tmp 7) rfl g7 0 rfl t.cs _ (fun w hSw => hSw.2.all) Try.underlying27 rfl (i1.out _)) (by assumption) ?_
  simp only [Act.put, List.setIfInBounds_toArray, List.set_cons_zero, List.set_cons_succ]
  refine wpAnyH_take (i := 11) (oi := ⟨some 40, .load 27 (.tmp 2), _, _, _, _⟩) (v := .agg x.cs.toArray) rfl (by kernel_rfl) (by kernel_rfl) (by kernel_rfl) (fun _ _ _ h => h) (yieldsIf_load_mid (by rfl) 27 (.tmp 2) rfl g2 0 rfl x.cs _ (fun w hSw => hSw.1.all) Try.underlying27 rfl (i1.out _)) (by assumption) ?_
  simp only [Act.put, List.setIfInBounds_toArray, List.set_cons_zero, List.set_cons_succ]
  refine wpAnyH_ready (rs := [10]) (by kernel_rfl) (by simp) ?_
  refine AllReadyH.cons (o := ⟨some 39, .call ⟨.value (.func 18), #[.tmp 38], _⟩, _, _, _, _⟩) rfl (fun K hK => ?_) AllReadyH.nil
  go_simp
  refine (HCT.out _).mono ?_
  rintro e w10 ⟨rfl, hb10⟩
  have hS10 : Row w10 g2 27 x.cs ∧ Row w10 g7 27 t.cs := ⟨hS9.1.kept hb10, hS9.2.kept hb10⟩
  have HB10 := Lib.hid (below_nxt hb10 HB9.out)
  clear hb10
  refine hK.out _ _ hS10 (fun _hH10 => ?_)
  clear hK K
  refine wpAnyH_ready (rs := [12]) (by kernel_rfl) (by simp) ?_
  refine AllReadyH.cons (o := ⟨some 41, .call ⟨.value (.func 18), #[.tmp 40], _⟩, _, _, _, _⟩) rfl (fun K hK => ?_) AllReadyH.nil
  go_simp
  refine (HCX.out _).mono ?_
  rintro e w11 ⟨rfl, hb11⟩
  have hS11 : Row w11 g2 27 x.cs ∧ Row w11 g7 27 t.cs := ⟨hS10.1.kept hb11, hS10.2.kept hb11⟩
  have HB11 := Lib.hid (below_nxt hb11 HB10.out)
  clear hb11
  refine hK.out _ _ hS11 (fun _hH11 => ?_)
  clear hK K
  refine wpAnyH_take (i := 13) (oi := ⟨some 42, .binOp .add 3 (.tmp 41) (.const (.int .i64 1)) 3, _, _, _, _⟩) (v := .int .i64 ((N + 1 : Nat) : Int)) rfl (by kernel_rfl) (by kernel_rfl) (by kernel_rfl) (fun _ _ _ h => h) (.inl ⟨by rfl, fun w hSw => by go_simp⟩) (by assumption) ?_
  simp only [Act.put, List.setIfInBounds_toArray, List.set_cons_zero, List.set_cons_succ]
  refine wpAnyH_take (i := 14) (oi := ⟨some 43, .binOp .neq 3 (.tmp 39) (.tmp 42) 3, _, _, _, _⟩) (v := .bool false) rfl (by kernel_rfl) (by kernel_rfl) (by kernel_rfl) (fun _ _ _ h => h) (.inl ⟨by rfl, fun w hSw => by go_simp⟩) (by assumption) ?_
  simp only [Act.put, List.setIfInBounds_toArray, List.set_cons_zero, List.set_cons_succ]
  refine wpAnyH_take (i := 15) (oi := ⟨some 44, .pick (.tmp 37) (.const (.bool true)) (.tmp 43), _, _, _, _⟩) (v := .bool false) rfl (by kernel_rfl) (by kernel_rfl) (by kernel_rfl) (fun _ _ _ h => h) (.inl ⟨by rfl, fun w hSw => by go_simp⟩) (by assumption) ?_
  simp only [Act.put, List.setIfInBounds_toArray, List.set_cons_zero, List.set_cons_succ]
  refine wpAnyH_take (i := 16) (oi := ⟨some 45, .pick (.tmp 31) (.tmp 44) (.const (.bool false)), _, _, _, _⟩) (v := .bool false) rfl (by kernel_rfl) (by kernel_rfl) (by kernel_rfl) (fun _ _ _ h => h) (.inl ⟨by rfl, fun w hSw => by go_simp⟩) (by assumption) ?_
  simp only [Act.put, List.setIfInBounds_toArray, List.set_cons_zero, List.set_cons_succ]
  refine wpAnyH_take (i := 17) (oi := ⟨some 46, .move (.tmp 45), _, _, _, _⟩) (v := .bool false) rfl (by kernel_rfl) (by kernel_rfl) (by kernel_rfl) (fun _ _ _ h => h) (.inl ⟨by rfl, fun w hSw => by go_simp⟩) (by assumption) ?_
  simp only [Act.put, List.setIfInBounds_toArray, List.set_cons_zero, List.set_cons_succ]
  refine wpAnyH_take (i := 18) (oi := ⟨some 47, .move (.tmp 9), _, _, _, _⟩) (v := .int .i64 0) rfl (by kernel_rfl) (by kernel_rfl) (by kernel_rfl) (fun _ _ _ h => h) (.inl ⟨by rfl, fun w hSw => by go_simp⟩) (by assumption) ?_
  simp only [Act.put, List.setIfInBounds_toArray, List.set_cons_zero, List.set_cons_succ]
  refine wpAnyH_take (i := 19) (oi := ⟨some 48, .binOp .neq 30 (.tmp 47) (.const (.int .i64 0)) 30, _, _, _, _⟩) (v := .bool false) rfl (by kernel_rfl) (by kernel_rfl) (by kernel_rfl) (fun _ _ _ h => h) (.inl ⟨by rfl, fun w hSw => by go_simp⟩) (by assumption) ?_
  simp only [Act.put, List.setIfInBounds_toArray, List.set_cons_zero, List.set_cons_succ]
  refine wpAnyH_take (i := 20) (oi := ⟨some 49, .move (.tmp 48), _, _, _, _⟩) (v := .bool false) rfl (by kernel_rfl) (by kernel_rfl) (by kernel_rfl) (fun _ _ _ h => h) (.inl ⟨by rfl, fun w hSw => by go_simp⟩) (by assumption) ?_
  simp only [Act.put, List.setIfInBounds_toArray, List.set_cons_zero, List.set_cons_succ]
  refine wpAnyH_take (i := 21) (oi := ⟨some 50, .load 27 (.tmp 7), _, _, _, _⟩) (v := undef) rfl (by kernel_rfl) (by kernel_rfl) (by kernel_rfl) (fun _ _ _ h => h) (.inr ⟨by rfl, rfl⟩) (by assumption) ?_
  simp only [Act.put, List.setIfInBounds_toArray, List.set_cons_zero, List.set_cons_succ]
  refine wpAnyH_take (i := 22) (oi := ⟨some 51, .load 27 (.tmp 2), _, _, _, _⟩) (v := undef) rfl (by kernel_rfl) (by kernel_rfl) (by kernel_rfl) (fun _ _ _ h => h) (.inr ⟨by rfl, rfl⟩) (by assumption) ?_
  simp only [Act.put, List.setIfInBounds_toArray, List.set_cons_zero, List.set_cons_succ]
  refine wpAnyH_take (i := 23) (oi := ⟨some 52, .binOp .neq 27 (.tmp 50) (.tmp 51) 27, _, _, _, _⟩) (v := undef) rfl (by kernel_rfl) (by kernel_rfl) (by kernel_rfl) (fun _ _ _ h => h) (.inr ⟨by rfl, rfl⟩) (by assumption) ?_
  simp only [Act.put, List.setIfInBounds_toArray, List.set_cons_zero, List.set_cons_succ]
  refine wpAnyH_take (i := 24) (oi := ⟨some 53, .pick (.tmp 49) (.tmp 52) (.const (.bool false)), _, _, _, _⟩) (v := .bool false) rfl (by kernel_rfl) (by kernel_rfl) (by kernel_rfl) (fun _ _ _ h => h) (.inl ⟨by rfl, fun w hSw => by go_simp⟩) (by assumption) ?_
  simp only [Act.put, List.setIfInBounds_toArray, List.set_cons_zero, List.set_cons_succ]
  refine wpAnyH_take (i := 25) (oi := ⟨some 54, .pick (.tmp 46) (.const (.bool true)) (.tmp 53), _, _, _, _⟩) (v := .bool false) rfl (by kernel_rfl) (by kernel_rfl) (by kernel_rfl) (fun _ _ _ h => h) (.inl ⟨by rfl, fun w hSw => by go_simp⟩) (by assumption) ?_
  simp only [Act.put, List.setIfInBounds_toArray, List.set_cons_zero, List.set_cons_succ]
  refine wpAnyH_done (by kernel_rfl) ?_ _
  go_wp2_with (first
    | (refine step_load rfl 56 rfl 27 (.tmp 2) rfl g2 rfl x.cs _ hS11.1.all Try.underlying27 rfl (i1.out _) ?_)
    | (go_at_call 15; refine (HAD.out _).mono ?_; rintro e w20 ⟨rfl, hb20⟩
       have R20 := Lib.hid (hS11.1.kept hb20)
       have HB20 := Lib.hid (below_nxt hb20 HB11.out)
       clear hb20)
    | (refine step_alloc rfl 10 rfl 27 rfl _ hz0.out ?_; intro g21 w21 hr21 hg21 hb21 hs21
       have R21 := Lib.hid hr21
       have R221 := Lib.hid (R20.out.kept hb21)
       have HB21 := Lib.hid (below_nxt hb21 HB20.out)
       have Q21 := Lib.hid (p := w.heap.size ≤ g21 ∧ g2 < g21) (by rw [hg21.out]; exact ⟨HB20.out.size, R20.out.lt⟩)
       clear hr21 hg21 hb21 hs21)
    | (refine step_store rfl 27 (.tmp 10) (.tmp 59) rfl g21 (by rfl) _ sup0.cs x.cs (by rfl) R21.out (by rw [Sup.cs_len, Sup.cs_len]) (i1.out _) (Sup.cs_one _) ?_; intro w22 hr22 hg22 hs22
       have R22 := Lib.hid hr22
       have R222 := Lib.hid (R221.out.grown hg22 (by intro e; injection e with e; have := Q21.out; omega))
       have HB22 := Lib.hid (below_own HB21.out hg22 Q21.out.1)
       clear hr22 hg22 hs22)
    | go_skip
    | go_big_skip
    | (refine step_load rfl 85 rfl 27 (.tmp 10) rfl g21 rfl x.cs _ R22.out.all Try.underlying27 rfl (i1.out _) ?_)
    | (refine step_load rfl 86 rfl 27 (.tmp 2) rfl g2 rfl x.cs _ R222.out.all Try.underlying27 rfl (i1.out _) ?_)
    | (refine step_eql (by rfl) 27 27 (.tmp 85) (.tmp 86) rfl x.cs.toArray x.cs.toArray (by rfl) (by rfl) sup_guard true (fun w => by rw [eq_sup 9997, Sup.eqb_refl]) ?_)
    | (refine step_load_g (by rfl) 92 rfl 27 (.tmp 2) rfl g2 rfl x.cs _ R222.out.all Try.underlying27 rfl (i1.out _) ?_)
    | (go_at_call 19; refine (HIN.out _).mono ?_; rintro e w23 ⟨rfl, hb23⟩
       have HB23 := Lib.hid (below_nxt hb23 HB22.out)
       clear hb23))
  go_ret
  exact ⟨rfl, HB23.out⟩
set_option maxHeartbeats 4000000 in
theorem gback_a (x : Sup) (z : Int) (h : x.May) (hs64 : x.s < 18446744073709551616) (k : Nat) (hk : k < 256) (hz : (k : Int) < z) (hu : x.u k = false) (hb : ∀ j, j < k → x.u j = true) (j : Nat) (hj : j < 64) (h0 : x.i (j + 1) = 0) (hbj : ∀ q, q < j → x.i (q + 1) ≠ 0) (w : World) : Calls Try.prog 6 #[.agg x.cs.toArray, .int .i64 z] w fun e w' => e = .returned (.bool true) ∧ Below w.heap.size w w' := by
  have i1 := Lib.hid (fun x : Sup => info_cs x)
  have hz0 := Lib.hid zero_sup
  have HPK := Lib.hid (fun w => gpack_ok x h hs64 w)
  have HEQ := Lib.hid (give_back h hk hu)
  have HCT0 := Lib.hid (fun w => count_any (x.setU k true) w)
  have HCX := Lib.hid (fun w => count_any x w)
  have HGV := Lib.hid (fun w => give_any (x.setU k true) (k : Int) w)
  have HTK := Lib.hid (fun w => take_ok x z k hk hz hu hb w)
  have hcs := cb_set hu 256 hk
  have HK0 := Lib.hid (free_ne h hu)
  obtain ⟨N, hN⟩ : ∃ N, cb x.u 256 = N := ⟨_, rfl⟩
  have hN256 : N ≤ 256 := by rw [← hN]; exact cb_le _ _
  rw [hN] at HCX hcs
  have HCT := Lib.hid (p := ∀ w, Calls Try.prog 18 #[.agg (x.setU k true).cs.toArray] w fun e w' => e = .returned (.int .i64 ((N + 1 : Nat) : Int)) ∧ Below w.heap.size w w') (fun w => by have q := HCT0.out w; rw [show cb (x.setU k true).u 256 = N + 1 from hcs] at q; exact q)
  have hNw : IntKind.i64.wrap ((N : Int) + 1) = ((N + 1 : Nat) : Int) := by rw [IntKind.wrap_i64]; omega
  clear HCT0 hcs hN
  have HAD := Lib.hid (fun w => add_ok x z j k hj h0 hbj hk hz hu hb w)
  have HLB := Lib.hid (less_back h hk hu (p := j + 1) (by omega) h0)
  have HRM := Lib.hid (fun w => remove_ok ((x.setU k true).setI (j + 1) k) (j + 1) ⟨by omega, by omega⟩ (by rw [show ((x.setU k true).setI (j + 1) k).i (j + 1) = (k : Int) from at1_same _ _ _]; have := HK0.out; omega) w)
  have HIX := Lib.hid (fun w => inodes_any x w)
  have HIU := Lib.hid (fun w => inodes_any ((x.setU k true).setI (j + 1) k) w)
  rw [more_has HK0.out hj h0] at HIU
  have HUI := Lib.hid (p := ((x.setU k true).setI (j + 1) k).i (j + 1) = (k : Int)) (at1_same _ _ _)
  obtain ⟨NI, hNI⟩ : ∃ NI, cb x.has 64 = NI := ⟨_, rfl⟩
  have hNI64 : NI ≤ 64 := by rw [← hNI]; exact cb_le _ _
  rw [hNI] at HIX HIU
  have hNIw : IntKind.i64.wrap ((NI : Int) + 1) = ((NI + 1 : Nat) : Int) := by rw [IntKind.wrap_i64]; omega
  obtain ⟨p, hp⟩ : ∃ p, j + 1 = p := ⟨_, rfl⟩
  have hp65 : (p : Int) < 65 := by omega
  have HP := Lib.hid (p := p < 65) (by omega)
  rw [hp] at HAD HLB HRM HIU HUI
  obtain ⟨u, hu'⟩ : ∃ u, (x.setU k true).setI p k = u := ⟨_, rfl⟩
  rw [hu'] at HAD HLB HRM HIU HUI
  obtain ⟨v, hv'⟩ : ∃ v, u.less p = v := ⟨_, rfl⟩
  rw [hv'] at HLB HRM
  clear hNI hp hu' hv' hj h0 hbj
  obtain ⟨t, ht⟩ : ∃ t, x.setU k true = t := ⟨_, rfl⟩
  rw [ht] at HEQ HCT HGV HTK
  obtain ⟨y, hy⟩ : ∃ y, t.give (k : Int) = y := ⟨_, rfl⟩
  rw [hy] at HEQ HGV
  clear hy ht
  clear h hs64 hk hz hu hb
  go_enter Try.func6, Try.ntmps6
  go_wp2_with (first
    | (refine step_box rfl 2 rfl 27 (.tmp 0) rfl x.cs rfl ?_; intro g2 w2 hr2 hg2 hb2 hs2
       have R2 := Lib.hid hr2
       have HB2 := Lib.hid hb2
       have Q2 := Lib.hid (p := w.heap.size ≤ g2) (by rw [hg2.out]; exact Nat.le_refl _)
       clear hr2 hb2 hg2 hs2)
    | (go_at_call 7; refine (gawake_any _).mono ?_; rintro e w3 ⟨rfl, hb3⟩
       have R3 := Lib.hid (R2.out.kept hb3)
       have HB3 := Lib.hid (below_nxt hb3 HB2.out)
       clear hb3)
    | (refine step_load rfl 16 rfl 27 (.tmp 2) rfl g2 rfl x.cs _ R3.out.all Try.underlying27 rfl (i1.out _) ?_)
    | (go_at_call 8; refine (HPK.out _).mono ?_; rintro e w4 ⟨g4, c4, rfl, _, hb4⟩
       have R4 := Lib.hid (R3.out.kept hb4.out)
       have HB4 := Lib.hid (below_nxt hb4.out HB3.out)
       clear hb4)
    | (refine step_load rfl 23 rfl 27 (.tmp 2) rfl g2 rfl x.cs _ R4.out.all Try.underlying27 rfl (i1.out _) ?_)
    | (go_at_call 14; refine (HTK.out _).mono ?_; rintro e w5 ⟨rfl, hb5⟩
       have R5 := Lib.hid (R4.out.kept hb5)
       have HB5 := Lib.hid (below_nxt hb5 HB4.out)
       clear hb5)
    | (refine step_alloc rfl 7 rfl 27 rfl _ hz0.out ?_; intro g7 w7 hr7 hg7 hb7 hs7
       have R7 := Lib.hid hr7
       have R27 := Lib.hid (R5.out.kept hb7)
       have HB7 := Lib.hid (below_nxt hb7 HB5.out)
       have Q7 := Lib.hid (p := w.heap.size ≤ g7 ∧ g2 < g7) (by rw [hg7.out]; exact ⟨HB5.out.size, R5.out.lt⟩)
       clear hr7 hg7 hb7 hs7)
    | (refine step_store rfl 27 (.tmp 7) (.tmp 26) rfl g7 (by rfl) _ sup0.cs t.cs (by rfl) R7.out (by rw [Sup.cs_len, Sup.cs_len]) (i1.out _) (Sup.cs_one _) ?_; intro w8 hr8 hg8 hs8
       have R8 := Lib.hid hr8
       have R28 := Lib.hid (R27.out.grown hg8 (by intro e; injection e with e; have := Q7.out; omega))
       have HB8 := Lib.hid (below_own HB7.out hg8 Q7.out.1)
       clear hr8 hg8 hs8))
  have hSS : Row w8.drew g2 27 x.cs ∧ Row w8.drew g7 27 t.cs := ⟨R28.out.kept (below_drw' w8), R8.out.kept (below_drw' w8)⟩
  have HBD := Lib.hid (below_nxt (below_drw' w8) HB8.out)
  refine wp_region_held_drew (S := fun w' => Row w' g2 27 x.cs ∧ Row w' g7 27 t.cs) (by kernel_rfl) hSS (fun hHeld => ?_)
  refine wpAnyH_take (i := 0) (oi := ⟨some 29, .move (.tmp 9), _, _, _, _⟩) (v := .int .i64 0) rfl (by kernel_rfl) (by kernel_rfl) (by kernel_rfl) (fun _ _ _ h => h) (.inl ⟨by rfl, fun w hSw => by go_simp⟩) (by assumption) ?_
  simp only [Act.put, List.setIfInBounds_toArray, List.set_cons_zero, List.set_cons_succ]
  refine wpAnyH_take (i := 1) (oi := ⟨some 30, .binOp .eql 30 (.tmp 29) (.const (.int .i64 0)) 30, _, _, _, _⟩) (v := .bool true) rfl (by kernel_rfl) (by kernel_rfl) (by kernel_rfl) (fun _ _ _ h => h) (.inl ⟨by rfl, fun w hSw => by go_simp⟩) (by assumption) ?_
  simp only [Act.put, List.setIfInBounds_toArray, List.set_cons_zero, List.set_cons_succ]
  refine wpAnyH_take (i := 2) (oi := ⟨some 31, .move (.tmp 30), _, _, _, _⟩) (v := .bool true) rfl (by kernel_rfl) (by kernel_rfl) (by kernel_rfl) (fun _ _ _ h => h) (.inl ⟨by rfl, fun w hSw => by go_simp⟩) (by assumption) ?_
  simp only [Act.put, List.setIfInBounds_toArray, List.set_cons_zero, List.set_cons_succ]
  refine wpAnyH_take (i := 3) (oi := ⟨some 32, .load 27 (.tmp 7), _, _, _, _⟩) (v := .agg t.cs.toArray) rfl (by kernel_rfl) (by kernel_rfl) (by kernel_rfl) (fun _ _ _ h => h) (yieldsIf_load_mid (by rfl) 27 (.tmp 7) rfl g7 0 rfl t.cs _ (fun w hSw => hSw.2.all) Try.underlying27 rfl (i1.out _)) (by assumption) ?_
  simp only [Act.put, List.setIfInBounds_toArray, List.set_cons_zero, List.set_cons_succ]
  refine wpAnyH_take (i := 4) (oi := ⟨some 33, .move (.tmp 8), _, _, _, _⟩) (v := .int .i64 (k : Int)) rfl (by kernel_rfl) (by kernel_rfl) (by kernel_rfl) (fun _ _ _ h => h) (.inl ⟨by rfl, fun w hSw => by go_simp⟩) (by assumption) ?_
  simp only [Act.put, List.setIfInBounds_toArray, List.set_cons_zero, List.set_cons_succ]
  refine wpAnyH_take (i := 6) (oi := ⟨some 35, .load 27 (.tmp 2), _, _, _, _⟩) (v := .agg x.cs.toArray) rfl (by kernel_rfl) (by kernel_rfl) (by kernel_rfl) (fun _ _ _ h => h) (yieldsIf_load_mid (by rfl) 27 (.tmp 2) rfl g2 0 rfl x.cs _ (fun w hSw => hSw.1.all) Try.underlying27 rfl (i1.out _)) (by assumption) ?_
  simp only [Act.put, List.setIfInBounds_toArray, List.set_cons_zero, List.set_cons_succ]
  refine wpAnyH_ready (rs := [5]) (by kernel_rfl) (by simp) ?_
  refine AllReadyH.cons (o := ⟨some 34, .call ⟨.value (.func 17), #[.tmp 32, .tmp 33], _⟩, _, _, _, _⟩) rfl (fun K hK => ?_) AllReadyH.nil
  go_simp
  refine (HGV.out _).mono ?_
  rintro e w9 ⟨rfl, hb9⟩
  have hS9 : Row w9 g2 27 x.cs ∧ Row w9 g7 27 t.cs := ⟨hSS.1.kept hb9, hSS.2.kept hb9⟩
  have HB9 := Lib.hid (below_nxt hb9 HBD.out)
  clear hb9
  refine hK.out _ _ hS9 (fun _hH9 => ?_)
  clear hK K
  refine wpAnyH_take (i := 7) (oi := ⟨some 36, .binOp .neq 27 (.tmp 34) (.tmp 35) 27, _, _, _, _⟩) (v := .bool false) rfl (by kernel_rfl) (by kernel_rfl) (by kernel_rfl) (fun _ _ _ h => h) (.inl ⟨by rfl, fun w hSw => by exact run_neq_op (P := Try.prog) w _ 27 27 (.tmp 34) (.tmp 35) rfl y.cs.toArray x.cs.toArray (by rfl) (by rfl) sup_guard true (fun w => by rw [eq_sup 9997]; exact congrArg (fun b => Result.ok b w) HEQ.out)⟩) (by assumption) ?_
  simp only [Act.put, List.setIfInBounds_toArray, List.set_cons_zero, List.set_cons_succ]
  refine wpAnyH_take (i := 8) (oi := ⟨some 37, .move (.tmp 36), _, _, _, _⟩) (v := .bool false) rfl (by kernel_rfl) (by kernel_rfl) (by kernel_rfl) (fun _ _ _ h => h) (.inl ⟨by rfl, fun w hSw => by go_simp⟩) (by assumption) ?_
  simp only [Act.put, List.setIfInBounds_toArray, List.set_cons_zero, List.set_cons_succ]
  refine wpAnyH_take (i := 9) (oi := ⟨some 38, .load 27 (.tmp 7), _, _, _, _⟩) (v := .agg t.cs.toArray) rfl (by kernel_rfl) (by kernel_rfl) (by kernel_rfl) (fun _ _ _ h => h) (yieldsIf_load_mid (by rfl) 27 (.tmp 7) rfl g7 0 rfl t.cs _ (fun w hSw => hSw.2.all) Try.underlying27 rfl (i1.out _)) (by assumption) ?_
  simp only [Act.put, List.setIfInBounds_toArray, List.set_cons_zero, List.set_cons_succ]
  refine wpAnyH_take (i := 11) (oi := ⟨some 40, .load 27 (.tmp 2), _, _, _, _⟩) (v := .agg x.cs.toArray) rfl (by kernel_rfl) (by kernel_rfl) (by kernel_rfl) (fun _ _ _ h => h) (yieldsIf_load_mid (by rfl) 27 (.tmp 2) rfl g2 0 rfl x.cs _ (fun w hSw => hSw.1.all) Try.underlying27 rfl (i1.out _)) (by assumption) ?_
  simp only [Act.put, List.setIfInBounds_toArray, List.set_cons_zero, List.set_cons_succ]
  refine wpAnyH_ready (rs := [10]) (by kernel_rfl) (by simp) ?_
  refine AllReadyH.cons (o := ⟨some 39, .call ⟨.value (.func 18), #[.tmp 38], _⟩, _, _, _, _⟩) rfl (fun K hK => ?_) AllReadyH.nil
  go_simp
  refine (HCT.out _).mono ?_
  rintro e w10 ⟨rfl, hb10⟩
  have hS10 : Row w10 g2 27 x.cs ∧ Row w10 g7 27 t.cs := ⟨hS9.1.kept hb10, hS9.2.kept hb10⟩
  have HB10 := Lib.hid (below_nxt hb10 HB9.out)
  clear hb10
  refine hK.out _ _ hS10 (fun _hH10 => ?_)
  clear hK K
  refine wpAnyH_ready (rs := [12]) (by kernel_rfl) (by simp) ?_
  refine AllReadyH.cons (o := ⟨some 41, .call ⟨.value (.func 18), #[.tmp 40], _⟩, _, _, _, _⟩) rfl (fun K hK => ?_) AllReadyH.nil
  go_simp
  refine (HCX.out _).mono ?_
  rintro e w11 ⟨rfl, hb11⟩
  have hS11 : Row w11 g2 27 x.cs ∧ Row w11 g7 27 t.cs := ⟨hS10.1.kept hb11, hS10.2.kept hb11⟩
  have HB11 := Lib.hid (below_nxt hb11 HB10.out)
  clear hb11
  refine hK.out _ _ hS11 (fun _hH11 => ?_)
  clear hK K
  refine wpAnyH_take (i := 13) (oi := ⟨some 42, .binOp .add 3 (.tmp 41) (.const (.int .i64 1)) 3, _, _, _, _⟩) (v := .int .i64 ((N + 1 : Nat) : Int)) rfl (by kernel_rfl) (by kernel_rfl) (by kernel_rfl) (fun _ _ _ h => h) (.inl ⟨by rfl, fun w hSw => by go_simp⟩) (by assumption) ?_
  simp only [Act.put, List.setIfInBounds_toArray, List.set_cons_zero, List.set_cons_succ]
  refine wpAnyH_take (i := 14) (oi := ⟨some 43, .binOp .neq 3 (.tmp 39) (.tmp 42) 3, _, _, _, _⟩) (v := .bool false) rfl (by kernel_rfl) (by kernel_rfl) (by kernel_rfl) (fun _ _ _ h => h) (.inl ⟨by rfl, fun w hSw => by go_simp⟩) (by assumption) ?_
  simp only [Act.put, List.setIfInBounds_toArray, List.set_cons_zero, List.set_cons_succ]
  refine wpAnyH_take (i := 15) (oi := ⟨some 44, .pick (.tmp 37) (.const (.bool true)) (.tmp 43), _, _, _, _⟩) (v := .bool false) rfl (by kernel_rfl) (by kernel_rfl) (by kernel_rfl) (fun _ _ _ h => h) (.inl ⟨by rfl, fun w hSw => by go_simp⟩) (by assumption) ?_
  simp only [Act.put, List.setIfInBounds_toArray, List.set_cons_zero, List.set_cons_succ]
  refine wpAnyH_take (i := 16) (oi := ⟨some 45, .pick (.tmp 31) (.tmp 44) (.const (.bool false)), _, _, _, _⟩) (v := .bool false) rfl (by kernel_rfl) (by kernel_rfl) (by kernel_rfl) (fun _ _ _ h => h) (.inl ⟨by rfl, fun w hSw => by go_simp⟩) (by assumption) ?_
  simp only [Act.put, List.setIfInBounds_toArray, List.set_cons_zero, List.set_cons_succ]
  refine wpAnyH_take (i := 17) (oi := ⟨some 46, .move (.tmp 45), _, _, _, _⟩) (v := .bool false) rfl (by kernel_rfl) (by kernel_rfl) (by kernel_rfl) (fun _ _ _ h => h) (.inl ⟨by rfl, fun w hSw => by go_simp⟩) (by assumption) ?_
  simp only [Act.put, List.setIfInBounds_toArray, List.set_cons_zero, List.set_cons_succ]
  refine wpAnyH_take (i := 18) (oi := ⟨some 47, .move (.tmp 9), _, _, _, _⟩) (v := .int .i64 0) rfl (by kernel_rfl) (by kernel_rfl) (by kernel_rfl) (fun _ _ _ h => h) (.inl ⟨by rfl, fun w hSw => by go_simp⟩) (by assumption) ?_
  simp only [Act.put, List.setIfInBounds_toArray, List.set_cons_zero, List.set_cons_succ]
  refine wpAnyH_take (i := 19) (oi := ⟨some 48, .binOp .neq 30 (.tmp 47) (.const (.int .i64 0)) 30, _, _, _, _⟩) (v := .bool false) rfl (by kernel_rfl) (by kernel_rfl) (by kernel_rfl) (fun _ _ _ h => h) (.inl ⟨by rfl, fun w hSw => by go_simp⟩) (by assumption) ?_
  simp only [Act.put, List.setIfInBounds_toArray, List.set_cons_zero, List.set_cons_succ]
  refine wpAnyH_take (i := 20) (oi := ⟨some 49, .move (.tmp 48), _, _, _, _⟩) (v := .bool false) rfl (by kernel_rfl) (by kernel_rfl) (by kernel_rfl) (fun _ _ _ h => h) (.inl ⟨by rfl, fun w hSw => by go_simp⟩) (by assumption) ?_
  simp only [Act.put, List.setIfInBounds_toArray, List.set_cons_zero, List.set_cons_succ]
  refine wpAnyH_take (i := 21) (oi := ⟨some 50, .load 27 (.tmp 7), _, _, _, _⟩) (v := undef) rfl (by kernel_rfl) (by kernel_rfl) (by kernel_rfl) (fun _ _ _ h => h) (.inr ⟨by rfl, rfl⟩) (by assumption) ?_
  simp only [Act.put, List.setIfInBounds_toArray, List.set_cons_zero, List.set_cons_succ]
  refine wpAnyH_take (i := 22) (oi := ⟨some 51, .load 27 (.tmp 2), _, _, _, _⟩) (v := undef) rfl (by kernel_rfl) (by kernel_rfl) (by kernel_rfl) (fun _ _ _ h => h) (.inr ⟨by rfl, rfl⟩) (by assumption) ?_
  simp only [Act.put, List.setIfInBounds_toArray, List.set_cons_zero, List.set_cons_succ]
  refine wpAnyH_take (i := 23) (oi := ⟨some 52, .binOp .neq 27 (.tmp 50) (.tmp 51) 27, _, _, _, _⟩) (v := undef) rfl (by kernel_rfl) (by kernel_rfl) (by kernel_rfl) (fun _ _ _ h => h) (.inr ⟨by rfl, rfl⟩) (by assumption) ?_
  simp only [Act.put, List.setIfInBounds_toArray, List.set_cons_zero, List.set_cons_succ]
  refine wpAnyH_take (i := 24) (oi := ⟨some 53, .pick (.tmp 49) (.tmp 52) (.const (.bool false)), _, _, _, _⟩) (v := .bool false) rfl (by kernel_rfl) (by kernel_rfl) (by kernel_rfl) (fun _ _ _ h => h) (.inl ⟨by rfl, fun w hSw => by go_simp⟩) (by assumption) ?_
  simp only [Act.put, List.setIfInBounds_toArray, List.set_cons_zero, List.set_cons_succ]
  refine wpAnyH_take (i := 25) (oi := ⟨some 54, .pick (.tmp 46) (.const (.bool true)) (.tmp 53), _, _, _, _⟩) (v := .bool false) rfl (by kernel_rfl) (by kernel_rfl) (by kernel_rfl) (fun _ _ _ h => h) (.inl ⟨by rfl, fun w hSw => by go_simp⟩) (by assumption) ?_
  simp only [Act.put, List.setIfInBounds_toArray, List.set_cons_zero, List.set_cons_succ]
  refine wpAnyH_done (by kernel_rfl) ?_ _
  go_wp2_with (first
    | (refine step_load rfl 56 rfl 27 (.tmp 2) rfl g2 rfl x.cs _ hS11.1.all Try.underlying27 rfl (i1.out _) ?_)
    | (go_at_call 15; refine (HAD.out _).mono ?_; rintro e w20 ⟨rfl, hb20⟩
       have R20 := Lib.hid (hS11.1.kept hb20)
       have HB20 := Lib.hid (below_nxt hb20 HB11.out)
       clear hb20)
    | (refine step_alloc rfl 10 rfl 27 rfl _ hz0.out ?_; intro g21 w21 hr21 hg21 hb21 hs21
       have R21 := Lib.hid hr21
       have R221 := Lib.hid (R20.out.kept hb21)
       have HB21 := Lib.hid (below_nxt hb21 HB20.out)
       have Q21 := Lib.hid (p := w.heap.size ≤ g21 ∧ g2 < g21) (by rw [hg21.out]; exact ⟨HB20.out.size, R20.out.lt⟩)
       clear hr21 hg21 hb21 hs21)
    | (refine step_store rfl 27 (.tmp 10) (.tmp 59) rfl g21 (by rfl) _ sup0.cs u.cs (by rfl) R21.out (by rw [Sup.cs_len, Sup.cs_len]) (i1.out _) (Sup.cs_one _) ?_; intro w22 hr22 hg22 hs22
       have R22 := Lib.hid hr22
       have R222 := Lib.hid (R221.out.grown hg22 (by intro e; injection e with e; have := Q21.out; omega))
       have HB22 := Lib.hid (below_own HB21.out hg22 Q21.out.1)
       clear hr22 hg22 hs22))
  have hSS3 : Row w22.drew g2 27 x.cs ∧ Row w22.drew g21 27 u.cs := ⟨R222.out.kept (below_drw' w22), R22.out.kept (below_drw' w22)⟩
  have HBD3 := Lib.hid (below_nxt (below_drw' w22) HB22.out)
  refine wp_region_held_drew (S := fun w' => Row w' g2 27 x.cs ∧ Row w' g21 27 u.cs) (by kernel_rfl) hSS3 (fun hHeld => ?_)
  refine wpAnyH_take (i := 0) (oi := ⟨some 64, .load 27 (.tmp 10), _, _, _, _⟩) (v := .agg u.cs.toArray) rfl (by kernel_rfl) (by kernel_rfl) (by kernel_rfl) (fun _ _ _ h => h) (yieldsIf_load_mid (by rfl) 27 (.tmp 10) rfl g21 0 rfl u.cs _ (fun w hSw => hSw.2.all) Try.underlying27 rfl (i1.out _)) (by assumption) ?_
  simp only [Act.put, List.setIfInBounds_toArray, List.set_cons_zero, List.set_cons_succ]
  refine wpAnyH_take (i := 1) (oi := ⟨some 65, .move (.tmp 11), _, _, _, _⟩) (v := .int .i64 (p : Int)) rfl (by kernel_rfl) (by kernel_rfl) (by kernel_rfl) (fun _ _ _ h => h) (.inl ⟨by rfl, fun w hSw => by go_simp⟩) (by assumption) ?_
  simp only [Act.put, List.setIfInBounds_toArray, List.set_cons_zero, List.set_cons_succ]
  refine wpAnyH_take (i := 3) (oi := ⟨some 67, .load 27 (.tmp 2), _, _, _, _⟩) (v := .agg x.cs.toArray) rfl (by kernel_rfl) (by kernel_rfl) (by kernel_rfl) (fun _ _ _ h => h) (yieldsIf_load_mid (by rfl) 27 (.tmp 2) rfl g2 0 rfl x.cs _ (fun w hSw => hSw.1.all) Try.underlying27 rfl (i1.out _)) (by assumption) ?_
  simp only [Act.put, List.setIfInBounds_toArray, List.set_cons_zero, List.set_cons_succ]
  refine wpAnyH_ready (rs := [2]) (by kernel_rfl) (by simp) ?_
  refine AllReadyH.cons (o := ⟨some 66, .call ⟨.value (.func 16), #[.tmp 64, .tmp 65], _⟩, _, _, _, _⟩) rfl (fun K hK => ?_) AllReadyH.nil
  go_simp
  refine (HRM.out _).mono ?_
  rintro e w30 ⟨rfl, hb30⟩
  have hS30 : Row w30 g2 27 x.cs ∧ Row w30 g21 27 u.cs := ⟨hSS3.1.kept hb30, hSS3.2.kept hb30⟩
  have HB30 := Lib.hid (below_nxt hb30 HBD3.out)
  clear hb30
  refine hK.out _ _ hS30 (fun _hH30 => ?_)
  clear hK K
  refine wpAnyH_take (i := 4) (oi := ⟨some 68, .binOp .eql 27 (.tmp 66) (.tmp 67) 27, _, _, _, _⟩) (v := .bool true) rfl (by kernel_rfl) (by kernel_rfl) (by kernel_rfl) (fun _ _ _ h => h) (.inl ⟨by rfl, fun w hSw => by exact run_eql_op (P := Try.prog) w _ 27 27 (.tmp 66) (.tmp 67) rfl v.cs.toArray x.cs.toArray (by rfl) (by rfl) sup_guard true (fun w => by rw [eq_sup 9997]; exact congrArg (fun b => Result.ok b w) HLB.out)⟩) (by assumption) ?_
  simp only [Act.put, List.setIfInBounds_toArray, List.set_cons_zero, List.set_cons_succ]
  refine wpAnyH_take (i := 5) (oi := ⟨some 69, .move (.tmp 68), _, _, _, _⟩) (v := .bool true) rfl (by kernel_rfl) (by kernel_rfl) (by kernel_rfl) (fun _ _ _ h => h) (.inl ⟨by rfl, fun w hSw => by go_simp⟩) (by assumption) ?_
  simp only [Act.put, List.setIfInBounds_toArray, List.set_cons_zero, List.set_cons_succ]
  refine wpAnyH_take (i := 6) (oi := ⟨some 70, .move (.tmp 11), _, _, _, _⟩) (v := .int .i64 (p : Int)) rfl (by kernel_rfl) (by kernel_rfl) (by kernel_rfl) (fun _ _ _ h => h) (.inl ⟨by rfl, fun w hSw => by go_simp⟩) (by assumption) ?_
  simp only [Act.put, List.setIfInBounds_toArray, List.set_cons_zero, List.set_cons_succ]
  refine wpAnyH_take (i := 7) (oi := ⟨some 71, .fieldAddr 27 (.tmp 10) 2, _, _, _, _⟩) (v := .pointer (some ⟨g21, 257, none⟩)) rfl (by kernel_rfl) (by kernel_rfl) (by kernel_rfl) (fun _ _ _ h => h) (.inl ⟨by rfl, fun w hSw => by go_simp⟩) (by assumption) ?_
  simp only [Act.put, List.setIfInBounds_toArray, List.set_cons_zero, List.set_cons_succ]
  refine wpAnyH_take (i := 8) (oi := ⟨some 72, .indexAddr 24 (.tmp 71) (.tmp 70), _, _, _, _⟩) (v := .pointer (some ⟨g21, 257 + p, none⟩)) rfl (by kernel_rfl) (by kernel_rfl) (by kernel_rfl) (fun _ _ _ h => h) (.inl ⟨by rfl, fun w hSw => by go_simp⟩) (by assumption) ?_
  simp only [Act.put, List.setIfInBounds_toArray, List.set_cons_zero, List.set_cons_succ]
  refine wpAnyH_take (i := 9) (oi := ⟨some 73, .load 3 (.tmp 72), _, _, _, _⟩) (v := .int .i64 (k : Int)) rfl (by kernel_rfl) (by kernel_rfl) (by kernel_rfl) (fun _ _ _ h => h) (.inl ⟨by rfl, fun w hSw => by have c1 : w.cell? ⟨g21, 257 + p, none⟩ = some (.int .i64 (k : Int)) := by { rw [hSw.2.cell, u.c_i HP.out, HUI.out] }; go_simp⟩) (by assumption) ?_
  simp only [Act.put, List.setIfInBounds_toArray, List.set_cons_zero, List.set_cons_succ]
  refine wpAnyH_take (i := 10) (oi := ⟨some 74, .move (.tmp 8), _, _, _, _⟩) (v := .int .i64 (k : Int)) rfl (by kernel_rfl) (by kernel_rfl) (by kernel_rfl) (fun _ _ _ h => h) (.inl ⟨by rfl, fun w hSw => by go_simp⟩) (by assumption) ?_
  simp only [Act.put, List.setIfInBounds_toArray, List.set_cons_zero, List.set_cons_succ]
  refine wpAnyH_take (i := 11) (oi := ⟨some 75, .binOp .eql 3 (.tmp 73) (.tmp 74) 3, _, _, _, _⟩) (v := .bool true) rfl (by kernel_rfl) (by kernel_rfl) (by kernel_rfl) (fun _ _ _ h => h) (.inl ⟨by rfl, fun w hSw => by go_simp⟩) (by assumption) ?_
  simp only [Act.put, List.setIfInBounds_toArray, List.set_cons_zero, List.set_cons_succ]
  refine wpAnyH_take (i := 12) (oi := ⟨some 76, .pick (.tmp 69) (.tmp 75) (.const (.bool false)), _, _, _, _⟩) (v := .bool true) rfl (by kernel_rfl) (by kernel_rfl) (by kernel_rfl) (fun _ _ _ h => h) (.inl ⟨by rfl, fun w hSw => by go_simp⟩) (by assumption) ?_
  simp only [Act.put, List.setIfInBounds_toArray, List.set_cons_zero, List.set_cons_succ]
  refine wpAnyH_take (i := 13) (oi := ⟨some 77, .move (.tmp 76), _, _, _, _⟩) (v := .bool true) rfl (by kernel_rfl) (by kernel_rfl) (by kernel_rfl) (fun _ _ _ h => h) (.inl ⟨by rfl, fun w hSw => by go_simp⟩) (by assumption) ?_
  simp only [Act.put, List.setIfInBounds_toArray, List.set_cons_zero, List.set_cons_succ]
  refine wpAnyH_take (i := 14) (oi := ⟨some 78, .load 27 (.tmp 10), _, _, _, _⟩) (v := .agg u.cs.toArray) rfl (by kernel_rfl) (by kernel_rfl) (by kernel_rfl) (fun _ _ _ h => h) (yieldsIf_load_mid (by rfl) 27 (.tmp 10) rfl g21 0 rfl u.cs _ (fun w hSw => hSw.2.all) Try.underlying27 rfl (i1.out _)) (by assumption) ?_
  simp only [Act.put, List.setIfInBounds_toArray, List.set_cons_zero, List.set_cons_succ]
  refine wpAnyH_take (i := 16) (oi := ⟨some 80, .load 27 (.tmp 2), _, _, _, _⟩) (v := .agg x.cs.toArray) rfl (by kernel_rfl) (by kernel_rfl) (by kernel_rfl) (fun _ _ _ h => h) (yieldsIf_load_mid (by rfl) 27 (.tmp 2) rfl g2 0 rfl x.cs _ (fun w hSw => hSw.1.all) Try.underlying27 rfl (i1.out _)) (by assumption) ?_
  simp only [Act.put, List.setIfInBounds_toArray, List.set_cons_zero, List.set_cons_succ]
  refine wpAnyH_ready (rs := [15]) (by kernel_rfl) (by simp) ?_
  refine AllReadyH.cons (o := ⟨some 79, .call ⟨.value (.func 19), #[.tmp 78], _⟩, _, _, _, _⟩) rfl (fun K hK => ?_) AllReadyH.nil
  go_simp
  refine (HIU.out _).mono ?_
  rintro e w31 ⟨rfl, hb31⟩
  have hS31 : Row w31 g2 27 x.cs ∧ Row w31 g21 27 u.cs := ⟨hS30.1.kept hb31, hS30.2.kept hb31⟩
  have HB31 := Lib.hid (below_nxt hb31 HB30.out)
  clear hb31
  refine hK.out _ _ hS31 (fun _hH31 => ?_)
  clear hK K
  refine wpAnyH_ready (rs := [17]) (by kernel_rfl) (by simp) ?_
  refine AllReadyH.cons (o := ⟨some 81, .call ⟨.value (.func 19), #[.tmp 80], _⟩, _, _, _, _⟩) rfl (fun K hK => ?_) AllReadyH.nil
  go_simp
  refine (HIX.out _).mono ?_
  rintro e w32 ⟨rfl, hb32⟩
  have hS32 : Row w32 g2 27 x.cs ∧ Row w32 g21 27 u.cs := ⟨hS31.1.kept hb32, hS31.2.kept hb32⟩
  have HB32 := Lib.hid (below_nxt hb32 HB31.out)
  clear hb32
  refine hK.out _ _ hS32 (fun _hH32 => ?_)
  clear hK K
  refine wpAnyH_take (i := 18) (oi := ⟨some 82, .binOp .add 3 (.tmp 81) (.const (.int .i64 1)) 3, _, _, _, _⟩) (v := .int .i64 ((NI + 1 : Nat) : Int)) rfl (by kernel_rfl) (by kernel_rfl) (by kernel_rfl) (fun _ _ _ h => h) (.inl ⟨by rfl, fun w hSw => by go_simp⟩) (by assumption) ?_
  simp only [Act.put, List.setIfInBounds_toArray, List.set_cons_zero, List.set_cons_succ]
  refine wpAnyH_take (i := 19) (oi := ⟨some 83, .binOp .eql 3 (.tmp 79) (.tmp 82) 3, _, _, _, _⟩) (v := .bool true) rfl (by kernel_rfl) (by kernel_rfl) (by kernel_rfl) (fun _ _ _ h => h) (.inl ⟨by rfl, fun w hSw => by go_simp⟩) (by assumption) ?_
  simp only [Act.put, List.setIfInBounds_toArray, List.set_cons_zero, List.set_cons_succ]
  refine wpAnyH_take (i := 20) (oi := ⟨some 84, .pick (.tmp 77) (.tmp 83) (.const (.bool false)), _, _, _, _⟩) (v := .bool true) rfl (by kernel_rfl) (by kernel_rfl) (by kernel_rfl) (fun _ _ _ h => h) (.inl ⟨by rfl, fun w hSw => by go_simp⟩) (by assumption) ?_
  simp only [Act.put, List.setIfInBounds_toArray, List.set_cons_zero, List.set_cons_succ]
  refine wpAnyH_take (i := 21) (oi := ⟨some 4, .assign (.tmp 84), _, _, _, _⟩) (v := .bool true) rfl (by kernel_rfl) (by kernel_rfl) (by kernel_rfl) (fun _ _ _ h => h) (.inl ⟨by rfl, fun w hSw => by go_simp⟩) (by assumption) ?_
  simp only [Act.put, List.setIfInBounds_toArray, List.set_cons_zero, List.set_cons_succ]
  refine wpAnyH_done (by kernel_rfl) ?_ _
  go_wp2
  go_ret
  exact ⟨rfl, HB32.out⟩
theorem gbackW (x : Sup) (z : Int) (hs64 : x.s < 18446744073709551616) (w : World) : Calls Try.prog 6 #[.agg x.cs.toArray, .int .i64 z] w fun e w' => e = .returned (.bool true) ∧ Below w.heap.size w w' := by
  by_cases h : x.May
  · rcases least_bad (fun j => (j : Int) < z → x.u j = true) 256 with hn | ⟨k, hk, hkn, hkb⟩
    · rcases least_bad (fun j => x.i (j + 1) ≠ 0) 64 with hf | ⟨j, hj, hj0, hjb⟩
      · exact gback_d x z h hs64 (fun j h1 h2 => hn j h1 h2) hf w
      · exact gback_c x z h hs64 (fun j h1 h2 => hn j h1 h2) j hj (Classical.byContradiction hj0) hjb w
    · have hz : (k : Int) < z := Classical.byContradiction fun e => hkn (fun e2 => absurd e2 e)
      have hu : x.u k = false := by
        cases e : x.u k
        · rfl
        · exact absurd (fun _ => e) hkn
      have hb : ∀ j, j < k → x.u j = true := fun j hj => hkb j hj (by omega)
      rcases least_bad (fun j => x.i (j + 1) ≠ 0) 64 with hf | ⟨j, hj, hj0, hjb⟩
      · exact gback_b x z h hs64 k hk hz hu hb hf w
      · exact gback_a x z h hs64 k hk hz hu hb j hj (Classical.byContradiction hj0) hjb w
  · exact gback_not x z h w
end Go.Proofs.Ytcebbpdclgejdaa
