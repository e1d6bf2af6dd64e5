/- An inode and another one that differs in one part: what is shared by the walks of InodeOne. Conditions: those named. -/
import Derived.Test.YtpmldaoligmkaaaIj
set_option linter.unusedVariables false
set_option maxRecDepth 20000
namespace Go.Proofs.Ytpmldaoligmkaaa
open Go.RowKit

/-- What Pack leaves. -/
def PackR (v : Nat → Int) (z : Int) (A : Option Addr) (n : Nat) (w' : World) : Prop := (mayB v = true ∧ z = 0 ∧ n = 256 ∧ Hol w' A (blk sz v 27)) ∨ (mayB v = false ∧ z = 201)
theorem pack_any (v : Nat → Int) (hw : Wf v) (w : World) : Calls Try.prog 10 #[.agg (ncs v).toArray] w fun e w' => ∃ A n c z, e = .returned (.tuple #[.slice A n c, .int .i64 z]) ∧ Hid (PackR v z A n w') ∧ Hid (Below w.heap.size w w') := by
  cases h : mayB v
  · refine (pack_not v h w).mono ?_
    rintro e w' ⟨rfl, hb⟩
    exact ⟨_, _, _, _, rfl, Lib.hid (.inr ⟨h, rfl⟩), Lib.hid hb⟩
  · refine (pack_ok v h hw w).mono ?_
    rintro e w' ⟨A, c, rfl, ho, hb⟩
    exact ⟨_, _, _, _, rfl, Lib.hid (.inl ⟨h, rfl, rfl, Hol.own ho.out⟩), hb⟩
/-- Unlike inodes have unlike blocks. -/
theorem blk_inj (v u : Nat → Int) (hv : mayB v = true) (hu : mayB u = true) (wv : Wf v) (wu : Wf u) : ieqb u v = decide (blk sz v 27 = blk sz u 27) := by
  rw [Bool.eq_iff_iff, ieqb_iff, decide_eq_true_iff]
  constructor
  · intro h
    unfold blk
    rw [nb_congr sz 27 (fun j hj => (h j hj).symm)]
  · intro h j hj
    have h1 := rd_nb sz v 27 j hj (List.replicate (256 - off sz 27) 0) (May.fits hv wv j hj).1 (May.fits hv wv j hj).2
    have h2 := rd_nb sz u 27 j hj (List.replicate (256 - off sz 27) 0) (May.fits hu wu j hj).1 (May.fits hu wu j hj).2
    unfold blk at h
    rw [← h] at h2
    exact h2.symm.trans h1
theorem Wf.set {v : Nat → Int} (h : Wf v) (j : Nat) (z : Int) (h32 : kd j = .u32 → 0 ≤ z ∧ z < 4294967296) (h6 : j ≠ 6) : Wf (at1 v j z) := by
  refine ⟨fun k hk => ?_, ?_⟩
  · by_cases hj : k = j
    · subst hj
      rw [at1_same]
      exact h32 hk
    · rw [at1_other _ _ hj]
      exact h.u k hk
  · rw [at1_other _ _ (by omega)]
    exact h.s
section
variable {P : Program} {w : World} {ops : Array Oper} {rest : List Oper} {o : Oper} {a : Act} {Q : Exit → Act → World → Prop}
theorem run_eql_op (w : World) {a : Act} (o : Oper) (t t' : TypeId) (x y : Operand) (ho : o.op = .binOp .eql t x y t') (xs ys : Array Value) (hx : a.eval x = .agg xs) (hy : a.eval y = .agg ys) (hg : P.eqGuardType P.depth t = false) (b : Bool)
    (he : ∀ w, (Op.equalIn 10000 t (.agg xs) (.agg ys)).run P w = .ok b w) : (execOp a.eval o).run P w = .ok (.value (.bool b)) w := by
  unfold execOp
  simp only [ho, hx, hy, Sem.run_bind, run_eqGuard_agg w _ t x y xs ys hg, run_eql_struct, he, Result.andThen_ok]
  simp
theorem wp_add64 (hgd : o.guard = none) (t t2 : TypeId) (x y : Operand) (ho : o.op = .binOp .add t x y t2) (p q : Int) (hx : a.eval x = .int .i64 p) (hy : a.eval y = .int .i64 q)
    (h : ∀ r, wpList P ops Q rest (a.put o.dst (.int .i64 r)) w) : wpList P ops Q (o :: rest) a w := by
  refine wpList_plain hgd fun K hK => ?_
  unfold Oper.wp execOp
  simp only [ho, hx, hy]
  simp [go_sem]
  exact hK _ _ (h _)
theorem wp_add32 (hgd : o.guard = none) (t t2 : TypeId) (x y : Operand) (ho : o.op = .binOp .add t x y t2) (p q : Int) (hx : a.eval x = .int .u32 p) (hy : a.eval y = .int .u32 q)
    (h : ∀ r : Int, 0 ≤ r ∧ r < 4294967296 → wpList P ops Q rest (a.put o.dst (.int .u32 r)) w) : wpList P ops Q (o :: rest) a w := by
  refine wpList_plain hgd fun K hK => ?_
  have h0 : 0 ≤ IntKind.u32.wrap (p + q) ∧ IntKind.u32.wrap (p + q) < 4294967296 := by rw [wrap_32]; omega
  have h1 : 0 ≤ (p + q) % 4294967296 ∧ (p + q) % 4294967296 < 4294967296 := by omega
  unfold Oper.wp execOp
  simp only [ho, hx, hy]
  simp [go_sem]
  first
    | exact hK _ _ (h _ h0)
    | exact hK _ _ (h _ h1)
theorem wp_rem3 (hgd : o.guard = none) (t t2 : TypeId) (x y : Operand) (ho : o.op = .binOp .rem t x y t2) (p : Int) (hx : a.eval x = .int .i64 p) (hy : a.eval y = .int .i64 3)
    (h : ∀ r, wpList P ops Q rest (a.put o.dst (.int .i64 r)) w) : wpList P ops Q (o :: rest) a w := by
  refine wpList_plain hgd fun K hK => ?_
  unfold Oper.wp execOp
  simp only [ho, hx, hy]
  simp [go_sem]
  exact hK _ _ (h _)
theorem wp_xor64 (hgd : o.guard = none) (t t2 : TypeId) (x y : Operand) (ho : o.op = .binOp .xor t x y t2) (p q : Int) (hx : a.eval x = .int .i64 p) (hy : a.eval y = .int .i64 q)
    (h : ∀ r, wpList P ops Q rest (a.put o.dst (.int .i64 r)) w) : wpList P ops Q (o :: rest) a w := by
  refine wpList_plain hgd fun K hK => ?_
  unfold Oper.wp execOp
  simp only [ho, hx, hy]
  simp [go_sem]
  exact hK _ _ (h _)
theorem rem_facts (m n r : Nat) (hn : n = 8 ∨ n = 16) (hm : m < 1000) (hr : m % n = r) : (m : Int) % (n : Int) = (r : Int) ∧ Int.tmod (m : Int) (n : Int) = (r : Int) ∧ wrap64 (r : Int) = (r : Int) ∧ IntKind.i64.wrap (r : Int) = (r : Int) ∧ IntKind.u8.wrap (r : Int) = (r : Int) ∧ (r : Int) % 256 = (r : Int) ∧ r < 16 := by
  have hr16 : r < 16 := by rcases hn with rfl | rfl <;> omega
  have h1 : (m : Int) % (n : Int) = (r : Int) := by rw [← hr]; omega
  exact ⟨h1, by rw [Int.tmod_eq_emod_of_nonneg (Int.natCast_nonneg m)]; exact h1, by unfold wrap64; omega, by rw [IntKind.wrap_i64]; omega, by simp [IntKind.wrap, IntKind.bits, IntKind.signed]; omega, by omega, hr16⟩
theorem wp_rem8u (hgd : o.guard = none) (t t2 : TypeId) (x y : Operand) (ho : o.op = .binOp .rem t x y t2) (m r : Nat) (hx : a.eval x = .int .u8 (m : Int)) (hy : a.eval y = .int .u8 8) (hm : m < 1000) (hr : m % 8 = r)
    (h : wpList P ops Q rest (a.put o.dst (.int .u8 (r : Int))) w) : wpList P ops Q (o :: rest) a w := by
  refine wpList_plain hgd fun K hK => ?_
  obtain ⟨h1, h2, h3, h4, h5, h6, _⟩ := rem_facts m 8 r (.inl rfl) hm hr
  replace h1 : (m : Int) % 8 = (r : Int) := h1
  replace h2 : Int.tmod (m : Int) 8 = (r : Int) := h2
  unfold Oper.wp execOp
  simp only [ho, hx, hy]
  clear hm hr
  simp [go_sem, h1, h2, h3, h5, h6]
  exact hK _ _ h
theorem wp_rem16 (hgd : o.guard = none) (t t2 : TypeId) (x y : Operand) (ho : o.op = .binOp .rem t x y t2) (m r : Nat) (hx : a.eval x = .int .i64 (m : Int)) (hy : a.eval y = .int .i64 16) (hm : m < 1000) (hr : m % 16 = r)
    (h : wpList P ops Q rest (a.put o.dst (.int .i64 (r : Int))) w) : wpList P ops Q (o :: rest) a w := by
  refine wpList_plain hgd fun K hK => ?_
  obtain ⟨h1, h2, h3, h4, h5, h6, _⟩ := rem_facts m 16 r (.inr rfl) hm hr
  replace h1 : (m : Int) % 16 = (r : Int) := h1
  replace h2 : Int.tmod (m : Int) 16 = (r : Int) := h2
  unfold Oper.wp execOp
  simp only [ho, hx, hy]
  clear hm hr
  simp [go_sem, h1, h2, h3, h4]
  exact hK _ _ h
end
end Go.Proofs.Ytpmldaoligmkaaa
