/- A record's cells, and when two records, or two rows of four, are the same. No conditions. -/
import Derived.Test.YtibnmhaipogleaaDoorCopy
import Derived.Test.YtibnmhaipogleaaDoorChecked
import Derived.Stop.BytesEq
set_option linter.unusedVariables false
namespace Go.Proofs.YtibnmhaipogleaaDoor
open Go.RowKit

/-- A record: where, the nonce, the digest. -/
structure RecV where
  a : Int
  e : Nat
  s : Nat
  f : Nat → UInt8
def RecV.cs (r : RecV) : List Value := [.int .i64 r.a, .int .u32 (r.e : Int), .int .u32 (r.s : Int)] ++ brr 32 r.f
def RecV.l (r : RecV) : List UInt8 := lst 32 r.f
def rec0 : RecV := ⟨0, 0, 0, fun _ => 0⟩
/-- Whether two records are the same. -/
def RecV.eqb (r q : RecV) : Bool := r.a == q.a && ((r.e : Int) == (q.e : Int) && ((r.s : Int) == (q.s : Int) && (r.l == q.l)))
theorem RecV.cs_len (r : RecV) : r.cs.length = 35 := by simp [RecV.cs, brr_len]
theorem RecV.l_len (r : RecV) : r.l.length = 32 := by simp [RecV.l, lst_len]
theorem RecV.cs_one (r : RecV) : ∀ v ∈ r.cs, v.oneCell' = true := by
  intro v hv
  rcases List.mem_append.1 hv with hv | hv
  · simp at hv
    rcases hv with rfl | rfl | rfl <;> rfl
  · exact brr_one _ _ v hv
theorem RecV.eqb_refl (r : RecV) : r.eqb r = true := by simp [RecV.eqb]
theorem RecV.eqb_iff (r q : RecV) : r.eqb q = true ↔ r.cs = q.cs := by
  constructor
  · intro h
    simp [RecV.eqb] at h
    obtain ⟨h1, h2, h3, h4⟩ := h
    unfold RecV.l at h4
    unfold RecV.cs
    rw [h1, h2, h3, lst_bc, lst_bc, h4]
  · intro h
    obtain ⟨a, e, s, f⟩ := r
    obtain ⟨a', e', s', f'⟩ := q
    unfold RecV.cs at h
    simp only [List.cons_append, List.nil_append, List.cons.injEq, Value.int.injEq, true_and] at h
    obtain ⟨h1, h2, h3, h4⟩ := h
    have e4 : lst 32 f = lst 32 f' := by
      rw [lst_bc, lst_bc] at h4
      exact bc_inj h4
    simp [RecV.eqb, RecV.l, h1, h2, h3, e4]
theorem info_rec : (Tryd.prog.info? 26).map (·.size) = some 35 := by kernel_rfl
theorem info_recs : (Tryd.prog.info? 27).map (·.size) = some 140 := by kernel_rfl
theorem info_sum : (Tryd.prog.info? 24).map (·.size) = some 32 := by kernel_rfl

section
variable {P : Program} (w : World)
theorem size_of {t : TypeId} {n : Nat} (h : (P.info? t).map (·.size) = some n) (w : World) : (sizeOf t).run P w = .ok n w := by
  cases hq : P.info? t with
  | none => simp [hq] at h
  | some i =>
    have hi : i.size = n := by simpa [hq] using h
    simp [sizeOf, typeInfo, hq, hi]
theorem part_int {t : TypeId} {k : IntKind} (ht : P.underlying t = some (.int k)) {cs : Array Value} {o : Nat} {v : Value} (h : cs[o]? = some v) : (part t cs o).run P w = .ok v w := by
  simp [part, isAgg, run_underlying ht, h]
theorem part_arr {t e : TypeId} {n : Nat} (ht : P.underlying t = some (.array n e)) {m : Nat} (hs : (P.info? t).map (·.size) = some m) (cs : Array Value) (o : Nat) : (part t cs o).run P w = .ok (.agg (cs.extract o (o + m))) w := by
  simp [part, isAgg, run_underlying ht, size_of hs]
theorem part_str {t : TypeId} {fs : Array Field} (ht : P.underlying t = some (.struct fs)) {m : Nat} (hs : (P.info? t).map (·.size) = some m) (cs : Array Value) (o : Nat) : (part t cs o).run P w = .ok (.agg (cs.extract o (o + m))) w := by
  simp [part, isAgg, run_underlying ht, size_of hs]
/-- Two rows of parts, compared. -/
theorem run_equalIn_parts (d : Nat) (t e : TypeId) (n k : Nat) (ht : P.underlying t = some (.array n e)) (hsz : (P.info? e).map (·.size) = some k) (xs ys : Array Value) (px py : Nat → Value) (b : Nat → Bool)
    (hx : ∀ i, i < n → ∀ w, (part e xs (i * k)).run P w = .ok (px i) w) (hy : ∀ i, i < n → ∀ w, (part e ys (i * k)).run P w = .ok (py i) w) (he : ∀ i, i < n → ∀ w, (Op.equalIn d e (px i) (py i)).run P w = .ok (b i) w) :
    (Op.equalIn (d + 1) t (.agg xs) (.agg ys)).run P w = .ok ((List.range n).all b) w := by
  rw [List.range_eq_range', Op.equalIn]
  simp only [Sem.run_bind, run_underlying ht, Result.andThen_ok, size_of hsz, Std.Legacy.Range.forIn_eq_forIn_range', Std.Legacy.Range.size, Nat.sub_zero, Nat.add_sub_cancel, Nat.div_one]
  have hl : ∀ i ∈ List.range' 0 n 1, i < n := fun i hi => by simpa using (List.mem_range'_1.1 hi).2
  generalize List.range' 0 n 1 = l at hl ⊢
  induction l with
  | nil => simp
  | cons i l ih =>
    have hi : i < n := hl i (by simp)
    simp only [List.forIn_cons, Sem.run_bind, hx i hi, hy i hi, he i hi, Result.andThen_ok, List.all_cons]
    cases hb : b i
    · simp
    · simp only [Bool.not_true, Bool.false_eq_true, if_false, Sem.run_pure, Result.andThen_ok, Bool.true_and]
      exact ih fun j hj => hl j (by simp [hj])
end
section
variable {P : Program} {ops : Array Oper} {rest : List Oper} {o : Oper} {a : Act} {w : World} {Q : Exit → Act → World → Prop}
/-- A whole row, loaded, in an operation that is guarded. -/
theorem step_load_g (hw : Region.wanted o (yielded ops a.tmps) = true) (d : Tmp) (hd : o.dst = some d) (ty : TypeId) (x : Operand) (ho : o.op = .load ty x) (g : Nat) (hx : a.eval x = .pointer (some ⟨g, 0, none⟩)) (cs : List Value) (dd : TypeDesc)
    (hr : w.rangeAt g 0 cs) (hu : P.underlying ty = some dd) (hdd : dd.isRow = true) (hi : (P.info? ty).map (·.size) = some cs.length)
    (h : wpList P ops Q rest (a.put o.dst (.agg cs.toArray)) w) : wpList P ops Q (o :: rest) a w := by
  refine wpList_step fun K hK => ?_
  rw [if_pos hw]
  exact wp_load_mid ty x ho g 0 hx cs dd hr hu hdd hi (hK _ _ h)
/-- A struct, built out of parts, in an operation that is guarded. -/
theorem step_build_g (hw : Region.wanted o (yielded ops a.tmps) = true) (t : TypeId) (parts : Array (Nat × Operand)) (ho : o.op = .build t parts) (vs : List (Nat × Value)) (hv : (parts.map fun (i, x) => (i, a.eval x)).toList = vs) (cells : Array Value) (hb : P.built t vs = some cells)
    (h : wpList P ops Q rest (a.put o.dst (.agg cells)) w) : wpList P ops Q (o :: rest) a w := by
  subst hv
  refine wpList_step fun K hK => ?_
  rw [if_pos hw]
  refine wp_build t parts ho (by rw [hb]; rfl) ?_
  rw [hb]
  exact hK _ _ h
/-- Two rows of cells, compared. -/
theorem step_eql (hw : Region.wanted o (yielded ops a.tmps) = true) (t t' : TypeId) (x y : Operand) (ho : o.op = .binOp .eql t x y t') (xs ys : Array Value) (hx : a.eval x = .agg xs) (hy : a.eval y = .agg ys) (hg : P.eqGuardType P.depth t = false) (b : Bool)
    (he : ∀ w, (Op.equalIn 10000 t (.agg xs) (.agg ys)).run P w = .ok b w)
    (h : wpList P ops Q rest (a.put o.dst (.bool b)) w) : wpList P ops Q (o :: rest) a w := by
  refine wpList_step fun K hK => ?_
  rw [if_pos hw]
  unfold Oper.wp execOp
  simp only [ho, hx, hy, Sem.run_bind, run_eqGuard_agg w _ t x y xs ys hg, run_eql_struct, he, Result.andThen_ok]
  exact hK _ _ h
theorem step_neq (hw : Region.wanted o (yielded ops a.tmps) = true) (t t' : TypeId) (x y : Operand) (ho : o.op = .binOp .neq t x y t') (xs ys : Array Value) (hx : a.eval x = .agg xs) (hy : a.eval y = .agg ys) (hg : P.eqGuardType P.depth t = false) (b : Bool)
    (he : ∀ w, (Op.equalIn 10000 t (.agg xs) (.agg ys)).run P w = .ok b w)
    (h : wpList P ops Q rest (a.put o.dst (.bool (!b))) w) : wpList P ops Q (o :: rest) a w := by
  refine wpList_step fun K hK => ?_
  rw [if_pos hw]
  unfold Oper.wp execOp
  simp only [ho, hx, hy, Sem.run_bind, run_eqGuard_agg w _ t x y xs ys hg, run_neq_struct, he, Result.andThen_ok]
  exact hK _ _ h
end
theorem brr_cell (n : Nat) (f : Nat → UInt8) : brr n f = (lst n f).map Extern.Stop.cell := by
  rw [lst_bc]
  rfl
/-- Two digests, compared. -/
theorem eq_sum (d : Nat) (f g : Nat → UInt8) (w : World) : (Op.equalIn (d + 2) 24 (.agg (brr 32 f).toArray) (.agg (brr 32 g).toArray)).run Tryd.prog w = .ok (lst 32 f == lst 32 g) w := by
  rw [brr_cell, brr_cell]
  exact run_equalIn_bytes w d 24 5 32 Tryd.underlying24 Tryd.underlying5 (fun w => size_of (by kernel_rfl) w) _ _ (lst_len _ _) (lst_len _ _)
theorem rec_fields : ((Tryd.prog.fieldsOf 26).toList.map fun f => (f.name, f.type, f.offset)) = [("At", 3, 0), ("Epoch", 22, 1), ("Seq", 22, 2), ("Sum", 24, 3)] := by kernel_rfl
theorem rec_guard : Tryd.prog.eqGuardType Tryd.prog.depth 26 = false := by kernel_rfl
theorem recs_guard : Tryd.prog.eqGuardType Tryd.prog.depth 27 = false := by kernel_rfl
theorem sum_guard : Tryd.prog.eqGuardType Tryd.prog.depth 24 = false := by kernel_rfl
theorem rec_held : Tryd.prog.stoodInHeld 26 = false := by kernel_rfl
theorem RecV.sum_part (r : RecV) : (r.cs.toArray).extract 3 35 = (brr 32 r.f).toArray := by
  apply Array.ext'
  simp [RecV.cs]
  exact List.take_of_length_le (by rw [brr_len]; exact Nat.le_refl _)
/-- Two records, compared. -/
theorem eq_rec (d : Nat) (r q : RecV) (w : World) : (Op.equalIn (d + 3) 26 (.agg r.cs.toArray) (.agg q.cs.toArray)).run Tryd.prog w = .ok (r.eqb q) w := by
  have hu : Tryd.prog.underlying 26 = some (.struct (Tryd.prog.fieldsOf 26)) := by kernel_rfl
  rw [run_equalIn_struct w (d + 2) _ _ _ hu rec_held]
  have hf := rec_fields
  generalize (Tryd.prog.fieldsOf 26).toList = fs at hf
  rcases fs with _ | ⟨f0, _ | ⟨f1, _ | ⟨f2, _ | ⟨f3, _ | ⟨f4, t⟩⟩⟩⟩⟩ <;> simp only [List.map_cons, List.map_nil, List.cons.injEq, Prod.mk.injEq, and_true, reduceCtorEq, and_false, false_and] at hf
  obtain ⟨⟨n0, t0, o0⟩, ⟨n1, t1, o1⟩, ⟨n2, t2, o2⟩, n3, t3, o3⟩ := hf
  have hi := fun w => run_equalIn_int (P := Tryd.prog) w (d + 1) 3 .i64 .i64 r.a q.a Tryd.underlying3
  have h1 := fun w => run_equalIn_int (P := Tryd.prog) w (d + 1) 22 .u32 .u32 (r.e : Int) (q.e : Int) Tryd.underlying22
  have h2 := fun w => run_equalIn_int (P := Tryd.prog) w (d + 1) 22 .u32 .u32 (r.s : Int) (q.s : Int) Tryd.underlying22
  have h3 := fun w => eq_sum d r.f q.f w
  have p0 := fun (x : RecV) w => part_int (P := Tryd.prog) w Tryd.underlying3 (cs := x.cs.toArray) (o := 0) (v := .int .i64 x.a) rfl
  have p1 := fun (x : RecV) w => part_int (P := Tryd.prog) w Tryd.underlying22 (cs := x.cs.toArray) (o := 1) (v := .int .u32 (x.e : Int)) rfl
  have p2 := fun (x : RecV) w => part_int (P := Tryd.prog) w Tryd.underlying22 (cs := x.cs.toArray) (o := 2) (v := .int .u32 (x.s : Int)) rfl
  have p3 := fun (x : RecV) w => part_arr (P := Tryd.prog) w Tryd.underlying24 info_sum x.cs.toArray 3
  simp only [RecV.sum_part, show 3 + 32 = 35 from rfl] at p3
  simp only [Op.eqFields, n0, t0, o0, n1, t1, o1, n2, t2, o2, n3, t3, o3, Sem.run_bind, Sem.run_ite, p0, p1, p2, p3, hi, h1, h2, h3, Result.andThen_ok, Sem.run_pure]
  unfold RecV.eqb RecV.l
  cases (r.a == q.a) <;> cases ((r.e : Int) == (q.e : Int)) <;> cases ((r.s : Int) == (q.s : Int)) <;> cases (lst 32 r.f == lst 32 q.f) <;> simp
end Go.Proofs.YtibnmhaipogleaaDoor
