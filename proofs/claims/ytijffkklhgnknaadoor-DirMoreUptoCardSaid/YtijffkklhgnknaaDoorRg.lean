/- Entries compared. No conditions. -/
import Derived.Test.YtijffkklhgnknaaDoorMgRc
import Derived.Test.YtijffkklhgnknaaDoorQp
set_option linter.unusedVariables false
set_option maxRecDepth 20000
namespace Go.Proofs.YtijffkklhgnknaaDoor
open Go.RowKit

theorem ba_inj {a b : ByteArray} (h : a.data.toList = b.data.toList) : a = b := by
  cases a; cases b
  simp only [ByteArray.mk.injEq]
  exact Array.toList_inj.1 h
def eqE (x y : Ent) : Bool := (x.nm.toList == y.nm.toList) && (((x.ino == y.ino) && (((x.ser : Int) == (y.ser : Int)) && true)) && ((x.kind == y.kind) && (((x.ck : Int) == (y.ck : Int)) && true)))
theorem eqE_refl (x : Ent) : eqE x x = true := by simp [eqE]
theorem eqE_eq {x y : Ent} (h : eqE x y = true) : x = y := by
  unfold eqE at h
  simp only [Bool.and_eq_true, beq_iff_eq, and_true] at h
  obtain ⟨h1, ⟨h2, h3⟩, h4, h5⟩ := h
  rw [ByteArray.toList_eq, ByteArray.toList_eq] at h1
  cases x; cases y
  simp only at h1 h2 h3 h4 h5
  have e1 := ba_inj h1
  subst e1 h2 h4
  congr 1 <;> omega
section
variable {w : World}
theorem part_int {t : TypeId} {k : IntKind} (ht : Tryd.prog.underlying t = some (.int k)) {cs : Array Value} {o : Nat} {v : Value} (h : cs[o]? = some v) : (part t cs o).run Tryd.prog w = .ok v w := by
  simp [part, isAgg, run_underlying ht, h]
theorem part_string {t : TypeId} (ht : Tryd.prog.underlying t = some .string) {cs : Array Value} {o : Nat} {v : Value} (h : cs[o]? = some v) : (part t cs o).run Tryd.prog w = .ok v w := by
  simp [part, isAgg, run_underlying ht, h]
theorem part_str {t : TypeId} {fs : Array Field} (ht : Tryd.prog.underlying t = some (.struct fs)) {m : Nat} (hs : (Tryd.prog.info? t).map (·.size) = some m) (cs : Array Value) (o : Nat) : (part t cs o).run Tryd.prog w = .ok (.agg (cs.extract o (o + m))) w := by
  simp [part, isAgg, run_underlying ht, size_of hs]
theorem eqf_cons (d : Nat) (xs ys : Array Value) (f : Field) (fs : List Field) (b r : Bool) (hn : f.name ≠ "_") (u v : Value)
    (hp : (part f.type xs f.offset).run Tryd.prog w = .ok u w) (hq : (part f.type ys f.offset).run Tryd.prog w = .ok v w) (he : (Op.equalIn d f.type u v).run Tryd.prog w = .ok b w)
    (hr : (Op.eqFields d xs ys fs).run Tryd.prog w = .ok r w) : (Op.eqFields d xs ys (f :: fs)).run Tryd.prog w = .ok (b && r) w := by
  simp only [Op.eqFields, Sem.run_bind, Sem.run_ite, hp, hq, he, Result.andThen_ok, Sem.run_pure, hr]
  cases b <;> simp [hn]
theorem eqf_int (d : Nat) (xs ys : Array Value) (f : Field) (fs : List Field) (r : Bool) (o : Nat) (t : TypeId) (nm : String) (k : IntKind) (x y : Int) (hf : f.name = nm ∧ f.type = t ∧ f.offset = o) (hn : nm ≠ "_") (ht : Tryd.prog.underlying t = some (.int k)) (hx : xs[o]? = some (.int k x)) (hy : ys[o]? = some (.int k y))
    (hr : (Op.eqFields (d + 1) xs ys fs).run Tryd.prog w = .ok r w) : (Op.eqFields (d + 1) xs ys (f :: fs)).run Tryd.prog w = .ok ((x == y) && r) w := by
  obtain ⟨h1, h2, h3⟩ := hf
  refine eqf_cons (d + 1) xs ys f fs _ r (by rw [h1]; exact hn) (.int k x) (.int k y) ?_ ?_ ?_ hr
  · rw [h2, h3]; exact part_int ht hx
  · rw [h2, h3]; exact part_int ht hy
  · rw [h2]; exact run_equalIn_int (P := Tryd.prog) w d t k k x y ht
theorem ref_fields : ((Tryd.prog.fieldsOf 40).toList.map fun f => (f.name, f.type, f.offset)) = [("Ino", 3, 0), ("Serial", 38, 1)] := by kernel_rfl
theorem ref_held : Tryd.prog.stoodInHeld 40 = false := by kernel_rfl
theorem ref_under : Tryd.prog.underlying 40 = some (.struct (Tryd.prog.fieldsOf 40)) := by kernel_rfl
theorem eq_ref (d : Nat) (i s j t : Int) : (Op.equalIn (d + 2) 40 (.agg #[.int .i64 i, .int .u64 s]) (.agg #[.int .i64 j, .int .u64 t])).run Tryd.prog w = .ok ((i == j) && ((s == t) && true)) w := by
  rw [run_equalIn_struct w (d + 1) _ _ _ ref_under ref_held]
  have hf := ref_fields
  generalize (Tryd.prog.fieldsOf 40).toList = fs at hf
  rcases fs with _ | ⟨f0, _ | ⟨f1, _ | ⟨f2, r⟩⟩⟩ <;> simp only [List.map_cons, List.map_nil, List.cons.injEq, Prod.mk.injEq, and_true, reduceCtorEq, and_false] at hf
  obtain ⟨h0, h1⟩ := hf
  refine eqf_int d _ _ f0 _ _ 0 _ _ .i64 i j h0 (by decide) Tryd.underlying3 rfl rfl ?_
  refine eqf_int d _ _ f1 _ _ 1 _ _ .u64 s t h1 (by decide) Tryd.underlying38 rfl rfl ?_
  simp [Op.eqFields]
theorem ent_fields : ((Tryd.prog.fieldsOf 42).toList.map fun f => (f.name, f.type, f.offset)) = [("Name", 9, 0), ("Ref", 40, 1), ("Kind", 3, 3), ("Cookie", 35, 4)] := by kernel_rfl
theorem ent_held : Tryd.prog.stoodInHeld 42 = false := by kernel_rfl
theorem ent_guard : Tryd.prog.eqGuardType Tryd.prog.depth 42 = false := by kernel_rfl
theorem ent_under : Tryd.prog.underlying 42 = some (.struct (Tryd.prog.fieldsOf 42)) := by kernel_rfl
theorem info_ref : (Tryd.prog.info? 40).map (·.size) = some 2 := by kernel_rfl
theorem eq_ent (d : Nat) (x y : Ent) : (Op.equalIn (d + 3) 42 (.agg (ecs x).toArray) (.agg (ecs y).toArray)).run Tryd.prog w = .ok (eqE x y) w := by
  rw [run_equalIn_struct w (d + 2) _ _ _ ent_under ent_held]
  have hf := ent_fields
  generalize (Tryd.prog.fieldsOf 42).toList = fs at hf
  rcases fs with _ | ⟨f0, _ | ⟨f1, _ | ⟨f2, _ | ⟨f3, _ | ⟨f4, r⟩⟩⟩⟩⟩ <;> simp only [List.map_cons, List.map_nil, List.cons.injEq, Prod.mk.injEq, and_true, reduceCtorEq, and_false] at hf
  obtain ⟨h0, h1, h2, h3⟩ := hf
  unfold eqE
  refine eqf_cons (d + 2) _ _ f0 _ _ _ (by rw [h0.1]; decide) (.string x.nm) (.string y.nm) ?_ ?_ ?_ ?_
  · rw [h0.2.1, h0.2.2]; exact part_string Tryd.underlying9 rfl
  · rw [h0.2.1, h0.2.2]; exact part_string Tryd.underlying9 rfl
  · rw [h0.2.1]; exact run_equalIn_string (P := Tryd.prog) w (d + 1) _ _ _ Tryd.underlying9
  refine eqf_cons (d + 2) _ _ f1 _ _ _ (by rw [h1.1]; decide) (.agg #[.int .i64 x.ino, .int .u64 (x.ser : Int)]) (.agg #[.int .i64 y.ino, .int .u64 (y.ser : Int)]) ?_ ?_ ?_ ?_
  · rw [h1.2.1, h1.2.2]; exact part_str ref_under info_ref _ _
  · rw [h1.2.1, h1.2.2]; exact part_str ref_under info_ref _ _
  · rw [h1.2.1]; exact eq_ref d _ _ _ _
  refine eqf_int (d + 1) _ _ f2 _ _ 3 _ _ .i64 x.kind y.kind h2 (by decide) Tryd.underlying3 rfl rfl ?_
  refine eqf_int (d + 1) _ _ f3 _ _ 4 _ _ .u32 (x.ck : Int) (y.ck : Int) h3 (by decide) Tryd.underlying35 rfl rfl ?_
  simp [Op.eqFields]
end
/-- The operation `!=` on two entries. -/
theorem run_neq_ent (w : World) {a : Act} (o : Oper) (t' : TypeId) (x y : Operand) (ho : o.op = .binOp .neq 42 x y t') (p q : Ent) (hx : a.eval x = .agg (ecs p).toArray) (hy : a.eval y = .agg (ecs q).toArray) : (execOp a.eval o).run Tryd.prog w = .ok (.value (.bool (!(eqE p q)))) w := by
  unfold execOp
  simp only [ho, hx, hy, Sem.run_bind, run_eqGuard_agg w _ 42 x y _ _ ent_guard, run_neq_struct, eq_ent 9997, Result.andThen_ok]
  rfl
end Go.Proofs.YtijffkklhgnknaaDoor
