/- A row of entries of the call's own: loaded, stored; two of them exchanged; two runs of them exchanged. Conditions: those named. -/
import Derived.Test.YtijffkklhgnknaaDoorQf
import Derived.StillTailTactics
set_option linter.unusedVariables false
set_option maxRecDepth 20000
namespace Go.Proofs.YtijffkklhgnknaaDoor
open Go.RowKit

/-- A whole row in a region's head that only reads. -/
theorem wpStill_load_mid {P : Program} {ops : Array Oper} {rest : List Oper} {op : Oper} {a : Act} {w : World} {K : Act → Prop} (hgd : op.guard = none) (ty : TypeId) (x : Operand) (ho : op.op = .load ty x)
    (b o : Nat) (hx : a.eval x = .pointer (some ⟨b, o, none⟩)) (cs : List Value) (d : TypeDesc) (hc : w.rangeAt b o cs)
    (hu : P.underlying ty = some d) (hd : d.isRow = true) (hi : (P.info? ty).map (·.size) = some cs.length)
    (h : wpStill P ops w K rest (a.put op.dst (.agg cs.toArray))) : wpStill P ops w K (op :: rest) a := by
  have hw : Region.wanted op (yielded ops a.tmps) = true := by simp [Region.wanted, hgd]
  unfold wpStill
  rw [if_pos hw]
  unfold Oper.still execOp
  simp only [ho, hx, Instr.loadAt, Instr.sureAddr, Sem.run_bind, Sem.run_pure, Result.andThen_ok, run_loadVar_mid w b o ty cs d hc hu hd hi]
  rw [Oper.stillUpon_value]
  exact h
def setL : List Value → Nat → List Value → List Value
  | L, _, [] => L
  | L, o, v :: r => setL (L.set o v) (o + 1) r
theorem Row.sets {g : Nat} {t : TypeId} : ∀ (vs : List Value) (o : Nat) {w : World} {L : List Value}, Row w g t L → Row (w.setCells g o vs) g t (setL L o vs)
  | [], _, _, _, h => h
  | v :: r, o, w, L, h => Row.sets r (o + 1) (h.put o v)
theorem setL_mid (B : List Value) : ∀ (vs M A : List Value), M.length = vs.length → setL (A ++ (M ++ B)) A.length vs = A ++ (vs ++ B)
  | [], M, A, h => by
    rw [List.length_nil] at h
    rw [List.eq_nil_of_length_eq_zero h]
    rfl
  | v :: r, [], A, h => by simp at h
  | v :: r, m :: M, A, h => by
    have h1 := setL_mid B r M (A ++ [v]) (by simpa using h)
    have h2 : (A ++ (m :: M ++ B)).set A.length v = A ++ [v] ++ (M ++ B) := by
      rw [List.set_append_right _ _ (Nat.le_refl _)]
      simp
    unfold setL
    rw [h2]
    rw [List.length_append, List.length_singleton] at h1
    rw [h1]
    simp
theorem grown_sets (g : Nat) : ∀ (vs : List Value) (o : Nat) (w : World), w.grownBy (w.setCells g o vs) (some g)
  | [], _, w => ⟨rfl, rfl, rfl, Nat.le_refl _, fun _ _ _ => rfl⟩
  | v :: r, o, w => grown_trans (grown_set w ⟨g, o, none⟩ v) (grown_sets g r (o + 1) _)
theorem Chg.one {g : Nat} {w w' : World} (h : w.grownBy w' (some g)) : Chg [g] w w' := (Chg.refl _ _).grown h (fun k hk => by injection hk with hk; subst hk; exact .inl (by simp))
/-- A row of entries; Z lies behind them. -/
def ER (w : World) (g : Nat) (xs : List Ent) (Z : List Value) : Prop := Row w g 42 (xs.flatMap ecs ++ Z)
section
variable {w w' : World} {g : Nat} {xs : List Ent} {Z : List Value} {i : Nat} {x y : Ent}
theorem ecs_at {xs : List Ent} {i : Nat} {x : Ent} (hx : xs[i]? = some x) : xs.flatMap ecs = (xs.take i).flatMap ecs ++ (ecs x ++ (xs.drop (i + 1)).flatMap ecs) := by
  obtain ⟨hi, h9⟩ := List.getElem?_eq_some_iff.1 hx
  have e1 : xs = xs.take i ++ x :: xs.drop (i + 1) := by rw [← h9, List.getElem_cons_drop, List.take_append_drop]
  have e2 := congrArg (·.flatMap ecs) e1
  simp only [List.flatMap_append, List.flatMap_cons] at e2
  exact e2
theorem ecs_take {xs : List Ent} {i : Nat} (hi : i ≤ xs.length) : ((xs.take i).flatMap ecs).length = i * 5 := by rw [flat_len ecs_len, List.length_take]; omega
theorem ER.at_ (h : ER w g xs Z) (hx : xs[i]? = some x) : w.rangeAt g (i * 5) (ecs x) := by
  have hi := (List.getElem?_eq_some_iff.1 hx).1
  unfold ER at h
  rw [ecs_at hx, List.append_assoc, List.append_assoc] at h
  intro j v hv
  have hj : j < (ecs x).length := (List.getElem?_eq_some_iff.1 hv).1
  rw [h.cell, List.getElem?_append_right (by rw [ecs_take (by omega)]; omega), ecs_take (by omega), Nat.add_sub_cancel_left, List.getElem?_append_left hj]
  exact hv
theorem ER.ck (h : ER w g xs Z) (hx : xs[i]? = some x) : w.cell? ⟨g, i * 5 + 4, none⟩ = some (.int .u32 (x.ck : Int)) := h.at_ hx 4 _ rfl
theorem ER.kept (h : ER w g xs Z) (hb : Below w.heap.size w w') : ER w' g xs Z := Row.kept h hb
theorem ER.lt (h : ER w g xs Z) : g < w.heap.size := Row.lt h
theorem ER.store (h : ER w g xs Z) (hi : i < xs.length) (e : Ent) : ER (w.setCells g (i * 5) (ecs e)) g (xs.set i e) Z := by
  have hx : xs[i]? = some xs[i] := List.getElem?_eq_getElem hi
  have hy : (xs.set i e)[i]? = some e := by rw [List.getElem?_set_self hi]
  unfold ER at h ⊢
  rw [ecs_at hx, List.append_assoc, List.append_assoc] at h
  have h1 := h.sets (ecs e) (i * 5)
  have h2 := setL_mid ((xs.drop (i + 1)).flatMap ecs ++ Z) (ecs e) (ecs xs[i]) ((xs.take i).flatMap ecs) rfl
  rw [ecs_take (by omega)] at h2
  rw [h2] at h1
  rw [ecs_at hy, List.append_assoc, List.append_assoc, List.take_set_of_le (Nat.le_refl _), List.drop_set_of_lt (Nat.lt_succ_self _)]
  exact h1
end
section
variable {ops : Array Oper} {rest : List Oper} {o : Oper} {a : Act} {w : World} {Q : Exit → Act → World → Prop} {K : Act → World → Prop}
theorem step_put_ent (hgd : o.guard = none) (x y : Operand) (ho : o.op = .store 42 x y) (g i : Nat) (hx : a.eval x = .pointer (some ⟨g, i * 5, none⟩)) (e : Ent) (hy : a.eval y = .agg (ecs e).toArray) (xs : List Ent) (Z : List Value)
    (hr : ER w g xs Z) (hi : i < xs.length) (h : ∀ w', ER w' g (xs.set i e) Z → w.grownBy w' (some g) → wpList Tryd.prog ops Q rest (a.put o.dst undef) w') : wpList Tryd.prog ops Q (o :: rest) a w := by
  refine wpList_plain hgd fun _ hK => ?_
  have hx0 : xs[i]? = some xs[i] := List.getElem?_eq_getElem hi
  refine wp_store_mid 42 x y ho g (i * 5) (ecs e).toArray hx hy ?_ (by simpa using info_ent e) (all_oneCell_toArray (ecs_one e)) ?_
  · have hr' : Row w g 42 ((xs.take i).flatMap ecs ++ (ecs xs[i] ++ ((xs.drop (i + 1)).flatMap ecs ++ Z))) := by
      have h1 := hr
      unfold ER at h1
      rw [ecs_at hx0, List.append_assoc, List.append_assoc] at h1
      exact h1
    have h2 := hr'.is_there (i * 5) (ecs e).length (by rw [List.length_append, ecs_take (by omega), List.length_append, ecs_len, ecs_len]; omega)
    simpa using h2
  · exact hK _ _ (h _ (by simpa using hr.store hi e) (grown_sets g _ _ w))
end
section
variable {ops : Array Oper} {o : Oper} {a : Act} {w : World} {Q : Exit → Act → World → Prop} {K : Act → World → Prop} {E : Prop}
theorem st_load_ent (hw : Region.wanted o (yielded ops a.tmps) = true) (x : Operand) (ho : o.op = .load 42 x) (g i : Nat) (hx : a.eval x = .pointer (some ⟨g, i * 5, none⟩)) (xs : List Ent) (Z : List Value) (e : Ent) (hr : ER w g xs Z) (hi : xs[i]? = some e)
    (h : K (a.put o.dst (.agg (ecs e).toArray)) w) : if Region.wanted o (yielded ops a.tmps) = true then Oper.wp Tryd.prog o a w K Q else E := by
  rw [if_pos hw]
  exact wp_load_mid 42 x ho g (i * 5) hx (ecs e) _ (hr.at_ hi) Tryd.underlying42 rfl (info_ent e) h
theorem st_put_ent (hw : Region.wanted o (yielded ops a.tmps) = true) (x y : Operand) (ho : o.op = .store 42 x y) (g i : Nat) (hx : a.eval x = .pointer (some ⟨g, i * 5, none⟩)) (e : Ent) (hy : a.eval y = .agg (ecs e).toArray) (xs : List Ent) (Z : List Value)
    (hr : ER w g xs Z) (hi : i < xs.length) (h : ∀ w', ER w' g (xs.set i e) Z → w.grownBy w' (some g) → K (a.put o.dst undef) w') : if Region.wanted o (yielded ops a.tmps) = true then Oper.wp Tryd.prog o a w K Q else E := by
  rw [if_pos hw]
  have hx0 : xs[i]? = some xs[i] := List.getElem?_eq_getElem hi
  refine wp_store_mid 42 x y ho g (i * 5) (ecs e).toArray hx hy ?_ (by simpa using info_ent e) (all_oneCell_toArray (ecs_one e)) ?_
  · have hr' : Row w g 42 ((xs.take i).flatMap ecs ++ (ecs xs[i] ++ ((xs.drop (i + 1)).flatMap ecs ++ Z))) := by
      have h1 := hr
      unfold ER at h1
      rw [ecs_at hx0, List.append_assoc, List.append_assoc] at h1
      exact h1
    have h2 := hr'.is_there (i * 5) (ecs e).length (by rw [List.length_append, ecs_take (by omega), List.length_append, ecs_len, ecs_len]; omega)
    simpa using h2
  · exact h _ (by simpa using hr.store hi e) (grown_sets g _ _ w)
end
/-- Two entries exchanged. -/
def swp (xs : List Ent) (i j : Nat) (x y : Ent) : List Ent := (xs.set i y).set j x
end Go.Proofs.YtijffkklhgnknaaDoor
