/- Steps of a region that draws: a slice built, an append; an entry put in order. No conditions. -/
import Derived.Test.YtijffkklhgnknaaDoorRf
import Derived.Test.YtijffkklhgnknaaDoorRh
set_option linter.unusedVariables false
set_option maxRecDepth 20000
namespace Go.Proofs.YtijffkklhgnknaaDoor
open Go.RowKit
section
variable {P : Program} {ops : Array Oper} {o : Oper} {a : Act} {w : World} {Q : Exit → Act → World → Prop} {K : Act → World → Prop} {E : Prop}
theorem st_bs1 (hw : Region.wanted o (yielded ops a.tmps) = true) (t e : TypeId) (x : Operand) (ho : o.op = .buildSlice t 1 #[(0, x)]) (hu : P.underlying t = some (.slice e)) (k : Nat) (hs : (P.info? e).map (·.size) = some k) (hk : 0 < k ∧ k ≤ 1000) (z : Value) (hz : ∀ w, (zeroValue e).run P w = .ok z w) (cs : List Value) (hcs : cs.length = k) (hx : a.eval x = .agg cs.toArray)
    (h : ∀ g w', Row w' g e cs → Hid (g = w.heap.size) → Below w.heap.size w w' → K (a.put o.dst (.slice (some ⟨g, 0, none⟩) 1 1)) w') : if Region.wanted o (yielded ops a.tmps) = true then Oper.wp P o a w K Q else E := by
  rw [if_pos hw]
  have hr := run_bs1 t e hu k hs hk z hz cs hcs w
  unfold Oper.wp execOp
  simp only [ho, hx, List.map_toArray, List.map_cons, List.map_nil, Sem.run_bind, hr, Result.andThen_ok]
  exact h _ _ (Row.made w e cs) (show _ = _ from rfl) ((Below.refl _ _).alloc (Nat.le_refl _) _)
theorem st_join (hw : Region.wanted o (yielded ops a.tmps) = true) {t e : TypeId} {k : Nat} (s x : Operand)
    (ho : o.op = .call { callee := .builtin .append, args := #[s, x], argTypes := #[t, t] }) (R : Rec P t e k) (base : Nat) (v : Value) (n : Nat) (xs : List Value) (hs : a.eval s = v) (hown : w.ownsRow base e k v n xs)
    (A : Option Addr) (m c : Nat) (ys : List Value) (hx : a.eval x = .slice A m c) (hys : ys.length = m * k) (hA : m = 0 ∧ A = none ∨ ∃ ad, A = some ad ∧ ∀ j u, ys[j]? = some u → w.cell? (ad.add j) = some u) (h1 : ∀ u ∈ ys, u.oneCell' = true) (hb : n + m ≤ 1000001) (hbase : base ≤ w.heap.size)
    (h : ∀ v' w', w'.ownsRow base e k v' (n + m) (xs ++ ys) → w.grownBy w' v.ownBlock → (v'.ownBlock = v.ownBlock ∨ v'.ownBlock = some w.heap.size) → K (a.put o.dst v') w') :
    if Region.wanted o (yielded ops a.tmps) = true then Oper.wp P o a w K Q else E := by
  rw [if_pos hw]
  obtain ⟨v', w', hr, h2, h3, h4⟩ := run_join (P := P) R o.type base v n xs hown A m c ys hys hA h1 hb hbase
  unfold Oper.wp execOp
  simp only [ho, resolve, invoke, builtin, Sem.run_bind, Sem.run_pure, Result.andThen_ok, List.map_toArray, List.map_cons, List.map_nil, hs, hx, hr]
  exact h v' w' h2 h3 h4
end
/-- A block of the call's own, as a row. -/
theorem own_row {w : World} {base g n k : Nat} {e : TypeId} {cs : List Value} (h : Row w g e cs) (hl : cs.length = n * k) (hb : base ≤ g) (hn : n ≤ maxLen) : w.ownsRow base e k (.slice (some ⟨g, 0, none⟩) n n) n cs :=
  ⟨hl, .inr ⟨g, n, _, rfl, hb, h.heap, Nat.le_refl _, hn, by simp [hl], List.take_of_length_le (by simp [hl])⟩⟩
/-- A slice of entries, cut at its end. -/
theorem front_ent (A : Option Addr) (c q n : Nat) (hn : n ≤ c) : ∀ W : World, (Instr.slice 22 (.slice A q c) none (some (.int .i64 n)) none).run Tryd.prog W = .ok (.slice A n c) W := fun W => by
  have h1 : (0 : Int) ≤ (n : Int) := by omega
  have h2 : (n : Int) ≤ (c : Int) := by omega
  have hs : (sizeOf (Tryd.prog.elem 22)).run Tryd.prog W = .ok 5 W := by kernel_rfl
  rw [run_slice_h (P := Tryd.prog) W 22 A q c (by kernel_rfl) .i64 n h1 h2, hs]
  cases A with
  | none => simp [Result.andThen, sliced]
  | some a =>
    have e : a.add 0 = a := by unfold Addr.add; cases a; split <;> simp_all
    simp [Result.andThen, sliced, e]
theorem Lies.take_ {w : World} {A : Option Addr} {X : List Ent} (h : Lies ecs 5 w A X) (n : Nat) : Lies ecs 5 w A (X.take n) := by
  rcases h with rfl | ⟨g, o, rfl, h⟩
  · exact .inl (by simp)
  · refine .inr ⟨g, o, rfl, fun j x hx => h j x ?_⟩
    rw [List.getElem?_take] at hx
    split at hx
    · exact hx
    · cases hx
/-- An entry put in order. -/
theorem ins_ord {R : List Ent} {x : Ent} {k : Nat} (h : Ord Ent.ck R) (h1 : ∀ j z, j < k → R[j]? = some z → z.ck ≤ x.ck) (h2 : ∀ z ∈ R.drop k, x.ck < z.ck) : Ord Ent.ck (R.take k ++ x :: R.drop k) := by
  have h0 : Ord Ent.ck (R.take k ++ R.drop k) := by rw [List.take_append_drop]; exact h
  have hx : ∀ y ∈ R.take k, y.ck ≤ x.ck := fun y hy => by
    obtain ⟨j, hj, rfl⟩ := List.mem_iff_getElem.1 hy
    have hjk : j < k := by rw [List.length_take] at hj; omega
    exact h1 j _ hjk (by rw [List.getElem_take, List.getElem?_eq_getElem])
  refine h0.left.app ((Ord.one x).app h0.right fun a ha b hb => ?_) fun a ha b hb => ?_
  · rw [List.mem_singleton] at ha
    subst ha
    exact Nat.le_of_lt (h2 b hb)
  · rcases List.mem_cons.1 hb with rfl | hb
    · exact hx a ha
    · exact Nat.le_trans (hx a ha) (Nat.le_of_lt (h2 b hb))
theorem ins_same {L R : List Ent} {x : Ent} {k : Nat} (h : SameK Ent.ck L R) (h2 : ∀ z ∈ R.drop k, x.ck < z.ck) : SameK Ent.ck (L ++ [x]) (R.take k ++ x :: R.drop k) := by
  have h1 := h.app (SameK.refl (key := Ent.ck) [x])
  have h3 : SameK Ent.ck (R.take k ++ R.drop k ++ [x]) (R.take k ++ x :: R.drop k) := SameK.ins (fun y hy => by have := h2 y hy; omega)
  rw [List.take_append_drop] at h3
  exact h1.trans h3
theorem ord_above {R : List Ent} {x y : Ent} {k : Nat} (h : Ord Ent.ck R) (hy : R[k]? = some y) (hlt : x.ck < y.ck) : ∀ z ∈ R.drop k, x.ck < z.ck := fun z hz => by
  obtain ⟨j, hj, rfl⟩ := List.mem_iff_getElem.1 hz
  have hj2 : k + j < R.length := by rw [List.length_drop] at hj; omega
  have h1 := h.get (i := k) (j := k + j) hy (List.getElem?_eq_getElem hj2) (by omega)
  rw [List.getElem_drop]
  omega
end Go.Proofs.YtijffkklhgnknaaDoor
