/- Plain facts of inserting: copies of elements of several cells, a row that grows by zeros. No conditions. -/
import Derived.Test.YtijffkklhgnknaaDoorRk
import Derived.Laws.CopyOwn
import Derived.Laws.NewBlocks
import Derived.Lib.AppendZerosOnto
import Derived.Lib.Overlaps
set_option linter.unusedVariables false
set_option maxRecDepth 20000
namespace Go.Proofs.YtijffkklhgnknaaDoor
open Go.RowKit

theorem run_copy_rowk {P : Program} (w : World) (dT sT ty elem : TypeId) (k n g o dLen dCap : Nat) (a : Addr) (sLen sCap : Nat) (cur : List Value) (t : TypeId) (cs : List Value)
    (hu : P.underlying dT = some (.slice elem)) (hs : (P.info? elem).map (·.size) = some k)
    (hg : Row w g t cur) (hn : n = Nat.min sLen dLen) (hcl : cs.length = n * k)
    (hsrc : ∀ j v, cs[j]? = some v → w.cell? (a.add j) = some v) (hfit : o + cs.length ≤ cur.length) (h1 : ∀ v ∈ cs, v.oneCell' = true) :
    (Builtin.copy_ #[dT, sT] ty #[.slice (some ⟨g, o, none⟩) dLen dCap, .slice (some a) sLen sCap]).run P w =
      .ok (goInt n) (w.setRow g (splice cur o cs).toArray) := by
  have hl := run_loadCells_list (P := P) w a cs hsrc
  have hst := run_storeCells_at P g o t cs 0 cur.toArray w hg.heap (by simpa using hfit) h1
  cases hq : P.info? elem with
  | none => simp [hq] at hs
  | some i =>
    have hi : i.size = k := by simpa [hq] using hs
    simp [Builtin.copy_, run_underlying hu, Builtin.lenOf, Builtin.firstCells, sizeOf, typeInfo, hq, hi, ← hn, ← hcl, hl, hst, splice]
section
variable {P : Program} {ops : Array Oper} {rest : List Oper} {o : Oper} {a : Act} {w : World} {Q : Exit → Act → World → Prop} {K : Act → World → Prop} {E : Prop}
theorem set_grown {g : Nat} {t : TypeId} {cur cs : List Value} (hg : Row w g t cur) : Row (w.setRow g cs.toArray) g t cs ∧ w.grownBy (w.setRow g cs.toArray) (some g) :=
  ⟨by unfold Row; exact setRow_heap w g _ _ t _ hg.heap, ⟨rfl, rfl, rfl, by simp, fun k hk hne => setRow_other w g k _ (fun e => hne (by rw [e]))⟩⟩
theorem wp_copyk (hgd : o.guard = none) (d s : Operand) (dT sT : TypeId)
    (ho : o.op = .call { callee := .builtin .copy, args := #[d, s], argTypes := #[dT, sT] }) (elem : TypeId) (k n : Nat) (hu : P.underlying dT = some (.slice elem)) (hsz : (P.info? elem).map (·.size) = some k)
    (g off dLen dCap : Nat) (ad : Addr) (sLen sCap : Nat) (hd : a.eval d = .slice (some ⟨g, off, none⟩) dLen dCap) (hs : a.eval s = .slice (some ad) sLen sCap)
    (t : TypeId) (cur cs : List Value) (hg : Row w g t cur) (hn : n = Nat.min sLen dLen) (hcl : cs.length = n * k)
    (hsrc : ∀ j v, cs[j]? = some v → w.cell? (ad.add j) = some v) (hfit : off + cs.length ≤ cur.length) (h1 : ∀ v ∈ cs, v.oneCell' = true)
    (h : ∀ w', Row w' g t (splice cur off cs) → w.grownBy w' (some g) → wpList P ops Q rest (a.put o.dst (goInt n)) w') : wpList P ops Q (o :: rest) a w := by
  refine wpList_plain hgd fun K hK => ?_
  have hrun := run_copy_rowk (P := P) w dT sT o.type elem k n g off dLen dCap ad sLen sCap cur t cs hu hsz hg hn hcl hsrc hfit h1
  unfold Oper.wp
  simp only [execOp, ho, resolve, invoke, builtin, Sem.run_bind, Sem.run_pure, Result.andThen_ok, List.map_toArray, List.map_cons, List.map_nil, hd, hs, hrun]
  exact hK _ _ (h _ (set_grown hg).1 (set_grown hg).2)
theorem st_copyk (hw : Region.wanted o (yielded ops a.tmps) = true) (d s : Operand) (dT sT : TypeId)
    (ho : o.op = .call { callee := .builtin .copy, args := #[d, s], argTypes := #[dT, sT] }) (elem : TypeId) (k n : Nat) (hu : P.underlying dT = some (.slice elem)) (hsz : (P.info? elem).map (·.size) = some k)
    (g off dLen dCap : Nat) (ad : Addr) (sLen sCap : Nat) (hd : a.eval d = .slice (some ⟨g, off, none⟩) dLen dCap) (hs : a.eval s = .slice (some ad) sLen sCap)
    (t : TypeId) (cur cs : List Value) (hg : Row w g t cur) (hn : n = Nat.min sLen dLen) (hcl : cs.length = n * k)
    (hsrc : ∀ j v, cs[j]? = some v → w.cell? (ad.add j) = some v) (hfit : off + cs.length ≤ cur.length) (h1 : ∀ v ∈ cs, v.oneCell' = true)
    (h : ∀ w', Row w' g t (splice cur off cs) → w.grownBy w' (some g) → K (a.put o.dst (goInt n)) w') : if Region.wanted o (yielded ops a.tmps) = true then Oper.wp P o a w K Q else E := by
  rw [if_pos hw]
  have hrun := run_copy_rowk (P := P) w dT sT o.type elem k n g off dLen dCap ad sLen sCap cur t cs hu hsz hg hn hcl hsrc hfit h1
  unfold Oper.wp
  simp only [execOp, ho, resolve, invoke, builtin, Sem.run_bind, Sem.run_pure, Result.andThen_ok, List.map_toArray, List.map_cons, List.map_nil, hd, hs, hrun]
  exact h _ (set_grown hg).1 (set_grown hg).2
end
theorem take2 {x y z : List Value} {n : Nat} (h : x.length + y.length = n) : (x ++ (y ++ z)).take n = x ++ y := by
  rw [← List.append_assoc]
  exact List.take_left' (by rw [List.length_append]; exact h)
theorem drop2 {x y z : List Value} {n : Nat} (h : x.length + y.length = n) : (x ++ (y ++ z)).drop n = z := by
  rw [← List.append_assoc]
  exact List.drop_left' (by rw [List.length_append]; exact h)
theorem take3 {x y v z : List Value} {n : Nat} (h : x.length + y.length + v.length = n) : (x ++ (y ++ (v ++ z))).take n = x ++ (y ++ v) := by
  have e : x ++ (y ++ (v ++ z)) = (x ++ (y ++ v)) ++ z := by simp only [List.append_assoc]
  rw [e]
  exact List.take_left' (by rw [List.length_append, List.length_append]; omega)
theorem splice_in {a e d r : List Value} {ka ke kd : Nat} (ha : a.length = ka) (he : e.length = ke) (hd : d.length = kd) (hr : ke ≤ r.length) : (splice (splice (a ++ (d ++ r)) (ka + ke) d) ka e).take (ka + ke + kd) = a ++ (e ++ d) := by
  obtain ⟨y, z, hyz, hy⟩ : ∃ y z, d ++ r = y ++ z ∧ y.length = ke := ⟨(d ++ r).take ke, (d ++ r).drop ke, (List.take_append_drop _ _).symm, by rw [List.length_take, List.length_append]; omega⟩
  rw [hyz]
  have e1 : splice (a ++ (y ++ z)) (ka + ke) d = a ++ (y ++ (d ++ z.drop kd)) := by
    unfold splice
    rw [take2 (by omega), hd, ← List.drop_drop, drop2 (by omega), List.append_assoc]
  rw [e1]
  have e2 : splice (a ++ (y ++ (d ++ z.drop kd))) ka e = a ++ (e ++ (d ++ z.drop kd)) := by
    unfold splice
    rw [List.take_left' ha, he, drop2 (by omega)]
  rw [e2]
  exact take3 (by omega)
theorem splice_new {a e d r : List Value} {ka ke kd : Nat} (ha : a.length = ka) (he : e.length = ke) (hd : d.length = kd) (hr : ke + kd ≤ r.length) : (splice (splice (a ++ r) ka e) (ka + ke) d).take (ka + ke + kd) = a ++ (e ++ d) := by
  have e1 : splice (a ++ r) ka e = a ++ (e ++ r.drop ke) := by
    unfold splice
    rw [List.take_left' ha, he, ← List.drop_drop, List.drop_left' ha]
  have e2 : splice (a ++ (e ++ r.drop ke)) (ka + ke) d = a ++ (e ++ (d ++ (r.drop ke).drop kd)) := by
    unfold splice
    rw [take2 (by omega), hd, ← List.drop_drop, drop2 (by omega), List.append_assoc]
  rw [e1, e2]
  exact take3 (by omega)
theorem splice_len {L cs : List Value} {o : Nat} (h : o + cs.length ≤ L.length) : (splice L o cs).length = L.length := length_splice L o cs h
/-- A slice of entries of a row's head, cut at its head. -/
theorem cut_head (g c q n r cr : Nat) (hn : n ≤ q) (hc : n < c) (hr : q - n = r) (hcr : c - n = cr) : ∀ W : World, (Instr.slice 22 (.slice (some ⟨g, 0, none⟩) q c) (some (.int .i64 n)) none none).run Tryd.prog W = .ok (.slice (some ⟨g, n * 5, none⟩) r cr) W := fun W => by
  subst hr hcr
  have h1 : (0 : Int) ≤ (n : Int) := by omega
  have h2 : (n : Int) ≤ (q : Int) := by omega
  rw [run_slice_l (P := Tryd.prog) W 22 (some ⟨g, 0, none⟩) q c (by kernel_rfl) .i64 n h1 h2]
  have hs : (sizeOf (Tryd.prog.elem 22)).run Tryd.prog W = .ok 5 W := by kernel_rfl
  have h3 : ¬ c = n := by omega
  rw [hs]
  simp [Result.andThen, sliced, h3, Addr.add_lit]
/-- A list grown by zeros, in a row of its own. -/
theorem run_zeros (w : World) (A : Option Addr) (i k c : Nat) (X : List Ent) (hX : X.length = i) (hA : Lies ecs 5 w A X) (hk : 0 < k) (hg : c < i + k) (hm : i + k ≤ 100001) (ty : TypeId) :
    ∃ (G : Nat) (w' : World) (r : List Value), (Builtin.append_ #[22, 3] ty #[.slice A i c, .int .i64 (k : Int)]).run Tryd.prog w = .ok (.slice (some ⟨w.heap.size, 0, none⟩) (i + k) G) w' ∧ i + k ≤ G ∧ G ≤ maxLen ∧ Row w' w.heap.size 42 (X.flatMap ecs ++ r) ∧ r.length = (G - i) * 5 ∧ Below w.heap.size w w' := by
  obtain ⟨inf, hi, hz0, hz1, hz2⟩ : ∃ inf, Tryd.prog.info? 42 = some inf ∧ inf.zero = some (.agg (ecs ent0).toArray) ∧ inf.size = 5 ∧ inf.bytes ≤ 1000 := ⟨_, rfl, by kernel_rfl, by kernel_rfl, of_decide_eq_true (by kernel_rfl)⟩
  have hold : (Builtin.firstCells inf.size i (.slice A i c)).run Tryd.prog w.drew = .ok (X.flatMap ecs).toArray w.drew := by
    rw [hz1]
    have hs := Lies.src hA (by decide) ecs_len hX
    rcases hs with ⟨h0, hA0⟩ | ⟨ad, rfl, hc⟩
    · subst h0 hA0
      rw [List.length_eq_zero_iff.1 hX]
      exact run_firstCells_none w.drew 5 0 0 c
    · exact run_firstCells_some w.drew 5 i ad i c (X.flatMap ecs) (by rw [flat_len ecs_len, hX]) (fun j v hj => hc j v hj)
  have hfit : Builtin.nextslicecap (i + k) c * inf.bytes ≤ 281474976710656 := growslice_fits hg (Nat.le_trans (Nat.mul_le_mul hm hz2) (by decide))
  have hr := Lib.run_append_grow_zeros w 22 3 ty 42 inf _ .i64 .i64 Tryd.underlying22 Tryd.underlying3 hi hz0 A i c (X.flatMap ecs) hold k hk (by rw [hz1]; decide) hg (by omega) (Nat.le_trans (Nat.mul_le_mul (by omega : k ≤ 100001) hz2) (by decide)) hfit
  have hG := grownCap_ge w (i + k) c 42
  have hGm := grownCap_le_maxLen w (i + k) c 42 (by unfold maxLen; omega)
  obtain ⟨G, hGG⟩ : ∃ G, grownCap w (i + k) c 42 = G := ⟨_, rfl⟩
  rw [hGG] at hr hG hGm
  refine ⟨G, _, (Builtin.zeroCells (Value.agg (ecs ent0).toArray).cells k).toList ++ (Builtin.zeroCells (Value.agg (ecs ent0).toArray).cells (G - (i + k))).toList, hr, hG, hGm, ?_, ?_, (below_drw w).alloc (Nat.le_refl _) _⟩
  · have h1 := Row.made w.drew 42 (X.flatMap ecs ++ ((Builtin.zeroCells (Value.agg (ecs ent0).toArray).cells k).toList ++ (Builtin.zeroCells (Value.agg (ecs ent0).toArray).cells (G - (i + k))).toList))
    have e1 : (X.flatMap ecs ++ ((Builtin.zeroCells (Value.agg (ecs ent0).toArray).cells k).toList ++ (Builtin.zeroCells (Value.agg (ecs ent0).toArray).cells (G - (i + k))).toList)).toArray = (X.flatMap ecs).toArray ++ Builtin.zeroCells (Value.agg (ecs ent0).toArray).cells k ++ Builtin.zeroCells (Value.agg (ecs ent0).toArray).cells (G - (i + k)) := by
      apply Array.ext'
      simp
    unfold Row at h1 ⊢
    rw [e1] at h1 ⊢
    exact h1
  · have hz : ∀ q, (Builtin.zeroCells (Value.agg (ecs ent0).toArray).cells q).toList.length = q * 5 := fun q => by simp [Builtin.zeroCells, Value.cells, ecs]
    rw [List.length_append, hz, hz]
    omega
end Go.Proofs.YtijffkklhgnknaaDoor
