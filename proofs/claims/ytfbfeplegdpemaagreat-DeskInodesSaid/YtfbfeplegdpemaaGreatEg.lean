/- Steps of a walk: a slice built of one record; a record appended to a row of the call's own. No conditions but those named. -/
import Derived.Test.YtfbfeplegdpemaaGreatEf
set_option linter.unusedVariables false
set_option maxRecDepth 20000
namespace Go.Proofs.YtfbfeplegdpemaaGreat
open Go.RowKit

section
variable {P : Program} {ops : Array Oper} {rest : List Oper} {o : Oper} {a : Act} {w : World} {Q : Exit → Act → World → Prop}
theorem run_bs1 (t e : TypeId) (hu : P.underlying t = some (.slice e)) (k : Nat) (hs : (P.info? e).map (·.size) = some k) (hk : 0 < k ∧ k ≤ 1000) (z : Value) (hz : ∀ w, (zeroValue e).run P w = .ok z w) (cs : List Value) (hcs : cs.length = k) (w : World) :
    (Instr.buildSlice t 1 #[(0, .agg cs.toArray)]).run P w = .ok (.slice (some ⟨w.heap.size, 0, none⟩) 1 1) (w.alloc (.cells cs.toArray e)) := by
  have hfill : ∀ zs : Array Value, zs.size = k → Instr.fill (fun i => some (i * k, k)) zs [(0, .agg cs.toArray)] = some cs.toArray := fun zs hzs => by
    have h := fill_part (place := fun i => some (i * k, k)) (A := []) (old := zs.toList) (B := []) (vs := cs) (i := 0) (off := 0) (n := k) (v := .agg cs.toArray) (rest := []) (by simp) rfl hcs rfl (by simpa using hzs)
    simp only [List.append_nil, List.nil_append, Array.toArray_toList] at h
    rw [h]
    rfl
  cases hq : P.info? e with
  | none => simp [hq] at hs
  | some i =>
    have hi : i.size = k := by simpa [hq] using hs
    have h1 : ¬ (2 ^ 24 < k) := by have : (1000 : Nat) < 2 ^ 24 := by decide
                                   omega
    have h2 : ¬ k = 0 := by omega
    have hf := hfill ((Array.range k).map (z.cells[· % z.cells.size]!)) (by simp)
    have hsz : ∀ w : World, (sizeOf e).run P w = .ok k w := size_of hs
    clear hq hi
    unfold Instr.buildSlice
    simp only [Sem.run_bind, run_underlying hu, Result.andThen_ok, hsz, Nat.one_mul, gt_iff_lt, h1, if_false, h2, Sem.run_pure, hz, Sem.run_ite]
    rw [hf]
    simp [newRow, go_sem]
/-- The same, for the walk. -/
theorem step_bs1 (hgd : o.guard = none) (t e : TypeId) (x : Operand) (ho : o.op = .buildSlice t 1 #[(0, x)]) (hu : P.underlying t = some (.slice e)) (k : Nat) (hs : (P.info? e).map (·.size) = some k) (hk : 0 < k ∧ k ≤ 1000) (z : Value) (hz : ∀ w, (zeroValue e).run P w = .ok z w) (cs : List Value) (hcs : cs.length = k) (hx : a.eval x = .agg cs.toArray)
    (h : ∀ g w', Row w' g e cs → Hid (g = w.heap.size) → Below w.heap.size w w' → wpList P ops Q rest (a.put o.dst (.slice (some ⟨g, 0, none⟩) 1 1)) w') : wpList P ops Q (o :: rest) a w := by
  refine wpList_plain hgd fun K hK => ?_
  have hr := run_bs1 t e hu k hs hk z hz cs hcs w
  unfold Oper.wp execOp
  simp only [ho, hx, List.map_toArray, List.map_cons, List.map_nil, Sem.run_bind, hr, Result.andThen_ok]
  exact hK _ _ (h _ _ (Row.made w e cs) (show _ = _ from rfl) ((Below.refl _ _).alloc (Nat.le_refl _) _))
theorem step_more {t e : TypeId} {k : Nat} (hgd : o.guard = none) (s x : Operand) (ho : o.op = .call { callee := .builtin .append, args := #[s, x], argTypes := #[t, t] }) (hu : P.underlying t = some (.slice e)) (i : TypeInfo) (z : Value) (hi : P.info? e = some i) (hz : i.zero = some z) (hs : i.size = k) (hby : i.bytes ≤ 1024) (hzs : z.cells.size = k) (hk : 0 < k)
    (base : Nat) (v : Value) (n : Nat) (xs : List Value) (hv : a.eval s = v) (hown : w.ownsRow base e k v n xs) (ad : Addr) (c : Nat) (ys : List Value) (hx : a.eval x = .slice (some ad) 1 c) (hys : ys.length = k) (hc : ∀ j u, ys[j]? = some u → w.cell? (ad.add j) = some u) (h1 : ∀ u ∈ ys, u.oneCell' = true) (hn : n ≤ 1000) (hbase : base ≤ w.heap.size)
    (h : ∀ v' w', w'.ownsRow base e k v' (n + 1) (xs ++ ys) → w.grownBy w' v.ownBlock → (v'.ownBlock = v.ownBlock ∨ v'.ownBlock = some w.heap.size) → wpList P ops Q rest (a.put o.dst v') w') : wpList P ops Q (o :: rest) a w := by
  refine wpList_plain hgd fun K hK => ?_
  obtain ⟨v', w', hr, h2, h3, _, h5⟩ := run_append_own_at (P := P) w base t o.type e i z k i.bytes hu hi hz hs rfl hzs hk v n xs hown ad 1 c ys (by rw [hys, Nat.one_mul]) hc h1 (by unfold maxLen; omega) (Nat.le_trans (Nat.mul_le_mul (show n + 1 ≤ 1001 by omega) hby) (by decide)) hbase
  unfold Oper.wp execOp
  simp only [ho, resolve, invoke, builtin, Sem.run_bind, Sem.run_pure, Result.andThen_ok, List.map_toArray, List.map_cons, List.map_nil, hv, hx, hr]
  exact hK _ _ (h v' w' h2 h3 h5)
theorem wp_max (hgd : o.guard = none) (s x : Operand) (ts : Array TypeId) (ho : o.op = .call { callee := .builtin .max, args := #[s, x], argTypes := ts })
    (p q m : Int) (hs : a.eval s = .int .i64 p) (hx : a.eval x = .int .i64 q) (hm : (if q > p then q else p) = m) (h : wpList P ops Q rest (a.put o.dst (.int .i64 m)) w) : wpList P ops Q (o :: rest) a w := by
  refine wpList_plain hgd fun K hK => ?_
  subst hm
  unfold Oper.wp execOp
  simp only [ho, resolve, invoke, builtin, Sem.run_bind, Sem.run_pure, Result.andThen_ok, List.map_toArray, List.map_cons, List.map_nil, hs, hx, run_max_int2]
  exact hK _ _ h
end
theorem block_tab : ∃ i z, Tryz.prog.info? 105 = some i ∧ i.zero = some z ∧ i.size = 256 ∧ i.bytes ≤ 1024 ∧ z.cells.size = 256 := by
  have h : (Tryz.prog.info? 105).map (fun i => (i.zero.map (·.cells.size), i.size, i.bytes)) = some (some 256, 256, 256) := by kernel_rfl
  cases hq : Tryz.prog.info? 105 with
  | none => rw [hq] at h; cases h
  | some i =>
    rw [hq] at h
    simp only [Option.map_some, Option.some.injEq, Prod.mk.injEq] at h
    obtain ⟨h1, h2, h3⟩ := h
    obtain ⟨z, hz, hzc⟩ := Option.map_eq_some_iff.1 h1
    exact ⟨i, z, rfl, hz, h2, by omega, hzc⟩
theorem info_plans (S : Sup) (R : Nat → Int) (L : Int) : (Tryz.prog.info? 101).map (·.size) = some (S.cs ++ ptl R L).length := by
  have h : (S.cs ++ ptl R L).length = 516 := by simp [Sup.cs_len, ptl, inl_len]
  rw [h]
  exact info_plan
theorem zero_plan : ∃ it, Tryz.prog.info? 101 = some it ∧ ∃ z, it.zero = some z ∧ z.cells = (sup0.cs ++ ptl ino0 0).toArray := by
  have h : (Tryz.prog.info? 101).map (fun it => it.zero.map (·.cells)) = some (some (sup0.cs ++ ptl ino0 0).toArray) := by kernel_rfl
  cases hi : Tryz.prog.info? 101 with
  | none => rw [hi] at h; cases h
  | some it =>
    rw [hi] at h
    simp only [Option.map_some, Option.some.injEq] at h
    obtain ⟨z, h1, h2⟩ := Option.map_eq_some_iff.1 h
    exact ⟨it, rfl, z, h1, h2⟩
theorem places_plan : (Tryz.prog.fieldsOf 101).toList.mapM (fun f => (Tryz.prog.info? f.type).map fun i => (f.offset, i.size)) = some [(0, 387), (387, 128), (515, 1)] := by kernel_rfl
theorem built_plan (S : Sup) (R : Nat → Int) (L : Int) : Tryz.prog.built 101 [(0, .agg S.cs.toArray), (1, .agg (inl 128 R).toArray), (2, .int .i64 L)] = some (S.cs ++ ptl R L).toArray := by
  obtain ⟨it, hi, z, hz, hc⟩ := zero_plan
  have hu : Tryz.prog.underlying 101 = some (.struct (Tryz.prog.fieldsOf 101)) := by kernel_rfl
  unfold Program.built
  rw [hi, hu]
  simp only [hz, places_plan, hc]
  have e : sup0.cs ++ ptl ino0 0 = [] ++ (sup0.cs ++ ptl ino0 0) := rfl
  rw [e, fill_part (vs := S.cs) (n := 387) (off := 0) rfl rfl (Sup.cs_len _) rfl (Sup.cs_len _)]
  have e2 : [] ++ (S.cs ++ ptl ino0 0) = S.cs ++ (inl 128 ino0 ++ [Value.int .i64 0]) := rfl
  rw [e2, fill_part (vs := inl 128 R) (n := 128) (off := 387) rfl rfl (inl_len _ _) (Sup.cs_len _) (inl_len _ _)]
  have e3 : S.cs ++ (inl 128 R ++ [Value.int .i64 0]) = (S.cs ++ inl 128 R) ++ ([Value.int .i64 0] ++ []) := by simp
  rw [e3, fill_part (vs := [.int .i64 L]) (n := 1) (off := 515) rfl rfl rfl (by simp [Sup.cs_len, inl_len]) rfl]
  simp [Instr.fill, ptl]
theorem zero_plan_run : ∀ w : World, (zeroValue 101).run Tryz.prog w = .ok (.agg (sup0.cs ++ ptl ino0 0).toArray) w := fun w => by kernel_rfl
end Go.Proofs.YtfbfeplegdpemaaGreat
