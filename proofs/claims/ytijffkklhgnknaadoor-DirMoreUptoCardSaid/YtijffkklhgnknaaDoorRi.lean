/- The laws' first test. Conditions: the library's tables lie there. -/
import Derived.Test.YtijffkklhgnknaaDoorRf
import Derived.Test.YtijffkklhgnknaaDoorRg
set_option linter.unusedVariables false
set_option maxRecDepth 20000
namespace Go.Proofs.YtijffkklhgnknaaDoor
open Go.RowKit

section
variable {P : Program} {ops : Array Oper} {rest : List Oper} {o : Oper} {a : Act} {w : World} {Q : Exit → Act → World → Prop}
theorem run_bs2 (t e : TypeId) (hu : P.underlying t = some (.slice e)) (k : Nat) (hs : (P.info? e).map (·.size) = some k) (hk : 0 < k ∧ k ≤ 1000) (z : Value) (hz : ∀ w, (zeroValue e).run P w = .ok z w) (cs ds : List Value) (hcs : cs.length = k) (hds : ds.length = k) (w : World) :
    (Instr.buildSlice t 2 #[(0, .agg cs.toArray), (1, .agg ds.toArray)]).run P w = .ok (.slice (some ⟨w.heap.size, 0, none⟩) 2 2) (w.alloc (.cells (cs ++ ds).toArray e)) := by
  have hfill : ∀ zs : Array Value, zs.size = 2 * k → Instr.fill (fun i => some (i * k, k)) zs [(0, .agg cs.toArray), (1, .agg ds.toArray)] = some (cs ++ ds).toArray := fun zs hzs => by
    have hz2 : zs.toList = zs.toList.take k ++ zs.toList.drop k := (List.take_append_drop k _).symm
    have hl1 : (zs.toList.take k).length = k := by rw [List.length_take]; simp; omega
    have hl2 : (zs.toList.drop k).length = k := by rw [List.length_drop]; simp; omega
    have h1 := fill_part (place := fun i => some (i * k, k)) (A := []) (old := zs.toList.take k) (B := zs.toList.drop k) (vs := cs) (i := 0) (off := 0) (n := k) (v := .agg cs.toArray) (rest := [(1, .agg ds.toArray)]) (by simp) rfl hcs rfl hl1
    have h2 := fill_part (place := fun i => some (i * k, k)) (A := cs) (old := zs.toList.drop k) (B := []) (vs := ds) (i := 1) (off := k) (n := k) (v := .agg ds.toArray) (rest := []) (by simp) rfl hds hcs hl2
    simp only [List.append_nil, List.nil_append] at h1 h2
    rw [← hz2, Array.toArray_toList] at h1
    rw [h1, h2]
    rfl
  cases hq : P.info? e with
  | none => simp [hq] at hs
  | some i =>
    have hi : i.size = k := by simpa [hq] using hs
    have h1 : ¬ (2 ^ 24 < 2 * k) := by have : (2000 : Nat) < 2 ^ 24 := by decide
                                       omega
    have h2 : ¬ 2 * k = 0 := by omega
    have hf := hfill ((Array.range (2 * k)).map (z.cells[· % z.cells.size]!)) (by simp)
    have hsz : ∀ w : World, (sizeOf e).run P w = .ok k w := size_of hs
    clear hq hi
    unfold Instr.buildSlice
    simp only [Sem.run_bind, run_underlying hu, Result.andThen_ok, hsz, gt_iff_lt, h1, if_false, h2, Sem.run_pure, hz, Sem.run_ite]
    rw [hf]
    simp [newRow, go_sem]
theorem step_bs2 (hgd : o.guard = none) (t e : TypeId) (x y : Operand) (ho : o.op = .buildSlice t 2 #[(0, x), (1, y)]) (hu : P.underlying t = some (.slice e)) (k : Nat) (hs : (P.info? e).map (·.size) = some k) (hk : 0 < k ∧ k ≤ 1000) (z : Value) (hz : ∀ w, (zeroValue e).run P w = .ok z w) (cs ds : List Value) (hcs : cs.length = k) (hds : ds.length = k) (hx : a.eval x = .agg cs.toArray) (hy : a.eval y = .agg ds.toArray)
    (h : ∀ g w', Row w' g e (cs ++ ds) → Hid (g = w.heap.size) → Below w.heap.size w w' → wpList P ops Q rest (a.put o.dst (.slice (some ⟨g, 0, none⟩) 2 2)) w') : wpList P ops Q (o :: rest) a w := by
  refine wpList_plain hgd fun K hK => ?_
  have hr := run_bs2 t e hu k hs hk z hz cs ds hcs hds w
  unfold Oper.wp execOp
  simp only [ho, hx, hy, List.map_toArray, List.map_cons, List.map_nil, Sem.run_bind, hr, Result.andThen_ok]
  exact hK _ _ (h _ _ (Row.made w e (cs ++ ds)) (show _ = _ from rfl) ((Below.refl _ _).alloc (Nat.le_refl _) _))
end
def enA : Ent := ⟨⟨#[97]⟩, 1, 1, 1, 2⟩
def enB : Ent := ⟨⟨#[98]⟩, 2, 2, 1, 1⟩
theorem awk_may : MayL [enA, enB] := by
  refine ⟨by decide, ?_, ?_, ?_⟩
  · intro e he
    simp only [List.mem_cons, List.not_mem_nil, or_false] at he
    rcases he with rfl | rfl
    · exact ⟨by decide +kernel, by decide, by decide, by decide, by decide, by decide, by decide⟩
    · exact ⟨by decide +kernel, by decide, by decide, by decide, by decide, by decide, by decide⟩
  · intro q x y hx hy
    rcases q with _ | _ | q
    · simp at hx hy
      subst hx hy
      decide +kernel
    · simp at hy
    · simp at hx
  · intro c
    by_cases h1 : c = 1
    · subst h1; decide
    · by_cases h2 : c = 2
      · subst h2; decide
      · simp [enA, enB, List.filter_cons]
        rw [if_neg (by omega), if_neg (by omega)]
        simp
theorem awk_leaves : leaves [enA, enB] = [leafB [enA, enB]] := by decide +kernel
theorem awk_first : (leafB [enA, enB])[0]? = some 2 := by decide +kernel
theorem awk_told {L : List Ent} (ho : Ord Ent.ck L) (hs : SameK Ent.ck ([enA, enB].filter (fun e : Ent => decide (0 < e.ck))) L) : L = [enB, enA] := by
  have e1 : [enA, enB].filter (fun e : Ent => decide (0 < e.ck)) = [enA] ++ [enB] := rfl
  rw [e1] at hs
  have h2 : SameK Ent.ck ([enA] ++ [enB]) ([enB] ++ [enA]) := SameK.swap (fun x hx y hy => by
    simp only [List.mem_singleton] at hx hy
    subst hx hy
    decide)
  refine ord_one L [enB, enA] ho ?_ (hs.symm.trans h2)
  exact (Ord.one enB).app (Ord.one enA) (fun x hx y hy => by
    simp only [List.mem_singleton] at hx hy
    subst hx hy
    decide)
theorem awk_fit : fit 25 [enB, enA] = 1 := by decide +kernel
theorem built_ref (i s : Int) : Tryd.prog.built 40 [(0, .int .i64 i), (1, .int .u64 s)] = some #[.int .i64 i, .int .u64 s] := by kernel_rfl
theorem built_ent4 (nm : ByteArray) (i s k c : Int) : Tryd.prog.built 42 [(0, .string nm), (1, .agg #[.int .i64 i, .int .u64 s]), (2, .int .i64 k), (3, .int .u32 c)] = some #[.string nm, .int .i64 i, .int .u64 s, .int .i64 k, .int .u32 c] := by kernel_rfl
end Go.Proofs.YtijffkklhgnknaaDoor
