/- A run of zeros, appended to a row of bytes of the call's own: whether there is room or not. No conditions. -/
import Derived.Test.YtcebbpdclgejdaaZeros
import Derived.Maps.AppendAt
set_option linter.unusedVariables false
namespace Go.Proofs.Ytcebbpdclgejdaa
open Go.RowKit

theorem run_zeros_grow {P : Program} (w : World) (t tn ty e : TypeId) (i : TypeInfo) (U : U8 P t e i) (htn : P.underlying tn = some (.int .i64)) (base g n m cap : Nat) (xs : List Value)
    (hown : w.ownsRow base e 1 (.slice (some ⟨g, 0, none⟩) n cap) n xs) (hg : cap < n + m) (hm0 : 0 < m) (hm : n + m ≤ 1000000) (hbase : base ≤ w.heap.size) :
    ∃ c' w', (Builtin.append_ #[t, tn] ty #[.slice (some ⟨g, 0, none⟩) n cap, .int .i64 m]).run P w = .ok (.slice (some ⟨w.heap.size, 0, none⟩) (n + m) c') w' ∧
      w'.ownsRow base e 1 (.slice (some ⟨w.heap.size, 0, none⟩) (n + m) c') (n + m) (xs ++ List.replicate m (Value.int .u8 0)) ∧ w.grownBy w' none := by
  have hl : xs.length = n * 1 := hown.1
  have holds : ∀ j u, xs[j]? = some u → w.cell? ((⟨g, 0, none⟩ : Addr).add j) = some u := hown.cells (g := g) rfl
  have hn : ¬ (n + m ≤ cap) := by omega
  have h63' : ¬ (9223372036854775807 < ((n : Int) + (m : Int))) := by omega
  have hcapm : cap ≤ maxLen := by
    rcases hown.2 with ⟨h, _⟩ | ⟨g', cap', cur, hv, hb, hg', hn', hc, hs, ht⟩
    · cases h
    · simp only [Value.slice.injEq] at hv
      omega
  have h48 : Builtin.nextslicecap (n + m) cap * 1 ≤ 281474976710656 := growslice_fits (by omega) (by omega)
  have h48' : ¬ (281474976710656 < Builtin.nextslicecap (n + m) cap) := by omega
  have hwr : IntKind.i64.wrap (m : Int) = m := by rw [IntKind.wrap_i64]; omega
  have hneg : ¬ ((m : Int) < 0) := by omega
  have hbig : ¬ ((281474976710656 : Int) < m) := by omega
  have h0 : m ≠ 0 := by omega
  have hfo := run_firstCells_some (P := P) w.drew 1 n ⟨g, 0, none⟩ n cap xs hl (by simpa using holds)
  have hc0 : (Value.int IntKind.u8 0).cells = #[Value.int IntKind.u8 0] := rfl
  have hge := grownCap_ge w (n + m) cap e
  have hcm : grownCap w (n + m) cap e ≤ maxLen := grownCap_le_maxLen w (n + m) cap e (by unfold maxLen; omega)
  have hzl : Builtin.zeroCells #[Value.int .u8 0] m = (List.replicate m (Value.int .u8 0)).toArray := by
    apply Array.ext'
    rw [zero_list]
  have hlen : (xs ++ List.replicate m (Value.int .u8 0)).length = (n + m) * 1 := by rw [List.length_append, List.length_replicate]; omega
  refine ⟨grownCap w (n + m) cap e, w.drew.alloc (.cells (xs.toArray ++ (List.replicate m (Value.int .u8 0)).toArray ++ Builtin.zeroCells #[Value.int .u8 0] (grownCap w (n + m) cap e - (n + m))) e), ?_, ⟨hlen, .inr ⟨w.heap.size, _, _, rfl, hbase, heap_alloc_new w.drew _, hge, hcm, ?_, ?_⟩⟩, ⟨rfl, rfl, rfl, by simp, fun k hk _ => (heap_alloc_old w.drew _ hk)⟩⟩
  · simp [Builtin.append_, run_underlying U.ht, run_underlying htn, sizeOf, typeInfo, zeroValue, U.hi, U.hz, U.h1, U.h2, asInt, asIntOf, hwr, hneg, hbig, h0, hn, h63', h48', Question.forced, hfo, hc0, hzl, newRow, grownCap]
  · have hz1 : (Builtin.zeroCells #[Value.int .u8 0] (grownCap w (n + m) cap e - (n + m))).size = grownCap w (n + m) cap e - (n + m) := by
      rw [← Array.length_toList, zero_list, List.length_replicate]
    simp only [Array.size_append, List.size_toArray, hz1, List.length_replicate]
    omega
  · simp only [Array.toList_append]
    rw [← hlen]
    exact List.take_left
/-- At the operation. -/
theorem wpList_zeros {P : Program} {w : World} {ops : Array Oper} {rest : List Oper} {o : Oper} {a : Act} {Q : Exit → Act → World → Prop} (hgd : o.guard = none) (s x : Operand) (t tn : TypeId)
    (ho : o.op = .call { callee := .builtin .append, args := #[s, x], argTypes := #[t, tn] }) (e : TypeId) (i : TypeInfo) (U : U8 P t e i) (htn : P.underlying tn = some (.int .i64)) (base g n m cap : Nat) (xs : List Value)
    (hs : a.eval s = .slice (some ⟨g, 0, none⟩) n cap) (hx : a.eval x = .int .i64 m) (hown : w.ownsRow base e 1 (.slice (some ⟨g, 0, none⟩) n cap) n xs) (hm0 : 0 < m) (hm : n + m ≤ 1000000) (hbase : base ≤ w.heap.size)
    (h : ∀ g' c' w', w'.ownsRow base e 1 (.slice (some ⟨g', 0, none⟩) (n + m) c') (n + m) (xs ++ List.replicate m (Value.int .u8 0)) → w.grownBy w' (some g) → wpList P ops Q rest (a.put o.dst (.slice (some ⟨g', 0, none⟩) (n + m) c')) w') : wpList P ops Q (o :: rest) a w := by
  by_cases hfit : n + m ≤ cap
  · obtain ⟨w', hr, h1, h2⟩ := run_zeros (P := P) w t tn o.type e i U htn base g n m cap xs hown hfit (by omega)
    exact Lib.wpList_append_run w hgd s x t tn ho _ _ hs hx _ _ hr (h g cap w' h1 h2)
  · obtain ⟨c', w', hr, h1, h2⟩ := run_zeros_grow (P := P) w t tn o.type e i U htn base g n m cap xs hown (by omega) hm0 hm hbase
    exact Lib.wpList_append_run w hgd s x t tn ho _ _ hs hx _ _ hr (h w.heap.size c' w' h1 ⟨h2.os, h2.tape, h2.output, h2.size, fun k hk _ => h2.block k hk (by simp)⟩)
end Go.Proofs.Ytcebbpdclgejdaa
