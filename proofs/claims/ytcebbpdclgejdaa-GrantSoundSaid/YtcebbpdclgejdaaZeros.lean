/- A run of bytes 0 appended to a row of the call's own that has room for them. No conditions but those named. -/
import Derived.Test.YtcebbpdclgejdaaMem
import Derived.Laws.CopyRow
import Derived.Lib.AppendZeros
set_option linter.unusedVariables false
namespace Go.Proofs.Ytcebbpdclgejdaa
open Go.RowKit

theorem zero_list (m : Nat) : (Builtin.zeroCells #[Value.int .u8 0] m).toList = List.replicate m (Value.int .u8 0) := by
  apply List.ext_getElem
  · simp [Builtin.zeroCells]
  · intro i h1 h2
    simp [Builtin.zeroCells, Nat.mod_one]

theorem run_zeros {P : Program} (w : World) (t tn ty e : TypeId) (i : TypeInfo) (U : U8 P t e i) (htn : P.underlying tn = some (.int .i64)) (base g n m cap : Nat) (xs : List Value)
    (hown : w.ownsRow base e 1 (.slice (some ⟨g, 0, none⟩) n cap) n xs) (hfit : n + m ≤ cap) (hm : m ≤ 140737488355328) :
    ∃ w', (Builtin.append_ #[t, tn] ty #[.slice (some ⟨g, 0, none⟩) n cap, .int .i64 m]).run P w = .ok (.slice (some ⟨g, 0, none⟩) (n + m) cap) w' ∧
      w'.ownsRow base e 1 (.slice (some ⟨g, 0, none⟩) (n + m) cap) (n + m) (xs ++ List.replicate m (Value.int .u8 0)) ∧ w.grownBy w' (some g) := by
  obtain ⟨hl, h | ⟨g', cap', cur, hv, hb, hg, hn, hc, hs, ht⟩⟩ := hown
  · cases h.1
  simp only [Value.slice.injEq, Option.some.injEq, Addr.mk.injEq] at hv
  obtain ⟨⟨rfl, _⟩, _, rfl⟩ := hv
  have hst := run_storeCells_at P g n e (List.replicate m (Value.int .u8 0)) 0 cur w hg (by simp; omega) (fun v hv => by rw [List.eq_of_mem_replicate hv]; rfl)
  have hwr : IntKind.i64.wrap (m : Int) = m := by rw [IntKind.wrap_i64]; omega
  have hadd : (⟨g, 0, none⟩ : Addr).add n = ⟨g, n, none⟩ := by unfold Addr.add; split <;> simp_all
  simp only [Nat.add_zero, List.length_replicate] at hst
  obtain ⟨cur', hcur⟩ : ∃ cur' : Array Value, cur' = (cur.toList.take n ++ List.replicate m (Value.int .u8 0) ++ cur.toList.drop (n + m)).toArray := ⟨_, rfl⟩
  rw [← hcur] at hst
  have hx : xs.length = n := by omega
  refine ⟨w.setRow g cur', ?_, ⟨?_, .inr ⟨g, cap, cur', rfl, hb, setRow_heap w g _ _ e _ hg, hfit, hc, ?_, ?_⟩⟩, ⟨rfl, rfl, rfl, by simp, fun k hk hne => setRow_other w g k _ (fun e => hne (by rw [e]))⟩⟩
  · have hneg : ¬ ((m : Int) < 0) := by omega
    have h48 : ¬ ((281474976710656 : Int) < m) := by omega
    by_cases h0 : m = 0
    · subst h0
      have hw0 : IntKind.i64.wrap 0 = 0 := by decide
      have hf0 : n ≤ cap := by omega
      simp [Builtin.append_, run_underlying U.ht, run_underlying htn, sizeOf, typeInfo, zeroValue, U.hi, U.hz, U.h1, U.h2, asInt, asIntOf, hw0, hf0, hadd]
      simp at hst
      simp [hst]
    · have hc0 : (Value.int IntKind.u8 0).cells = #[Value.int IntKind.u8 0] := rfl
      simp [Builtin.append_, run_underlying U.ht, run_underlying htn, sizeOf, typeInfo, zeroValue, U.hi, U.hz, U.h1, U.h2, asInt, asIntOf, hwr, hfit, hneg, h48, hadd, h0, hc0, zero_list, hst]
  · simp only [List.length_append, List.length_replicate, hl]
    omega
  · rw [hcur]
    simp
    omega
  · rw [hcur]
    simp only [Nat.mul_one] at ht ⊢
    rw [← ht, List.take_left']
    simp
    omega

theorem step_zeros {P : Program} {w : World} {ops : Array Oper} {rest : List Oper} {o : Oper} {a : Act} {Q : Exit → Act → World → Prop} (hgd : o.guard = none) (s x : Operand) (t tn : TypeId)
    (ho : o.op = .call { callee := .builtin .append, args := #[s, x], argTypes := #[t, tn] }) (e : TypeId) (i : TypeInfo) (U : U8 P t e i) (htn : P.underlying tn = some (.int .i64)) (base g n m cap : Nat) (xs : List Value)
    (hs : a.eval s = .slice (some ⟨g, 0, none⟩) n cap) (hx : a.eval x = .int .i64 m) (hown : w.ownsRow base e 1 (.slice (some ⟨g, 0, none⟩) n cap) n xs) (hfit : n + m ≤ cap) (hm : m ≤ 140737488355328)
    (h : ∀ w', w'.ownsRow base e 1 (.slice (some ⟨g, 0, none⟩) (n + m) cap) (n + m) (xs ++ List.replicate m (Value.int .u8 0)) → w.grownBy w' (some g) → wpList P ops Q rest (a.put o.dst (.slice (some ⟨g, 0, none⟩) (n + m) cap)) w') : wpList P ops Q (o :: rest) a w := by
  obtain ⟨w', hr, h1, h2⟩ := run_zeros (P := P) w t tn o.type e i U htn base g n m cap xs hown hfit hm
  exact Lib.wpList_append_run w hgd s x t tn ho _ _ hs hx _ _ hr (h w' h1 h2)
end Go.Proofs.Ytcebbpdclgejdaa
