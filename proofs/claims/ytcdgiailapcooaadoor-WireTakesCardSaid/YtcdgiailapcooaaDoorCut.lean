/- Cutting a slice of bytes, with what is cut under one name. No conditions. -/
import Derived.Test.YtcdgiailapcooaaDoorTwo
set_option linter.unusedVariables false
namespace Go.Proofs.YtcdgiailapcooaaDoor
open Go.RowKit

theorem row_cut {w : World} {A : Option Addr} {l : List UInt8} {cap : Nat} (h : Row w A l) (n : Nat) (hc : l.length ≤ cap) : Row w (if cap = n then A else A.map (·.add n)) (l.drop n) := by
  by_cases hn : l.length ≤ n
  · exact .inl (List.drop_eq_nil_of_le hn)
  · rw [if_neg (by omega)]
    rcases h with rfl | ⟨q, off, cur, rfl, hh, hcell⟩
    · exact .inl (by simp)
    · refine .inr ⟨q, off + n, cur, ?_, hh, fun j x hx => ?_⟩
      · show some ((⟨q, off, none⟩ : Addr).add n) = _
        unfold Addr.add
        split <;> simp_all
      · rw [List.getElem?_drop] at hx
        have := hcell (n + j) x hx
        rw [← Nat.add_assoc] at this
        exact this
/-- A slice cut at its head: what comes out has a name of its own. -/
theorem cut_named (A : Option Addr) (c : Nat) (l : List UInt8) (n : Nat) (hn : n ≤ l.length) (hc : l.length ≤ c) :
    ∃ A' c', (∀ W : World, (Instr.slice 22 (.slice A l.length c) (some (.int .i64 n)) none none).run Tryd.prog W = .ok (.slice A' (l.drop n).length c') W) ∧ (l.drop n).length ≤ c' ∧ c' ≤ c ∧ ∀ W, Row W A l → Row W A' (l.drop n) := by
  refine ⟨if c = n then A else A.map (·.add n), c - n, fun W => ?_, by rw [List.length_drop]; omega, by omega, fun W h => row_cut h n hc⟩
  have h1 : (0 : Int) ≤ (n : Int) := by omega
  have h2 : (n : Int) ≤ (l.length : Int) := by omega
  rw [run_slice_l (P := Tryd.prog) W 22 A l.length c (by kernel_rfl) .i64 n h1 h2]
  have hs : (sizeOf (Tryd.prog.elem 22)).run Tryd.prog W = .ok 1 W := by kernel_rfl
  rw [hs]
  simp [Result.andThen, sliced, List.length_drop]
end Go.Proofs.YtcdgiailapcooaaDoor
