/- What the fifth stage's statements share: that the program lays its types as it should; a Tamper by value. No conditions. -/
import Derived.Test.YtnajlineipapdaaRows
import Derived.Test.YtnajlineipapdaaDoIn
import Derived.Carry
import Derived.ProofKit
import Derived.OpenShut
import Derived.SizedLaws
set_option linter.unusedVariables false
namespace Go.Proofs.Ytnajlineipapdaa
open Go.ChangeShapes Go.WideShapes Go.ChangeAt Go.RowKit
theorem own : ownKnob Try.prog.godebug = none := by kernel_rfl
theorem laidOut : laidOutB Try.prog = true := by kernel_rfl
theorem kept_args {H : Type} {enc : TypeId × Value → H} {W : World} {b : Nat} {sp : Nat → Bool} {hd : Bool} {t : TypeId} {v : Value} {d : DataW H} {p : List MemPlace} (h : DataW.Trod enc Try.prog W b sp hd t v d p) : ∀ x ∈ p, x.block < W.heap.size := by
  obtain ⟨m, hm⟩ := h
  exact DataW.trod_lt m _ _ _ hm
set_option maxRecDepth 20000 in
theorem okWide_struct {P : Program} {w : World} {r : Reach} {b : Nat} {t : TypeId} {fs : Array Field} {v : Value} (ht : P.underlying t = some (.struct fs)) (h : Value.okWide P w r b t v) : ∃ cs, v = .agg cs ∧ cs.size = P.cellsOf t := by
  unfold Value.okWide at h
  rw [ht] at h
  cases v <;> simp_all
set_option maxRecDepth 20000 in
theorem tamper_in {H : Type} {enc : TypeId × Value → H} {W : World} {sp : Nat → Bool} {held : Bool} {base : Nat} {r : Reach} {b0 : Nat} {v : Value} {d : DataW H} {p : List MemPlace} (hv : Value.okWide Try.prog W r b0 35 v) (h : DataW.Trod enc Try.prog W base sp held 35 v d p) :
    ∃ (k a n : Int) (A : Option Addr) (c : Nat) (l : List UInt8), v = .agg #[.int .i64 k, .int .i64 a, .int .i64 n, .slice A l.length c] ∧ Hol W A l := by
  obtain ⟨cs, rfl, hsz⟩ := okWide_struct Try.underlying35 hv
  obtain ⟨fuel, hf⟩ := h
  obtain ⟨k, a, n, A, c, l, e, hA, _⟩ := tamper_cs hf
  refine ⟨k, a, n, A, c, l, ?_, hA⟩
  have e' : cs.toList = [.int .i64 k, .int .i64 a, .int .i64 n, .slice A l.length c] := by simpa [Value.cells] using e
  rw [← Array.toArray_toList (xs := cs), e']
end Go.Proofs.Ytnajlineipapdaa
