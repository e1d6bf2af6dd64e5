/- What the fourth stage's statements share: that the program lays its types as it should. No conditions. -/
import Derived.Test.YtecojmafnonkiaaRows
import Derived.Test.YtecojmafnonkiaaArgs
import Derived.Test.YtecojmafnonkiaaPost
import Derived.Carry
set_option linter.unusedVariables false
namespace Go.Proofs.Ytecojmafnonkiaa
theorem own : ownKnob Try.prog.godebug = none := by kernel_rfl
theorem kept_args {H : Type} {enc : TypeId × Value → H} {W : World} {b : Nat} {sp : Nat → Bool} {hd : Bool} {t : TypeId} {v : Value} {d : DataW H} {p : List MemPlace} (h : DataW.Trod enc Try.prog W b sp hd t v d p) : ∀ x ∈ p, x.block < W.heap.size := by
  obtain ⟨m, hm⟩ := h
  exact DataW.trod_lt m _ _ _ hm
end Go.Proofs.Ytecojmafnonkiaa
