/- The counters' blocks, and a key's mask byte by byte. No conditions. -/
import Derived.Test.YtecojmafnonkiaaAesK
import Derived.Test.YtecojmafnonkiaaPlain
set_option linter.unusedVariables false
namespace Go.Proofs.Ytecojmafnonkiaa

/-- A counter's block; a mask's byte. -/
def ctrL (e s c : Nat) : List UInt8 := leb e 4 ++ leb s 4 ++ leb c 8
def ctr (e s c : Nat) (j : Nat) : UInt8 := (ctrL e s c).getD j 0
def mk (K : Nat → UInt8) (e s : Nat) (j : Nat) : UInt8 := enc K (ctr e s (j / 16)) (j % 16)
theorem ctrL_len (e s c : Nat) : (ctrL e s c).length = 16 := by simp [ctrL, leb_len]
theorem ctr_get (e s c j : Nat) (h : j < 16) : (ctrL e s c)[j]? = some (ctr e s c j) := by
  unfold ctr
  rw [List.getD_eq_getElem?_getD, List.getElem?_eq_getElem (by rw [ctrL_len]; exact h)]
  rfl
def keyK (l : List UInt8) : Nat → UInt8 := kx fun j => l.getD j 0

theorem mk_at (K : Nat → UInt8) (e s k j : Nat) (hj : j < 16) : mk K e s (16 * k + j) = enc K (ctr e s k) j := by
  unfold mk
  rw [show (16 * k + j) / 16 = k by omega, show (16 * k + j) % 16 = j by omega]
end Go.Proofs.Ytecojmafnonkiaa
