/- What the seventh stage's statements share: that the program lays its types as it should; numbers that came in. No conditions. -/
import Derived.Test.YtpkmbgbglefcfaaRows
import Derived.Test.YtpkmbgbglefcfaaPm
import Derived.Carry
import Derived.ProofKit
import Derived.OpenShut
import Derived.SizedLaws
import Derived.Lib.SmallJoins
set_option linter.unusedVariables false
namespace Go.Proofs.Ytpkmbgbglefcfaa
open Go.ChangeShapes Go.WideShapes Go.ChangeAt Go.RowKit
theorem own : ownKnob Try.prog.godebug = none := by kernel_rfl
theorem laidOut : laidOutB Try.prog = true := by kernel_rfl
theorem kept_args {H : Type} {enc : TypeId × Value → H} {W : World} {b : Nat} {sp : Nat → Bool} {hd : Bool} {t : TypeId} {v : Value} {d : DataW H} {p : List MemPlace} (h : DataW.Trod enc Try.prog W b sp hd t v d p) : ∀ x ∈ p, x.block < W.heap.size := by
  obtain ⟨m, hm⟩ := h
  exact DataW.trod_lt m _ _ _ hm
theorem u8_num {z : Int} (h : (Lit.int .u8 z).wf = true) : ∃ n : Nat, z = (n : Int) ∧ n < 256 := by
  have hb := bounds_u8 h
  exact ⟨z.toNat, by omega, by omega⟩
theorem cell_flat {w : World} {b o : Nat} {q : Option Nat} {v : Value} (h : w.cell? ⟨b, o, q⟩ = some v) : q = none := by
  cases q with
  | none => rfl
  | some k =>
    unfold World.cell? at h
    split at h <;> simp at h
/-- What numbers that came in read as. -/
structure InI (w : World) (a : Option Addr) (len cap : Nat) (l : List Int) : Prop where
  len_ : len = l.length
  hol : HolI w a l
  nil_ : a = none → l = []
  cap_ : len ≤ cap
  max_ : cap ≤ maxLen
section
variable {H : Type} {enc : TypeId × Value → H} {W : World} {sp : Nat → Bool} {held : Bool} {base : Nat}
theorem ints_in {a : Option Addr} {len cap : Nat} {d : DataW H} {p : List MemPlace} (h : DataW.Trod enc Try.prog W base sp held 28 (.slice a len cap) d p) : ∃ l, InI W a len cap l := by
  obtain ⟨fuel, hf⟩ := h
  rcases open_ints Try.underlying28 Try.underlying3 (by kernel_rfl) hf with ⟨hcs, _⟩ | ⟨x, len', c', zs, hcs, _, hl, hm, hz, _, hcell, hwz⟩
  · simp [Value.cells] at hcs
    obtain ⟨rfl, rfl, rfl⟩ := hcs
    exact ⟨[], rfl, .inl rfl, fun _ => rfl, Nat.le_refl _, by decide⟩
  · simp [Value.cells] at hcs
    obtain ⟨rfl, rfl, rfl⟩ := hcs
    have hzl : len ≤ zs.length := by rw [hz]; split <;> omega
    refine ⟨zs.take len, by simp; omega, ?_, (fun e => by cases e), hl, hm⟩
    by_cases h0 : len = 0
    · subst h0
      exact .inl (by simp)
    · have h1 := hcell 0 (by omega)
      obtain ⟨b, off, spot⟩ := x
      have hs : spot = none := by
        have : (Addr.add ⟨b, off, spot⟩ 0) = ⟨b, off, spot⟩ := by simp [Addr.add]
        rw [this] at h1
        exact cell_flat h1
      subst hs
      refine .inr ⟨b, off, rfl, fun j z hz1 => ?_⟩
      rw [List.getElem?_take] at hz1
      split at hz1
      · have hj := (List.getElem?_eq_some_iff.1 hz1).1
        have h2 := hcell j hj
        rw [Addr.add_lit] at h2
        rw [h2]
        have hg : zs.getD j 0 = z := by simp [List.getD, hz1]
        rw [hg]
      · cases hz1
end
end Go.Proofs.Ytpkmbgbglefcfaa
