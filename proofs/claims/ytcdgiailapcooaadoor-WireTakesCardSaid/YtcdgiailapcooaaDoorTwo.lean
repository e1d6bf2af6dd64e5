/- Two cursors, and rows of bytes beside a cursor: what stays when one of them moves. No conditions. -/
import Derived.Test.YtcdgiailapcooaaDoorWire
set_option linter.unusedVariables false
namespace Go.Proofs.YtcdgiailapcooaaDoor
open Go.RowKit

theorem own_ne {w : World} {B n g : Nat} {v : Value} {xs : List Value} {l : List UInt8} {b : Bool} (h : w.ownsRow B 5 1 v n xs) (hc : Cur w g l b) : v.ownBlock ≠ some g := by
  obtain ⟨A, c, hg, _⟩ := hc
  rcases h.2 with ⟨rfl, _⟩ | ⟨g', cap, cur, rfl, _, hh, _⟩
  · simp [Value.ownBlock]
  · intro he
    have : g' = g := by simpa [Value.ownBlock] using he
    subst this
    rw [hg] at hh
    injection hh with hh
    injection hh with _ ht
    exact absurd ht (by decide)
theorem own_moved {w w' : World} {B n g : Nat} {v : Value} {xs : List Value} {l : List UInt8} {b : Bool} (h : w.ownsRow B 5 1 v n xs) (hc : Cur w g l b) (hg : w.grownBy w' (some g)) : w'.ownsRow B 5 1 v n xs :=
  h.kept hg (.inr (own_ne h hc))
theorem Cur.moved {w w' : World} {g g' : Nat} {l l' : List UInt8} {b b' : Bool} (h : Cur w g l b) (hc : Cur w g' l' b') (hg : w.grownBy w' (some g')) (hne : g ≠ g') : Cur w' g l b :=
  h.grown hg (by simpa using hne) (by
    intro k hk cs hcs
    injection hk with hk
    subst hk
    obtain ⟨A, c, hh, _⟩ := hc
    rw [hh] at hcs
    injection hcs with hcs
    injection hcs with _ ht
    exact absurd ht (by decide))
/-- A cursor stays while a row of the call's own, which lies above it, is written. -/
theorem Cur.beside {w w' : World} {g : Nat} {l : List UInt8} {b : Bool} {row : Option Nat} (h : Cur w g l b) (hg : w.grownBy w' row) (hlow : ∀ k, row = some k → g < k) : Cur w' g l b := by
  obtain ⟨A, c, hh, h1, h2, h3, h4⟩ := h
  refine ⟨A, c, (hg.block g (Array.getElem?_eq_some_iff.1 hh).1 (fun e => by have := hlow g e.symm; omega)).trans hh, h1, h2, h3.grown hg ?_, h4⟩
  intro q o hq _ e
  have h5 := h4 q o hq
  have h6 := hlow q e.symm
  omega
theorem grown_none {w w' : World} {v : Value} {g : Nat} (h : w.grownBy w' v.ownBlock) (hv : v.ownBlock = some g) (hg : w.heap.size ≤ g) : Below w.heap.size w w' :=
  ⟨h.os, h.tape, h.output, h.size, fun k hk => h.block k hk (by rw [hv]; intro e; injection e; omega)⟩
theorem hol_moved {w w' : World} {A : Option Addr} {x l : List UInt8} {g : Nat} {b : Bool} (h : Row w A x) (hc : Cur w g l b) (hg : w.grownBy w' (some g)) : Row w' A x := by
  obtain ⟨A', c, hh, _⟩ := hc
  exact h.grown hg (Row.apart hh h)
end Go.Proofs.YtcdgiailapcooaaDoor
