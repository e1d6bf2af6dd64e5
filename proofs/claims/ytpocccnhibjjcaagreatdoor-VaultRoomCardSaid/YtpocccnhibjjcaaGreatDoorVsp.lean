/- The law's Hold with a commit going on (PV): Begin, Push, a crash; a crash and a step of a mounting. Conditions: the Hold lies there. -/
import Derived.Test.YtpocccnhibjjcaaGreatDoorVsv
set_option linter.unusedVariables false
set_option maxRecDepth 20000
namespace Go.Proofs.YtpocccnhibjjcaaGreatDoor
open Go.RowKit

section
variable {b : Nat} {w w' : World} {FD FA G : List Nat} {g q gv gH : Nat} {L : Nat → Nat → List UInt8} {X X' : VX} {n E k m Q M : Nat} {c d : Nat → List UInt8} {gd ga : Nat} {old : Value} {P : VX → Prop}
def PV (w : World) (gH g : Nat) (G : List Nat) (n : Nat) (L : Nat → Nat → List UInt8) (Q M E : Nat) (c d : Nat → List UInt8) (k : Nat) : Prop :=
  ∃ b gd ga gv q old m FD FA X N0, HS b w gH G n gd ga gv g q L old m FD FA X ∧ PPh g L n E N0 c d k X ∧ q ≤ Q ∧ m ≤ M ∧ ∀ i, c i = [] ∨ (c i).length = 256
theorem PV.cell (h : PV w gH g G n L Q M E c d k) : w.cell? ⟨gH, 4, none⟩ = some (.pointer (some ⟨g, 0, none⟩)) := by
  obtain ⟨b, gd, ga, gv, q, old, m, FD, FA, X, N0, h1, _⟩ := h
  exact hv_cell h1.row
theorem PV.below (h : PV w gH g G n L Q M E c d k) (hb : Below w.heap.size w w') : PV w' gH g G n L Q M E c d k := by
  obtain ⟨b, gd, ga, gv, q, old, m, FD, FA, X, N0, h1, h2⟩ := h
  exact ⟨b, gd, ga, gv, q, old, m, FD, FA, X, N0, h1.below hb, h2⟩
theorem PPh.ae {N0 : Nat → Nat → Nat → RecV} (h : PPh g L n E N0 c d k X) : X.ae = E := by
  rcases h with ⟨h, _⟩ | ⟨h, _⟩
  · rw [h.fx.ae, h.fx.e_]
  · rw [h.fx.ae, h.fx.e_]
theorem MPh.ae (h : MPh g L n c E k X) : X.ae + 1 = E ∨ X.ae = E := by
  rcases h with ⟨_, _, _, h, _⟩ | ⟨_, h, _, _, _, _, h2, _⟩ | ⟨h, _, h2, _⟩
  · exact .inl h
  · exact .inr (h.ae.trans h2)
  · exact .inr (h.ae.trans h2)
theorem MPh.more {k' : Nat} (h : MPh g L n c E k X) (hk : k ≤ k') : MPh g L n c E k' X := by
  rcases h with ⟨N0, h1, h2, h3, h4⟩ | ⟨N0, h1, h2, h3, h4, h5, h6, h7⟩ | h
  · exact .inl ⟨N0, h1, h2, h3, by omega⟩
  · exact .inr (.inl ⟨N0, h1, h2, h3, h4, h5, h6, by omega⟩)
  · exact .inr (.inr h)
theorem SV.unheld (h : SV w gH g G n L Q M E c P) : SV w gH g G n L Q M E c fun X => P X ∧ ∀ i, X.H i = none → X.C i = none := h.imp fun X hr hp => ⟨hp, fun i hi => hr.unheld hi⟩
end
end Go.Proofs.YtpocccnhibjjcaaGreatDoor
