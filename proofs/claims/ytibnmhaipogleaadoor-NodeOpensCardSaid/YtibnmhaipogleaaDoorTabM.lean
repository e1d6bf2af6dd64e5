/- What a veil of a table is, and tables of one pad. Conditions: those named. -/
import Derived.Test.YtibnmhaipogleaaDoorIdeal
import Derived.Test.YtibnmhaipogleaaDoorMask
set_option linter.unusedVariables false
namespace Go.Proofs.YtibnmhaipogleaaDoor
open Go.RowKit

/-- A table's mask. -/
def pmask (L : Nat → Nat → List UInt8) (e s j : Nat) : UInt8 := (L e s).getD j 0
theorem IdealAt.mask {B : Nat} {w : World} {g : Nat} {L : Nat → Nat → List UInt8} (h : IdealAt B w g L) : MaskAt w g (pmask L) := by
  obtain ⟨_, gv, h1, h2⟩ := h
  exact ⟨36, gv, .inr rfl, h1, fun w' hb e s n he hs hn => tab_any B gv L e s n he hs hn w' (h2.below hb)⟩
/-- aes.New of what isn't a key. -/
theorem anew_bad (A : Option Addr) (n c : Nat) (hn : n ≠ 32) (w : World) : Calls Tryd.prog 43 #[.slice A n c] w fun e w' => e = .returned (.tuple #[.pointer none, .int .i64 201]) ∧ w' = w := by
  have hll : ¬ (n : Int) = 32 := by omega
  go_enter Tryd.func43, Tryd.ntmps43
  go_wp2
  go_ret2
  exact ⟨rfl, rfl⟩
theorem vnew_bad (A : Option Addr) (n c : Nat) (hn : n ≠ 32) (w : World) : Calls Tryd.prog 23 #[.slice A n c] w fun e w' => e = .returned (.tuple #[.pointer none, .int .i64 201]) ∧ Below w.heap.size w w' := by
  go_enter Tryd.func23, Tryd.ntmps23
  go_wp2_with (go_at_call 43; refine (anew_bad A n c hn _).mono ?_; rintro e w1 ⟨rfl, rfl⟩)
  go_ret2
  exact ⟨rfl, (Below.refl _ _).alloc (Nat.le_refl _) _⟩

/-- The pad of the first test. -/
def pad0 (g : Nat) : PadV := ⟨1, 2, some ⟨g, 0, none⟩, 2, [15, 240]⟩
theorem one_at {w : World} {g gb e s : Nat} {A : Option Addr} {c : Nat} {l : List UInt8} (h0 : w.cell? ⟨g, 0, none⟩ = some (.int .u32 (e : Int))) (h1 : w.cell? ⟨g, 1, none⟩ = some (.int .u32 (s : Int))) (h2 : w.cell? ⟨g, 2, none⟩ = some (.slice A l.length c))
    (hA : Hol w A l) (hl : l.length ≤ 1099511627776) : PadsAt w (some ⟨g, 0, none⟩) [⟨e, s, A, c, l⟩] := by
  intro j p hp
  match j, hp with
  | 0, hp =>
    simp at hp
    subst hp
    exact ⟨g, 0, rfl, h0, h1, h2, hA, hl⟩
theorem one_ok {e s : Nat} {A : Option Addr} {c : Nat} {l : List UInt8} (he : e < 4294967296) (hs : s < 4294967296) (hl : l.length ≤ c) : PadsOk [⟨e, s, A, c, l⟩] := by
  intro j p hp
  match j, hp with
  | 0, hp =>
    simp at hp
    subst hp
    exact ⟨he, hs, hl⟩
theorem one_hit (e s : Nat) (A : Option Addr) (c : Nat) (l : List UInt8) : cutL [⟨e, s, A, c, l⟩] e s = l.take 4096 := by
  simp [cutL, hit]
theorem list_at {w : World} {g : Nat} {l : List UInt8} (h : ∀ j, j < l.length → w.cell? ⟨g, j, none⟩ = (bc l)[j]?) : Hol w (some ⟨g, 0, none⟩) l := by
  refine .inr ⟨g, 0, rfl, fun j x hx => ?_⟩
  rw [Nat.zero_add, h j (List.getElem?_eq_some_iff.1 hx).1]
  exact get_bc hx
end Go.Proofs.YtibnmhaipogleaaDoor
