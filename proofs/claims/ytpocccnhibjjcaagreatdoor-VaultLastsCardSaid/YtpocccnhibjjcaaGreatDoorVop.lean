/- What the walks of VaultOthers and VaultLasts share: rows of their own beside a Hold, a commit to its end, a slot's number. Conditions: the Hold lies there. -/
import Derived.Test.YtpocccnhibjjcaaGreatDoorVsp
import Derived.Test.YtpocccnhibjjcaaGreatDoorVaw
import Derived.Test.YtpocccnhibjjcaaGreatDoorVdo
import Derived.Test.YtpocccnhibjjcaaGreatDoorMgCalls
import Derived.BigGuard
set_option linter.unusedVariables false
set_option maxRecDepth 20000
namespace Go.Proofs.YtpocccnhibjjcaaGreatDoor
open Go.RowKit

theorem and_fif (z : Int) : ∃ m : Nat, m < 16 ∧ bits .and .i64 z 15 = (m : Int) := by
  have h7 : (BitVec.ofInt 64 15).toNat = 2 ^ 4 - 1 := by decide
  have key : (BitVec.ofInt 64 z &&& BitVec.ofInt 64 15).toNat = (z % ((2 ^ 64 : Nat) : Int)).toNat % 2 ^ 4 := by
    rw [BitVec.toNat_and, BitVec.toNat_ofInt, h7, Nat.and_two_pow_sub_one_eq_mod]
  refine ⟨(z % ((2 ^ 64 : Nat) : Int)).toNat % 2 ^ 4, Nat.mod_lt _ (by decide), ?_⟩
  show IntKind.i64.wrap ((BitVec.ofInt 64 z &&& BitVec.ofInt 64 15).toNat : Nat) = _
  rw [key, IntKind.wrap_i64]
  omega
theorem bytes_same (g1 g2 : Nat) (f : Nat → UInt8) (w : World) (h1 : Row w g1 5 (brr 256 f)) (h2 : Row w g2 5 (brr 256 f)) : Calls Tryz.prog 33 #[.slice (some ⟨g1, 0, none⟩) 256 256, .slice (some ⟨g2, 0, none⟩) 256 256] w fun e w' => e = .returned (.bool true) ∧ Below w.heap.size w w' := by
  have h := bytes_call (some ⟨g1, 0, none⟩) (some ⟨g2, 0, none⟩) 256 256 256 256 (lst 256 f) (lst 256 f) (lst_len _ _).symm (lst_len _ _).symm w h1.hol h2.hol (by rw [lst_len]; omega) (by rw [lst_len]; omega)
  rwa [decide_eq_true rfl] at h
section
variable {b : Nat} {w w' w0 : World} {FD FA G G' : List Nat} {g q gv gH : Nat} {L : Nat → Nat → List UInt8} {X X' : VX} {n E k m Q M : Nat} {c d : Nat → List UInt8} {gd ga : Nat} {old : Value} {P : VX → Prop}
theorem HS.lt (h : HS b w gH G n gd ga gv g q L old m FD FA X) : ∀ j ∈ G, j < w.heap.size := fun j hj => by
  rcases (h.gf j).1 hj with rfl | e | e
  · exact h.row.lt
  · obtain ⟨xs, ho⟩ := h.own
    exact (ho.lt j e).2
  · exact (h.vb.g_lt j e).2
theorem SV.lt (h : SV w gH g G n L Q M E c P) : ∀ j ∈ G, j < w.heap.size := by
  obtain ⟨b, gd, ga, gv, q, old, m, FD, FA, X, h1, _⟩ := h
  exact h1.lt
theorem MV.lt (h : MV w gH g G n L Q M E c) : ∀ j ∈ G, j < w.heap.size := by
  obtain ⟨b, gd, ga, gv, q, old, m, FD, FA, X, h1, _⟩ := h
  exact h1.lt
theorem SV.mono {Q' M' : Nat} (h : SV w gH g G n L Q M E c P) (hQ : Q ≤ Q') (hM : M ≤ M') : SV w gH g G n L Q' M' E c P := by
  obtain ⟨b, gd, ga, gv, q, old, m, FD, FA, X, h1, h2, h3, h4, h5, h6⟩ := h
  exact ⟨b, gd, ga, gv, q, old, m, FD, FA, X, h1, h2, h3, Nat.le_trans h4 hQ, Nat.le_trans h5 hM, h6⟩
theorem MV.mono {Q' M' : Nat} (h : MV w gH g G n L Q M E c) (hQ : Q ≤ Q') (hM : M ≤ M') : MV w gH g G n L Q' M' E c := by
  obtain ⟨b, gd, ga, gv, q, old, m, FD, FA, X, h1, h2, h4, h5⟩ := h
  exact ⟨b, gd, ga, gv, q, old, m, FD, FA, X, h1, h2, Nat.le_trans h4 hQ, Nat.le_trans h5 hM⟩
theorem PV.mono {Q' M' : Nat} (h : PV w gH g G n L Q M E c d k) (hQ : Q ≤ Q') (hM : M ≤ M') : PV w gH g G n L Q' M' E c d k := by
  obtain ⟨b, gd, ga, gv, q, old, m, FD, FA, X, N0, h1, h2, h4, h5, h6⟩ := h
  exact ⟨b, gd, ga, gv, q, old, m, FD, FA, X, N0, h1, h2, Nat.le_trans h4 hQ, Nat.le_trans h5 hM, h6⟩
def Own1 (w : World) (G : List Nat) (t : TypeId) (g : Nat) (cs : List Value) : Prop := Row w g t cs ∧ g ∉ G
theorem Own1.below {t : TypeId} {g : Nat} {cs : List Value} (h : Own1 w G t g cs) (hb : Below w.heap.size w w') : Own1 w' G t g cs := ⟨h.1.kept hb, h.2⟩
theorem Own1.step {t : TypeId} {g : Nat} {cs : List Value} (h : Own1 w G t g cs) (hC : Chg G w w') (hW : Wider w G G') : Own1 w' G' t g cs :=
  ⟨hC.row h.1 h.2, fun hx => by
    rcases hW _ hx with e | e
    · exact h.2 e
    · have := h.1.lt
      omega⟩
def PK (d c : Nat → List UInt8) (X : VX) : Prop := ovC X.C c = d ∧ ∀ i, isK X c i = true
theorem PK.put {i : Nat} {l : List UInt8} (h : SV w gH g G n L Q M E c fun X' => ∃ X, PK d c X ∧ ovC X'.C c = setL (ovC X.C c) i l ∧ (X'.C i).isSome = true ∧ (∀ j, (X.C j).isSome = true → (X'.C j).isSome = true) ∧ ∀ j, isK X c j = true → isK X' c j = true) : SV w gH g G n L Q M E c (PK (setL d i l) c) :=
  h.imp fun X' _ hp => by
    obtain ⟨X, h1, h2, _, _, h3⟩ := hp
    refine ⟨?_, fun j => h3 j (h1.2 j)⟩
    rw [h2, h1.1]
theorem below_drawN (w : World) : Below w.heap.size w w.drew := (Below.refl _ _).drew
end
end Go.Proofs.YtpocccnhibjjcaaGreatDoor
