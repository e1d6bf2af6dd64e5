/- The reference's disk: Barrier and Crash. Conditions: the disk lies there. -/
import Derived.Test.YtnajlineipapdaaDread
import Derived.Test.YtnajlineipapdaaDoIn
import Derived.StillTailTactics
set_option linter.unusedVariables false
namespace Go.Proofs.Ytnajlineipapdaa
open Go.RowKit

theorem flat_sc (ss : List BV) : ss.flatMap sc = ss.map bvv := by
  induction ss with
  | nil => rfl
  | cons x t ih => rw [List.flatMap_cons, ih]; rfl
/-- What is synced behind the first k waiting writes, of which those are kept that keep says. -/
def syncK (keep : Nat → Bool) (rs : List (Nat × BV)) (ss : List BV) : Nat → List BV
  | 0 => ss
  | k + 1 => match rs[k]? with
    | some p => if keep k = true then (syncK keep rs ss k).set p.1 p.2 else syncK keep rs ss k
    | none => syncK keep rs ss k
theorem syncK_step {keep : Nat → Bool} {rs : List (Nat × BV)} {ss : List BV} {k : Nat} {p : Nat × BV} (hp : rs[k]? = some p) : syncK keep rs ss (k + 1) = if keep k = true then (syncK keep rs ss k).set p.1 p.2 else syncK keep rs ss k := by
  rw [syncK, hp]
theorem syncK_len (keep : Nat → Bool) (rs : List (Nat × BV)) (ss : List BV) : ∀ k, (syncK keep rs ss k).length = ss.length
  | 0 => rfl
  | k + 1 => by
    rw [syncK]
    split
    · split
      · rw [List.length_set, syncK_len keep rs ss k]
      · exact syncK_len keep rs ss k
    · exact syncK_len keep rs ss k
section
variable {b : Nat} {w : World} {g g1 n1 k1 : Nat} {v2 v3 v4 : Value} {ss : List BV} {rs al : List (Nat × BV)} {ts : List (Int × Int × BV)}
theorem RDisk.sync (h : RDisk b w g (.slice (some ⟨g1, 0, none⟩) ss.length k1) v2 v3 v4 ss rs al ts) (a : Nat) (x : BV) (ha : a < ss.length) (hx : Own8 b w x ∧ x.l.length = 256) :
    RDisk b (w.setCell ⟨g1, a, none⟩ (bvv x)) g (.slice (some ⟨g1, 0, none⟩) ss.length k1) v2 v3 v4 (ss.set a x) rs al ts ∧ Chg (foot g (.slice (some ⟨g1, 0, none⟩) ss.length k1) v2 v3 v4) w (w.setCell ⟨g1, a, none⟩ (bvv x)) := by
  have hgr := grown_set w ⟨g1, a, none⟩ (bvv x)
  have k8 : ∀ {y : BV}, Own8 b w y → Own8 b (w.setCell ⟨g1, a, none⟩ (bvv x)) y := fun hy => World.ownsRow.kept hy hgr (own_parted hy h.o1 (by decide))
  refine ⟨⟨h.cells.far (p := ⟨g1, a, none⟩) (fun e => h.ne.1 (by rw [e]; rfl)) _, ?_, World.ownsRow.kept h.o2 hgr (own_parted h.o2 h.o1 (by decide)), World.ownsRow.kept h.o3 hgr (own_parted h.o3 h.o1 (by decide)), World.ownsRow.kept h.o4 hgr (own_parted h.o4 h.o1 (by decide)), h.sep, h.lo, ?_, ?_, ?_, ?_⟩, (Chg.refl (foot g (.slice (some ⟨g1, 0, none⟩) ss.length k1) v2 v3 v4) w).setCell (p := ⟨g1, a, none⟩) (.inl (foot_v1 rfl)) _⟩
  · have h1 := (h.o1.stored a (bvv x)).1
    rw [flat_sc] at h1 ⊢
    rw [List.length_set, List.map_set]
    exact h1
  · intro y hy
    rcases List.mem_or_eq_of_mem_set hy with hy | rfl
    · exact ⟨k8 (h.m1 y hy).1, (h.m1 y hy).2⟩
    · exact ⟨k8 hx.1, hx.2⟩
  · exact fun p hp => ⟨k8 (h.m2 p hp).1, (h.m2 p hp).2.1, by rw [List.length_set]; exact (h.m2 p hp).2.2⟩
  · exact fun p hp => ⟨k8 (h.m3 p hp).1, (h.m3 p hp).2.1, by rw [List.length_set]; exact (h.m3 p hp).2.2⟩
  · exact fun t ht => k8 (h.m4 t ht)
end
end Go.Proofs.Ytnajlineipapdaa
