/- The library's Delete at the last waiting write of a full row; Delete; the disk's drop. Conditions: the row lies there, of the call's own. -/
import Derived.Test.YtnajlineipapdaaPDrop
set_option linter.unusedVariables false
namespace Go.Proofs.Ytnajlineipapdaa
open Go.RowKit

set_option maxRecDepth 20000 in
set_option maxHeartbeats 1000000 in
theorem delete_end (w : World) (b g k : Nat) (rs : List (Nat × BV)) (hl : rs.length = k + 1) (hbig : k + 1 ≤ 1000000) (h : w.ownsRow b 79 2 (.slice (some ⟨g, 0, none⟩) (k + 1) (k + 1)) (k + 1) (rs.flatMap wcs)) :
    Calls Try.prog 55 #[.slice (some ⟨g, 0, none⟩) (k + 1) (k + 1), .int .i64 (k : Int), .int .i64 ((k : Int) + 1)] w fun e w' =>
      e = .returned (.slice (some ⟨g, 0, none⟩) k (k + 1)) ∧ w'.ownsRow b 79 2 (.slice (some ⟨g, 0, none⟩) k (k + 1)) k ((cut1 rs k).flatMap wcs) ∧ w.grownBy w' (some g) := by
  have hcut : ∀ ty, (Builtin.append_ #[71, 71] ty #[.slice (some ⟨g, 0, none⟩) k (k + 1), .slice (some ⟨g, 0, none⟩) 0 0]).run Try.prog w.drew = .ok (.slice (some ⟨g, 0, none⟩) k (k + 1)) (w.drew.setCells g (k * 2) ((rs.drop (k + 1)).flatMap wcs)) := by
    intro ty
    exact (run_cut w.drew ty b g (k + 1) k 0 rs (by omega) (own_kept h (below_drw w)) 0 ⟨g, 0, none⟩ (.inl rfl)).1
  have h2 := (run_cut w.drew 0 b g (k + 1) k 0 rs (by omega) (own_kept h (below_drw w)) 0 ⟨g, 0, none⟩ (.inl rfl)).2
  obtain ⟨w2, hw2⟩ : ∃ w2, w.drew.setCells g (k * 2) ((rs.drop (k + 1)).flatMap wcs) = w2 := ⟨_, rfl⟩
  rw [hw2] at h2
  simp only [hw2] at hcut
  have HO := Lib.hid h2.1
  have HG := Lib.hid (grown_trans (grown_of_below (below_drw w)) h2.2)
  have i0 : (0 : Int) ≤ (k : Int) := by omega
  have i1 : (k : Int) ≤ (k : Int) + 1 := by omega
  have i4 : ((k : Int) == (k : Int) + 1) = false := beq_false_of_ne (by omega)
  have i7 : (0 : Int) ≤ (k : Int) + 1 := by omega
  have i9 : ((k : Int) + 1).toNat = k + 1 := by omega
  have HN := Lib.hid (p := k + (0 + 1) ≤ k + 1) (by omega)
  clear h h2 hw2 hl hbig
  go_enter Try.func55, Try.ntmps55
  go_wp2_with fail
  trace_state
  go_region_law (refine step_app rfl _ _ rfl _ _ rfl rfl _ _ hcut ?_)
  all_goals
    go_wp2_with (first
      | (refine wp_clear rfl _ _ rfl _ rfl _ (run_clear_room w2 _ b g (k + 1) k 0 _ HO.out HN.out _) ?_; rintro w9 ⟨ho9, hg9⟩
         have HO9 := Lib.hid ho9
         have HG9 := Lib.hid hg9
         clear ho9 hg9))
    go_ret
    exact ⟨rfl, HO9.out, grown_trans HG.out HG9.out⟩
end Go.Proofs.Ytnajlineipapdaa
