/- Every four records have the block that the document says, or are refused: the walk. No conditions. -/
import Derived.Test.YtibnmhaipogleaaDoorAwakeN
import Derived.Test.YtibnmhaipogleaaDoorRPack
set_option linter.unusedVariables false
set_option maxRecDepth 20000
namespace Go.Proofs.YtibnmhaipogleaaDoor.nodePacks
open Go.RowKit

/-- What both sides leave of four records. -/
def Both (R : Nat → RecV) (l : List UInt8) (z : Int) (w : World) (e : Ending) (w' : World) : Prop :=
  ∃ A n c, e = .returned (.tuple #[.slice A n c, .int .i64 z]) ∧ Hid (n = l.length) ∧ Hid (Hol w' A l) ∧ Hid (Below w.heap.size w w')
theorem both (R : Nat → RecV) (hR : ∀ k, k < 4 → (R k).Ok) : ∃ (l : List UInt8) (z : Int), l.length ≤ 256 ∧ (∀ w, Calls Tryd.prog 11 #[.agg (recsC R).toArray] w (Both R l z w)) ∧ (∀ w, Calls Tryd.prog 12 #[.agg (recsC R).toArray] w (Both R l z w)) := by
  by_cases h : ∀ k, k < 4 → (R k).may = true
  · refine ⟨lst 256 (pk R), 0, by rw [lst_len]; omega, fun w => ?_, fun w => ?_⟩
    · refine (pack_ok R hR h w).mono ?_
      rintro e w' ⟨g, rfl, hr, _, hb⟩
      exact ⟨_, _, _, rfl, (lst_len _ _).symm, hr.out.hol, hb⟩
    · refine (rpack_any R hR w).mono ?_
      rintro e w' (⟨_, A, n, c, rfl, rfl, hH, hb⟩ | ⟨⟨k, hk, hm⟩, _⟩)
      · exact ⟨_, _, _, rfl, (lst_len _ _).symm, hH, hb⟩
      · rw [h k hk] at hm
        cases hm
  · obtain ⟨k, hk, hm⟩ : ∃ k, k < 4 ∧ (R k).may = false := by
      refine Classical.byContradiction fun hn => h fun k hk => ?_
      cases hm : (R k).may
      · exact absurd ⟨k, hk, hm⟩ hn
      · rfl
    refine ⟨[], 201, by simp, fun w => ?_, fun w => ?_⟩
    · refine (pack_not R hR k hk hm w).mono ?_
      rintro e w' ⟨rfl, hb⟩
      exact ⟨_, _, _, rfl, rfl, .none_, hb⟩
    · refine (rpack_any R hR w).mono ?_
      rintro e w' (⟨ha, _⟩ | ⟨_, rfl, hb⟩)
      · exact absurd ha h
      · exact ⟨_, _, _, rfl, rfl, .none_, hb⟩
set_option maxHeartbeats 1000000 in
theorem walk (R : Nat → RecV) (hR : ∀ k, k < 4 → (R k).Ok) (w : World) : Calls Tryd.prog 3 #[.agg (recsC R).toArray] w fun e w' => e = .returned (.bool true) ∧ Below w.heap.size w w' := by
  obtain ⟨l, z, hl, hp, hq⟩ := both R hR
  have i1 := info_recs
  rw [← recsC_len R] at i1
  obtain ⟨C1, hC1⟩ : ∃ C1, C1 = recsC R := ⟨_, rfl⟩
  rw [← hC1] at hp hq i1
  rw [← hC1]
  have HP := Lib.hid hp
  have HQ := Lib.hid hq
  have HL := Lib.hid hl
  clear hC1 hp hq hl hR
  go_enter Tryd.func3, Tryd.ntmps3
  go_wp2_with (first
    | (refine step_box rfl 1 rfl 27 _ rfl C1 rfl ?_; intro g1 w1 hr1 hg1 hb1 hs1; have HR1 := Lib.hid hr1; have HB1 := Lib.hid hb1; clear hr1 hb1 hg1 hs1)
    | (go_at_call 10; refine (awake_any _).mono ?_; rintro e2 w2 ⟨rfl, hb2⟩
       have HR2 := Lib.hid (HR1.out.kept hb2)
       have HB2 := Lib.hid (HB1.out.trans (hb2.mono HB1.out.size))
       clear hb2)
    | (refine step_load rfl 10 rfl 27 (.tmp 1) rfl g1 rfl C1 _ HR2.out.all Tryd.underlying27 rfl i1 ?_)
    | (go_at_call 11; refine (HP.out _).mono ?_; rintro e3 w3 ⟨A3, n3, c3, rfl, hn3, hH3, hb3⟩
       have HR3 := Lib.hid (HR2.out.kept hb3.out)
       have HB3 := Lib.hid (HB2.out.trans (hb3.out.mono HB2.out.size))
       clear hb3)
    | (refine step_load rfl 15 rfl 27 (.tmp 1) rfl g1 rfl C1 _ HR3.out.all Tryd.underlying27 rfl i1 ?_)
    | (go_at_call 12; refine (HQ.out _).mono ?_; rintro e4 w4 ⟨A4, n4, c4, rfl, hn4, hH4, hb4⟩
       have HH3 := Lib.hid (hH3.out.below hb4.out)
       have HB4 := Lib.hid (HB3.out.trans (hb4.out.mono HB3.out.size))
       clear hb4)
    | (go_at_call 13; refine (bytes_call A3 A4 c3 c4 n3 n4 l l hn3.out hn4.out _ HH3.out hH4.out (by have := HL.out; omega) (by have := HL.out; omega)).mono ?_; rintro e5 w5 ⟨rfl, hb5⟩; rw [decide_eq_true (rfl : l = l)]))
  go_ret
  exact ⟨rfl, HB4.out.trans (hb5.mono HB4.out.size)⟩
end Go.Proofs.YtibnmhaipogleaaDoor.nodePacks
