/- The walk of the law PathSizes. No conditions. -/
import Derived.Test.YtpkmbgbglefcfaaPk
import Derived.Test.YtpkmbgbglefcfaaPa
import Derived.Test.YtpkmbgbglefcfaaPe
set_option linter.unusedVariables false
namespace Go.Proofs.Ytpkmbgbglefcfaa
open Go.RowKit

set_option maxRecDepth 20000 in
set_option maxHeartbeats 1000000 in
theorem sizes_any (d : Int) (w : World) : Calls Try.prog 3 #[.int .i64 d] w fun e w' => e = .returned (.bool true) ∧ Below w.heap.size w w' := by
  have HL := Lib.hid (al_len (lv d))
  have HN := Lib.hid (nd_le (lv_le d))
  go_enter Try.func3, Try.ntmps3
  go_wp2_with (first
    | (go_at_call 9; refine (awake_any _).mono ?_; rintro e w1 ⟨rfl, hB1⟩; have HB1 := Lib.hid hB1; clear hB1)
    | (go_at_call 10; refine (rall_any d _).mono ?_; rintro e w2 ⟨A, c, rfl, hO2, hB2⟩
       rw [HL.out] at hO2
       rw [HL.out]
       have HO2 := Lib.hid hO2
       have HB2 := Lib.hid (below_nxt hB2 HB1.out)
       clear hO2 hB2)
    | (go_at_call 11; refine (slots_any d _).mono ?_; rintro e w' ⟨rfl, rfl⟩)
    | (go_at_call 12; refine (rslots_any d _).mono ?_; rintro e w' ⟨rfl, rfl⟩)
    | (go_at_call 13; refine (nodes_any d _).mono ?_; rintro e w' ⟨rfl, rfl⟩)
    | (go_at_call 15; refine (all_any d _).mono ?_; rintro e w3 ⟨A3, c3, rfl, hO3, hB3⟩
       have HO2' := Lib.hid (HO2.out.kept hB3)
       have HO3 := Lib.hid hO3
       have HB3 := Lib.hid (below_nxt hB3 HB2.out)
       rw [HL.out]
       clear hO3 hB3)
    | (go_at_call 14
       have h1 := spots_any A3 A c3 c (al (lv d)) (al (lv d)) w3 HO3.out.hol HO2'.out.hol (by rw [HL.out]; have := HN.out; omega) (by rw [HL.out]; have := HN.out; omega)
       rw [HL.out] at h1
       refine h1.mono ?_; rintro e w4 ⟨rfl, q, rfl⟩))
  go_ret
  exact ⟨by simp, below_drewN HB3.out _⟩
end Go.Proofs.Ytpkmbgbglefcfaa
