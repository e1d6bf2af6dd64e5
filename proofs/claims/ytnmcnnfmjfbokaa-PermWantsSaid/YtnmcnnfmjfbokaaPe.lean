/- The walk of PermWants. No conditions. -/
import Derived.Test.YtnmcnnfmjfbokaaPc
import Derived.Test.YtnmcnnfmjfbokaaPd
set_option linter.unusedVariables false
set_option maxRecDepth 20000
namespace Go.Proofs.Ytnmcnnfmjfbokaa
open Go.RowKit
set_option maxHeartbeats 2000000 in
theorem wantsW (z : Int) (hl : -9223372036854775808 ≤ z) (hh : z < 9223372036854775808) (w : World) : Calls Try.prog 4 #[.int .i64 z] w fun e w' => e = .returned (.bool true) ∧ Below w.heap.size w w' := by
  have HP := Lib.hid (fun w => pwants_any z hl hh w)
  have HR := Lib.hid (fun w => rwants_any z w)
  clear hl hh
  obtain ⟨x, hx⟩ : ∃ x, wA z = x := ⟨_, rfl⟩
  obtain ⟨y, hy⟩ : ∃ y, wE z = y := ⟨_, rfl⟩
  rw [hx, hy] at HP HR
  clear hx hy
  go_enter Try.func4, Try.ntmps4
  go_wp2_with (first
    | (go_at_call 6; refine (awake_any _).mono ?_; rintro e w2 ⟨rfl, hb2⟩; have HB2 := Lib.hid hb2; clear hb2)
    | (go_at_call 8; refine (HP.out _).mono ?_; rintro e w3 ⟨rfl, rfl⟩)
    | (go_at_call 9; refine (HR.out _).mono ?_; rintro e w3 ⟨rfl, rfl⟩))
  go_ret
  exact ⟨rfl, HB2.out⟩
end Go.Proofs.Ytnmcnnfmjfbokaa
