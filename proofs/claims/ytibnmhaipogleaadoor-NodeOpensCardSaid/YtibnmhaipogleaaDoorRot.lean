/- Words turned, by the program and by the reference: what each call leaves, for every word and every turn of 1 to 31 bits. -/
import Derived.Test.YtibnmhaipogleaaDoorChecked
import Derived.Test.YtibnmhaipogleaaDoorSha
import Derived.WalkKit
import Derived.WalkMore
import Derived.WalkSpells
import Derived.WalkLawsBesides
import Derived.Outline
set_option linter.unusedVariables false
namespace Go.Proofs.YtibnmhaipogleaaDoor
open Go.RowKit
theorem rotr_any (x : UInt32) (n : Nat) (h1 : 1 ≤ n) (h2 : n ≤ 31) (w : World) : Calls Tryd.prog 66 #[U x, .int .u32 n] w fun e w' => e = .returned (U (rot x n)) ∧ w' = w := by
  have p1 : (0 : Int) ≤ n := by omega
  have p2 : (n : Int) ≤ 32 := by omega
  have p3 : (32 - (n : Int)).toNat = 32 - n := by omega
  have p4 : min n 32 = n := by omega
  have p5 : min (32 - n) 32 = 32 - n := by omega
  have k1 := uv_shr x n
  have k2 := uv_shl x (32 - n) (by omega)
  have k3 := uv_or (shr x n) (shl x (32 - n))
  have k4 := uv_or (shl x (32 - n)) (shr x n)
  go_enter Tryd.func66, Tryd.ntmps66
  go_wp2
  go_ret
  exact ⟨rfl, rfl⟩

theorem turned_any (x : UInt32) (n : Nat) (h1 : 1 ≤ n) (h2 : n ≤ 31) (w : World) : Calls Tryd.prog 68 #[U x, .int .i64 n] w fun e w' => e = .returned (U (rot x n)) ∧ w' = w := by
  have p1 : (0 : Int) ≤ n := by omega
  have p2 : (n : Int) ≤ 32 := by omega
  have p3 : (32 - (n : Int)).toNat = 32 - n := by omega
  have p4 : min n 32 = n := by omega
  have p5 : min (32 - n) 32 = 32 - n := by omega
  have k1 := uv_shr x n
  have k2 := uv_shl x (32 - n) (by omega)
  have k3 := uv_or (shr x n) (shl x (32 - n))
  have k4 := uv_or (shl x (32 - n)) (shr x n)
  have hA : bits .and .u64 (IntKind.u64.wrap (-(n : Int))) 31 = 32 - n := by
    have e : IntKind.u64.wrap (-(n : Int)) = ((18446744073709551616 - n : Nat) : Int) := by
      simp [IntKind.wrap, IntKind.bits, IntKind.signed]
      omega
    have e31 : (31 : Int) = ((31 : Nat) : Int) := rfl
    rw [e, e31, u64_and_nat _ _ (by omega) (by omega), nat_mask5]
    omega
  have hI : (32 : Int) - (32 - (n : Int)) = n := by omega
  go_enter Tryd.func68, Tryd.ntmps68
  go_wp2
  go_ret
  exact ⟨by rw [rot_or]; rfl, rfl⟩
theorem rotr_at (x : UInt32) (m : Int) (h1 : 1 ≤ m) (h2 : m ≤ 31) (w : World) : Calls Tryd.prog 66 #[U x, .int .u32 m] w fun e w' => e = .returned (U (rot x m.toNat)) ∧ w' = w := by
  obtain ⟨n, rfl⟩ := Int.eq_ofNat_of_zero_le (show 0 ≤ m by omega)
  exact rotr_any x n (by omega) (by omega) w
theorem turned_at (x : UInt32) (m : Int) (h1 : 1 ≤ m) (h2 : m ≤ 31) (w : World) : Calls Tryd.prog 68 #[U x, .int .i64 m] w fun e w' => e = .returned (U (rot x m.toNat)) ∧ w' = w := by
  obtain ⟨n, rfl⟩ := Int.eq_ofNat_of_zero_le (show 0 ≤ m by omega)
  exact turned_any x n (by omega) (by omega) w
end Go.Proofs.YtibnmhaipogleaaDoor
