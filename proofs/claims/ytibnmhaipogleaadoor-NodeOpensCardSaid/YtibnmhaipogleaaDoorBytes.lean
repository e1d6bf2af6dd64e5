/- What one operation makes of bytes, and the functions that make a byte of bytes: what each call leaves, for every byte. No conditions. -/
import Derived.Test.YtibnmhaipogleaaDoorChecked
import Derived.Test.YtibnmhaipogleaaDoorAes
import Derived.WalkKit
import Derived.WalkMore
import Derived.WalkSpells
import Derived.WalkLawsBesides
import Derived.Outline
set_option linter.unusedVariables false
namespace Go.Proofs.YtibnmhaipogleaaDoor
open Go.RowKit

section
variable (x y : UInt8)
theorem bv_xor : bits .xor .u8 (bv x) (bv y) = bv (x ^^^ y) := by
  unfold bv
  rw [u8_xor_nat _ _ (u8_lt x) (u8_lt y), UInt8.toNat_xor]
theorem bv_xor63 : bits .xor .u8 (bv x) 99 = bv (x ^^^ 99) := bv_xor x 99
theorem bv_or : bits .or .u8 (bv x) (bv y) = bv (x ||| y) := by
  unfold bv
  rw [u8_or_nat _ _ (u8_lt x) (u8_lt y), UInt8.toNat_or]
theorem bv_shr (n : Nat) : bv x / 2 ^ n = bv (shr8 x n) := by
  have hx := u8_lt x
  unfold bv shr8
  rw [u8_toNat, Nat.mod_eq_of_lt (Nat.lt_of_le_of_lt (Nat.div_le_self _ _) hx)]
  simp
theorem bv_shl (n : Nat) : IntKind.u8.wrap (bv x * 2 ^ n) = bv (shl8 x n) := by
  unfold bv shl8
  rw [u8_toNat, IntKind.wrap_u8']
  simp
theorem bv_shl' (n : Nat) : (bv x * 2 ^ n) % 256 = bv (shl8 x n) := by rw [← bv_shl, IntKind.wrap_u8']
theorem bv_lo : 0 ≤ bv x := by unfold bv; omega
theorem bv_hi : bv x < 256 := by have := u8_lt x; unfold bv; omega
theorem bv_toNat : (bv x).toNat = x.toNat := by unfold bv; omega
theorem bv_eq : (bv x = bv y) ↔ x = y := by
  unfold bv
  constructor
  · intro h
    exact UInt8.toNat_inj.1 (by omega)
  · rintro rfl
    rfl
end
attribute [go_sem] bv_xor bv_xor63 bv_or bv_lo bv_hi bv_toNat

theorem double_any (x : UInt8) (w : World) : Calls Tryd.prog 69 #[B x] w fun e w' => e = .returned (B (dbl x)) ∧ w' = w := by
  have k1 : IntKind.u8.wrap (bv x * 2) = bv (shl8 x 1) := bv_shl x 1
  have k1' : (bv x * 2) % 256 = bv (shl8 x 1) := bv_shl' x 1
  have k2 : bv x / 128 = bv (shr8 x 7) := bv_shr x 7
  have k3 : IntKind.u8.wrap (bv (shr8 x 7) * 27) = bv (shr8 x 7 * 27) := by
    unfold bv
    rw [IntKind.wrap_u8', UInt8.toNat_mul]
    simp
  have k3' : (bv (shr8 x 7) * 27) % 256 = bv (shr8 x 7 * 27) := by rw [← k3, IntKind.wrap_u8']
  go_enter Tryd.func69, Tryd.ntmps69
  go_wp2
  go_ret
  exact ⟨by rw [dbl_code]; rfl, rfl⟩

theorem turn_any (x : UInt8) (n : Nat) (h1 : 1 ≤ n) (h2 : n ≤ 7) (w : World) : Calls Tryd.prog 77 #[B x, .int .i64 n] w fun e w' => e = .returned (B (rl x n)) ∧ w' = w := by
  have p1 : (0 : Int) ≤ n := by omega
  have p2 : (n : Int) ≤ 8 := by omega
  have p3 : (8 - (n : Int)).toNat = 8 - n := by omega
  have p4 : min n 8 = n := by omega
  have p5 : min (8 - n) 8 = 8 - n := by omega
  have k1 := bv_shr x (8 - n)
  have k2 := bv_shl x n
  have k2' := bv_shl' x n
  have hA : bits .and .u64 (n : Int) 7 = n := by
    have e7 : (7 : Int) = ((7 : Nat) : Int) := rfl
    rw [e7, u64_and_nat _ _ (by omega) (by omega), nat_mask3]
    omega
  go_enter Tryd.func77, Tryd.ntmps77
  go_wp2
  go_ret
  exact ⟨rfl, rfl⟩
end Go.Proofs.YtibnmhaipogleaaDoor
