/- A byte's product, inverse and box, as the reference reckons them, and the program's box of an inverse: what each call leaves, for every byte. No conditions. -/
import Derived.Test.YtecojmafnonkiaaBytes
set_option linter.unusedVariables false
namespace Go.Proofs.Ytecojmafnonkiaa
open Go.RowKit

/-- The box of an inverse, turn by turn. -/
def bl (y : UInt8) : Nat → UInt8
  | 0 => y ^^^ 99
  | n + 1 => bl y n ^^^ rl y (n + 1)
theorem bl_4 (y : UInt8) : bl y 4 = sb y := by
  have : Std.Associative (α := UInt8) (· ^^^ ·) := ⟨UInt8.xor_assoc⟩
  have : Std.Commutative (α := UInt8) (· ^^^ ·) := ⟨UInt8.xor_comm⟩
  simp only [bl, sb]
  ac_rfl

theorem blended_any (y : UInt8) (w : World) : Calls Try.prog 37 #[B y] w fun e w' => e = .returned (B (sb y)) ∧ w' = w := by
  go_enter Try.func37, Try.ntmps37
  go_wp2
  go_loopw [7, 3] (fun i x wr => ∃ n : Nat, n ≤ 4 ∧ i = .int .i64 n ∧ x = B (bl y n) ∧ wr = w) (fun i x _ => 4 - (intOf i).toNat)
  case atStart => exact ⟨0, by omega, rfl, rfl, rfl⟩
  case round =>
    obtain ⟨n, hn, rfl, rfl, rfl⟩ := hrel
    by_cases hlt : n < 4
    · go_wp2_with (go_at_call 42; refine (turn_any y (n + 1) (by omega) (by omega) _).mono ?_; rintro e w' ⟨rfl, rfl⟩)
      go_roundw
      case rel => exact ⟨n + 1, by omega, by go_num, rfl, trivial⟩
      case measure => simp [intOf]; omega
    · obtain rfl : n = 4 := by omega
      go_wp2
      go_ret
      exact ⟨by rw [bl_4]; rfl, rfl⟩

theorem xor_i64_nat (a b : Nat) (ha : a < 512) (hb : b < 512) : bits .xor .i64 (a : Int) (b : Int) = ((a ^^^ b : Nat) : Int) := by
  have hx : a ^^^ b < 2 ^ 9 := Nat.xor_lt_two_pow (by omega) (by omega)
  have e : ∀ c : Nat, c < 512 → (BitVec.ofInt 64 (c : Int)).toNat = c := by
    intro c hc
    rw [BitVec.ofInt_natCast, BitVec.toNat_ofNat]
    exact Nat.mod_eq_of_lt (by omega)
  show IntKind.i64.wrap ((BitVec.ofInt 64 (a : Int) ^^^ BitVec.ofInt 64 (b : Int)).toNat : Int) = _
  rw [BitVec.toNat_xor, e a ha, e b hb, IntKind.wrap_i64]
  omega
theorem bv_xor64 (x y : UInt8) : bits .xor .i64 (bv x) (bv y) = bv (x ^^^ y) := by
  have := u8_lt x
  have := u8_lt y
  unfold bv
  rw [xor_i64_nat _ _ (by omega) (by omega), UInt8.toNat_xor]
theorem bv_to64 (x : UInt8) : IntKind.i64.wrap (bv x) = bv x := by
  have := u8_lt x
  unfold bv
  rw [IntKind.wrap_i64]
  omega
theorem bv_w64 (x : UInt8) : wrap64 (bv x) = bv x := by
  have := bv_lo x
  have := bv_hi x
  unfold wrap64
  omega
attribute [go_sem] bv_w64
theorem bv_wrap2 (x : UInt8) : IntKind.i64.wrap (bv x * 2) = bv x * 2 := by
  have := u8_lt x
  unfold bv
  rw [IntKind.wrap_i64]
  omega
theorem bv_u8 (x : UInt8) : IntKind.u8.wrap (bv x) = bv x := by
  have := u8_lt x
  unfold bv
  rw [IntKind.wrap_u8']
  omega
theorem dbl_lo (x : UInt8) : x.toNat < 128 → x.toNat * 2 = (dbl x).toNat := by
  revert x
  exact each_byte (by decide +kernel)
theorem dbl_hi (x : UInt8) : 128 ≤ x.toNat → (x.toNat * 2) ^^^ 283 = (dbl x).toNat := by
  revert x
  exact each_byte (by decide +kernel)
theorem bv_dbl_lo (x : UInt8) (h : ¬ (256 : Int) ≤ bv x * 2) : bv x * 2 = bv (dbl x) := by
  have := dbl_lo x
  unfold bv at h ⊢
  omega
theorem bv_dbl_hi (x : UInt8) (h : (256 : Int) ≤ bv x * 2) : bits .xor .i64 (bv x * 2) 283 = bv (dbl x) := by
  have hx := u8_lt x
  have h2 := dbl_hi x
  unfold bv at h ⊢
  have e : ((x.toNat : Int) * 2) = ((x.toNat * 2 : Nat) : Int) := by omega
  have e' : (283 : Int) = ((283 : Nat) : Int) := rfl
  rw [e, e', xor_i64_nat _ _ (by omega) (by omega), h2 (by omega)]
theorem bv_bit (b : UInt8) (n : Nat) : bv (shr8 b n) % 2 = if b.toNat.testBit n then 1 else 0 := by
  have hb := u8_lt b
  unfold bv shr8
  rw [u8_toNat, Nat.mod_eq_of_lt (Nat.lt_of_le_of_lt (Nat.div_le_self _ _) hb), Nat.testBit_eq_decide_div_mod_eq]
  simp only [decide_eq_true_eq]
  split <;> omega

theorem times_any (a b : UInt8) (w : World) : Calls Try.prog 34 #[B a, B b] w fun e w' => e = .returned (B (times a b)) ∧ w' = w := by
  have kw := bv_to64 a
  have kw2 := bv_to64 b
  go_enter Try.func34, Try.ntmps34
  go_wp2
  go_loopw [7, 5, 6] (fun i o x wr => ∃ n : Nat, n ≤ 8 ∧ i = .int .i64 n ∧ o = .int .i64 (bv (tm a b n)) ∧ x = .int .i64 (bv (dpow a n)) ∧ wr = w) (fun i _ _ _ => 8 - (intOf i).toNat)
  case atStart => exact ⟨0, by omega, rfl, rfl, rfl, rfl⟩
  case round =>
    obtain ⟨n, hn, rfl, rfl, rfl, rfl⟩ := hrel
    by_cases hlt : n < 8
    · have kS := bv_shr b n
      have kT : (bv (shr8 b n)).tmod 2 = bv (shr8 b n) % 2 := Int.tmod_eq_emod_of_nonneg (bv_lo _)
      have kB := bv_bit b n
      have kM := bv_wrap2 (dpow a n)
      have kX := bv_xor64 (tm a b n) (dpow a n)
      have p4 : min n 64 = n := by omega
      have p5 : IntKind.u64.wrap (n : Int) = n := by simp [IntKind.wrap, IntKind.bits, IntKind.signed]; omega
      by_cases ht : b.toNat.testBit n = true
      · rw [if_pos ht] at kB
        by_cases h2 : (256 : Int) ≤ bv (dpow a n) * 2
        · have kD := bv_dbl_hi (dpow a n) h2
          go_wp2
          go_roundw
          case rel => exact ⟨n + 1, by omega, by go_num, by simp [tm, sel, ht], rfl, trivial⟩
          case measure => simp [intOf]; omega
        · have kD := bv_dbl_lo (dpow a n) h2
          have h3 : ¬ (256 : Int) ≤ bv (dbl (dpow a n)) := by rw [← kD]; exact h2
          go_wp2
          go_roundw
          case rel => exact ⟨n + 1, by omega, by go_num, by simp [tm, sel, ht], by rw [bv_w64]; rfl, trivial⟩
          case measure => simp [intOf]; omega
      · rw [if_neg ht] at kB
        by_cases h2 : (256 : Int) ≤ bv (dpow a n) * 2
        · have kD := bv_dbl_hi (dpow a n) h2
          go_wp2
          go_roundw
          case rel => exact ⟨n + 1, by omega, by go_num, by simp [tm, sel, ht], rfl, trivial⟩
          case measure => simp [intOf]; omega
        · have kD := bv_dbl_lo (dpow a n) h2
          have h3 : ¬ (256 : Int) ≤ bv (dbl (dpow a n)) := by rw [← kD]; exact h2
          go_wp2
          go_roundw
          case rel => exact ⟨n + 1, by omega, by go_num, by simp [tm, sel, ht], by rw [bv_w64]; rfl, trivial⟩
          case measure => simp [intOf]; omega
    · obtain rfl : n = 8 := by omega
      have k8 := bv_u8 (tm a b 8)
      go_wp2
      go_ret
      exact ⟨rfl, rfl⟩

set_option maxRecDepth 20000 in
theorem inverse_any (x : UInt8) (w : World) : Calls Try.prog 40 #[B x] w fun e w' => e = .returned (B (inverse x)) ∧ w' = w := by
  go_enter Try.func40, Try.ntmps40
  go_wp2
  go_loopw [4, 3] (fun i o wr => ∃ n : Nat, n ≤ 254 ∧ i = .int .i64 n ∧ o = B (it x n) ∧ wr = w) (fun i _ _ => 254 - (intOf i).toNat)
  case atStart => exact ⟨0, by omega, rfl, by rw [it_zero]; rfl, rfl⟩
  case round =>
    obtain ⟨n, hn, rfl, rfl, rfl⟩ := hrel
    by_cases hlt : n < 254
    · go_wp2_with (go_at_call 34; refine (times_any _ _ _).mono ?_; rintro e w' ⟨rfl, rfl⟩)
      go_roundw
      case rel => exact ⟨n + 1, by omega, by go_num, by rw [it_succ], trivial⟩
      case measure => simp [intOf]; omega
    · obtain rfl : n = 254 := by omega
      go_wp2
      go_ret
      exact ⟨by rw [inverse_def]; rfl, rfl⟩
theorem left_at (x : UInt8) (m : Int) (h1 : 1 ≤ m) (h2 : m ≤ 7) (w : World) : Calls Try.prog 41 #[B x, .int .u64 m] w fun e w' => e = .returned (B (rl x m.toNat)) ∧ w' = w := by
  obtain ⟨n, rfl⟩ := Int.eq_ofNat_of_zero_le (show 0 ≤ m by omega)
  exact left_any x n (by omega) (by omega) w
set_option maxRecDepth 20000 in
theorem refbox_any (x : UInt8) (w : World) : Calls Try.prog 33 #[B x] w fun e w' => e = .returned (B (sbox x)) ∧ w' = w := by
  go_enter Try.func33, Try.ntmps33
  go_wp2_with (first
    | (go_at_call 40; refine (inverse_any _ _).mono ?_; rintro e w' ⟨rfl, rfl⟩)
    | (go_at_call 41; refine (left_at _ _ (by decide) (by decide) _).mono ?_; rintro e w' ⟨rfl, rfl⟩))
  go_ret
  exact ⟨by rw [sbox_def]; rfl, rfl⟩
end Go.Proofs.Ytecojmafnonkiaa
