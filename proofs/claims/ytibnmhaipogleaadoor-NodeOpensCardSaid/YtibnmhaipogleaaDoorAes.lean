/- Plain facts: bytes' products, inverses and boxes, and what one operation makes of bytes. No program is in sight here, and no conditions. -/
import Derived.Test.YtibnmhaipogleaaDoorSha
set_option linter.unusedVariables false
namespace Go.Proofs.YtibnmhaipogleaaDoor

/-- A byte, or none. -/
def sel (b : Bool) (x : UInt8) : UInt8 := if b then x else 0
theorem sel_xor (b c : Bool) (x : UInt8) : sel (b ^^ c) x = sel b x ^^^ sel c x := by cases b <;> cases c <;> simp [sel]
theorem sel_dist (b : Bool) (x y : UInt8) : sel b (x ^^^ y) = sel b x ^^^ sel b y := by cases b <;> simp [sel]
theorem xor_cancel (x y : UInt8) : x ^^^ (x ^^^ y) = y := by rw [← UInt8.xor_assoc]; simp
theorem xor_mid (a b c d : UInt8) : (a ^^^ b) ^^^ (c ^^^ d) = (a ^^^ c) ^^^ (b ^^^ d) := by
  simp only [UInt8.xor_assoc]
  rw [← UInt8.xor_assoc b c d, UInt8.xor_comm b c, UInt8.xor_assoc]

/-- A fact of each byte, tried at each number. -/
theorem each_byte {p : UInt8 → Prop} (h : ∀ n, n < 256 → p (UInt8.ofNat n)) (x : UInt8) : p x := by
  have := h x.toNat (UInt8.toNat_lt x)
  rwa [UInt8.ofNat_toNat] at this

/-- A byte's product with 2. -/
def dbl (x : UInt8) : UInt8 := (x <<< 1) ^^^ sel (x.toNat.testBit 7) 27
theorem dbl_zero : dbl 0 = 0 := by decide
theorem dbl_xor (x y : UInt8) : dbl (x ^^^ y) = dbl x ^^^ dbl y := by
  unfold dbl
  rw [UInt8.shiftLeft_xor, UInt8.toNat_xor, Nat.testBit_xor, sel_xor, xor_mid]
theorem dbl_sel (b : Bool) (x : UInt8) : dbl (sel b x) = sel b (dbl x) := by cases b <;> simp [sel, dbl_zero]

/-- A byte's product with 2 so many times; the product, bit by bit. -/
def dpow (x : UInt8) : Nat → UInt8
  | 0 => x
  | i + 1 => dbl (dpow x i)
def tm (x b : UInt8) : Nat → UInt8
  | 0 => 0
  | i + 1 => tm x b i ^^^ sel (b.toNat.testBit i) (dpow x i)
def times (x b : UInt8) : UInt8 := tm x b 8
theorem tm_xor (x b c : UInt8) : ∀ k, tm x (b ^^^ c) k = tm x b k ^^^ tm x c k
  | 0 => by simp [tm]
  | k + 1 => by
    simp only [tm]
    rw [tm_xor x b c k, UInt8.toNat_xor, Nat.testBit_xor, sel_xor, xor_mid]
theorem times_xor (x b c : UInt8) : times x (b ^^^ c) = times x b ^^^ times x c := tm_xor x b c 8
theorem times_zero (x : UInt8) : times x 0 = 0 := by simp [times, tm, sel]
theorem times_one (x : UInt8) : times x 1 = x := by
  have h : ∀ i, i < 7 → Nat.testBit 1 (i + 1) = false := by decide
  simp [times, tm, sel, dpow, h 0 (by decide), h 1 (by decide), h 2 (by decide), h 3 (by decide), h 4 (by decide), h 5 (by decide), h 6 (by decide)]
theorem dpow_8 (x : UInt8) : dpow x 8 = ((x ^^^ dpow x 1) ^^^ dpow x 3) ^^^ dpow x 4 := by
  revert x
  exact each_byte (by decide +kernel)
theorem dbl_bits (b : UInt8) : (dbl b).toNat.testBit 0 = b.toNat.testBit 7 ∧ (dbl b).toNat.testBit 1 = (b.toNat.testBit 0 ^^ b.toNat.testBit 7) ∧ (dbl b).toNat.testBit 2 = b.toNat.testBit 1 ∧
    (dbl b).toNat.testBit 3 = (b.toNat.testBit 2 ^^ b.toNat.testBit 7) ∧ (dbl b).toNat.testBit 4 = (b.toNat.testBit 3 ^^ b.toNat.testBit 7) ∧ (dbl b).toNat.testBit 5 = b.toNat.testBit 4 ∧
    (dbl b).toNat.testBit 6 = b.toNat.testBit 5 ∧ (dbl b).toNat.testBit 7 = b.toNat.testBit 6 := by
  revert b
  exact each_byte (by decide +kernel)
theorem times_dbl (x b : UInt8) : times x (dbl b) = dbl (times x b) := by
  obtain ⟨h0, h1, h2, h3, h4, h5, h6, h7⟩ := dbl_bits b
  have e : ∀ i, dbl (dpow x i) = dpow x (i + 1) := fun _ => rfl
  unfold times
  simp only [tm, h0, h1, h2, h3, h4, h5, h6, h7, sel_xor, dbl_xor, dbl_sel, e, Nat.reduceAdd, dpow_8, sel_dist, UInt8.zero_xor]
  rw [show dpow x 0 = x from rfl]
  generalize dpow x 1 = d1
  generalize dpow x 2 = d2
  generalize dpow x 3 = d3
  generalize dpow x 4 = d4
  generalize dpow x 5 = d5
  generalize dpow x 6 = d6
  generalize dpow x 7 = d7
  have : Std.Associative (α := UInt8) (· ^^^ ·) := ⟨UInt8.xor_assoc⟩
  have : Std.Commutative (α := UInt8) (· ^^^ ·) := ⟨UInt8.xor_comm⟩
  ac_rfl

/-- The powers of 3. -/
def pw : Nat → UInt8
  | 0 => 1
  | n + 1 => pw n ^^^ dbl (pw n)
theorem times_pw (a : Nat) : ∀ b, times (pw a) (pw b) = pw (a + b)
  | 0 => times_one _
  | b + 1 => by
    show times (pw a) (pw b ^^^ dbl (pw b)) = pw (a + b) ^^^ dbl (pw (a + b))
    rw [times_xor, times_dbl, times_pw a b]
theorem pw_255 : pw 255 = 1 := by decide +kernel
theorem pw_round : ∀ n, pw (n + 255) = pw n
  | 0 => pw_255
  | n + 1 => by
    rw [show n + 1 + 255 = (n + 255) + 1 by omega]
    show pw (n + 255) ^^^ dbl (pw (n + 255)) = pw n ^^^ dbl (pw n)
    rw [pw_round n]
theorem pw_rounds (n : Nat) : ∀ k, pw (n + 255 * k) = pw n
  | 0 => rfl
  | k + 1 => by rw [show n + 255 * (k + 1) = (n + 255 * k) + 255 by omega, pw_round, pw_rounds n k]

/-- A byte's powers; its inverse. -/
def it (x : UInt8) : Nat → UInt8
  | 0 => 1
  | k + 1 => times (it x k) x
def inverse (x : UInt8) : UInt8 := it x 254
theorem it_pw (i : Nat) : ∀ k, it (pw i) k = pw (i * k)
  | 0 => rfl
  | k + 1 => by
    show times (it (pw i) k) (pw i) = _
    rw [it_pw i k, times_pw, Nat.mul_succ]
theorem inverse_pw (i : Nat) (h : i ≤ 255) : inverse (pw i) = pw (255 - i) := by
  unfold inverse
  rw [it_pw]
  cases i with
  | zero => exact pw_255.symm
  | succ i => rw [show (i + 1) * 254 = (255 - (i + 1)) + 255 * i by omega, pw_rounds]
theorem inverse_zero : inverse 0 = 0 := times_zero _

/-- Every byte but 0 is a power of 3. -/
def pl : Nat → UInt8 → List Nat
  | 0, _ => []
  | n + 1, x => x.toNat :: pl n (x ^^^ dbl x)
theorem pl_mem : ∀ n k v, v ∈ pl n (pw k) → ∃ i, i < k + n ∧ (pw i).toNat = v
  | 0, k, v, h => by cases h
  | n + 1, k, v, h => by
    rcases List.mem_cons.1 h with h | h
    · exact ⟨k, by omega, h.symm⟩
    · obtain ⟨i, hi, e⟩ := pl_mem n (k + 1) v h
      exact ⟨i, by omega, e⟩
theorem pl_lit : pl 255 1 = [1, 3, 5, 15, 17, 51, 85, 255, 26, 46, 114, 150, 161, 248, 19, 53, 95, 225, 56, 72, 216, 115, 149, 164, 247, 2, 6, 10, 30, 34, 102, 170, 229, 52, 92, 228, 55, 89, 235, 38, 106, 190, 217, 112, 144, 171, 230, 49, 83, 245, 4, 12, 20, 60, 68, 204, 79, 209, 104, 184, 211, 110, 178, 205, 76, 212, 103, 169, 224, 59, 77, 215, 98, 166, 241, 8, 24, 40, 120, 136, 131, 158, 185, 208, 107, 189, 220, 127, 129, 152, 179, 206, 73, 219, 118, 154, 181, 196, 87, 249, 16, 48, 80, 240, 11, 29, 39, 105, 187, 214, 97, 163, 254, 25, 43, 125, 135, 146, 173, 236, 47, 113, 147, 174, 233, 32, 96, 160, 251, 22, 58, 78, 210, 109, 183, 194, 93, 231, 50, 86, 250, 21, 63, 65, 195, 94, 226, 61, 71, 201, 64, 192, 91, 237, 44, 116, 156, 191, 218, 117, 159, 186, 213, 100, 172, 239, 42, 126, 130, 157, 188, 223, 122, 142, 137, 128, 155, 182, 193, 88, 232, 35, 101, 175, 234, 37, 111, 177, 200, 67, 197, 84, 252, 31, 33, 99, 165, 244, 7, 9, 27, 45, 119, 153, 176, 203, 70, 202, 69, 207, 74, 222, 121, 139, 134, 145, 168, 227, 62, 66, 198, 81, 243, 14, 18, 54, 90, 238, 41, 123, 141, 140, 143, 138, 133, 148, 167, 242, 13, 23, 57, 75, 221, 124, 132, 151, 162, 253, 28, 36, 108, 180, 199, 82, 246] := by decide +kernel
theorem lit_all : ∀ v, v < 256 → v = 0 ∨ ([1, 3, 5, 15, 17, 51, 85, 255, 26, 46, 114, 150, 161, 248, 19, 53, 95, 225, 56, 72, 216, 115, 149, 164, 247, 2, 6, 10, 30, 34, 102, 170, 229, 52, 92, 228, 55, 89, 235, 38, 106, 190, 217, 112, 144, 171, 230, 49, 83, 245, 4, 12, 20, 60, 68, 204, 79, 209, 104, 184, 211, 110, 178, 205, 76, 212, 103, 169, 224, 59, 77, 215, 98, 166, 241, 8, 24, 40, 120, 136, 131, 158, 185, 208, 107, 189, 220, 127, 129, 152, 179, 206, 73, 219, 118, 154, 181, 196, 87, 249, 16, 48, 80, 240, 11, 29, 39, 105, 187, 214, 97, 163, 254, 25, 43, 125, 135, 146, 173, 236, 47, 113, 147, 174, 233, 32, 96, 160, 251, 22, 58, 78, 210, 109, 183, 194, 93, 231, 50, 86, 250, 21, 63, 65, 195, 94, 226, 61, 71, 201, 64, 192, 91, 237, 44, 116, 156, 191, 218, 117, 159, 186, 213, 100, 172, 239, 42, 126, 130, 157, 188, 223, 122, 142, 137, 128, 155, 182, 193, 88, 232, 35, 101, 175, 234, 37, 111, 177, 200, 67, 197, 84, 252, 31, 33, 99, 165, 244, 7, 9, 27, 45, 119, 153, 176, 203, 70, 202, 69, 207, 74, 222, 121, 139, 134, 145, 168, 227, 62, 66, 198, 81, 243, 14, 18, 54, 90, 238, 41, 123, 141, 140, 143, 138, 133, 148, 167, 242, 13, 23, 57, 75, 221, 124, 132, 151, 162, 253, 28, 36, 108, 180, 199, 82, 246] : List Nat).contains v = true := by decide +kernel
theorem is_pw (x : UInt8) : x = 0 ∨ ∃ i, i < 255 ∧ pw i = x := by
  rcases lit_all x.toNat (UInt8.toNat_lt x) with h | h
  · exact .inl (UInt8.toNat_inj.1 h)
  · rw [← pl_lit] at h
    obtain ⟨i, hi, e⟩ := pl_mem 255 0 x.toNat (List.contains_iff_mem.1 h)
    exact .inr ⟨i, by omega, UInt8.toNat_inj.1 e⟩
theorem inverse_inverse (x : UInt8) : inverse (inverse x) = x := by
  rcases is_pw x with rfl | ⟨i, hi, rfl⟩
  · rw [inverse_zero, inverse_zero]
  · rw [inverse_pw i (by omega), inverse_pw (255 - i) (by omega)]
    congr 1
    omega

/-- A byte moved, turned; the box. -/
def shl8 (x : UInt8) (n : Nat) : UInt8 := UInt8.ofNat (x.toNat * 2 ^ n)
def shr8 (x : UInt8) (n : Nat) : UInt8 := UInt8.ofNat (x.toNat / 2 ^ n)
def rl (x : UInt8) (n : Nat) : UInt8 := shl8 x n ||| shr8 x (8 - n)
def sb (y : UInt8) : UInt8 := y ^^^ rl y 1 ^^^ rl y 2 ^^^ rl y 3 ^^^ rl y 4 ^^^ 99
def sbox (x : UInt8) : UInt8 := sb (inverse x)
theorem sb_back (y : UInt8) : rl (sb y) 1 ^^^ rl (sb y) 3 ^^^ rl (sb y) 6 ^^^ 5 = y := by
  revert y
  exact each_byte (by decide +kernel)
theorem sbox_inj (x y : UInt8) : sbox x = sbox y ↔ x = y := by
  constructor
  · intro h
    have h1 : inverse x = inverse y := by
      rw [← sb_back (inverse x), ← sb_back (inverse y)]
      unfold sbox at h
      rw [h]
    rw [← inverse_inverse x, ← inverse_inverse y, h1]
  · rintro rfl
    rfl
theorem sbox_zero : sbox 0 = 99 := by
  unfold sbox
  rw [inverse_zero]
  decide
theorem sbox_53 : sbox 83 = 237 := by
  have e : pw 48 = 83 := by decide +kernel
  have e' : pw 207 = 202 := by decide +kernel
  unfold sbox
  rw [← e, inverse_pw 48 (by omega), show 255 - 48 = 207 from rfl, e']
  decide
theorem dbl_code (x : UInt8) : shl8 x 1 ^^^ (shr8 x 7 * 27) = dbl x := by
  revert x
  exact each_byte (by decide +kernel)
theorem it_zero (x : UInt8) : it x 0 = 1 := rfl
theorem it_succ (x : UInt8) (n : Nat) : it x (n + 1) = times (it x n) x := rfl
theorem inverse_def (x : UInt8) : inverse x = it x 254 := rfl
theorem sbox_def (x : UInt8) : sbox x = sb (inverse x) := rfl
attribute [irreducible] it inverse sbox
end Go.Proofs.YtibnmhaipogleaaDoor
