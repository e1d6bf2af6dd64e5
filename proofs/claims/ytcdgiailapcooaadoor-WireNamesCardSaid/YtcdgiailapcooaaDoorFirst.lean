/- The first rune of a text, as the reference takes it, for every text that isn't empty. No conditions. -/
import Derived.Test.YtcdgiailapcooaaDoorNames
set_option linter.unusedVariables false
namespace Go.Proofs.YtcdgiailapcooaaDoor
open Go.RowKit


set_option maxRecDepth 100000 in
set_option maxHeartbeats 1000000 in
theorem first_low (s : ByteArray) (w : World) (h0 : 0 < s.size) (hs : s.size ≤ 9223372036854775807) (c0 : UInt8) (hc0 : s[0]'(by omega) = c0) (k0 : c0.toNat < 128) :
    Calls Tryd.prog 39 #[.string s] w fun e w' => e = .returned (.tuple #[.int .i64 (c0.toNat), .int .i64 1]) ∧ w = w' := by
  have hz0 : (0 : Int) < (s.size : Int) := by omega
  have hu0 : (c0.toNat : Int) < 256 := by have := c0.toNat_lt; omega
  have j0 : (c0.toNat : Int) < 128 := by omega
  go_enter Tryd.func39, Tryd.ntmps39
  go_wp2
  all_goals go_ret2
  all_goals exact ⟨rfl, rfl⟩

set_option maxRecDepth 100000 in
set_option maxHeartbeats 1000000 in
theorem first_none1 (s : ByteArray) (w : World) (h0 : 0 < s.size) (hs : s.size ≤ 9223372036854775807) (c0 : UInt8) (hc0 : s[0]'(by omega) = c0) (k0 : 128 ≤ c0.toNat) (k1 : c0.toNat < 192) :
    Calls Tryd.prog 39 #[.string s] w fun e w' => e = .returned (.tuple #[.int .i64 (-1), .int .i64 1]) ∧ w = w' := by
  have hz0 : (0 : Int) < (s.size : Int) := by omega
  have hu0 : (c0.toNat : Int) < 256 := by have := c0.toNat_lt; omega
  have j0 : ¬ (c0.toNat : Int) < 128 := by omega
  have j1 : decide (192 ≤ (c0.toNat : Int)) = false := by simp; omega
  have j2 : decide (224 ≤ (c0.toNat : Int)) = false := by simp; omega
  have j3 : decide (240 ≤ (c0.toNat : Int)) = false := by simp; omega
  go_enter Tryd.func39, Tryd.ntmps39
  go_wp2
  all_goals go_ret2
  all_goals exact ⟨rfl, rfl⟩

set_option maxRecDepth 100000 in
set_option maxHeartbeats 1000000 in
theorem first_none2 (s : ByteArray) (w : World) (h0 : 0 < s.size) (hs : s.size ≤ 9223372036854775807) (c0 : UInt8) (hc0 : s[0]'(by omega) = c0) (k0 : 248 ≤ c0.toNat) :
    Calls Tryd.prog 39 #[.string s] w fun e w' => e = .returned (.tuple #[.int .i64 (-1), .int .i64 1]) ∧ w = w' := by
  have hz0 : (0 : Int) < (s.size : Int) := by omega
  have hu0 : (c0.toNat : Int) < 256 := by have := c0.toNat_lt; omega
  have j0 : 248 ≤ (c0.toNat : Int) := by omega
  go_enter Tryd.func39, Tryd.ntmps39
  go_wp2
  all_goals go_ret2
  all_goals exact ⟨rfl, rfl⟩

set_option maxRecDepth 100000 in
set_option maxHeartbeats 1000000 in
theorem first_short2 (s : ByteArray) (w : World) (h0 : 0 < s.size) (hs : s.size ≤ 9223372036854775807) (c0 : UInt8) (hc0 : s[0]'(by omega) = c0) (k0 : 192 ≤ c0.toNat) (k1 : c0.toNat < 224) (k2 : s.size < 2) :
    Calls Tryd.prog 39 #[.string s] w fun e w' => e = .returned (.tuple #[.int .i64 (-1), .int .i64 1]) ∧ w = w' := by
  have hz0 : (0 : Int) < (s.size : Int) := by omega
  have hu0 : (c0.toNat : Int) < 256 := by have := c0.toNat_lt; omega
  have j0 : 192 ≤ (c0.toNat : Int) := by omega
  have j1 : (c0.toNat : Int) < 224 := by omega
  have j2 : (s.size : Int) < 2 := by omega
  go_enter Tryd.func39, Tryd.ntmps39
  go_wp2
  all_goals go_ret2
  all_goals exact ⟨rfl, rfl⟩

set_option maxRecDepth 100000 in
set_option maxHeartbeats 1000000 in
theorem first_low21 (s : ByteArray) (w : World) (h0 : 1 < s.size) (hs : s.size ≤ 9223372036854775807) (c0 c1 : UInt8) (hc0 : s[0]'(by omega) = c0) (hc1 : s[1]'(by omega) = c1) (k0 : 192 ≤ c0.toNat) (k1 : c0.toNat < 224) (n : 2 ≤ s.size) (q : c1.toNat < 128) :
    Calls Tryd.prog 39 #[.string s] w fun e w' => e = .returned (.tuple #[.int .i64 (-1), .int .i64 1]) ∧ w = w' := by
  have hz0 : (0 : Int) < (s.size : Int) := by omega
  have hu0 : (c0.toNat : Int) < 256 := by have := c0.toNat_lt; omega
  have hz1 : (1 : Int) < (s.size : Int) := by omega
  have hu1 : (c1.toNat : Int) < 256 := by have := c1.toNat_lt; omega
  have j0 : 192 ≤ (c0.toNat : Int) := by omega
  have j1 : (c0.toNat : Int) < 224 := by omega
  have nz : (2 : Int) ≤ (s.size : Int) := by omega
  have qz : (c1.toNat : Int) < 128 := by omega
  go_enter Tryd.func39, Tryd.ntmps39
  go_wp2
  go_rounds 2
  all_goals go_ret2
  all_goals exact ⟨rfl, rfl⟩

set_option maxRecDepth 100000 in
set_option maxHeartbeats 1000000 in
theorem first_high21 (s : ByteArray) (w : World) (h0 : 1 < s.size) (hs : s.size ≤ 9223372036854775807) (c0 c1 : UInt8) (hc0 : s[0]'(by omega) = c0) (hc1 : s[1]'(by omega) = c1) (k0 : 192 ≤ c0.toNat) (k1 : c0.toNat < 224) (n : 2 ≤ s.size) (q : 191 < c1.toNat) :
    Calls Tryd.prog 39 #[.string s] w fun e w' => e = .returned (.tuple #[.int .i64 (-1), .int .i64 1]) ∧ w = w' := by
  have hz0 : (0 : Int) < (s.size : Int) := by omega
  have hu0 : (c0.toNat : Int) < 256 := by have := c0.toNat_lt; omega
  have hz1 : (1 : Int) < (s.size : Int) := by omega
  have hu1 : (c1.toNat : Int) < 256 := by have := c1.toNat_lt; omega
  have j0 : 192 ≤ (c0.toNat : Int) := by omega
  have j1 : (c0.toNat : Int) < 224 := by omega
  have nz : (2 : Int) ≤ (s.size : Int) := by omega
  have qz : (191 : Int) < (c1.toNat : Int) := by omega
  have qd : decide ((c1.toNat : Int) < 128) = false := by simp; omega
  go_enter Tryd.func39, Tryd.ntmps39
  go_wp2
  go_rounds 2
  all_goals go_ret2
  all_goals exact ⟨rfl, rfl⟩

set_option maxRecDepth 100000 in
set_option maxHeartbeats 1000000 in
theorem first_less2 (s : ByteArray) (w : World) (h0 : 1 < s.size) (hs : s.size ≤ 9223372036854775807) (c0 c1 : UInt8) (hc0 : s[0]'(by omega) = c0) (hc1 : s[1]'(by omega) = c1) (k0 : 192 ≤ c0.toNat) (k1 : c0.toNat < 224) (p1 : 128 ≤ c1.toNat) (r1 : c1.toNat ≤ 191) (v0 : (((c0.toNat : Int) - 192) * 64 + (c1.toNat : Int) - 128) < 128) :
    Calls Tryd.prog 39 #[.string s] w fun e w' => e = .returned (.tuple #[.int .i64 (-1), .int .i64 1]) ∧ w = w' := by
  have hz0 : (0 : Int) < (s.size : Int) := by omega
  have hu0 : (c0.toNat : Int) < 256 := by have := c0.toNat_lt; omega
  have hz1 : (1 : Int) < (s.size : Int) := by omega
  have hu1 : (c1.toNat : Int) < 256 := by have := c1.toNat_lt; omega
  have j0 : 192 ≤ (c0.toNat : Int) := by omega
  have j1 : (c0.toNat : Int) < 224 := by omega
  have nz : (2 : Int) ≤ (s.size : Int) := by omega
  have pz1 : (128 : Int) ≤ (c1.toNat : Int) := by omega
  have rz1 : (c1.toNat : Int) ≤ 191 := by omega
  go_enter Tryd.func39, Tryd.ntmps39
  go_wp2
  go_rounds 2
  all_goals go_ret2
  all_goals exact ⟨rfl, rfl⟩

set_option maxRecDepth 100000 in
set_option maxHeartbeats 1000000 in
theorem first_is2 (s : ByteArray) (w : World) (h0 : 1 < s.size) (hs : s.size ≤ 9223372036854775807) (c0 c1 : UInt8) (hc0 : s[0]'(by omega) = c0) (hc1 : s[1]'(by omega) = c1) (k0 : 192 ≤ c0.toNat) (k1 : c0.toNat < 224) (p1 : 128 ≤ c1.toNat) (r1 : c1.toNat ≤ 191) (v0 : 128 ≤ (((c0.toNat : Int) - 192) * 64 + (c1.toNat : Int) - 128)) :
    Calls Tryd.prog 39 #[.string s] w fun e w' => e = .returned (.tuple #[.int .i64 ((((c0.toNat : Int) - 192) * 64 + (c1.toNat : Int) - 128)), .int .i64 2]) ∧ w = w' := by
  have hz0 : (0 : Int) < (s.size : Int) := by omega
  have hu0 : (c0.toNat : Int) < 256 := by have := c0.toNat_lt; omega
  have hz1 : (1 : Int) < (s.size : Int) := by omega
  have hu1 : (c1.toNat : Int) < 256 := by have := c1.toNat_lt; omega
  have j0 : 192 ≤ (c0.toNat : Int) := by omega
  have j1 : (c0.toNat : Int) < 224 := by omega
  have nz : (2 : Int) ≤ (s.size : Int) := by omega
  have pz1 : (128 : Int) ≤ (c1.toNat : Int) := by omega
  have rz1 : (c1.toNat : Int) ≤ 191 := by omega
  go_enter Tryd.func39, Tryd.ntmps39
  go_wp2
  go_rounds 2
  all_goals go_ret2
  all_goals exact ⟨rfl, rfl⟩

set_option maxRecDepth 100000 in
set_option maxHeartbeats 1000000 in
theorem first_short3 (s : ByteArray) (w : World) (h0 : 0 < s.size) (hs : s.size ≤ 9223372036854775807) (c0 : UInt8) (hc0 : s[0]'(by omega) = c0) (k0 : 224 ≤ c0.toNat) (k1 : c0.toNat < 240) (k2 : s.size < 3) :
    Calls Tryd.prog 39 #[.string s] w fun e w' => e = .returned (.tuple #[.int .i64 (-1), .int .i64 1]) ∧ w = w' := by
  have hz0 : (0 : Int) < (s.size : Int) := by omega
  have hu0 : (c0.toNat : Int) < 256 := by have := c0.toNat_lt; omega
  have j0 : 224 ≤ (c0.toNat : Int) := by omega
  have j1 : (c0.toNat : Int) < 240 := by omega
  have j2 : (s.size : Int) < 3 := by omega
  go_enter Tryd.func39, Tryd.ntmps39
  go_wp2
  all_goals go_ret2
  all_goals exact ⟨rfl, rfl⟩

set_option maxRecDepth 100000 in
set_option maxHeartbeats 1000000 in
theorem first_low31 (s : ByteArray) (w : World) (h0 : 1 < s.size) (hs : s.size ≤ 9223372036854775807) (c0 c1 : UInt8) (hc0 : s[0]'(by omega) = c0) (hc1 : s[1]'(by omega) = c1) (k0 : 224 ≤ c0.toNat) (k1 : c0.toNat < 240) (n : 3 ≤ s.size) (q : c1.toNat < 128) :
    Calls Tryd.prog 39 #[.string s] w fun e w' => e = .returned (.tuple #[.int .i64 (-1), .int .i64 1]) ∧ w = w' := by
  have hz0 : (0 : Int) < (s.size : Int) := by omega
  have hu0 : (c0.toNat : Int) < 256 := by have := c0.toNat_lt; omega
  have hz1 : (1 : Int) < (s.size : Int) := by omega
  have hu1 : (c1.toNat : Int) < 256 := by have := c1.toNat_lt; omega
  have j0 : 224 ≤ (c0.toNat : Int) := by omega
  have j1 : (c0.toNat : Int) < 240 := by omega
  have nz : (3 : Int) ≤ (s.size : Int) := by omega
  have qz : (c1.toNat : Int) < 128 := by omega
  go_enter Tryd.func39, Tryd.ntmps39
  go_wp2
  go_rounds 3
  all_goals go_ret2
  all_goals exact ⟨rfl, rfl⟩

set_option maxRecDepth 100000 in
set_option maxHeartbeats 1000000 in
theorem first_high31 (s : ByteArray) (w : World) (h0 : 1 < s.size) (hs : s.size ≤ 9223372036854775807) (c0 c1 : UInt8) (hc0 : s[0]'(by omega) = c0) (hc1 : s[1]'(by omega) = c1) (k0 : 224 ≤ c0.toNat) (k1 : c0.toNat < 240) (n : 3 ≤ s.size) (q : 191 < c1.toNat) :
    Calls Tryd.prog 39 #[.string s] w fun e w' => e = .returned (.tuple #[.int .i64 (-1), .int .i64 1]) ∧ w = w' := by
  have hz0 : (0 : Int) < (s.size : Int) := by omega
  have hu0 : (c0.toNat : Int) < 256 := by have := c0.toNat_lt; omega
  have hz1 : (1 : Int) < (s.size : Int) := by omega
  have hu1 : (c1.toNat : Int) < 256 := by have := c1.toNat_lt; omega
  have j0 : 224 ≤ (c0.toNat : Int) := by omega
  have j1 : (c0.toNat : Int) < 240 := by omega
  have nz : (3 : Int) ≤ (s.size : Int) := by omega
  have qz : (191 : Int) < (c1.toNat : Int) := by omega
  have qd : decide ((c1.toNat : Int) < 128) = false := by simp; omega
  go_enter Tryd.func39, Tryd.ntmps39
  go_wp2
  go_rounds 3
  all_goals go_ret2
  all_goals exact ⟨rfl, rfl⟩

set_option maxRecDepth 100000 in
set_option maxHeartbeats 1000000 in
theorem first_low32 (s : ByteArray) (w : World) (h0 : 2 < s.size) (hs : s.size ≤ 9223372036854775807) (c0 c1 c2 : UInt8) (hc0 : s[0]'(by omega) = c0) (hc1 : s[1]'(by omega) = c1) (hc2 : s[2]'(by omega) = c2) (k0 : 224 ≤ c0.toNat) (k1 : c0.toNat < 240) (n : 3 ≤ s.size) (p1 : 128 ≤ c1.toNat) (r1 : c1.toNat ≤ 191) (q : c2.toNat < 128) :
    Calls Tryd.prog 39 #[.string s] w fun e w' => e = .returned (.tuple #[.int .i64 (-1), .int .i64 1]) ∧ w = w' := by
  have hz0 : (0 : Int) < (s.size : Int) := by omega
  have hu0 : (c0.toNat : Int) < 256 := by have := c0.toNat_lt; omega
  have hz1 : (1 : Int) < (s.size : Int) := by omega
  have hu1 : (c1.toNat : Int) < 256 := by have := c1.toNat_lt; omega
  have hz2 : (2 : Int) < (s.size : Int) := by omega
  have hu2 : (c2.toNat : Int) < 256 := by have := c2.toNat_lt; omega
  have j0 : 224 ≤ (c0.toNat : Int) := by omega
  have j1 : (c0.toNat : Int) < 240 := by omega
  have nz : (3 : Int) ≤ (s.size : Int) := by omega
  have pz1 : (128 : Int) ≤ (c1.toNat : Int) := by omega
  have rz1 : (c1.toNat : Int) ≤ 191 := by omega
  have qz : (c2.toNat : Int) < 128 := by omega
  go_enter Tryd.func39, Tryd.ntmps39
  go_wp2
  go_rounds 3
  all_goals go_ret2
  all_goals exact ⟨rfl, rfl⟩

set_option maxRecDepth 100000 in
set_option maxHeartbeats 1000000 in
theorem first_high32 (s : ByteArray) (w : World) (h0 : 2 < s.size) (hs : s.size ≤ 9223372036854775807) (c0 c1 c2 : UInt8) (hc0 : s[0]'(by omega) = c0) (hc1 : s[1]'(by omega) = c1) (hc2 : s[2]'(by omega) = c2) (k0 : 224 ≤ c0.toNat) (k1 : c0.toNat < 240) (n : 3 ≤ s.size) (p1 : 128 ≤ c1.toNat) (r1 : c1.toNat ≤ 191) (q : 191 < c2.toNat) :
    Calls Tryd.prog 39 #[.string s] w fun e w' => e = .returned (.tuple #[.int .i64 (-1), .int .i64 1]) ∧ w = w' := by
  have hz0 : (0 : Int) < (s.size : Int) := by omega
  have hu0 : (c0.toNat : Int) < 256 := by have := c0.toNat_lt; omega
  have hz1 : (1 : Int) < (s.size : Int) := by omega
  have hu1 : (c1.toNat : Int) < 256 := by have := c1.toNat_lt; omega
  have hz2 : (2 : Int) < (s.size : Int) := by omega
  have hu2 : (c2.toNat : Int) < 256 := by have := c2.toNat_lt; omega
  have j0 : 224 ≤ (c0.toNat : Int) := by omega
  have j1 : (c0.toNat : Int) < 240 := by omega
  have nz : (3 : Int) ≤ (s.size : Int) := by omega
  have pz1 : (128 : Int) ≤ (c1.toNat : Int) := by omega
  have rz1 : (c1.toNat : Int) ≤ 191 := by omega
  have qz : (191 : Int) < (c2.toNat : Int) := by omega
  have qd : decide ((c2.toNat : Int) < 128) = false := by simp; omega
  go_enter Tryd.func39, Tryd.ntmps39
  go_wp2
  go_rounds 3
  all_goals go_ret2
  all_goals exact ⟨rfl, rfl⟩

set_option maxRecDepth 100000 in
set_option maxHeartbeats 1000000 in
theorem first_less3 (s : ByteArray) (w : World) (h0 : 2 < s.size) (hs : s.size ≤ 9223372036854775807) (c0 c1 c2 : UInt8) (hc0 : s[0]'(by omega) = c0) (hc1 : s[1]'(by omega) = c1) (hc2 : s[2]'(by omega) = c2) (k0 : 224 ≤ c0.toNat) (k1 : c0.toNat < 240) (p1 : 128 ≤ c1.toNat) (r1 : c1.toNat ≤ 191) (p2 : 128 ≤ c2.toNat) (r2 : c2.toNat ≤ 191) (v0 : ((((c0.toNat : Int) - 224) * 64 + (c1.toNat : Int) - 128) * 64 + (c2.toNat : Int) - 128) < 2048) :
    Calls Tryd.prog 39 #[.string s] w fun e w' => e = .returned (.tuple #[.int .i64 (-1), .int .i64 1]) ∧ w = w' := by
  have hz0 : (0 : Int) < (s.size : Int) := by omega
  have hu0 : (c0.toNat : Int) < 256 := by have := c0.toNat_lt; omega
  have hz1 : (1 : Int) < (s.size : Int) := by omega
  have hu1 : (c1.toNat : Int) < 256 := by have := c1.toNat_lt; omega
  have hz2 : (2 : Int) < (s.size : Int) := by omega
  have hu2 : (c2.toNat : Int) < 256 := by have := c2.toNat_lt; omega
  have j0 : 224 ≤ (c0.toNat : Int) := by omega
  have j1 : (c0.toNat : Int) < 240 := by omega
  have nz : (3 : Int) ≤ (s.size : Int) := by omega
  have pz1 : (128 : Int) ≤ (c1.toNat : Int) := by omega
  have rz1 : (c1.toNat : Int) ≤ 191 := by omega
  have pz2 : (128 : Int) ≤ (c2.toNat : Int) := by omega
  have rz2 : (c2.toNat : Int) ≤ 191 := by omega
  go_enter Tryd.func39, Tryd.ntmps39
  go_wp2
  go_rounds 3
  all_goals go_ret2
  all_goals exact ⟨rfl, rfl⟩

set_option maxRecDepth 100000 in
set_option maxHeartbeats 1000000 in
theorem first_sur3 (s : ByteArray) (w : World) (h0 : 2 < s.size) (hs : s.size ≤ 9223372036854775807) (c0 c1 c2 : UInt8) (hc0 : s[0]'(by omega) = c0) (hc1 : s[1]'(by omega) = c1) (hc2 : s[2]'(by omega) = c2) (k0 : 224 ≤ c0.toNat) (k1 : c0.toNat < 240) (p1 : 128 ≤ c1.toNat) (r1 : c1.toNat ≤ 191) (p2 : 128 ≤ c2.toNat) (r2 : c2.toNat ≤ 191) (v0 : 55296 ≤ ((((c0.toNat : Int) - 224) * 64 + (c1.toNat : Int) - 128) * 64 + (c2.toNat : Int) - 128)) (v1 : ((((c0.toNat : Int) - 224) * 64 + (c1.toNat : Int) - 128) * 64 + (c2.toNat : Int) - 128) < 57344) :
    Calls Tryd.prog 39 #[.string s] w fun e w' => e = .returned (.tuple #[.int .i64 (-1), .int .i64 1]) ∧ w = w' := by
  have hz0 : (0 : Int) < (s.size : Int) := by omega
  have hu0 : (c0.toNat : Int) < 256 := by have := c0.toNat_lt; omega
  have hz1 : (1 : Int) < (s.size : Int) := by omega
  have hu1 : (c1.toNat : Int) < 256 := by have := c1.toNat_lt; omega
  have hz2 : (2 : Int) < (s.size : Int) := by omega
  have hu2 : (c2.toNat : Int) < 256 := by have := c2.toNat_lt; omega
  have j0 : 224 ≤ (c0.toNat : Int) := by omega
  have j1 : (c0.toNat : Int) < 240 := by omega
  have nz : (3 : Int) ≤ (s.size : Int) := by omega
  have pz1 : (128 : Int) ≤ (c1.toNat : Int) := by omega
  have rz1 : (c1.toNat : Int) ≤ 191 := by omega
  have pz2 : (128 : Int) ≤ (c2.toNat : Int) := by omega
  have rz2 : (c2.toNat : Int) ≤ 191 := by omega
  go_enter Tryd.func39, Tryd.ntmps39
  go_wp2
  go_rounds 3
  all_goals go_ret2
  all_goals exact ⟨rfl, rfl⟩

set_option maxRecDepth 100000 in
set_option maxHeartbeats 1000000 in
theorem first_is3a (s : ByteArray) (w : World) (h0 : 2 < s.size) (hs : s.size ≤ 9223372036854775807) (c0 c1 c2 : UInt8) (hc0 : s[0]'(by omega) = c0) (hc1 : s[1]'(by omega) = c1) (hc2 : s[2]'(by omega) = c2) (k0 : 224 ≤ c0.toNat) (k1 : c0.toNat < 240) (p1 : 128 ≤ c1.toNat) (r1 : c1.toNat ≤ 191) (p2 : 128 ≤ c2.toNat) (r2 : c2.toNat ≤ 191) (v0 : 2048 ≤ ((((c0.toNat : Int) - 224) * 64 + (c1.toNat : Int) - 128) * 64 + (c2.toNat : Int) - 128)) (v1 : ((((c0.toNat : Int) - 224) * 64 + (c1.toNat : Int) - 128) * 64 + (c2.toNat : Int) - 128) < 55296) :
    Calls Tryd.prog 39 #[.string s] w fun e w' => e = .returned (.tuple #[.int .i64 (((((c0.toNat : Int) - 224) * 64 + (c1.toNat : Int) - 128) * 64 + (c2.toNat : Int) - 128)), .int .i64 3]) ∧ w = w' := by
  have hz0 : (0 : Int) < (s.size : Int) := by omega
  have hu0 : (c0.toNat : Int) < 256 := by have := c0.toNat_lt; omega
  have hz1 : (1 : Int) < (s.size : Int) := by omega
  have hu1 : (c1.toNat : Int) < 256 := by have := c1.toNat_lt; omega
  have hz2 : (2 : Int) < (s.size : Int) := by omega
  have hu2 : (c2.toNat : Int) < 256 := by have := c2.toNat_lt; omega
  have j0 : 224 ≤ (c0.toNat : Int) := by omega
  have j1 : (c0.toNat : Int) < 240 := by omega
  have nz : (3 : Int) ≤ (s.size : Int) := by omega
  have pz1 : (128 : Int) ≤ (c1.toNat : Int) := by omega
  have rz1 : (c1.toNat : Int) ≤ 191 := by omega
  have pz2 : (128 : Int) ≤ (c2.toNat : Int) := by omega
  have rz2 : (c2.toNat : Int) ≤ 191 := by omega
  go_enter Tryd.func39, Tryd.ntmps39
  go_wp2
  go_rounds 3
  all_goals go_ret2
  all_goals exact ⟨rfl, rfl⟩

set_option maxRecDepth 100000 in
set_option maxHeartbeats 1000000 in
theorem first_is3b (s : ByteArray) (w : World) (h0 : 2 < s.size) (hs : s.size ≤ 9223372036854775807) (c0 c1 c2 : UInt8) (hc0 : s[0]'(by omega) = c0) (hc1 : s[1]'(by omega) = c1) (hc2 : s[2]'(by omega) = c2) (k0 : 224 ≤ c0.toNat) (k1 : c0.toNat < 240) (p1 : 128 ≤ c1.toNat) (r1 : c1.toNat ≤ 191) (p2 : 128 ≤ c2.toNat) (r2 : c2.toNat ≤ 191) (v0 : 57344 ≤ ((((c0.toNat : Int) - 224) * 64 + (c1.toNat : Int) - 128) * 64 + (c2.toNat : Int) - 128)) :
    Calls Tryd.prog 39 #[.string s] w fun e w' => e = .returned (.tuple #[.int .i64 (((((c0.toNat : Int) - 224) * 64 + (c1.toNat : Int) - 128) * 64 + (c2.toNat : Int) - 128)), .int .i64 3]) ∧ w = w' := by
  have hz0 : (0 : Int) < (s.size : Int) := by omega
  have hu0 : (c0.toNat : Int) < 256 := by have := c0.toNat_lt; omega
  have hz1 : (1 : Int) < (s.size : Int) := by omega
  have hu1 : (c1.toNat : Int) < 256 := by have := c1.toNat_lt; omega
  have hz2 : (2 : Int) < (s.size : Int) := by omega
  have hu2 : (c2.toNat : Int) < 256 := by have := c2.toNat_lt; omega
  have j0 : 224 ≤ (c0.toNat : Int) := by omega
  have j1 : (c0.toNat : Int) < 240 := by omega
  have nz : (3 : Int) ≤ (s.size : Int) := by omega
  have pz1 : (128 : Int) ≤ (c1.toNat : Int) := by omega
  have rz1 : (c1.toNat : Int) ≤ 191 := by omega
  have pz2 : (128 : Int) ≤ (c2.toNat : Int) := by omega
  have rz2 : (c2.toNat : Int) ≤ 191 := by omega
  go_enter Tryd.func39, Tryd.ntmps39
  go_wp2
  go_rounds 3
  all_goals go_ret2
  all_goals exact ⟨rfl, rfl⟩

set_option maxRecDepth 100000 in
set_option maxHeartbeats 1000000 in
theorem first_short4 (s : ByteArray) (w : World) (h0 : 0 < s.size) (hs : s.size ≤ 9223372036854775807) (c0 : UInt8) (hc0 : s[0]'(by omega) = c0) (k0 : 240 ≤ c0.toNat) (k1 : c0.toNat < 248) (k2 : s.size < 4) :
    Calls Tryd.prog 39 #[.string s] w fun e w' => e = .returned (.tuple #[.int .i64 (-1), .int .i64 1]) ∧ w = w' := by
  have hz0 : (0 : Int) < (s.size : Int) := by omega
  have hu0 : (c0.toNat : Int) < 256 := by have := c0.toNat_lt; omega
  have j0 : 240 ≤ (c0.toNat : Int) := by omega
  have j1 : (c0.toNat : Int) < 248 := by omega
  have j2 : (s.size : Int) < 4 := by omega
  go_enter Tryd.func39, Tryd.ntmps39
  go_wp2
  all_goals go_ret2
  all_goals exact ⟨rfl, rfl⟩

set_option maxRecDepth 100000 in
set_option maxHeartbeats 1000000 in
theorem first_low41 (s : ByteArray) (w : World) (h0 : 1 < s.size) (hs : s.size ≤ 9223372036854775807) (c0 c1 : UInt8) (hc0 : s[0]'(by omega) = c0) (hc1 : s[1]'(by omega) = c1) (k0 : 240 ≤ c0.toNat) (k1 : c0.toNat < 248) (n : 4 ≤ s.size) (q : c1.toNat < 128) :
    Calls Tryd.prog 39 #[.string s] w fun e w' => e = .returned (.tuple #[.int .i64 (-1), .int .i64 1]) ∧ w = w' := by
  have hz0 : (0 : Int) < (s.size : Int) := by omega
  have hu0 : (c0.toNat : Int) < 256 := by have := c0.toNat_lt; omega
  have hz1 : (1 : Int) < (s.size : Int) := by omega
  have hu1 : (c1.toNat : Int) < 256 := by have := c1.toNat_lt; omega
  have j0 : 240 ≤ (c0.toNat : Int) := by omega
  have j1 : (c0.toNat : Int) < 248 := by omega
  have nz : (4 : Int) ≤ (s.size : Int) := by omega
  have qz : (c1.toNat : Int) < 128 := by omega
  go_enter Tryd.func39, Tryd.ntmps39
  go_wp2
  go_rounds 4
  all_goals go_ret2
  all_goals exact ⟨rfl, rfl⟩

set_option maxRecDepth 100000 in
set_option maxHeartbeats 1000000 in
theorem first_high41 (s : ByteArray) (w : World) (h0 : 1 < s.size) (hs : s.size ≤ 9223372036854775807) (c0 c1 : UInt8) (hc0 : s[0]'(by omega) = c0) (hc1 : s[1]'(by omega) = c1) (k0 : 240 ≤ c0.toNat) (k1 : c0.toNat < 248) (n : 4 ≤ s.size) (q : 191 < c1.toNat) :
    Calls Tryd.prog 39 #[.string s] w fun e w' => e = .returned (.tuple #[.int .i64 (-1), .int .i64 1]) ∧ w = w' := by
  have hz0 : (0 : Int) < (s.size : Int) := by omega
  have hu0 : (c0.toNat : Int) < 256 := by have := c0.toNat_lt; omega
  have hz1 : (1 : Int) < (s.size : Int) := by omega
  have hu1 : (c1.toNat : Int) < 256 := by have := c1.toNat_lt; omega
  have j0 : 240 ≤ (c0.toNat : Int) := by omega
  have j1 : (c0.toNat : Int) < 248 := by omega
  have nz : (4 : Int) ≤ (s.size : Int) := by omega
  have qz : (191 : Int) < (c1.toNat : Int) := by omega
  have qd : decide ((c1.toNat : Int) < 128) = false := by simp; omega
  go_enter Tryd.func39, Tryd.ntmps39
  go_wp2
  go_rounds 4
  all_goals go_ret2
  all_goals exact ⟨rfl, rfl⟩

set_option maxRecDepth 100000 in
set_option maxHeartbeats 1000000 in
theorem first_low42 (s : ByteArray) (w : World) (h0 : 2 < s.size) (hs : s.size ≤ 9223372036854775807) (c0 c1 c2 : UInt8) (hc0 : s[0]'(by omega) = c0) (hc1 : s[1]'(by omega) = c1) (hc2 : s[2]'(by omega) = c2) (k0 : 240 ≤ c0.toNat) (k1 : c0.toNat < 248) (n : 4 ≤ s.size) (p1 : 128 ≤ c1.toNat) (r1 : c1.toNat ≤ 191) (q : c2.toNat < 128) :
    Calls Tryd.prog 39 #[.string s] w fun e w' => e = .returned (.tuple #[.int .i64 (-1), .int .i64 1]) ∧ w = w' := by
  have hz0 : (0 : Int) < (s.size : Int) := by omega
  have hu0 : (c0.toNat : Int) < 256 := by have := c0.toNat_lt; omega
  have hz1 : (1 : Int) < (s.size : Int) := by omega
  have hu1 : (c1.toNat : Int) < 256 := by have := c1.toNat_lt; omega
  have hz2 : (2 : Int) < (s.size : Int) := by omega
  have hu2 : (c2.toNat : Int) < 256 := by have := c2.toNat_lt; omega
  have j0 : 240 ≤ (c0.toNat : Int) := by omega
  have j1 : (c0.toNat : Int) < 248 := by omega
  have nz : (4 : Int) ≤ (s.size : Int) := by omega
  have pz1 : (128 : Int) ≤ (c1.toNat : Int) := by omega
  have rz1 : (c1.toNat : Int) ≤ 191 := by omega
  have qz : (c2.toNat : Int) < 128 := by omega
  go_enter Tryd.func39, Tryd.ntmps39
  go_wp2
  go_rounds 4
  all_goals go_ret2
  all_goals exact ⟨rfl, rfl⟩

set_option maxRecDepth 100000 in
set_option maxHeartbeats 1000000 in
theorem first_high42 (s : ByteArray) (w : World) (h0 : 2 < s.size) (hs : s.size ≤ 9223372036854775807) (c0 c1 c2 : UInt8) (hc0 : s[0]'(by omega) = c0) (hc1 : s[1]'(by omega) = c1) (hc2 : s[2]'(by omega) = c2) (k0 : 240 ≤ c0.toNat) (k1 : c0.toNat < 248) (n : 4 ≤ s.size) (p1 : 128 ≤ c1.toNat) (r1 : c1.toNat ≤ 191) (q : 191 < c2.toNat) :
    Calls Tryd.prog 39 #[.string s] w fun e w' => e = .returned (.tuple #[.int .i64 (-1), .int .i64 1]) ∧ w = w' := by
  have hz0 : (0 : Int) < (s.size : Int) := by omega
  have hu0 : (c0.toNat : Int) < 256 := by have := c0.toNat_lt; omega
  have hz1 : (1 : Int) < (s.size : Int) := by omega
  have hu1 : (c1.toNat : Int) < 256 := by have := c1.toNat_lt; omega
  have hz2 : (2 : Int) < (s.size : Int) := by omega
  have hu2 : (c2.toNat : Int) < 256 := by have := c2.toNat_lt; omega
  have j0 : 240 ≤ (c0.toNat : Int) := by omega
  have j1 : (c0.toNat : Int) < 248 := by omega
  have nz : (4 : Int) ≤ (s.size : Int) := by omega
  have pz1 : (128 : Int) ≤ (c1.toNat : Int) := by omega
  have rz1 : (c1.toNat : Int) ≤ 191 := by omega
  have qz : (191 : Int) < (c2.toNat : Int) := by omega
  have qd : decide ((c2.toNat : Int) < 128) = false := by simp; omega
  go_enter Tryd.func39, Tryd.ntmps39
  go_wp2
  go_rounds 4
  all_goals go_ret2
  all_goals exact ⟨rfl, rfl⟩

set_option maxRecDepth 100000 in
set_option maxHeartbeats 1000000 in
theorem first_low43 (s : ByteArray) (w : World) (h0 : 3 < s.size) (hs : s.size ≤ 9223372036854775807) (c0 c1 c2 c3 : UInt8) (hc0 : s[0]'(by omega) = c0) (hc1 : s[1]'(by omega) = c1) (hc2 : s[2]'(by omega) = c2) (hc3 : s[3]'(by omega) = c3) (k0 : 240 ≤ c0.toNat) (k1 : c0.toNat < 248) (n : 4 ≤ s.size) (p1 : 128 ≤ c1.toNat) (r1 : c1.toNat ≤ 191) (p2 : 128 ≤ c2.toNat) (r2 : c2.toNat ≤ 191) (q : c3.toNat < 128) :
    Calls Tryd.prog 39 #[.string s] w fun e w' => e = .returned (.tuple #[.int .i64 (-1), .int .i64 1]) ∧ w = w' := by
  have hz0 : (0 : Int) < (s.size : Int) := by omega
  have hu0 : (c0.toNat : Int) < 256 := by have := c0.toNat_lt; omega
  have hz1 : (1 : Int) < (s.size : Int) := by omega
  have hu1 : (c1.toNat : Int) < 256 := by have := c1.toNat_lt; omega
  have hz2 : (2 : Int) < (s.size : Int) := by omega
  have hu2 : (c2.toNat : Int) < 256 := by have := c2.toNat_lt; omega
  have hz3 : (3 : Int) < (s.size : Int) := by omega
  have hu3 : (c3.toNat : Int) < 256 := by have := c3.toNat_lt; omega
  have j0 : 240 ≤ (c0.toNat : Int) := by omega
  have j1 : (c0.toNat : Int) < 248 := by omega
  have nz : (4 : Int) ≤ (s.size : Int) := by omega
  have pz1 : (128 : Int) ≤ (c1.toNat : Int) := by omega
  have rz1 : (c1.toNat : Int) ≤ 191 := by omega
  have pz2 : (128 : Int) ≤ (c2.toNat : Int) := by omega
  have rz2 : (c2.toNat : Int) ≤ 191 := by omega
  have qz : (c3.toNat : Int) < 128 := by omega
  go_enter Tryd.func39, Tryd.ntmps39
  go_wp2
  go_rounds 4
  all_goals go_ret2
  all_goals exact ⟨rfl, rfl⟩

set_option maxRecDepth 100000 in
set_option maxHeartbeats 1000000 in
theorem first_high43 (s : ByteArray) (w : World) (h0 : 3 < s.size) (hs : s.size ≤ 9223372036854775807) (c0 c1 c2 c3 : UInt8) (hc0 : s[0]'(by omega) = c0) (hc1 : s[1]'(by omega) = c1) (hc2 : s[2]'(by omega) = c2) (hc3 : s[3]'(by omega) = c3) (k0 : 240 ≤ c0.toNat) (k1 : c0.toNat < 248) (n : 4 ≤ s.size) (p1 : 128 ≤ c1.toNat) (r1 : c1.toNat ≤ 191) (p2 : 128 ≤ c2.toNat) (r2 : c2.toNat ≤ 191) (q : 191 < c3.toNat) :
    Calls Tryd.prog 39 #[.string s] w fun e w' => e = .returned (.tuple #[.int .i64 (-1), .int .i64 1]) ∧ w = w' := by
  have hz0 : (0 : Int) < (s.size : Int) := by omega
  have hu0 : (c0.toNat : Int) < 256 := by have := c0.toNat_lt; omega
  have hz1 : (1 : Int) < (s.size : Int) := by omega
  have hu1 : (c1.toNat : Int) < 256 := by have := c1.toNat_lt; omega
  have hz2 : (2 : Int) < (s.size : Int) := by omega
  have hu2 : (c2.toNat : Int) < 256 := by have := c2.toNat_lt; omega
  have hz3 : (3 : Int) < (s.size : Int) := by omega
  have hu3 : (c3.toNat : Int) < 256 := by have := c3.toNat_lt; omega
  have j0 : 240 ≤ (c0.toNat : Int) := by omega
  have j1 : (c0.toNat : Int) < 248 := by omega
  have nz : (4 : Int) ≤ (s.size : Int) := by omega
  have pz1 : (128 : Int) ≤ (c1.toNat : Int) := by omega
  have rz1 : (c1.toNat : Int) ≤ 191 := by omega
  have pz2 : (128 : Int) ≤ (c2.toNat : Int) := by omega
  have rz2 : (c2.toNat : Int) ≤ 191 := by omega
  have qz : (191 : Int) < (c3.toNat : Int) := by omega
  have qd : decide ((c3.toNat : Int) < 128) = false := by simp; omega
  go_enter Tryd.func39, Tryd.ntmps39
  go_wp2
  go_rounds 4
  all_goals go_ret2
  all_goals exact ⟨rfl, rfl⟩

set_option maxRecDepth 100000 in
set_option maxHeartbeats 1000000 in
theorem first_less4 (s : ByteArray) (w : World) (h0 : 3 < s.size) (hs : s.size ≤ 9223372036854775807) (c0 c1 c2 c3 : UInt8) (hc0 : s[0]'(by omega) = c0) (hc1 : s[1]'(by omega) = c1) (hc2 : s[2]'(by omega) = c2) (hc3 : s[3]'(by omega) = c3) (k0 : 240 ≤ c0.toNat) (k1 : c0.toNat < 248) (p1 : 128 ≤ c1.toNat) (r1 : c1.toNat ≤ 191) (p2 : 128 ≤ c2.toNat) (r2 : c2.toNat ≤ 191) (p3 : 128 ≤ c3.toNat) (r3 : c3.toNat ≤ 191) (v0 : (((((c0.toNat : Int) - 240) * 64 + (c1.toNat : Int) - 128) * 64 + (c2.toNat : Int) - 128) * 64 + (c3.toNat : Int) - 128) < 65536) :
    Calls Tryd.prog 39 #[.string s] w fun e w' => e = .returned (.tuple #[.int .i64 (-1), .int .i64 1]) ∧ w = w' := by
  have hz0 : (0 : Int) < (s.size : Int) := by omega
  have hu0 : (c0.toNat : Int) < 256 := by have := c0.toNat_lt; omega
  have hz1 : (1 : Int) < (s.size : Int) := by omega
  have hu1 : (c1.toNat : Int) < 256 := by have := c1.toNat_lt; omega
  have hz2 : (2 : Int) < (s.size : Int) := by omega
  have hu2 : (c2.toNat : Int) < 256 := by have := c2.toNat_lt; omega
  have hz3 : (3 : Int) < (s.size : Int) := by omega
  have hu3 : (c3.toNat : Int) < 256 := by have := c3.toNat_lt; omega
  have j0 : 240 ≤ (c0.toNat : Int) := by omega
  have j1 : (c0.toNat : Int) < 248 := by omega
  have nz : (4 : Int) ≤ (s.size : Int) := by omega
  have pz1 : (128 : Int) ≤ (c1.toNat : Int) := by omega
  have rz1 : (c1.toNat : Int) ≤ 191 := by omega
  have pz2 : (128 : Int) ≤ (c2.toNat : Int) := by omega
  have rz2 : (c2.toNat : Int) ≤ 191 := by omega
  have pz3 : (128 : Int) ≤ (c3.toNat : Int) := by omega
  have rz3 : (c3.toNat : Int) ≤ 191 := by omega
  go_enter Tryd.func39, Tryd.ntmps39
  go_wp2
  go_rounds 4
  all_goals go_ret2
  all_goals exact ⟨rfl, rfl⟩

set_option maxRecDepth 100000 in
set_option maxHeartbeats 1000000 in
theorem first_more4 (s : ByteArray) (w : World) (h0 : 3 < s.size) (hs : s.size ≤ 9223372036854775807) (c0 c1 c2 c3 : UInt8) (hc0 : s[0]'(by omega) = c0) (hc1 : s[1]'(by omega) = c1) (hc2 : s[2]'(by omega) = c2) (hc3 : s[3]'(by omega) = c3) (k0 : 240 ≤ c0.toNat) (k1 : c0.toNat < 248) (p1 : 128 ≤ c1.toNat) (r1 : c1.toNat ≤ 191) (p2 : 128 ≤ c2.toNat) (r2 : c2.toNat ≤ 191) (p3 : 128 ≤ c3.toNat) (r3 : c3.toNat ≤ 191) (v0 : 1114111 < (((((c0.toNat : Int) - 240) * 64 + (c1.toNat : Int) - 128) * 64 + (c2.toNat : Int) - 128) * 64 + (c3.toNat : Int) - 128)) :
    Calls Tryd.prog 39 #[.string s] w fun e w' => e = .returned (.tuple #[.int .i64 (-1), .int .i64 1]) ∧ w = w' := by
  have hz0 : (0 : Int) < (s.size : Int) := by omega
  have hu0 : (c0.toNat : Int) < 256 := by have := c0.toNat_lt; omega
  have hz1 : (1 : Int) < (s.size : Int) := by omega
  have hu1 : (c1.toNat : Int) < 256 := by have := c1.toNat_lt; omega
  have hz2 : (2 : Int) < (s.size : Int) := by omega
  have hu2 : (c2.toNat : Int) < 256 := by have := c2.toNat_lt; omega
  have hz3 : (3 : Int) < (s.size : Int) := by omega
  have hu3 : (c3.toNat : Int) < 256 := by have := c3.toNat_lt; omega
  have j0 : 240 ≤ (c0.toNat : Int) := by omega
  have j1 : (c0.toNat : Int) < 248 := by omega
  have nz : (4 : Int) ≤ (s.size : Int) := by omega
  have pz1 : (128 : Int) ≤ (c1.toNat : Int) := by omega
  have rz1 : (c1.toNat : Int) ≤ 191 := by omega
  have pz2 : (128 : Int) ≤ (c2.toNat : Int) := by omega
  have rz2 : (c2.toNat : Int) ≤ 191 := by omega
  have pz3 : (128 : Int) ≤ (c3.toNat : Int) := by omega
  have rz3 : (c3.toNat : Int) ≤ 191 := by omega
  go_enter Tryd.func39, Tryd.ntmps39
  go_wp2
  go_rounds 4
  all_goals go_ret2
  all_goals exact ⟨rfl, rfl⟩

set_option maxRecDepth 100000 in
set_option maxHeartbeats 1000000 in
theorem first_is4 (s : ByteArray) (w : World) (h0 : 3 < s.size) (hs : s.size ≤ 9223372036854775807) (c0 c1 c2 c3 : UInt8) (hc0 : s[0]'(by omega) = c0) (hc1 : s[1]'(by omega) = c1) (hc2 : s[2]'(by omega) = c2) (hc3 : s[3]'(by omega) = c3) (k0 : 240 ≤ c0.toNat) (k1 : c0.toNat < 248) (p1 : 128 ≤ c1.toNat) (r1 : c1.toNat ≤ 191) (p2 : 128 ≤ c2.toNat) (r2 : c2.toNat ≤ 191) (p3 : 128 ≤ c3.toNat) (r3 : c3.toNat ≤ 191) (v0 : 65536 ≤ (((((c0.toNat : Int) - 240) * 64 + (c1.toNat : Int) - 128) * 64 + (c2.toNat : Int) - 128) * 64 + (c3.toNat : Int) - 128)) (v1 : (((((c0.toNat : Int) - 240) * 64 + (c1.toNat : Int) - 128) * 64 + (c2.toNat : Int) - 128) * 64 + (c3.toNat : Int) - 128) ≤ 1114111) :
    Calls Tryd.prog 39 #[.string s] w fun e w' => e = .returned (.tuple #[.int .i64 ((((((c0.toNat : Int) - 240) * 64 + (c1.toNat : Int) - 128) * 64 + (c2.toNat : Int) - 128) * 64 + (c3.toNat : Int) - 128)), .int .i64 4]) ∧ w = w' := by
  have hz0 : (0 : Int) < (s.size : Int) := by omega
  have hu0 : (c0.toNat : Int) < 256 := by have := c0.toNat_lt; omega
  have hz1 : (1 : Int) < (s.size : Int) := by omega
  have hu1 : (c1.toNat : Int) < 256 := by have := c1.toNat_lt; omega
  have hz2 : (2 : Int) < (s.size : Int) := by omega
  have hu2 : (c2.toNat : Int) < 256 := by have := c2.toNat_lt; omega
  have hz3 : (3 : Int) < (s.size : Int) := by omega
  have hu3 : (c3.toNat : Int) < 256 := by have := c3.toNat_lt; omega
  have j0 : 240 ≤ (c0.toNat : Int) := by omega
  have j1 : (c0.toNat : Int) < 248 := by omega
  have nz : (4 : Int) ≤ (s.size : Int) := by omega
  have pz1 : (128 : Int) ≤ (c1.toNat : Int) := by omega
  have rz1 : (c1.toNat : Int) ≤ 191 := by omega
  have pz2 : (128 : Int) ≤ (c2.toNat : Int) := by omega
  have rz2 : (c2.toNat : Int) ≤ 191 := by omega
  have pz3 : (128 : Int) ≤ (c3.toNat : Int) := by omega
  have rz3 : (c3.toNat : Int) ≤ 191 := by omega
  go_enter Tryd.func39, Tryd.ntmps39
  go_wp2
  go_rounds 4
  all_goals go_ret2
  all_goals exact ⟨rfl, rfl⟩
end Go.Proofs.YtcdgiailapcooaaDoor
