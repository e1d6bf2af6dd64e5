/- The first rune of a text, as the reference takes it, for every text that isn't empty. No conditions. -/
import Derived.Test.YtijffkklhgnknaaDoorMgRunes
import Derived.BigQuiet
import Derived.Deep.QuietTactic
set_option linter.unusedVariables false
namespace Go.Proofs.YtijffkklhgnknaaDoor
open Go.RowKit

set_option maxRecDepth 100000 in
set_option maxHeartbeats 1000000 in
theorem first_low (s : ByteArray) (w : World) (h0 : 0 < s.size) (hs : s.size ≤ 9223372036854775807) (c0 : UInt8) (hc0 : s[0]'(by omega) = c0) (k0 : c0.toNat < 128) :
    Calls Tryd.prog 73 #[.string s] w fun e w' => e = .returned (.tuple #[.int .i64 (c0.toNat), .int .i64 1]) ∧ w = w' := by
  have hz0 : (0 : Int) < (s.size : Int) := by omega
  have hu0 : (c0.toNat : Int) < 256 := by have := c0.toNat_lt; omega
  have j0 : (c0.toNat : Int) < 128 := by omega
  go_enter Tryd.func73, Tryd.ntmps73
  go_wp2
  all_goals go_ret2
  all_goals exact ⟨rfl, rfl⟩

set_option maxRecDepth 100000 in
set_option maxHeartbeats 1000000 in
theorem first_none1 (s : ByteArray) (w : World) (h0 : 0 < s.size) (hs : s.size ≤ 9223372036854775807) (c0 : UInt8) (hc0 : s[0]'(by omega) = c0) (k0 : 128 ≤ c0.toNat) (k1 : c0.toNat < 192) :
    Calls Tryd.prog 73 #[.string s] w fun e w' => e = .returned (.tuple #[.int .i64 (-1), .int .i64 1]) ∧ w = w' := by
  have hz0 : (0 : Int) < (s.size : Int) := by omega
  have hu0 : (c0.toNat : Int) < 256 := by have := c0.toNat_lt; omega
  have j0 : ¬ (c0.toNat : Int) < 128 := by omega
  have j1 : decide (192 ≤ (c0.toNat : Int)) = false := by simp; omega
  have j2 : decide (224 ≤ (c0.toNat : Int)) = false := by simp; omega
  have j3 : decide (240 ≤ (c0.toNat : Int)) = false := by simp; omega
  go_enter Tryd.func73, Tryd.ntmps73
  go_wp2
  all_goals go_ret2
  all_goals exact ⟨rfl, rfl⟩

set_option maxRecDepth 100000 in
set_option maxHeartbeats 1000000 in
theorem first_none2 (s : ByteArray) (w : World) (h0 : 0 < s.size) (hs : s.size ≤ 9223372036854775807) (c0 : UInt8) (hc0 : s[0]'(by omega) = c0) (k0 : 248 ≤ c0.toNat) :
    Calls Tryd.prog 73 #[.string s] w fun e w' => e = .returned (.tuple #[.int .i64 (-1), .int .i64 1]) ∧ w = w' := by
  have hz0 : (0 : Int) < (s.size : Int) := by omega
  have hu0 : (c0.toNat : Int) < 256 := by have := c0.toNat_lt; omega
  have j0 : 248 ≤ (c0.toNat : Int) := by omega
  go_enter Tryd.func73, Tryd.ntmps73
  go_wp2
  all_goals go_ret2
  all_goals exact ⟨rfl, rfl⟩

set_option maxRecDepth 100000 in
set_option maxHeartbeats 1000000 in
theorem first_short2 (s : ByteArray) (w : World) (h0 : 0 < s.size) (hs : s.size ≤ 9223372036854775807) (c0 : UInt8) (hc0 : s[0]'(by omega) = c0) (k0 : 192 ≤ c0.toNat) (k1 : c0.toNat < 224) (k2 : s.size < 2) :
    Calls Tryd.prog 73 #[.string s] w fun e w' => e = .returned (.tuple #[.int .i64 (-1), .int .i64 1]) ∧ w = w' := by
  have hz0 : (0 : Int) < (s.size : Int) := by omega
  have hu0 : (c0.toNat : Int) < 256 := by have := c0.toNat_lt; omega
  have j0 : 192 ≤ (c0.toNat : Int) := by omega
  have j1 : (c0.toNat : Int) < 224 := by omega
  have j2 : (s.size : Int) < 2 := by omega
  go_enter Tryd.func73, Tryd.ntmps73
  go_wp2
  all_goals go_ret2
  all_goals exact ⟨rfl, rfl⟩

set_option maxRecDepth 100000 in
set_option maxHeartbeats 1000000 in
theorem first_low21 (s : ByteArray) (w : World) (h0 : 1 < s.size) (hs : s.size ≤ 9223372036854775807) (c0 c1 : UInt8) (hc0 : s[0]'(by omega) = c0) (hc1 : s[1]'(by omega) = c1) (k0 : 192 ≤ c0.toNat) (k1 : c0.toNat < 224) (n : 2 ≤ s.size) (q : c1.toNat < 128) :
    Calls Tryd.prog 73 #[.string s] w fun e w' => e = .returned (.tuple #[.int .i64 (-1), .int .i64 1]) ∧ w = w' := by
  have hz0 : (0 : Int) < (s.size : Int) := by omega
  have hu0 : (c0.toNat : Int) < 256 := by have := c0.toNat_lt; omega
  have hz1 : (1 : Int) < (s.size : Int) := by omega
  have hu1 : (c1.toNat : Int) < 256 := by have := c1.toNat_lt; omega
  have j0 : 192 ≤ (c0.toNat : Int) := by omega
  have j1 : (c0.toNat : Int) < 224 := by omega
  have nz : (2 : Int) ≤ (s.size : Int) := by omega
  have qz : (c1.toNat : Int) < 128 := by omega
  go_enter Tryd.func73, Tryd.ntmps73
  go_wp2
  go_rounds 2
  all_goals go_ret2
  all_goals exact ⟨rfl, rfl⟩

set_option maxRecDepth 100000 in
set_option maxHeartbeats 1000000 in
theorem first_high21 (s : ByteArray) (w : World) (h0 : 1 < s.size) (hs : s.size ≤ 9223372036854775807) (c0 c1 : UInt8) (hc0 : s[0]'(by omega) = c0) (hc1 : s[1]'(by omega) = c1) (k0 : 192 ≤ c0.toNat) (k1 : c0.toNat < 224) (n : 2 ≤ s.size) (q : 191 < c1.toNat) :
    Calls Tryd.prog 73 #[.string s] w fun e w' => e = .returned (.tuple #[.int .i64 (-1), .int .i64 1]) ∧ w = w' := by
  have hz0 : (0 : Int) < (s.size : Int) := by omega
  have hu0 : (c0.toNat : Int) < 256 := by have := c0.toNat_lt; omega
  have hz1 : (1 : Int) < (s.size : Int) := by omega
  have hu1 : (c1.toNat : Int) < 256 := by have := c1.toNat_lt; omega
  have j0 : 192 ≤ (c0.toNat : Int) := by omega
  have j1 : (c0.toNat : Int) < 224 := by omega
  have nz : (2 : Int) ≤ (s.size : Int) := by omega
  have qz : (191 : Int) < (c1.toNat : Int) := by omega
  have qd : decide ((c1.toNat : Int) < 128) = false := by simp; omega
  go_enter Tryd.func73, Tryd.ntmps73
  go_wp2
  go_rounds 2
  all_goals go_ret2
  all_goals exact ⟨rfl, rfl⟩

set_option maxRecDepth 100000 in
set_option maxHeartbeats 1000000 in
theorem first_less2 (s : ByteArray) (w : World) (h0 : 1 < s.size) (hs : s.size ≤ 9223372036854775807) (c0 c1 : UInt8) (hc0 : s[0]'(by omega) = c0) (hc1 : s[1]'(by omega) = c1) (k0 : 192 ≤ c0.toNat) (k1 : c0.toNat < 224) (p1 : 128 ≤ c1.toNat) (r1 : c1.toNat ≤ 191) (v0 : (((c0.toNat : Int) - 192) * 64 + (c1.toNat : Int) - 128) < 128) :
    Calls Tryd.prog 73 #[.string s] w fun e w' => e = .returned (.tuple #[.int .i64 (-1), .int .i64 1]) ∧ w = w' := by
  have hz0 : (0 : Int) < (s.size : Int) := by omega
  have hu0 : (c0.toNat : Int) < 256 := by have := c0.toNat_lt; omega
  have hz1 : (1 : Int) < (s.size : Int) := by omega
  have hu1 : (c1.toNat : Int) < 256 := by have := c1.toNat_lt; omega
  have j0 : 192 ≤ (c0.toNat : Int) := by omega
  have j1 : (c0.toNat : Int) < 224 := by omega
  have nz : (2 : Int) ≤ (s.size : Int) := by omega
  have pz1 : (128 : Int) ≤ (c1.toNat : Int) := by omega
  have rz1 : (c1.toNat : Int) ≤ 191 := by omega
  go_enter Tryd.func73, Tryd.ntmps73
  go_wp2
  go_rounds 2
  all_goals go_ret2
  all_goals exact ⟨rfl, rfl⟩

set_option maxRecDepth 100000 in
set_option maxHeartbeats 1000000 in
theorem first_is2 (s : ByteArray) (w : World) (h0 : 1 < s.size) (hs : s.size ≤ 9223372036854775807) (c0 c1 : UInt8) (hc0 : s[0]'(by omega) = c0) (hc1 : s[1]'(by omega) = c1) (k0 : 192 ≤ c0.toNat) (k1 : c0.toNat < 224) (p1 : 128 ≤ c1.toNat) (r1 : c1.toNat ≤ 191) (v0 : 128 ≤ (((c0.toNat : Int) - 192) * 64 + (c1.toNat : Int) - 128)) :
    Calls Tryd.prog 73 #[.string s] w fun e w' => e = .returned (.tuple #[.int .i64 ((((c0.toNat : Int) - 192) * 64 + (c1.toNat : Int) - 128)), .int .i64 2]) ∧ w = w' := by
  have hz0 : (0 : Int) < (s.size : Int) := by omega
  have hu0 : (c0.toNat : Int) < 256 := by have := c0.toNat_lt; omega
  have hz1 : (1 : Int) < (s.size : Int) := by omega
  have hu1 : (c1.toNat : Int) < 256 := by have := c1.toNat_lt; omega
  have j0 : 192 ≤ (c0.toNat : Int) := by omega
  have j1 : (c0.toNat : Int) < 224 := by omega
  have nz : (2 : Int) ≤ (s.size : Int) := by omega
  have pz1 : (128 : Int) ≤ (c1.toNat : Int) := by omega
  have rz1 : (c1.toNat : Int) ≤ 191 := by omega
  go_enter Tryd.func73, Tryd.ntmps73
  go_wp2
  go_rounds 2
  all_goals go_ret2
  all_goals exact ⟨rfl, rfl⟩

set_option maxRecDepth 100000 in
set_option maxHeartbeats 1000000 in
theorem first_short3 (s : ByteArray) (w : World) (h0 : 0 < s.size) (hs : s.size ≤ 9223372036854775807) (c0 : UInt8) (hc0 : s[0]'(by omega) = c0) (k0 : 224 ≤ c0.toNat) (k1 : c0.toNat < 240) (k2 : s.size < 3) :
    Calls Tryd.prog 73 #[.string s] w fun e w' => e = .returned (.tuple #[.int .i64 (-1), .int .i64 1]) ∧ w = w' := by
  have hz0 : (0 : Int) < (s.size : Int) := by omega
  have hu0 : (c0.toNat : Int) < 256 := by have := c0.toNat_lt; omega
  have j0 : 224 ≤ (c0.toNat : Int) := by omega
  have j1 : (c0.toNat : Int) < 240 := by omega
  have j2 : (s.size : Int) < 3 := by omega
  go_enter Tryd.func73, Tryd.ntmps73
  go_wp2
  all_goals go_ret2
  all_goals exact ⟨rfl, rfl⟩

set_option maxRecDepth 100000 in
set_option maxHeartbeats 1000000 in
theorem first_low31 (s : ByteArray) (w : World) (h0 : 1 < s.size) (hs : s.size ≤ 9223372036854775807) (c0 c1 : UInt8) (hc0 : s[0]'(by omega) = c0) (hc1 : s[1]'(by omega) = c1) (k0 : 224 ≤ c0.toNat) (k1 : c0.toNat < 240) (n : 3 ≤ s.size) (q : c1.toNat < 128) :
    Calls Tryd.prog 73 #[.string s] w fun e w' => e = .returned (.tuple #[.int .i64 (-1), .int .i64 1]) ∧ w = w' := by
  have hz0 : (0 : Int) < (s.size : Int) := by omega
  have hu0 : (c0.toNat : Int) < 256 := by have := c0.toNat_lt; omega
  have hz1 : (1 : Int) < (s.size : Int) := by omega
  have hu1 : (c1.toNat : Int) < 256 := by have := c1.toNat_lt; omega
  have j0 : 224 ≤ (c0.toNat : Int) := by omega
  have j1 : (c0.toNat : Int) < 240 := by omega
  have nz : (3 : Int) ≤ (s.size : Int) := by omega
  have qz : (c1.toNat : Int) < 128 := by omega
  go_enter Tryd.func73, Tryd.ntmps73
  go_wp2
  go_rounds 3
  all_goals go_ret2
  all_goals exact ⟨rfl, rfl⟩

set_option maxRecDepth 100000 in
set_option maxHeartbeats 1000000 in
theorem first_high31 (s : ByteArray) (w : World) (h0 : 1 < s.size) (hs : s.size ≤ 9223372036854775807) (c0 c1 : UInt8) (hc0 : s[0]'(by omega) = c0) (hc1 : s[1]'(by omega) = c1) (k0 : 224 ≤ c0.toNat) (k1 : c0.toNat < 240) (n : 3 ≤ s.size) (q : 191 < c1.toNat) :
    Calls Tryd.prog 73 #[.string s] w fun e w' => e = .returned (.tuple #[.int .i64 (-1), .int .i64 1]) ∧ w = w' := by
  have hz0 : (0 : Int) < (s.size : Int) := by omega
  have hu0 : (c0.toNat : Int) < 256 := by have := c0.toNat_lt; omega
  have hz1 : (1 : Int) < (s.size : Int) := by omega
  have hu1 : (c1.toNat : Int) < 256 := by have := c1.toNat_lt; omega
  have j0 : 224 ≤ (c0.toNat : Int) := by omega
  have j1 : (c0.toNat : Int) < 240 := by omega
  have nz : (3 : Int) ≤ (s.size : Int) := by omega
  have qz : (191 : Int) < (c1.toNat : Int) := by omega
  have qd : decide ((c1.toNat : Int) < 128) = false := by simp; omega
  go_enter Tryd.func73, Tryd.ntmps73
  go_wp2
  go_rounds 3
  all_goals go_ret2
  all_goals exact ⟨rfl, rfl⟩

set_option maxRecDepth 100000 in
set_option maxHeartbeats 1000000 in
theorem first_low32 (s : ByteArray) (w : World) (h0 : 2 < s.size) (hs : s.size ≤ 9223372036854775807) (c0 c1 c2 : UInt8) (hc0 : s[0]'(by omega) = c0) (hc1 : s[1]'(by omega) = c1) (hc2 : s[2]'(by omega) = c2) (k0 : 224 ≤ c0.toNat) (k1 : c0.toNat < 240) (n : 3 ≤ s.size) (p1 : 128 ≤ c1.toNat) (r1 : c1.toNat ≤ 191) (q : c2.toNat < 128) :
    Calls Tryd.prog 73 #[.string s] w fun e w' => e = .returned (.tuple #[.int .i64 (-1), .int .i64 1]) ∧ w = w' := by
  have hz0 : (0 : Int) < (s.size : Int) := by omega
  have hu0 : (c0.toNat : Int) < 256 := by have := c0.toNat_lt; omega
  have hz1 : (1 : Int) < (s.size : Int) := by omega
  have hu1 : (c1.toNat : Int) < 256 := by have := c1.toNat_lt; omega
  have hz2 : (2 : Int) < (s.size : Int) := by omega
  have hu2 : (c2.toNat : Int) < 256 := by have := c2.toNat_lt; omega
  have j0 : 224 ≤ (c0.toNat : Int) := by omega
  have j1 : (c0.toNat : Int) < 240 := by omega
  have nz : (3 : Int) ≤ (s.size : Int) := by omega
  have pz1 : (128 : Int) ≤ (c1.toNat : Int) := by omega
  have rz1 : (c1.toNat : Int) ≤ 191 := by omega
  have qz : (c2.toNat : Int) < 128 := by omega
  go_enter Tryd.func73, Tryd.ntmps73
  go_wp2
  go_rounds 3
  all_goals go_ret2
  all_goals exact ⟨rfl, rfl⟩

set_option maxRecDepth 100000 in
set_option maxHeartbeats 1000000 in
theorem first_high32 (s : ByteArray) (w : World) (h0 : 2 < s.size) (hs : s.size ≤ 9223372036854775807) (c0 c1 c2 : UInt8) (hc0 : s[0]'(by omega) = c0) (hc1 : s[1]'(by omega) = c1) (hc2 : s[2]'(by omega) = c2) (k0 : 224 ≤ c0.toNat) (k1 : c0.toNat < 240) (n : 3 ≤ s.size) (p1 : 128 ≤ c1.toNat) (r1 : c1.toNat ≤ 191) (q : 191 < c2.toNat) :
    Calls Tryd.prog 73 #[.string s] w fun e w' => e = .returned (.tuple #[.int .i64 (-1), .int .i64 1]) ∧ w = w' := by
  have hz0 : (0 : Int) < (s.size : Int) := by omega
  have hu0 : (c0.toNat : Int) < 256 := by have := c0.toNat_lt; omega
  have hz1 : (1 : Int) < (s.size : Int) := by omega
  have hu1 : (c1.toNat : Int) < 256 := by have := c1.toNat_lt; omega
  have hz2 : (2 : Int) < (s.size : Int) := by omega
  have hu2 : (c2.toNat : Int) < 256 := by have := c2.toNat_lt; omega
  have j0 : 224 ≤ (c0.toNat : Int) := by omega
  have j1 : (c0.toNat : Int) < 240 := by omega
  have nz : (3 : Int) ≤ (s.size : Int) := by omega
  have pz1 : (128 : Int) ≤ (c1.toNat : Int) := by omega
  have rz1 : (c1.toNat : Int) ≤ 191 := by omega
  have qz : (191 : Int) < (c2.toNat : Int) := by omega
  have qd : decide ((c2.toNat : Int) < 128) = false := by simp; omega
  go_enter Tryd.func73, Tryd.ntmps73
  go_wp2
  go_rounds 3
  all_goals go_ret2
  all_goals exact ⟨rfl, rfl⟩

set_option maxRecDepth 100000 in
set_option maxHeartbeats 1000000 in
theorem first_less3 (s : ByteArray) (w : World) (h0 : 2 < s.size) (hs : s.size ≤ 9223372036854775807) (c0 c1 c2 : UInt8) (hc0 : s[0]'(by omega) = c0) (hc1 : s[1]'(by omega) = c1) (hc2 : s[2]'(by omega) = c2) (k0 : 224 ≤ c0.toNat) (k1 : c0.toNat < 240) (p1 : 128 ≤ c1.toNat) (r1 : c1.toNat ≤ 191) (p2 : 128 ≤ c2.toNat) (r2 : c2.toNat ≤ 191) (v0 : ((((c0.toNat : Int) - 224) * 64 + (c1.toNat : Int) - 128) * 64 + (c2.toNat : Int) - 128) < 2048) :
    Calls Tryd.prog 73 #[.string s] w fun e w' => e = .returned (.tuple #[.int .i64 (-1), .int .i64 1]) ∧ w = w' := by
  have hz0 : (0 : Int) < (s.size : Int) := by omega
  have hu0 : (c0.toNat : Int) < 256 := by have := c0.toNat_lt; omega
  have hz1 : (1 : Int) < (s.size : Int) := by omega
  have hu1 : (c1.toNat : Int) < 256 := by have := c1.toNat_lt; omega
  have hz2 : (2 : Int) < (s.size : Int) := by omega
  have hu2 : (c2.toNat : Int) < 256 := by have := c2.toNat_lt; omega
  have j0 : 224 ≤ (c0.toNat : Int) := by omega
  have j1 : (c0.toNat : Int) < 240 := by omega
  have nz : (3 : Int) ≤ (s.size : Int) := by omega
  have pz1 : (128 : Int) ≤ (c1.toNat : Int) := by omega
  have rz1 : (c1.toNat : Int) ≤ 191 := by omega
  have pz2 : (128 : Int) ≤ (c2.toNat : Int) := by omega
  have rz2 : (c2.toNat : Int) ≤ 191 := by omega
  go_enter Tryd.func73, Tryd.ntmps73
  go_wp2
  go_rounds 3
  all_goals go_ret2
  all_goals exact ⟨rfl, rfl⟩

set_option maxRecDepth 100000 in
set_option maxHeartbeats 1000000 in
theorem first_sur3 (s : ByteArray) (w : World) (h0 : 2 < s.size) (hs : s.size ≤ 9223372036854775807) (c0 c1 c2 : UInt8) (hc0 : s[0]'(by omega) = c0) (hc1 : s[1]'(by omega) = c1) (hc2 : s[2]'(by omega) = c2) (k0 : 224 ≤ c0.toNat) (k1 : c0.toNat < 240) (p1 : 128 ≤ c1.toNat) (r1 : c1.toNat ≤ 191) (p2 : 128 ≤ c2.toNat) (r2 : c2.toNat ≤ 191) (v0 : 55296 ≤ ((((c0.toNat : Int) - 224) * 64 + (c1.toNat : Int) - 128) * 64 + (c2.toNat : Int) - 128)) (v1 : ((((c0.toNat : Int) - 224) * 64 + (c1.toNat : Int) - 128) * 64 + (c2.toNat : Int) - 128) < 57344) :
    Calls Tryd.prog 73 #[.string s] w fun e w' => e = .returned (.tuple #[.int .i64 (-1), .int .i64 1]) ∧ w = w' := by
  have hz0 : (0 : Int) < (s.size : Int) := by omega
  have hu0 : (c0.toNat : Int) < 256 := by have := c0.toNat_lt; omega
  have hz1 : (1 : Int) < (s.size : Int) := by omega
  have hu1 : (c1.toNat : Int) < 256 := by have := c1.toNat_lt; omega
  have hz2 : (2 : Int) < (s.size : Int) := by omega
  have hu2 : (c2.toNat : Int) < 256 := by have := c2.toNat_lt; omega
  have j0 : 224 ≤ (c0.toNat : Int) := by omega
  have j1 : (c0.toNat : Int) < 240 := by omega
  have nz : (3 : Int) ≤ (s.size : Int) := by omega
  have pz1 : (128 : Int) ≤ (c1.toNat : Int) := by omega
  have rz1 : (c1.toNat : Int) ≤ 191 := by omega
  have pz2 : (128 : Int) ≤ (c2.toNat : Int) := by omega
  have rz2 : (c2.toNat : Int) ≤ 191 := by omega
  go_enter Tryd.func73, Tryd.ntmps73
  go_wp2
  go_rounds 3
  all_goals go_ret2
  all_goals exact ⟨rfl, rfl⟩

set_option maxRecDepth 100000 in
set_option maxHeartbeats 1000000 in
theorem first_is3a (s : ByteArray) (w : World) (h0 : 2 < s.size) (hs : s.size ≤ 9223372036854775807) (c0 c1 c2 : UInt8) (hc0 : s[0]'(by omega) = c0) (hc1 : s[1]'(by omega) = c1) (hc2 : s[2]'(by omega) = c2) (k0 : 224 ≤ c0.toNat) (k1 : c0.toNat < 240) (p1 : 128 ≤ c1.toNat) (r1 : c1.toNat ≤ 191) (p2 : 128 ≤ c2.toNat) (r2 : c2.toNat ≤ 191) (v0 : 2048 ≤ ((((c0.toNat : Int) - 224) * 64 + (c1.toNat : Int) - 128) * 64 + (c2.toNat : Int) - 128)) (v1 : ((((c0.toNat : Int) - 224) * 64 + (c1.toNat : Int) - 128) * 64 + (c2.toNat : Int) - 128) < 55296) :
    Calls Tryd.prog 73 #[.string s] w fun e w' => e = .returned (.tuple #[.int .i64 (((((c0.toNat : Int) - 224) * 64 + (c1.toNat : Int) - 128) * 64 + (c2.toNat : Int) - 128)), .int .i64 3]) ∧ w = w' := by
  have hz0 : (0 : Int) < (s.size : Int) := by omega
  have hu0 : (c0.toNat : Int) < 256 := by have := c0.toNat_lt; omega
  have hz1 : (1 : Int) < (s.size : Int) := by omega
  have hu1 : (c1.toNat : Int) < 256 := by have := c1.toNat_lt; omega
  have hz2 : (2 : Int) < (s.size : Int) := by omega
  have hu2 : (c2.toNat : Int) < 256 := by have := c2.toNat_lt; omega
  have j0 : 224 ≤ (c0.toNat : Int) := by omega
  have j1 : (c0.toNat : Int) < 240 := by omega
  have nz : (3 : Int) ≤ (s.size : Int) := by omega
  have pz1 : (128 : Int) ≤ (c1.toNat : Int) := by omega
  have rz1 : (c1.toNat : Int) ≤ 191 := by omega
  have pz2 : (128 : Int) ≤ (c2.toNat : Int) := by omega
  have rz2 : (c2.toNat : Int) ≤ 191 := by omega
  go_enter Tryd.func73, Tryd.ntmps73
  go_wp2
  go_rounds 3
  all_goals go_ret2
  all_goals exact ⟨rfl, rfl⟩

set_option maxRecDepth 100000 in
set_option maxHeartbeats 1000000 in
theorem first_is3b (s : ByteArray) (w : World) (h0 : 2 < s.size) (hs : s.size ≤ 9223372036854775807) (c0 c1 c2 : UInt8) (hc0 : s[0]'(by omega) = c0) (hc1 : s[1]'(by omega) = c1) (hc2 : s[2]'(by omega) = c2) (k0 : 224 ≤ c0.toNat) (k1 : c0.toNat < 240) (p1 : 128 ≤ c1.toNat) (r1 : c1.toNat ≤ 191) (p2 : 128 ≤ c2.toNat) (r2 : c2.toNat ≤ 191) (v0 : 57344 ≤ ((((c0.toNat : Int) - 224) * 64 + (c1.toNat : Int) - 128) * 64 + (c2.toNat : Int) - 128)) :
    Calls Tryd.prog 73 #[.string s] w fun e w' => e = .returned (.tuple #[.int .i64 (((((c0.toNat : Int) - 224) * 64 + (c1.toNat : Int) - 128) * 64 + (c2.toNat : Int) - 128)), .int .i64 3]) ∧ w = w' := by
  have hz0 : (0 : Int) < (s.size : Int) := by omega
  have hu0 : (c0.toNat : Int) < 256 := by have := c0.toNat_lt; omega
  have hz1 : (1 : Int) < (s.size : Int) := by omega
  have hu1 : (c1.toNat : Int) < 256 := by have := c1.toNat_lt; omega
  have hz2 : (2 : Int) < (s.size : Int) := by omega
  have hu2 : (c2.toNat : Int) < 256 := by have := c2.toNat_lt; omega
  have j0 : 224 ≤ (c0.toNat : Int) := by omega
  have j1 : (c0.toNat : Int) < 240 := by omega
  have nz : (3 : Int) ≤ (s.size : Int) := by omega
  have pz1 : (128 : Int) ≤ (c1.toNat : Int) := by omega
  have rz1 : (c1.toNat : Int) ≤ 191 := by omega
  have pz2 : (128 : Int) ≤ (c2.toNat : Int) := by omega
  have rz2 : (c2.toNat : Int) ≤ 191 := by omega
  go_enter Tryd.func73, Tryd.ntmps73
  go_wp2
  go_rounds 3
  all_goals go_ret2
  all_goals exact ⟨rfl, rfl⟩

set_option maxRecDepth 100000 in
set_option maxHeartbeats 1000000 in
theorem first_short4 (s : ByteArray) (w : World) (h0 : 0 < s.size) (hs : s.size ≤ 9223372036854775807) (c0 : UInt8) (hc0 : s[0]'(by omega) = c0) (k0 : 240 ≤ c0.toNat) (k1 : c0.toNat < 248) (k2 : s.size < 4) :
    Calls Tryd.prog 73 #[.string s] w fun e w' => e = .returned (.tuple #[.int .i64 (-1), .int .i64 1]) ∧ w = w' := by
  have hz0 : (0 : Int) < (s.size : Int) := by omega
  have hu0 : (c0.toNat : Int) < 256 := by have := c0.toNat_lt; omega
  have j0 : 240 ≤ (c0.toNat : Int) := by omega
  have j1 : (c0.toNat : Int) < 248 := by omega
  have j2 : (s.size : Int) < 4 := by omega
  go_enter Tryd.func73, Tryd.ntmps73
  go_wp2
  all_goals go_ret2
  all_goals exact ⟨rfl, rfl⟩

set_option maxRecDepth 100000 in
set_option maxHeartbeats 1000000 in
theorem first_low41 (s : ByteArray) (w : World) (h0 : 1 < s.size) (hs : s.size ≤ 9223372036854775807) (c0 c1 : UInt8) (hc0 : s[0]'(by omega) = c0) (hc1 : s[1]'(by omega) = c1) (k0 : 240 ≤ c0.toNat) (k1 : c0.toNat < 248) (n : 4 ≤ s.size) (q : c1.toNat < 128) :
    Calls Tryd.prog 73 #[.string s] w fun e w' => e = .returned (.tuple #[.int .i64 (-1), .int .i64 1]) ∧ w = w' := by
  have hz0 : (0 : Int) < (s.size : Int) := by omega
  have hu0 : (c0.toNat : Int) < 256 := by have := c0.toNat_lt; omega
  have hz1 : (1 : Int) < (s.size : Int) := by omega
  have hu1 : (c1.toNat : Int) < 256 := by have := c1.toNat_lt; omega
  have j0 : 240 ≤ (c0.toNat : Int) := by omega
  have j1 : (c0.toNat : Int) < 248 := by omega
  have nz : (4 : Int) ≤ (s.size : Int) := by omega
  have qz : (c1.toNat : Int) < 128 := by omega
  go_enter Tryd.func73, Tryd.ntmps73
  go_wp2
  go_rounds 4
  all_goals go_ret2
  all_goals exact ⟨rfl, rfl⟩

set_option maxRecDepth 100000 in
set_option maxHeartbeats 1000000 in
theorem first_high41 (s : ByteArray) (w : World) (h0 : 1 < s.size) (hs : s.size ≤ 9223372036854775807) (c0 c1 : UInt8) (hc0 : s[0]'(by omega) = c0) (hc1 : s[1]'(by omega) = c1) (k0 : 240 ≤ c0.toNat) (k1 : c0.toNat < 248) (n : 4 ≤ s.size) (q : 191 < c1.toNat) :
    Calls Tryd.prog 73 #[.string s] w fun e w' => e = .returned (.tuple #[.int .i64 (-1), .int .i64 1]) ∧ w = w' := by
  have hz0 : (0 : Int) < (s.size : Int) := by omega
  have hu0 : (c0.toNat : Int) < 256 := by have := c0.toNat_lt; omega
  have hz1 : (1 : Int) < (s.size : Int) := by omega
  have hu1 : (c1.toNat : Int) < 256 := by have := c1.toNat_lt; omega
  have j0 : 240 ≤ (c0.toNat : Int) := by omega
  have j1 : (c0.toNat : Int) < 248 := by omega
  have nz : (4 : Int) ≤ (s.size : Int) := by omega
  have qz : (191 : Int) < (c1.toNat : Int) := by omega
  have qd : decide ((c1.toNat : Int) < 128) = false := by simp; omega
  go_enter Tryd.func73, Tryd.ntmps73
  go_wp2
  go_rounds 4
  all_goals go_ret2
  all_goals exact ⟨rfl, rfl⟩

set_option maxRecDepth 100000 in
set_option maxHeartbeats 1000000 in
theorem first_low42 (s : ByteArray) (w : World) (h0 : 2 < s.size) (hs : s.size ≤ 9223372036854775807) (c0 c1 c2 : UInt8) (hc0 : s[0]'(by omega) = c0) (hc1 : s[1]'(by omega) = c1) (hc2 : s[2]'(by omega) = c2) (k0 : 240 ≤ c0.toNat) (k1 : c0.toNat < 248) (n : 4 ≤ s.size) (p1 : 128 ≤ c1.toNat) (r1 : c1.toNat ≤ 191) (q : c2.toNat < 128) :
    Calls Tryd.prog 73 #[.string s] w fun e w' => e = .returned (.tuple #[.int .i64 (-1), .int .i64 1]) ∧ w = w' := by
  have hz0 : (0 : Int) < (s.size : Int) := by omega
  have hu0 : (c0.toNat : Int) < 256 := by have := c0.toNat_lt; omega
  have hz1 : (1 : Int) < (s.size : Int) := by omega
  have hu1 : (c1.toNat : Int) < 256 := by have := c1.toNat_lt; omega
  have hz2 : (2 : Int) < (s.size : Int) := by omega
  have hu2 : (c2.toNat : Int) < 256 := by have := c2.toNat_lt; omega
  have j0 : 240 ≤ (c0.toNat : Int) := by omega
  have j1 : (c0.toNat : Int) < 248 := by omega
  have nz : (4 : Int) ≤ (s.size : Int) := by omega
  have pz1 : (128 : Int) ≤ (c1.toNat : Int) := by omega
  have rz1 : (c1.toNat : Int) ≤ 191 := by omega
  have qz : (c2.toNat : Int) < 128 := by omega
  go_enter Tryd.func73, Tryd.ntmps73
  go_wp2
  go_rounds 4
  all_goals go_ret2
  all_goals exact ⟨rfl, rfl⟩

set_option maxRecDepth 100000 in
set_option maxHeartbeats 1000000 in
theorem first_high42 (s : ByteArray) (w : World) (h0 : 2 < s.size) (hs : s.size ≤ 9223372036854775807) (c0 c1 c2 : UInt8) (hc0 : s[0]'(by omega) = c0) (hc1 : s[1]'(by omega) = c1) (hc2 : s[2]'(by omega) = c2) (k0 : 240 ≤ c0.toNat) (k1 : c0.toNat < 248) (n : 4 ≤ s.size) (p1 : 128 ≤ c1.toNat) (r1 : c1.toNat ≤ 191) (q : 191 < c2.toNat) :
    Calls Tryd.prog 73 #[.string s] w fun e w' => e = .returned (.tuple #[.int .i64 (-1), .int .i64 1]) ∧ w = w' := by
  have hz0 : (0 : Int) < (s.size : Int) := by omega
  have hu0 : (c0.toNat : Int) < 256 := by have := c0.toNat_lt; omega
  have hz1 : (1 : Int) < (s.size : Int) := by omega
  have hu1 : (c1.toNat : Int) < 256 := by have := c1.toNat_lt; omega
  have hz2 : (2 : Int) < (s.size : Int) := by omega
  have hu2 : (c2.toNat : Int) < 256 := by have := c2.toNat_lt; omega
  have j0 : 240 ≤ (c0.toNat : Int) := by omega
  have j1 : (c0.toNat : Int) < 248 := by omega
  have nz : (4 : Int) ≤ (s.size : Int) := by omega
  have pz1 : (128 : Int) ≤ (c1.toNat : Int) := by omega
  have rz1 : (c1.toNat : Int) ≤ 191 := by omega
  have qz : (191 : Int) < (c2.toNat : Int) := by omega
  have qd : decide ((c2.toNat : Int) < 128) = false := by simp; omega
  go_enter Tryd.func73, Tryd.ntmps73
  go_wp2
  go_rounds 4
  all_goals go_ret2
  all_goals exact ⟨rfl, rfl⟩

set_option maxRecDepth 100000 in
set_option maxHeartbeats 1000000 in
theorem first_low43 (s : ByteArray) (w : World) (h0 : 3 < s.size) (hs : s.size ≤ 9223372036854775807) (c0 c1 c2 c3 : UInt8) (hc0 : s[0]'(by omega) = c0) (hc1 : s[1]'(by omega) = c1) (hc2 : s[2]'(by omega) = c2) (hc3 : s[3]'(by omega) = c3) (k0 : 240 ≤ c0.toNat) (k1 : c0.toNat < 248) (n : 4 ≤ s.size) (p1 : 128 ≤ c1.toNat) (r1 : c1.toNat ≤ 191) (p2 : 128 ≤ c2.toNat) (r2 : c2.toNat ≤ 191) (q : c3.toNat < 128) :
    Calls Tryd.prog 73 #[.string s] w fun e w' => e = .returned (.tuple #[.int .i64 (-1), .int .i64 1]) ∧ w = w' := by
  have hz0 : (0 : Int) < (s.size : Int) := by omega
  have hu0 : (c0.toNat : Int) < 256 := by have := c0.toNat_lt; omega
  have hz1 : (1 : Int) < (s.size : Int) := by omega
  have hu1 : (c1.toNat : Int) < 256 := by have := c1.toNat_lt; omega
  have hz2 : (2 : Int) < (s.size : Int) := by omega
  have hu2 : (c2.toNat : Int) < 256 := by have := c2.toNat_lt; omega
  have hz3 : (3 : Int) < (s.size : Int) := by omega
  have hu3 : (c3.toNat : Int) < 256 := by have := c3.toNat_lt; omega
  have j0 : 240 ≤ (c0.toNat : Int) := by omega
  have j1 : (c0.toNat : Int) < 248 := by omega
  have nz : (4 : Int) ≤ (s.size : Int) := by omega
  have pz1 : (128 : Int) ≤ (c1.toNat : Int) := by omega
  have rz1 : (c1.toNat : Int) ≤ 191 := by omega
  have pz2 : (128 : Int) ≤ (c2.toNat : Int) := by omega
  have rz2 : (c2.toNat : Int) ≤ 191 := by omega
  have qz : (c3.toNat : Int) < 128 := by omega
  go_enter Tryd.func73, Tryd.ntmps73
  go_wp2
  go_rounds 4
  all_goals go_ret2
  all_goals exact ⟨rfl, rfl⟩

set_option maxRecDepth 100000 in
set_option maxHeartbeats 1000000 in
theorem first_high43 (s : ByteArray) (w : World) (h0 : 3 < s.size) (hs : s.size ≤ 9223372036854775807) (c0 c1 c2 c3 : UInt8) (hc0 : s[0]'(by omega) = c0) (hc1 : s[1]'(by omega) = c1) (hc2 : s[2]'(by omega) = c2) (hc3 : s[3]'(by omega) = c3) (k0 : 240 ≤ c0.toNat) (k1 : c0.toNat < 248) (n : 4 ≤ s.size) (p1 : 128 ≤ c1.toNat) (r1 : c1.toNat ≤ 191) (p2 : 128 ≤ c2.toNat) (r2 : c2.toNat ≤ 191) (q : 191 < c3.toNat) :
    Calls Tryd.prog 73 #[.string s] w fun e w' => e = .returned (.tuple #[.int .i64 (-1), .int .i64 1]) ∧ w = w' := by
  have hz0 : (0 : Int) < (s.size : Int) := by omega
  have hu0 : (c0.toNat : Int) < 256 := by have := c0.toNat_lt; omega
  have hz1 : (1 : Int) < (s.size : Int) := by omega
  have hu1 : (c1.toNat : Int) < 256 := by have := c1.toNat_lt; omega
  have hz2 : (2 : Int) < (s.size : Int) := by omega
  have hu2 : (c2.toNat : Int) < 256 := by have := c2.toNat_lt; omega
  have hz3 : (3 : Int) < (s.size : Int) := by omega
  have hu3 : (c3.toNat : Int) < 256 := by have := c3.toNat_lt; omega
  have j0 : 240 ≤ (c0.toNat : Int) := by omega
  have j1 : (c0.toNat : Int) < 248 := by omega
  have nz : (4 : Int) ≤ (s.size : Int) := by omega
  have pz1 : (128 : Int) ≤ (c1.toNat : Int) := by omega
  have rz1 : (c1.toNat : Int) ≤ 191 := by omega
  have pz2 : (128 : Int) ≤ (c2.toNat : Int) := by omega
  have rz2 : (c2.toNat : Int) ≤ 191 := by omega
  have qz : (191 : Int) < (c3.toNat : Int) := by omega
  have qd : decide ((c3.toNat : Int) < 128) = false := by simp; omega
  go_enter Tryd.func73, Tryd.ntmps73
  go_wp2
  go_rounds 4
  all_goals go_ret2
  all_goals exact ⟨rfl, rfl⟩

set_option maxRecDepth 100000 in
set_option maxHeartbeats 1000000 in
theorem first_less4 (s : ByteArray) (w : World) (h0 : 3 < s.size) (hs : s.size ≤ 9223372036854775807) (c0 c1 c2 c3 : UInt8) (hc0 : s[0]'(by omega) = c0) (hc1 : s[1]'(by omega) = c1) (hc2 : s[2]'(by omega) = c2) (hc3 : s[3]'(by omega) = c3) (k0 : 240 ≤ c0.toNat) (k1 : c0.toNat < 248) (p1 : 128 ≤ c1.toNat) (r1 : c1.toNat ≤ 191) (p2 : 128 ≤ c2.toNat) (r2 : c2.toNat ≤ 191) (p3 : 128 ≤ c3.toNat) (r3 : c3.toNat ≤ 191) (v0 : (((((c0.toNat : Int) - 240) * 64 + (c1.toNat : Int) - 128) * 64 + (c2.toNat : Int) - 128) * 64 + (c3.toNat : Int) - 128) < 65536) :
    Calls Tryd.prog 73 #[.string s] w fun e w' => e = .returned (.tuple #[.int .i64 (-1), .int .i64 1]) ∧ w = w' := by
  have hz0 : (0 : Int) < (s.size : Int) := by omega
  have hu0 : (c0.toNat : Int) < 256 := by have := c0.toNat_lt; omega
  have hz1 : (1 : Int) < (s.size : Int) := by omega
  have hu1 : (c1.toNat : Int) < 256 := by have := c1.toNat_lt; omega
  have hz2 : (2 : Int) < (s.size : Int) := by omega
  have hu2 : (c2.toNat : Int) < 256 := by have := c2.toNat_lt; omega
  have hz3 : (3 : Int) < (s.size : Int) := by omega
  have hu3 : (c3.toNat : Int) < 256 := by have := c3.toNat_lt; omega
  have j0 : 240 ≤ (c0.toNat : Int) := by omega
  have j1 : (c0.toNat : Int) < 248 := by omega
  have nz : (4 : Int) ≤ (s.size : Int) := by omega
  have pz1 : (128 : Int) ≤ (c1.toNat : Int) := by omega
  have rz1 : (c1.toNat : Int) ≤ 191 := by omega
  have pz2 : (128 : Int) ≤ (c2.toNat : Int) := by omega
  have rz2 : (c2.toNat : Int) ≤ 191 := by omega
  have pz3 : (128 : Int) ≤ (c3.toNat : Int) := by omega
  have rz3 : (c3.toNat : Int) ≤ 191 := by omega
  go_enter Tryd.func73, Tryd.ntmps73
  go_wp2
  go_rounds 4
  all_goals go_ret2
  all_goals exact ⟨rfl, rfl⟩

set_option maxRecDepth 100000 in
set_option maxHeartbeats 1000000 in
theorem first_more4 (s : ByteArray) (w : World) (h0 : 3 < s.size) (hs : s.size ≤ 9223372036854775807) (c0 c1 c2 c3 : UInt8) (hc0 : s[0]'(by omega) = c0) (hc1 : s[1]'(by omega) = c1) (hc2 : s[2]'(by omega) = c2) (hc3 : s[3]'(by omega) = c3) (k0 : 240 ≤ c0.toNat) (k1 : c0.toNat < 248) (p1 : 128 ≤ c1.toNat) (r1 : c1.toNat ≤ 191) (p2 : 128 ≤ c2.toNat) (r2 : c2.toNat ≤ 191) (p3 : 128 ≤ c3.toNat) (r3 : c3.toNat ≤ 191) (v0 : 1114111 < (((((c0.toNat : Int) - 240) * 64 + (c1.toNat : Int) - 128) * 64 + (c2.toNat : Int) - 128) * 64 + (c3.toNat : Int) - 128)) :
    Calls Tryd.prog 73 #[.string s] w fun e w' => e = .returned (.tuple #[.int .i64 (-1), .int .i64 1]) ∧ w = w' := by
  have hz0 : (0 : Int) < (s.size : Int) := by omega
  have hu0 : (c0.toNat : Int) < 256 := by have := c0.toNat_lt; omega
  have hz1 : (1 : Int) < (s.size : Int) := by omega
  have hu1 : (c1.toNat : Int) < 256 := by have := c1.toNat_lt; omega
  have hz2 : (2 : Int) < (s.size : Int) := by omega
  have hu2 : (c2.toNat : Int) < 256 := by have := c2.toNat_lt; omega
  have hz3 : (3 : Int) < (s.size : Int) := by omega
  have hu3 : (c3.toNat : Int) < 256 := by have := c3.toNat_lt; omega
  have j0 : 240 ≤ (c0.toNat : Int) := by omega
  have j1 : (c0.toNat : Int) < 248 := by omega
  have nz : (4 : Int) ≤ (s.size : Int) := by omega
  have pz1 : (128 : Int) ≤ (c1.toNat : Int) := by omega
  have rz1 : (c1.toNat : Int) ≤ 191 := by omega
  have pz2 : (128 : Int) ≤ (c2.toNat : Int) := by omega
  have rz2 : (c2.toNat : Int) ≤ 191 := by omega
  have pz3 : (128 : Int) ≤ (c3.toNat : Int) := by omega
  have rz3 : (c3.toNat : Int) ≤ 191 := by omega
  go_enter Tryd.func73, Tryd.ntmps73
  go_wp2
  go_rounds 4
  all_goals go_ret2
  all_goals exact ⟨rfl, rfl⟩

set_option maxRecDepth 100000 in
set_option maxHeartbeats 1000000 in
theorem first_is4 (s : ByteArray) (w : World) (h0 : 3 < s.size) (hs : s.size ≤ 9223372036854775807) (c0 c1 c2 c3 : UInt8) (hc0 : s[0]'(by omega) = c0) (hc1 : s[1]'(by omega) = c1) (hc2 : s[2]'(by omega) = c2) (hc3 : s[3]'(by omega) = c3) (k0 : 240 ≤ c0.toNat) (k1 : c0.toNat < 248) (p1 : 128 ≤ c1.toNat) (r1 : c1.toNat ≤ 191) (p2 : 128 ≤ c2.toNat) (r2 : c2.toNat ≤ 191) (p3 : 128 ≤ c3.toNat) (r3 : c3.toNat ≤ 191) (v0 : 65536 ≤ (((((c0.toNat : Int) - 240) * 64 + (c1.toNat : Int) - 128) * 64 + (c2.toNat : Int) - 128) * 64 + (c3.toNat : Int) - 128)) (v1 : (((((c0.toNat : Int) - 240) * 64 + (c1.toNat : Int) - 128) * 64 + (c2.toNat : Int) - 128) * 64 + (c3.toNat : Int) - 128) ≤ 1114111) :
    Calls Tryd.prog 73 #[.string s] w fun e w' => e = .returned (.tuple #[.int .i64 ((((((c0.toNat : Int) - 240) * 64 + (c1.toNat : Int) - 128) * 64 + (c2.toNat : Int) - 128) * 64 + (c3.toNat : Int) - 128)), .int .i64 4]) ∧ w = w' := by
  have hz0 : (0 : Int) < (s.size : Int) := by omega
  have hu0 : (c0.toNat : Int) < 256 := by have := c0.toNat_lt; omega
  have hz1 : (1 : Int) < (s.size : Int) := by omega
  have hu1 : (c1.toNat : Int) < 256 := by have := c1.toNat_lt; omega
  have hz2 : (2 : Int) < (s.size : Int) := by omega
  have hu2 : (c2.toNat : Int) < 256 := by have := c2.toNat_lt; omega
  have hz3 : (3 : Int) < (s.size : Int) := by omega
  have hu3 : (c3.toNat : Int) < 256 := by have := c3.toNat_lt; omega
  have j0 : 240 ≤ (c0.toNat : Int) := by omega
  have j1 : (c0.toNat : Int) < 248 := by omega
  have nz : (4 : Int) ≤ (s.size : Int) := by omega
  have pz1 : (128 : Int) ≤ (c1.toNat : Int) := by omega
  have rz1 : (c1.toNat : Int) ≤ 191 := by omega
  have pz2 : (128 : Int) ≤ (c2.toNat : Int) := by omega
  have rz2 : (c2.toNat : Int) ≤ 191 := by omega
  have pz3 : (128 : Int) ≤ (c3.toNat : Int) := by omega
  have rz3 : (c3.toNat : Int) ≤ 191 := by omega
  go_enter Tryd.func73, Tryd.ntmps73
  go_wp2
  go_rounds 4
  all_goals go_ret2
  all_goals exact ⟨rfl, rfl⟩
end Go.Proofs.YtijffkklhgnknaaDoor
/- The first rune by its bytes: the ranges that the reference goes by are those of the decoder. Plain, no conditions. -/
set_option linter.unusedVariables false
namespace Go.Proofs.YtijffkklhgnknaaDoor

/-- The first rune and its width, by the first four bytes and how many there are. -/
def goF (n b0 b1 b2 b3 : Nat) : Int × Nat :=
  if b0 < 128 then (b0, 1)
  else if b0 < 192 ∨ 248 ≤ b0 then (-1, 1)
  else if b0 < 224 then (if n < 2 ∨ b1 < 128 ∨ 191 < b1 ∨ (b0 - 192) * 64 + b1 - 128 < 128 then (-1, 1) else (((b0 - 192) * 64 + b1 - 128 : Nat), 2))
  else if b0 < 240 then (if n < 3 ∨ b1 < 128 ∨ 191 < b1 ∨ b2 < 128 ∨ 191 < b2 ∨ ((b0 - 224) * 64 + b1 - 128) * 64 + b2 - 128 < 2048 ∨ (55296 ≤ ((b0 - 224) * 64 + b1 - 128) * 64 + b2 - 128 ∧ ((b0 - 224) * 64 + b1 - 128) * 64 + b2 - 128 < 57344) then (-1, 1) else ((((b0 - 224) * 64 + b1 - 128) * 64 + b2 - 128 : Nat), 3))
  else (if n < 4 ∨ b1 < 128 ∨ 191 < b1 ∨ b2 < 128 ∨ 191 < b2 ∨ b3 < 128 ∨ 191 < b3 ∨ (((b0 - 240) * 64 + b1 - 128) * 64 + b2 - 128) * 64 + b3 - 128 < 65536 ∨ 1114111 < (((b0 - 240) * 64 + b1 - 128) * 64 + b2 - 128) * 64 + b3 - 128 then (-1, 1) else (((((b0 - 240) * 64 + b1 - 128) * 64 + b2 - 128) * 64 + b3 - 128 : Nat), 4))

set_option maxRecDepth 100000 in
set_option maxHeartbeats 4000000 in
theorem goF_eq (n b0 b1 b2 b3 : Nat) (h0 : b0 < 256) (h1 : b1 < 256) (h2 : b2 < 256) (h3 : b3 < 256) :
    goF n b0 b1 b2 b3 = if Lib.decodeN n b0 b1 b2 b3 = (65533, 1) then ((-1 : Int), 1) else (((Lib.decodeN n b0 b1 b2 b3).1 : Int), (Lib.decodeN n b0 b1 b2 b3).2) := by
  by_cases k0 : b0 < 128
  · have e : Lib.decodeN n b0 b1 b2 b3 = (b0, 1) := Lib.decodeN_ascii n b0 b1 b2 b3 k0
    rw [e]
    unfold goF
    rw [if_pos k0, if_neg (by intro e; injection e; omega)]
  by_cases k1 : b0 < 192 ∨ 248 ≤ b0
  · have e : Lib.decodeN n b0 b1 b2 b3 = (65533, 1) := by
      unfold Lib.decodeN
      rw [if_neg k0, if_neg (by omega), if_neg (by omega), if_neg (by omega)]
    rw [if_pos e]
    unfold goF
    rw [if_neg k0, if_pos k1]
  by_cases k2 : b0 < 224
  · unfold goF
    rw [if_neg k0, if_neg k1, if_pos k2]
    by_cases q : n < 2 ∨ b1 < 128 ∨ 191 < b1 ∨ (b0 - 192) * 64 + b1 - 128 < 128
    · have e : Lib.decodeN n b0 b1 b2 b3 = (65533, 1) := by
        unfold Lib.decodeN
        rw [if_neg k0]
        by_cases p : b0 / 32 = 6 ∧ (1 < n ∧ b1 / 64 = 2)
        · rw [if_pos p, if_neg (by omega)]
        · rw [if_neg p, if_neg (by omega), if_neg (by omega)]
      rw [if_pos q, if_pos e]
    · have e : Lib.decodeN n b0 b1 b2 b3 = (b0 % 32 * 64 + b1 % 64, 2) := by
        unfold Lib.decodeN
        rw [if_neg k0, if_pos (by omega), if_pos (by omega)]
      rw [if_neg q, e, if_neg (by intro e; injection e; omega)]
      apply Prod.ext
      · show ((_ : Nat) : Int) = ((_ : Nat) : Int)
        omega
      · rfl
  by_cases k3 : b0 < 240
  · unfold goF
    rw [if_neg k0, if_neg k1, if_neg k2, if_pos k3]
    by_cases q : n < 3 ∨ b1 < 128 ∨ 191 < b1 ∨ b2 < 128 ∨ 191 < b2 ∨ ((b0 - 224) * 64 + b1 - 128) * 64 + b2 - 128 < 2048 ∨ (55296 ≤ ((b0 - 224) * 64 + b1 - 128) * 64 + b2 - 128 ∧ ((b0 - 224) * 64 + b1 - 128) * 64 + b2 - 128 < 57344)
    · have e : Lib.decodeN n b0 b1 b2 b3 = (65533, 1) := by
        unfold Lib.decodeN
        rw [if_neg k0, if_neg (by omega)]
        by_cases p : b0 / 16 = 14 ∧ (1 < n ∧ b1 / 64 = 2) ∧ (2 < n ∧ b2 / 64 = 2)
        · rw [if_pos p, if_neg (by omega)]
        · rw [if_neg p, if_neg (by omega)]
      rw [if_pos q, if_pos e]
    · have e : Lib.decodeN n b0 b1 b2 b3 = (b0 % 16 * 4096 + b1 % 64 * 64 + b2 % 64, 3) := by
        unfold Lib.decodeN
        rw [if_neg k0, if_neg (by omega), if_pos (by omega), if_pos (by omega)]
      rw [if_neg q, e, if_neg (by intro e; injection e; omega)]
      apply Prod.ext
      · show ((_ : Nat) : Int) = ((_ : Nat) : Int)
        omega
      · rfl
  · unfold goF
    rw [if_neg k0, if_neg k1, if_neg k2, if_neg k3]
    by_cases q : n < 4 ∨ b1 < 128 ∨ 191 < b1 ∨ b2 < 128 ∨ 191 < b2 ∨ b3 < 128 ∨ 191 < b3 ∨ (((b0 - 240) * 64 + b1 - 128) * 64 + b2 - 128) * 64 + b3 - 128 < 65536 ∨ 1114111 < (((b0 - 240) * 64 + b1 - 128) * 64 + b2 - 128) * 64 + b3 - 128
    · have e : Lib.decodeN n b0 b1 b2 b3 = (65533, 1) := by
        unfold Lib.decodeN
        rw [if_neg k0, if_neg (by omega), if_neg (by omega)]
        by_cases p : b0 / 8 = 30 ∧ (1 < n ∧ b1 / 64 = 2) ∧ (2 < n ∧ b2 / 64 = 2) ∧ (3 < n ∧ b3 / 64 = 2)
        · rw [if_pos p, if_neg (by omega)]
        · rw [if_neg p]
      rw [if_pos q, if_pos e]
    · have e : Lib.decodeN n b0 b1 b2 b3 = (b0 % 8 * 262144 + b1 % 64 * 4096 + b2 % 64 * 64 + b3 % 64, 4) := by
        unfold Lib.decodeN
        rw [if_neg k0, if_neg (by omega), if_neg (by omega), if_pos (by omega), if_pos (by omega)]
      rw [if_neg q, e, if_neg (by intro e; injection e; omega)]
      apply Prod.ext
      · show ((_ : Nat) : Int) = ((_ : Nat) : Int)
        omega
      · rfl
theorem fst_goF (l : List UInt8) : fst l = goF l.length (l.getD 0 0).toNat (l.getD 1 0).toNat (l.getD 2 0).toNat (l.getD 3 0).toNat := by
  unfold fst
  rw [Lib.decodeL_N, goF_eq _ _ _ _ _ (UInt8.toNat_lt _) (UInt8.toNat_lt _) (UInt8.toNat_lt _) (UInt8.toNat_lt _)]
end Go.Proofs.YtijffkklhgnknaaDoor
/- Runes, names and order by the reference's functions, for every text of at most 2^40 bytes. No other conditions. -/
set_option linter.unusedVariables false
namespace Go.Proofs.YtijffkklhgnknaaDoor
open Go.RowKit

theorem gd (s : ByteArray) (k : Nat) (h : k < s.size) : s.data.toList.getD k 0 = s[k] := by
  have hl : k < s.data.toList.length := by rw [← Lib.size_eq]; exact h
  rw [List.getD, List.getElem?_eq_getElem hl, Option.getD_some, Array.getElem_toList]
  rfl

theorem first_res {s : ByteArray} {w : World} {r : Int × Nat} (x y : Int) (hx : r.1 = x) (hy : (r.2 : Int) = y)
    (h : Calls Tryd.prog 73 #[.string s] w fun e w' => e = .returned (.tuple #[.int .i64 x, .int .i64 y]) ∧ w = w') :
    Calls Tryd.prog 73 #[.string s] w fun e w' => e = .returned (.tuple #[.int .i64 r.1, .int .i64 r.2]) ∧ w = w' := by
  rw [hx, hy]
  exact h

theorem first_any (s : ByteArray) (w : World) (h0 : 0 < s.size) (hs : s.size ≤ 9223372036854775807) :
    Calls Tryd.prog 73 #[.string s] w fun e w' => e = .returned (.tuple #[.int .i64 (fst s.data.toList).1, .int .i64 (fst s.data.toList).2]) ∧ w = w' := by
  have g0 := gd s 0 h0
  rw [fst_goF, ← Lib.size_eq, g0]
  generalize hr : goF s.size s[0].toNat (s.data.toList.getD 1 0).toNat (s.data.toList.getD 2 0).toNat (s.data.toList.getD 3 0).toNat = r
  obtain ⟨c0, hc0⟩ : ∃ c, s[0] = c := ⟨_, rfl⟩
  rw [hc0] at hr
  have hu0 := c0.toNat_lt
  by_cases k0 : c0.toNat < 128
  · unfold goF at hr
    rw [if_pos k0] at hr
    exact first_res _ _ (by rw [← hr]) (by rw [← hr]; rfl) (first_low s w h0 hs c0 hc0 k0)
  by_cases k1 : c0.toNat < 192
  · unfold goF at hr
    rw [if_neg k0, if_pos (.inl k1)] at hr
    exact first_res _ _ (by rw [← hr]) (by rw [← hr]; rfl) (first_none1 s w h0 hs c0 hc0 (by omega) k1)
  by_cases k2 : 248 ≤ c0.toNat
  · unfold goF at hr
    rw [if_neg k0, if_pos (.inr k2)] at hr
    exact first_res _ _ (by rw [← hr]) (by rw [← hr]; rfl) (first_none2 s w h0 hs c0 hc0 k2)
  by_cases k3 : c0.toNat < 224
  · by_cases n : s.size < 2
    · unfold goF at hr
      rw [if_neg k0, if_neg (by omega), if_pos k3, if_pos (.inl n)] at hr
      exact first_res _ _ (by rw [← hr]) (by rw [← hr]; rfl) (first_short2 s w h0 hs c0 hc0 (by omega) k3 n)
    rw [gd s 1 (by omega)] at hr
    obtain ⟨c1, hc1⟩ : ∃ c, s[1] = c := ⟨_, rfl⟩
    rw [hc1] at hr
    unfold goF at hr
    rw [if_neg k0, if_neg (by omega), if_pos k3] at hr
    by_cases p1 : c1.toNat < 128
    · rw [if_pos (by omega)] at hr
      exact first_res _ _ (by rw [← hr]) (by rw [← hr]; rfl) (first_low21 s w (by omega) hs c0 c1 hc0 hc1 (by omega) k3 (by omega) p1)
    by_cases p2 : 191 < c1.toNat
    · rw [if_pos (by omega)] at hr
      exact first_res _ _ (by rw [← hr]) (by rw [← hr]; rfl) (first_high21 s w (by omega) hs c0 c1 hc0 hc1 (by omega) k3 (by omega) p2)
    by_cases v : (c0.toNat - 192) * 64 + c1.toNat - 128 < 128
    · rw [if_pos (by omega)] at hr
      exact first_res _ _ (by rw [← hr]) (by rw [← hr]; rfl) (first_less2 s w (by omega) hs c0 c1 hc0 hc1 (by omega) k3 (by omega) (by omega) (by omega))
    · rw [if_neg (by omega)] at hr
      exact first_res _ _ (by rw [← hr]; simp only; omega) (by rw [← hr]; rfl) (first_is2 s w (by omega) hs c0 c1 hc0 hc1 (by omega) k3 (by omega) (by omega) (by omega))
  by_cases k4 : c0.toNat < 240
  · by_cases n : s.size < 3
    · unfold goF at hr
      rw [if_neg k0, if_neg (by omega), if_neg k3, if_pos k4, if_pos (.inl n)] at hr
      exact first_res _ _ (by rw [← hr]) (by rw [← hr]; rfl) (first_short3 s w h0 hs c0 hc0 (by omega) k4 n)
    rw [gd s 1 (by omega), gd s 2 (by omega)] at hr
    obtain ⟨c1, hc1⟩ : ∃ c, s[1] = c := ⟨_, rfl⟩
    obtain ⟨c2, hc2⟩ : ∃ c, s[2] = c := ⟨_, rfl⟩
    rw [hc1, hc2] at hr
    unfold goF at hr
    rw [if_neg k0, if_neg (by omega), if_neg k3, if_pos k4] at hr
    by_cases p1 : c1.toNat < 128
    · rw [if_pos (by omega)] at hr
      exact first_res _ _ (by rw [← hr]) (by rw [← hr]; rfl) (first_low31 s w (by omega) hs c0 c1 hc0 hc1 (by omega) k4 (by omega) p1)
    by_cases p2 : 191 < c1.toNat
    · rw [if_pos (by omega)] at hr
      exact first_res _ _ (by rw [← hr]) (by rw [← hr]; rfl) (first_high31 s w (by omega) hs c0 c1 hc0 hc1 (by omega) k4 (by omega) p2)
    by_cases q1 : c2.toNat < 128
    · rw [if_pos (by omega)] at hr
      exact first_res _ _ (by rw [← hr]) (by rw [← hr]; rfl) (first_low32 s w (by omega) hs c0 c1 c2 hc0 hc1 hc2 (by omega) k4 (by omega) (by omega) (by omega) q1)
    by_cases q2 : 191 < c2.toNat
    · rw [if_pos (by omega)] at hr
      exact first_res _ _ (by rw [← hr]) (by rw [← hr]; rfl) (first_high32 s w (by omega) hs c0 c1 c2 hc0 hc1 hc2 (by omega) k4 (by omega) (by omega) (by omega) q2)
    by_cases v : ((c0.toNat - 224) * 64 + c1.toNat - 128) * 64 + c2.toNat - 128 < 2048
    · rw [if_pos (by omega)] at hr
      exact first_res _ _ (by rw [← hr]) (by rw [← hr]; rfl) (first_less3 s w (by omega) hs c0 c1 c2 hc0 hc1 hc2 (by omega) k4 (by omega) (by omega) (by omega) (by omega) (by omega))
    by_cases v2 : ((c0.toNat - 224) * 64 + c1.toNat - 128) * 64 + c2.toNat - 128 < 55296
    · rw [if_neg (by omega)] at hr
      exact first_res _ _ (by rw [← hr]; simp only; omega) (by rw [← hr]; rfl) (first_is3a s w (by omega) hs c0 c1 c2 hc0 hc1 hc2 (by omega) k4 (by omega) (by omega) (by omega) (by omega) (by omega) (by omega))
    by_cases v3 : ((c0.toNat - 224) * 64 + c1.toNat - 128) * 64 + c2.toNat - 128 < 57344
    · rw [if_pos (by omega)] at hr
      exact first_res _ _ (by rw [← hr]) (by rw [← hr]; rfl) (first_sur3 s w (by omega) hs c0 c1 c2 hc0 hc1 hc2 (by omega) k4 (by omega) (by omega) (by omega) (by omega) (by omega) (by omega))
    · rw [if_neg (by omega)] at hr
      exact first_res _ _ (by rw [← hr]; simp only; omega) (by rw [← hr]; rfl) (first_is3b s w (by omega) hs c0 c1 c2 hc0 hc1 hc2 (by omega) k4 (by omega) (by omega) (by omega) (by omega) (by omega))
  · by_cases n : s.size < 4
    · unfold goF at hr
      rw [if_neg k0, if_neg (by omega), if_neg k3, if_neg k4, if_pos (.inl n)] at hr
      exact first_res _ _ (by rw [← hr]) (by rw [← hr]; rfl) (first_short4 s w h0 hs c0 hc0 (by omega) (by omega) n)
    rw [gd s 1 (by omega), gd s 2 (by omega), gd s 3 (by omega)] at hr
    obtain ⟨c1, hc1⟩ : ∃ c, s[1] = c := ⟨_, rfl⟩
    obtain ⟨c2, hc2⟩ : ∃ c, s[2] = c := ⟨_, rfl⟩
    obtain ⟨c3, hc3⟩ : ∃ c, s[3] = c := ⟨_, rfl⟩
    rw [hc1, hc2, hc3] at hr
    unfold goF at hr
    rw [if_neg k0, if_neg (by omega), if_neg k3, if_neg k4] at hr
    by_cases p1 : c1.toNat < 128
    · rw [if_pos (by omega)] at hr
      exact first_res _ _ (by rw [← hr]) (by rw [← hr]; rfl) (first_low41 s w (by omega) hs c0 c1 hc0 hc1 (by omega) (by omega) (by omega) p1)
    by_cases p2 : 191 < c1.toNat
    · rw [if_pos (by omega)] at hr
      exact first_res _ _ (by rw [← hr]) (by rw [← hr]; rfl) (first_high41 s w (by omega) hs c0 c1 hc0 hc1 (by omega) (by omega) (by omega) p2)
    by_cases q1 : c2.toNat < 128
    · rw [if_pos (by omega)] at hr
      exact first_res _ _ (by rw [← hr]) (by rw [← hr]; rfl) (first_low42 s w (by omega) hs c0 c1 c2 hc0 hc1 hc2 (by omega) (by omega) (by omega) (by omega) (by omega) q1)
    by_cases q2 : 191 < c2.toNat
    · rw [if_pos (by omega)] at hr
      exact first_res _ _ (by rw [← hr]) (by rw [← hr]; rfl) (first_high42 s w (by omega) hs c0 c1 c2 hc0 hc1 hc2 (by omega) (by omega) (by omega) (by omega) (by omega) q2)
    by_cases t1 : c3.toNat < 128
    · rw [if_pos (by omega)] at hr
      exact first_res _ _ (by rw [← hr]) (by rw [← hr]; rfl) (first_low43 s w (by omega) hs c0 c1 c2 c3 hc0 hc1 hc2 hc3 (by omega) (by omega) (by omega) (by omega) (by omega) (by omega) (by omega) t1)
    by_cases t2 : 191 < c3.toNat
    · rw [if_pos (by omega)] at hr
      exact first_res _ _ (by rw [← hr]) (by rw [← hr]; rfl) (first_high43 s w (by omega) hs c0 c1 c2 c3 hc0 hc1 hc2 hc3 (by omega) (by omega) (by omega) (by omega) (by omega) (by omega) (by omega) t2)
    by_cases v : (((c0.toNat - 240) * 64 + c1.toNat - 128) * 64 + c2.toNat - 128) * 64 + c3.toNat - 128 < 65536
    · rw [if_pos (by omega)] at hr
      exact first_res _ _ (by rw [← hr]) (by rw [← hr]; rfl) (first_less4 s w (by omega) hs c0 c1 c2 c3 hc0 hc1 hc2 hc3 (by omega) (by omega) (by omega) (by omega) (by omega) (by omega) (by omega) (by omega) (by omega))
    by_cases v2 : 1114111 < (((c0.toNat - 240) * 64 + c1.toNat - 128) * 64 + c2.toNat - 128) * 64 + c3.toNat - 128
    · rw [if_pos (by omega)] at hr
      exact first_res _ _ (by rw [← hr]) (by rw [← hr]; rfl) (first_more4 s w (by omega) hs c0 c1 c2 c3 hc0 hc1 hc2 hc3 (by omega) (by omega) (by omega) (by omega) (by omega) (by omega) (by omega) (by omega) (by omega))
    · rw [if_neg (by omega)] at hr
      exact first_res _ _ (by rw [← hr]; simp only; omega) (by rw [← hr]; rfl) (first_is4 s w (by omega) hs c0 c1 c2 c3 hc0 hc1 hc2 hc3 (by omega) (by omega) (by omega) (by omega) (by omega) (by omega) (by omega) (by omega) (by omega) (by omega))
end Go.Proofs.YtijffkklhgnknaaDoor
/- The runes of a text, names and order by the reference, for every text of at most 2^40 bytes. No other conditions. -/
set_option linter.unusedVariables false
namespace Go.Proofs.YtijffkklhgnknaaDoor
open Go.RowKit

theorem info3 : (Tryd.prog.info? 3).map (fun i => (i.zero, i.size, i.bytes)) = some (some (.int .i64 0), 1, 8) := by kernel_rfl
/-- Numbers as cells. -/
def ic (l : List Int) : List Value := l.map (Value.int .i64)
theorem ic_len (l : List Int) : (ic l).length = l.length := by simp [ic]
theorem ic_app (a b : List Int) : ic (a ++ b) = ic a ++ ic b := by simp [ic]
/-- The address holds the numbers. -/
def HolI (w : World) (A : Option Addr) (l : List Int) : Prop :=
  l = [] ∨ ∃ g, A = some ⟨g, 0, none⟩ ∧ ∀ j x, l[j]? = some x → w.cell? ⟨g, j, none⟩ = some (.int .i64 x)
theorem HolI.at_ {w : World} {A : Option Addr} {l : List Int} (h : HolI w A l) {j : Nat} (hj : j < l.length) : ∃ g, A = some ⟨g, 0, none⟩ ∧ w.cell? ⟨g, j, none⟩ = some (.int .i64 l[j]) := by
  rcases h with rfl | ⟨g, rfl, hc⟩
  · simp at hj
  · exact ⟨g, rfl, hc j _ (List.getElem?_eq_getElem hj)⟩
theorem HolI.below {w w' : World} {A : Option Addr} {l : List Int} (h : HolI w A l) (hb : Below w.heap.size w w') : HolI w' A l := by
  rcases h with rfl | ⟨g, rfl, hc⟩
  · exact .inl rfl
  · exact .inr ⟨g, rfl, fun j x hx => (hb.cell (p := ⟨g, j, none⟩) (World.block_lt_of_cell? w _ (hc j x hx))).trans (hc j x hx)⟩
theorem own_ints {w : World} {base : Nat} {e : TypeId} {v : Value} {n : Nat} {l : List Int} (h : w.ownsRow base e 1 v n (ic l)) :
    n = l.length ∧ ∃ A c, v = .slice A l.length c ∧ HolI w A l := by
  have hn : n = l.length := by have := h.1; rw [ic_len] at this; omega
  subst hn
  refine ⟨rfl, ?_⟩
  rcases h.2 with ⟨rfl, h0⟩ | ⟨g, cap, cur, rfl, hb, hg, hn, hc, hs, ht⟩
  · rw [h0]
    exact ⟨none, 0, rfl, .inl (List.eq_nil_of_length_eq_zero h0)⟩
  · refine ⟨_, cap, rfl, .inr ⟨g, rfl, fun j x hx => ?_⟩⟩
    have hx2 : (ic l)[j]? = some (.int .i64 x) := by unfold ic; rw [List.getElem?_map, hx]; rfl
    have := h.cells (g := g) rfl j _ hx2
    rw [show (⟨g, j, none⟩ : Addr) = (⟨g, 0, none⟩ : Addr).add j by unfold Addr.add; split <;> simp_all]
    exact this

set_option maxHeartbeats 400000 in
theorem runes_any (s : ByteArray) (w : World) (hs : s.size ≤ 1099511627776) :
    Calls Tryd.prog 56 #[.string s] w fun e w' => ∃ v, e = .returned v ∧ w'.ownsRow w.heap.size 3 1 v (rl s.data.toList).length (ic (rl s.data.toList)) ∧ Below w.heap.size w w' := by
  obtain ⟨i, hi, hz0, hz1, hz2⟩ := info_parts info3
  have hlen := rl_len s.data.toList
  rw [← Lib.size_eq] at hlen
  generalize hR : rl s.data.toList = R at *
  have HR := Lib.hid hR
  clear hR
  go_enter Tryd.func56, Tryd.ntmps56
  go_wp2
  go_loopw [0, 3] (fun st v wr => ∃ (t : ByteArray) (xs : List Int), st = .string t ∧ t.size ≤ 1099511627776 ∧ Hid (xs ++ rl t.data.toList = R) ∧ wr.ownsRow w.heap.size 3 1 v xs.length (ic xs) ∧ Below w.heap.size w wr)
    (fun st _ _ => match st with | .string t => t.size | _ => 0)
  case atStart => exact ⟨s, [], rfl, hs, Lib.hid HR.out, World.ownsRow_nil _ _ _ _, Below.refl _ _⟩
  case round =>
    obtain ⟨t, xs, rfl, hts, hxs, hown, hb⟩ := hrel
    have hxl : xs.length ≤ R.length := by rw [← hxs.out, List.length_append]; omega
    by_cases hp : 0 < t.size
    · have hpz : (0 : Int) < (t.size : Int) := by omega
      have hne : t.data.toList ≠ [] := by
        intro e
        rw [Lib.size_eq, e] at hp
        exact absurd hp (by decide)
      have cF := fun W => first_any t W hp (by omega)
      have hst := rl_step _ hne
      have hfit := decodeL_fits _ hne
      have hw1 := Lib.decodeL_width t.data.toList
      rw [← Lib.size_eq] at hfit
      rw [← fst_width] at hst hfit hw1
      have hrg := fst_range t.data.toList
      generalize fst t.data.toList = d at *
      obtain ⟨r, n⟩ := d
      replace hfit : n ≤ t.size := hfit
      replace hw1 : 1 ≤ n := hw1
      replace hrg : -1 ≤ r ∧ r ≤ 1114111 := hrg
      replace hst : rl t.data.toList = r :: rl (t.data.toList.drop n) := hst
      replace cF : ∀ W, Calls Tryd.prog 73 #[.string t] W fun e w' => e = .returned (.tuple #[.int .i64 r, .int .i64 n]) ∧ W = w' := cF
      have HST := Lib.hid hst
      have CF := Lib.hid cF
      clear hst cF hne
      go_wp2_with (first
        | (go_at_call 73; refine (CF.out _).mono ?_; rintro e w' ⟨rfl, rfl⟩)
        | (at_builtin; refine wpList_append_own_at _ rfl _ _ 75 rfl w.heap.size 3 i (.int .i64 0) 1 8 Tryd.underlying75 hi hz0 hz1 hz2 rfl (by decide) _ xs.length _ rfl (hown.alloc _) ⟨wr.heap.size, 0, none⟩ 1 1 [.int .i64 r] rfl rfl (cell_one_new _ _ _) (by intro u hu; simp at hu; subst hu; rfl) (by unfold maxLen; omega) (by omega) (by have := hb.size; simp; omega) ?_; intro v2 w2 hown2 hg2 _ _))
      have hb2 : Below w.heap.size w w2 := (hb.alloc hb.size _).grown hg2 (by have := hb.size; simp; omega) (fun q hq => (hown.lt q hq).1)
      have hxs2 : Hid ((xs ++ [r]) ++ rl (t.extract n t.size).data.toList = R) := by
        refine Lib.hid ?_
        rw [Lib.extract_to_end, List.append_assoc, ← hxs.out, HST.out]
        rfl
      have hsz2 : (t.extract n t.size).size = t.size - n := by rw [Lib.size_eq, Lib.extract_to_end, List.length_drop, ← Lib.size_eq]
      have hown3 : w2.ownsRow w.heap.size 3 1 v2 (xs ++ [r]).length (ic (xs ++ [r])) := by
        rw [List.length_append, ic_app]
        exact hown2
      go_roundw
      case rel => exact ⟨t.extract n t.size, xs ++ [r], rfl, by omega, hxs2, hown3, hb2⟩
      case measure =>
        simp
        omega
    · have ht : t.data.toList = [] := List.eq_nil_of_length_eq_zero (by rw [← Lib.size_eq]; omega)
      have hx : xs = R := by
        have := hxs.out
        rw [ht, rl_nil, List.append_nil] at this
        exact this
      subst hx
      clear ht
      go_wp2
      go_ret
      exact ⟨_, rfl, hown, hb⟩

theorem rname_short (s : ByteArray) (w : World) (h : s.data.toList = [] ∨ s.data.toList = [46] ∨ s.data.toList = [46, 46]) :
    Calls Tryd.prog 36 #[.string s] w fun e w' => e = .returned (.int .i64 22) ∧ w = w' := by
  rcases h with h | h | h
  · have h1 := isEmpty_eq h
    clear h
    go_enter Tryd.func36, Tryd.ntmps36
    go_wp2
    go_ret
    exact ⟨rfl, rfl⟩
  · have h1 : s.toList.isEmpty = false := isEmpty_ne (by rw [h]; simp)
    have h2 := toList_eq_ h
    clear h
    go_enter Tryd.func36, Tryd.ntmps36
    go_wp2
    go_ret
    exact ⟨rfl, rfl⟩
  · have h1 : s.toList.isEmpty = false := isEmpty_ne (by rw [h]; simp)
    have h2 : (s.toList == [46]) = false := toList_ne (by rw [h]; simp)
    have h3 := toList_eq_ h
    clear h
    go_enter Tryd.func36, Tryd.ntmps36
    go_wp2
    go_ret
    exact ⟨rfl, rfl⟩

set_option maxHeartbeats 400000 in
theorem rname_go (s : ByteArray) (w : World) (h1 : s.data.toList ≠ []) (h2 : s.data.toList ≠ [46]) (h3 : s.data.toList ≠ [46, 46]) (hs : s.size ≤ 1099511627776) :
    Calls Tryd.prog 36 #[.string s] w fun e w' => e = .returned (.int .i64 (if (rl s.data.toList).all okI then (if 32 < s.data.toList.length then 36 else 0) else 22)) ∧ Below w.heap.size w w' := by
  have cR := runes_any s w hs
  have hlen := rl_len s.data.toList
  have k1 := isEmpty_ne h1
  have k2 := toList_ne h2
  have k3 := toList_ne h3
  clear h1 h2 h3
  rw [← Lib.size_eq] at hlen ⊢
  generalize rl s.data.toList = xs at *
  generalize hR : (if xs.all okI = true then (if 32 < s.size then 36 else 0) else (22 : Int)) = R
  have HR := Lib.hid hR
  have CR := Lib.hid cR
  clear hR cR
  go_enter Tryd.func36, Tryd.ntmps36
  go_wp2_with (go_at_call 56; refine CR.out.mono ?_; rintro e w1 ⟨v, rfl, hown1, hb1⟩; obtain ⟨_, A, c, rfl, hA⟩ := own_ints hown1)
  clear k1 k2 k3
  go_loop [4] (fun i => ∃ k : Nat, k ≤ xs.length ∧ i = .int .i64 k ∧ Hid ((xs.take k).all okI = true)) (fun i => xs.length - (intOf i).toNat)
  case atStart => exact ⟨0, Nat.zero_le _, rfl, Lib.hid rfl⟩
  case round =>
    obtain ⟨k, hk, rfl, hall⟩ := hrel
    by_cases hlt : k < xs.length
    · obtain ⟨g, rfl, hc⟩ := hA.at_ hlt
      obtain ⟨r, hr⟩ : ∃ r, xs[k] = r := ⟨_, rfl⟩
      rw [hr] at hc
      have HX := Lib.hid hr
      clear hr
      have hkz : (k : Int) < (xs.length : Int) := by omega
      cases hok : okI r
      · have hRv : R = 22 := by
          rw [← HR.out, if_neg]
          intro e
          have := List.all_eq_true.1 e (xs[k]) (List.getElem_mem hlt)
          rw [HX.out, hok] at this
          cases this
        subst hRv
        have h0 : r < 32 ∨ r = 47 ∨ r = 127 := by
          have hq : 32 ≤ r → ¬ r = 47 → r = 127 := by simpa [okI, or_assoc] using hok
          omega
        clear hok
        rcases h0 with h0 | rfl | rfl
        · go_wp2
          go_ret
          exact ⟨rfl, hb1⟩
        · go_wp2
          go_ret
          exact ⟨rfl, hb1⟩
        · go_wp2
          go_ret
          exact ⟨rfl, hb1⟩
      · have h0 : ¬ (r < 32 ∨ r = 47 ∨ r = 127) := by
          intro e
          have hq : 32 ≤ r → ¬ r = 47 → r = 127 := by omega
          have : okI r = false := by simpa [okI, or_assoc] using hq
          rw [hok] at this
          cases this
        have ha : decide (r < 32) = false := by simp; omega
        have hb : (r == 47) = false := by simp; omega
        have hc2 : (r == 127) = false := by simp; omega
        have hall2 : Hid ((xs.take (k + 1)).all okI = true) := by
          refine Lib.hid ?_
          rw [List.take_succ_eq_append_getElem hlt, List.all_append, hall.out, HX.out]
          simp [hok]
        clear h0 hok
        go_wp2
        go_round
        case rel => exact ⟨k + 1, by omega, by go_num, hall2⟩
        case measure => simp [intOf]; omega
    · have hkk : k = xs.length := by omega
      have hall3 : xs.all okI = true := by
        have := hall.out
        rw [hkk, List.take_length] at this
        exact this
      subst hkk
      by_cases h32 : 32 < s.size
      · have hz : (32 : Int) < (s.size : Int) := by omega
        have hRv : R = 36 := by rw [← HR.out, if_pos hall3, if_pos h32]
        subst hRv
        clear hall3 h32
        go_wp2
        go_ret
        exact ⟨rfl, hb1⟩
      · have hz : ¬ (32 : Int) < (s.size : Int) := by omega
        have hRv : R = 0 := by rw [← HR.out, if_pos hall3, if_neg h32]
        subst hRv
        clear hall3 h32
        go_wp2
        go_ret
        exact ⟨rfl, hb1⟩

/-- The reference's Name. -/
theorem rname_any (s : ByteArray) (w : World) (hs : s.size ≤ 1099511627776) :
    Calls Tryd.prog 36 #[.string s] w fun e w' => e = .returned (.int .i64 (nameR s.data.toList)) ∧ Below w.heap.size w w' := by
  by_cases h : s.data.toList = [] ∨ s.data.toList = [46] ∨ s.data.toList = [46, 46]
  · have hr : nameR s.data.toList = 22 := by unfold nameR; rw [if_pos h]
    rw [hr]
    exact (rname_short s w h).mono fun e w' ⟨he, hw⟩ => ⟨he, by rw [hw]; exact Below.refl _ _⟩
  · have h' := h
    simp only [not_or] at h'
    have hr : nameR s.data.toList = (if (rl s.data.toList).all okI then (if 32 < s.data.toList.length then 36 else 0) else 22) := by unfold nameR; rw [if_neg h, ok_both]
    rw [hr]
    exact rname_go s w h'.1 h'.2.1 h'.2.2 hs

theorem fix_neg {r : Int} (h : r < 0) : fix_ r = 65533 := by unfold fix_; rw [if_pos h]
theorem fix_pos {r : Int} (h : ¬ r < 0) : (fix_ r : Int) = r := by unfold fix_; rw [if_neg h]; omega

set_option maxHeartbeats 1000000 in
theorem rless_any (a b : ByteArray) (w : World) (ha : a.size ≤ 1099511627776) (hb : b.size ≤ 1099511627776) :
    Calls Tryd.prog 37 #[.string a, .string b] w fun e w' => e = .returned (.bool (lessD a.data.toList b.data.toList)) ∧ Below w.heap.size w w' := by
  have cA := runes_any a w ha
  have cB := fun W => runes_any b W hb
  have la := rl_len a.data.toList
  have lb := rl_len b.data.toList
  rw [← Lib.size_eq] at la lb
  unfold lessD
  rw [← rl_dl, ← rl_dl]
  generalize rl a.data.toList = x at *
  generalize rl b.data.toList = y at *
  obtain ⟨ANS, hAns⟩ : ∃ ANS, lex (x.map fix_) (y.map fix_) = ANS := ⟨_, rfl⟩
  rw [hAns]
  have HA := Lib.hid hAns
  have CA := Lib.hid cA
  have CB := Lib.hid cB
  clear hAns cA cB
  have tok : (1 : Nat) = 1 := rfl
  go_enter Tryd.func37, Tryd.ntmps37
  go_wp2_with fail
  refine CA.out.mono ?_
  rintro e w1 ⟨v, rfl, hown1, hb1⟩
  obtain ⟨_, A, c, rfl, hA⟩ := own_ints hown1
  go_wp2_with fail
  refine (CB.out w1).mono ?_
  rintro e w2 ⟨v, rfl, hown2, hb2⟩
  obtain ⟨_, B, d, rfl, hB⟩ := own_ints hown2
  have hA2 := hA.below hb2
  have hbw : Below w.heap.size w w2 := hb1.trans (hb2.mono hb1.size)
  clear hown1 hown2 hA
  go_wp2
  go_loop [7] (fun i => ∃ k : Nat, k ≤ x.length ∧ k ≤ y.length ∧ i = .int .i64 k ∧ Hid (lex ((x.map fix_).drop k) ((y.map fix_).drop k) = ANS)) (fun i => x.length - (intOf i).toNat)
  case atStart => exact ⟨0, Nat.zero_le _, Nat.zero_le _, rfl, Lib.hid HA.out⟩
  case round =>
    obtain ⟨k, hkx, hky, rfl, hans⟩ := hrel
    by_cases hx : k < x.length
    · have hxz : (k : Int) < (x.length : Int) := by omega
      by_cases hy : k < y.length
      · have hyz : (k : Int) < (y.length : Int) := by omega
        obtain ⟨g, rfl, hc1⟩ := hA2.at_ hx
        obtain ⟨g2, rfl, hc2⟩ := hB.at_ hy
        have hst := lex_drop (x.map fix_) (y.map fix_) k (by simpa using hx) (by simpa using hy)
        simp only [List.getElem_map] at hst
        generalize x[k] = p at *
        generalize y[k] = q at *
        rw [hans.out] at hst
        have HST := Lib.hid hst
        clear hst
        by_cases hp : p < 0
        · by_cases hq : q < 0
          · have hans2 : Hid (lex ((x.map fix_).drop (k + 1)) ((y.map fix_).drop (k + 1)) = ANS) := by
              have := HST.out
              rw [fix_neg hp, fix_neg hq, if_neg (fun h => h rfl)] at this
              exact Lib.hid this.symm
            go_wp2
            go_round
            case rel => exact ⟨k + 1, by omega, by omega, by go_num, hans2⟩
            case measure => simp [intOf]; omega
          · by_cases hpq : (65533 : Int) = q
            · subst hpq
              have hans2 : Hid (lex ((x.map fix_).drop (k + 1)) ((y.map fix_).drop (k + 1)) = ANS) := by
                have := HST.out
                rw [fix_neg hp] at this
                rw [if_neg (fun h => h rfl)] at this
                exact Lib.hid this.symm
              go_wp2
              go_round
              case rel => exact ⟨k + 1, by omega, by omega, by go_num, hans2⟩
              case measure => simp [intOf]; omega
            · have hne : ((65533 : Int) != q) = true := by rw [bne_iff_ne]; exact hpq
              have hAv : ANS = decide ((65533 : Int) < q) := by
                have h1 := fix_pos hq
                have := HST.out
                rw [fix_neg hp, if_pos (by omega)] at this
                rw [this, Bool.eq_iff_iff]
                simp
                omega
              subst hAv
              clear hpq
              go_wp2
              go_ret
              exact ⟨rfl, hbw⟩
        · by_cases hq : q < 0
          · by_cases hpq : p = (65533 : Int)
            · subst hpq
              have hans2 : Hid (lex ((x.map fix_).drop (k + 1)) ((y.map fix_).drop (k + 1)) = ANS) := by
                have := HST.out
                rw [fix_neg hq] at this
                rw [if_neg (fun h => h rfl)] at this
                exact Lib.hid this.symm
              go_wp2
              go_round
              case rel => exact ⟨k + 1, by omega, by omega, by go_num, hans2⟩
              case measure => simp [intOf]; omega
            · have hne : (p != (65533 : Int)) = true := by rw [bne_iff_ne]; exact hpq
              have hAv : ANS = decide (p < (65533 : Int)) := by
                have h1 := fix_pos hp
                have := HST.out
                rw [fix_neg hq, if_pos (by omega)] at this
                rw [this, Bool.eq_iff_iff]
                simp
                omega
              subst hAv
              clear hpq
              go_wp2
              go_ret
              exact ⟨rfl, hbw⟩
          · by_cases hpq : p = q
            · subst hpq
              have hans2 : Hid (lex ((x.map fix_).drop (k + 1)) ((y.map fix_).drop (k + 1)) = ANS) := by
                have := HST.out
                rw [if_neg (fun h => h rfl)] at this
                exact Lib.hid this.symm
              go_wp2
              go_round
              case rel => exact ⟨k + 1, by omega, by omega, by go_num, hans2⟩
              case measure => simp [intOf]; omega
            · have hne : (p != q) = true := by rw [bne_iff_ne]; exact hpq
              have hAv : ANS = decide (p < q) := by
                have h1 := fix_pos hp
                have h2 := fix_pos hq
                have := HST.out
                rw [if_pos (by omega)] at this
                rw [this, Bool.eq_iff_iff]
                simp
                omega
              subst hAv
              clear hpq
              go_wp2
              go_ret
              exact ⟨rfl, hbw⟩
      · have hAv : ANS = decide ((x.length : Int) < (y.length : Int)) := by
          have h2 := lex_end (x.map fix_) (y.map fix_) k (.inr (by simp; omega)) (by simpa using hkx) (by simpa using hky)
          rw [hans.out] at h2
          rw [h2, Bool.eq_iff_iff]
          simp
        subst hAv
        have hyz : ¬ (k : Int) < (y.length : Int) := by omega
        go_wp2
        go_ret
        exact ⟨rfl, hbw⟩
    · have hAv : ANS = decide ((x.length : Int) < (y.length : Int)) := by
        have h2 := lex_end (x.map fix_) (y.map fix_) k (.inl (by simp; omega)) (by simpa using hkx) (by simpa using hky)
        rw [hans.out] at h2
        rw [h2, Bool.eq_iff_iff]
        simp
      subst hAv
      have hxz : decide ((k : Int) < (x.length : Int)) = false := by simp; omega
      go_wp2
      go_ret
      exact ⟨rfl, hbw⟩
end Go.Proofs.YtijffkklhgnknaaDoor
