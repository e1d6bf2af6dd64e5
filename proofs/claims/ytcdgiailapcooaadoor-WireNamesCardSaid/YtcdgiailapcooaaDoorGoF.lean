/- The first rune by its bytes: the ranges that the reference goes by are those of the decoder. Plain, no conditions. -/
import Derived.Test.YtcdgiailapcooaaDoorRunes
set_option linter.unusedVariables false
namespace Go.Proofs.YtcdgiailapcooaaDoor

/-- The first rune and its width, by the first four bytes and how many there are. -/
def goF (n b0 b1 b2 b3 : Nat) : Int × Nat :=
  if b0 < 128 then (b0, 1)
  else if b0 < 192 ∨ 248 ≤ b0 then (-1, 1)
  else if b0 < 224 then (if n < 2 ∨ b1 < 128 ∨ 191 < b1 ∨ (b0 - 192) * 64 + b1 - 128 < 128 then (-1, 1) else (((b0 - 192) * 64 + b1 - 128 : Nat), 2))
  else if b0 < 240 then (if n < 3 ∨ b1 < 128 ∨ 191 < b1 ∨ b2 < 128 ∨ 191 < b2 ∨ ((b0 - 224) * 64 + b1 - 128) * 64 + b2 - 128 < 2048 ∨ (55296 ≤ ((b0 - 224) * 64 + b1 - 128) * 64 + b2 - 128 ∧ ((b0 - 224) * 64 + b1 - 128) * 64 + b2 - 128 < 57344) then (-1, 1) else ((((b0 - 224) * 64 + b1 - 128) * 64 + b2 - 128 : Nat), 3))
  else (if n < 4 ∨ b1 < 128 ∨ 191 < b1 ∨ b2 < 128 ∨ 191 < b2 ∨ b3 < 128 ∨ 191 < b3 ∨ (((b0 - 240) * 64 + b1 - 128) * 64 + b2 - 128) * 64 + b3 - 128 < 65536 ∨ 1114111 < (((b0 - 240) * 64 + b1 - 128) * 64 + b2 - 128) * 64 + b3 - 128 then (-1, 1) else (((((b0 - 240) * 64 + b1 - 128) * 64 + b2 - 128) * 64 + b3 - 128 : Nat), 4))

set_option maxRecDepth 100000 in
set_option maxHeartbeats 4000000 in
theorem goF_eq (n b0 b1 b2 b3 : Nat) (h0 : b0 < 256) (h1 : b1 < 256) (h2 : b2 < 256) (h3 : b3 < 256) :
    goF n b0 b1 b2 b3 = if Lib.decodeN n b0 b1 b2 b3 = (65533, 1) then ((-1 : Int), 1) else (((Lib.decodeN n b0 b1 b2 b3).1 : Int), (Lib.decodeN n b0 b1 b2 b3).2) := by
  by_cases k0 : b0 < 128
  · have e : Lib.decodeN n b0 b1 b2 b3 = (b0, 1) := Lib.decodeN_ascii n b0 b1 b2 b3 k0
    rw [e]
    unfold goF
    rw [if_pos k0, if_neg (by intro e; injection e; omega)]
  by_cases k1 : b0 < 192 ∨ 248 ≤ b0
  · have e : Lib.decodeN n b0 b1 b2 b3 = (65533, 1) := by
      unfold Lib.decodeN
      rw [if_neg k0, if_neg (by omega), if_neg (by omega), if_neg (by omega)]
    rw [if_pos e]
    unfold goF
    rw [if_neg k0, if_pos k1]
  by_cases k2 : b0 < 224
  · unfold goF
    rw [if_neg k0, if_neg k1, if_pos k2]
    by_cases q : n < 2 ∨ b1 < 128 ∨ 191 < b1 ∨ (b0 - 192) * 64 + b1 - 128 < 128
    · have e : Lib.decodeN n b0 b1 b2 b3 = (65533, 1) := by
        unfold Lib.decodeN
        rw [if_neg k0]
        by_cases p : b0 / 32 = 6 ∧ (1 < n ∧ b1 / 64 = 2)
        · rw [if_pos p, if_neg (by omega)]
        · rw [if_neg p, if_neg (by omega), if_neg (by omega)]
      rw [if_pos q, if_pos e]
    · have e : Lib.decodeN n b0 b1 b2 b3 = (b0 % 32 * 64 + b1 % 64, 2) := by
        unfold Lib.decodeN
        rw [if_neg k0, if_pos (by omega), if_pos (by omega)]
      rw [if_neg q, e, if_neg (by intro e; injection e; omega)]
      apply Prod.ext
      · show ((_ : Nat) : Int) = ((_ : Nat) : Int)
        omega
      · rfl
  by_cases k3 : b0 < 240
  · unfold goF
    rw [if_neg k0, if_neg k1, if_neg k2, if_pos k3]
    by_cases q : n < 3 ∨ b1 < 128 ∨ 191 < b1 ∨ b2 < 128 ∨ 191 < b2 ∨ ((b0 - 224) * 64 + b1 - 128) * 64 + b2 - 128 < 2048 ∨ (55296 ≤ ((b0 - 224) * 64 + b1 - 128) * 64 + b2 - 128 ∧ ((b0 - 224) * 64 + b1 - 128) * 64 + b2 - 128 < 57344)
    · have e : Lib.decodeN n b0 b1 b2 b3 = (65533, 1) := by
        unfold Lib.decodeN
        rw [if_neg k0, if_neg (by omega)]
        by_cases p : b0 / 16 = 14 ∧ (1 < n ∧ b1 / 64 = 2) ∧ (2 < n ∧ b2 / 64 = 2)
        · rw [if_pos p, if_neg (by omega)]
        · rw [if_neg p, if_neg (by omega)]
      rw [if_pos q, if_pos e]
    · have e : Lib.decodeN n b0 b1 b2 b3 = (b0 % 16 * 4096 + b1 % 64 * 64 + b2 % 64, 3) := by
        unfold Lib.decodeN
        rw [if_neg k0, if_neg (by omega), if_pos (by omega), if_pos (by omega)]
      rw [if_neg q, e, if_neg (by intro e; injection e; omega)]
      apply Prod.ext
      · show ((_ : Nat) : Int) = ((_ : Nat) : Int)
        omega
      · rfl
  · unfold goF
    rw [if_neg k0, if_neg k1, if_neg k2, if_neg k3]
    by_cases q : n < 4 ∨ b1 < 128 ∨ 191 < b1 ∨ b2 < 128 ∨ 191 < b2 ∨ b3 < 128 ∨ 191 < b3 ∨ (((b0 - 240) * 64 + b1 - 128) * 64 + b2 - 128) * 64 + b3 - 128 < 65536 ∨ 1114111 < (((b0 - 240) * 64 + b1 - 128) * 64 + b2 - 128) * 64 + b3 - 128
    · have e : Lib.decodeN n b0 b1 b2 b3 = (65533, 1) := by
        unfold Lib.decodeN
        rw [if_neg k0, if_neg (by omega), if_neg (by omega)]
        by_cases p : b0 / 8 = 30 ∧ (1 < n ∧ b1 / 64 = 2) ∧ (2 < n ∧ b2 / 64 = 2) ∧ (3 < n ∧ b3 / 64 = 2)
        · rw [if_pos p, if_neg (by omega)]
        · rw [if_neg p]
      rw [if_pos q, if_pos e]
    · have e : Lib.decodeN n b0 b1 b2 b3 = (b0 % 8 * 262144 + b1 % 64 * 4096 + b2 % 64 * 64 + b3 % 64, 4) := by
        unfold Lib.decodeN
        rw [if_neg k0, if_neg (by omega), if_neg (by omega), if_pos (by omega), if_pos (by omega)]
      rw [if_neg q, e, if_neg (by intro e; injection e; omega)]
      apply Prod.ext
      · show ((_ : Nat) : Int) = ((_ : Nat) : Int)
        omega
      · rfl
theorem fst_goF (l : List UInt8) : fst l = goF l.length (l.getD 0 0).toNat (l.getD 1 0).toNat (l.getD 2 0).toNat (l.getD 3 0).toNat := by
  unfold fst
  rw [Lib.decodeL_N, goF_eq _ _ _ _ _ (UInt8.toNat_lt _) (UInt8.toNat_lt _) (UInt8.toNat_lt _) (UInt8.toNat_lt _)]
end Go.Proofs.YtcdgiailapcooaaDoor
