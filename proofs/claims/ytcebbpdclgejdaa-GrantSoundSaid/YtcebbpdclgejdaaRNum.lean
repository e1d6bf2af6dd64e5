/- The number of the first bytes of some, by the reference: what the call leaves. Conditions: those named. -/
import Derived.Test.YtcebbpdclgejdaaPut
set_option linter.unusedVariables false
namespace Go.Proofs.Ytcebbpdclgejdaa
open Go.RowKit

theorem num_drop1 : ∀ (l : List UInt8) (k : Nat) (h : k < l.length), num (l.drop k) = (l[k]).toNat + 256 * num (l.drop (k + 1))
  | [], k, h => by simp at h
  | a :: t, 0, h => by simp [num]
  | a :: t, k + 1, h => by
    have := num_drop1 t k (by simpa using h)
    simpa using this
set_option maxHeartbeats 400000 in
theorem rnumk_any (A : Option Addr) (n c : Nat) (l : List UInt8) (hn : l.length ≤ n) (w : World) (hA : Hol w A l) (hl : l.length ≤ 8) :
    Calls Try.prog 30 #[.slice A n c, .int .i64 l.length] w fun e w' => e = .returned (.int .u64 (num l : Nat)) ∧ w = w' := by
  have HN := Lib.hid hn
  clear hn
  go_enter Try.func30, Try.ntmps30
  go_wp2
  go_loop [5, 6] (fun v i => ∃ j : Nat, j ≤ l.length ∧ i = .int .i64 ((j : Int) - 1) ∧ v = .int .u64 (num (l.drop j) : Nat)) (fun _ i => (intOf i + 1).toNat)
  case atStart => exact ⟨l.length, Nat.le_refl _, rfl, by rw [List.drop_length]; rfl⟩
  case round =>
    obtain ⟨j, hj, rfl, rfl⟩ := hrel
    by_cases h0 : 0 < j
    · obtain ⟨k, rfl⟩ : ∃ k, j = k + 1 := ⟨j - 1, by omega⟩
      have hlt : k < l.length := by omega
      obtain ⟨g, o, rfl, _, hc⟩ := hA.at_ hlt
      have hnd := num_drop1 l k hlt
      have hbd := num_lt (l.drop k)
      have hpw : 256 ^ (l.drop k).length ≤ 256 ^ 8 := Nat.pow_le_pow_right (by decide) (by rw [List.length_drop]; omega)
      have hb2 : num (l.drop k) < 18446744073709551616 := Nat.lt_of_lt_of_le hbd hpw
      clear hbd hpw
      obtain ⟨x, hx⟩ : ∃ x, l[k] = x := ⟨_, rfl⟩
      rw [hx] at hc hnd
      have hX : x.toNat < 256 := x.toNat_lt
      generalize num (l.drop (k + 1)) = N at hnd ⊢
      have hb3 : x.toNat + 256 * N < 18446744073709551616 := by omega
      have HND := Lib.hid hnd
      have HX := Lib.hid hx
      clear hnd hx hb2
      have hk1 : ((k + 1 : Nat) : Int) - 1 = (k : Int) := by omega
      rw [hk1]
      clear hk1
      have hkz : (k : Int) < (n : Int) := by have := HN.out; omega
      go_wp2
      go_round
      case rel =>
        exact ⟨k, by omega, rfl, by rw [HND.out]; exact congrArg (Value.int .u64) (by omega)⟩
      case measure => simp [intOf]
    · obtain rfl : j = 0 := by omega
      rw [List.drop_zero]
      have e0 : ((0 : Nat) : Int) - 1 = -1 := rfl
      rw [e0]
      clear e0
      go_wp2
      go_ret
      exact ⟨rfl, rfl⟩
/-- Of a size. -/
theorem rnum_at (A : Option Addr) (n c k : Nat) (l : List UInt8) (hk : k ≤ l.length) (hn : l.length = n) (w : World) (hA : Hol w A l) (hl : k ≤ 8) :
    Calls Try.prog 30 #[.slice A n c, .int .i64 k] w fun e w' => e = .returned (.int .u64 (num (l.take k) : Nat)) ∧ w = w' := by
  have e : (l.take k).length = k := by simp; omega
  have h := rnumk_any A n c (l.take k) (by omega) w (hA.take_ k) (by omega)
  rwa [e] at h
end Go.Proofs.Ytcebbpdclgejdaa
