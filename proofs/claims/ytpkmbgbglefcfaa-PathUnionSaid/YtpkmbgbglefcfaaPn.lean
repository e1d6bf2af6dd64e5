/- The numbers of a tree, of the program and of the reference: what each call leaves. Conditions: those named. -/
import Derived.Test.YtpkmbgbglefcfaaPm
import Derived.Test.YtpkmbgbglefcfaaPt
set_option linter.unusedVariables false
namespace Go.Proofs.Ytpkmbgbglefcfaa
open Go.RowKit

theorem power_any (n : Nat) (hn : n ≤ 4) (w : World) :
    Calls Try.prog 21 #[.int .i64 (n : Int)] w fun e w' => e = .returned (.int .i64 (pw n : Int)) ∧ w = w' := by
  go_enter Try.func21, Try.ntmps21
  go_wp2
  go_loop [3, 4] (fun o i => ∃ k : Nat, k ≤ n ∧ i = .int .i64 k ∧ o = .int .i64 (pw k : Int)) (fun _ i => n - (intOf i).toNat)
  case atStart => exact ⟨0, Nat.zero_le _, rfl, rfl⟩
  case round =>
    obtain ⟨k, hk, rfl, rfl⟩ := hrel
    have hp := pw_le (n := k) (by omega)
    have hp0 : (0 : Int) ≤ (pw k : Int) := by omega
    have hp1 : (pw k : Int) ≤ 256 := by omega
    by_cases hlt : k < n
    · have HS := Lib.hid (pw_succ k)
      go_wp2
      go_round
      case rel => exact ⟨k + 1, by omega, by go_num, by rw [HS.out]; go_num⟩
      case measure => simp [intOf]; omega
    · obtain rfl : k = n := by omega
      go_wp2
      go_ret
      exact ⟨rfl, rfl⟩
theorem width_any (n : Nat) (hn : n ≤ 4) (w : World) :
    Calls Try.prog 23 #[.int .i64 (n : Int)] w fun e w' => e = .returned (.int .i64 (pw n : Int)) ∧ w = w' := by
  go_enter Try.func23, Try.ntmps23
  go_wp2
  go_loop [3, 5] (fun o i => ∃ k : Nat, k ≤ n ∧ i = .int .i64 k ∧ o = .int .i64 (pw k : Int)) (fun _ i => n - (intOf i).toNat)
  case atStart => exact ⟨0, Nat.zero_le _, rfl, rfl⟩
  case round =>
    obtain ⟨k, hk, rfl, rfl⟩ := hrel
    have hp := pw_le (n := k) (by omega)
    have hp0 : (0 : Int) ≤ (pw k : Int) := by omega
    have hp1 : (pw k : Int) ≤ 256 := by omega
    by_cases hlt : k < n
    · have HS := Lib.hid (pw_succ k)
      go_wp2
      go_round
      case rel => exact ⟨k + 1, by omega, by go_num, by rw [HS.out]; go_num⟩
      case measure => simp [intOf]; omega
    · obtain rfl : k = n := by omega
      go_wp2
      go_ret
      exact ⟨rfl, rfl⟩
theorem levels_any (d : Int) (w : World) :
    Calls Try.prog 22 #[.int .i64 d] w fun e w' => e = .returned (.int .i64 (lv d : Int)) ∧ w = w' := by
  by_cases h1 : d < 1
  · have h0 : lv d = 0 := lv_out (by omega)
    rw [h0]
    clear h0
    go_enter Try.func22, Try.ntmps22
    go_wp2
    go_ret
    exact ⟨rfl, rfl⟩
  · by_cases h4 : 4 < d
    · have h0 : lv d = 0 := lv_out (by omega)
      rw [h0]
      clear h0
      go_enter Try.func22, Try.ntmps22
      go_wp2
      go_ret
      exact ⟨rfl, rfl⟩
    · rw [lv_in (by omega) (by omega)]
      go_enter Try.func22, Try.ntmps22
      go_wp2
      go_ret
      exact ⟨rfl, rfl⟩
theorem rslots_any (d : Int) (w : World) :
    Calls Try.prog 12 #[.int .i64 d] w fun e w' => e = .returned (.int .i64 (sl d : Int)) ∧ w = w' := by
  by_cases h1 : d < 1
  · have h0 : sl d = 0 := sl_out (by omega)
    rw [h0]
    clear h0
    go_enter Try.func12, Try.ntmps12
    go_wp2
    go_ret
    exact ⟨rfl, rfl⟩
  · by_cases h4 : 4 < d
    · have h0 : sl d = 0 := sl_out (by omega)
      rw [h0]
      clear h0
      go_enter Try.func12, Try.ntmps12
      go_wp2
      go_ret
      exact ⟨rfl, rfl⟩
    · obtain ⟨n, rfl, hn1, hn4⟩ := lv_nat (d := d) (by omega) (by omega)
      rw [sl_of hn1 hn4]
      go_enter Try.func12, Try.ntmps12
      go_wp2_with (go_at_call 21; refine (power_any n hn4 _).mono ?_; rintro e w' ⟨rfl, rfl⟩)
      go_ret
      exact ⟨rfl, rfl⟩
theorem slots_any (d : Int) (w : World) :
    Calls Try.prog 11 #[.int .i64 d] w fun e w' => e = .returned (.int .i64 (sl d : Int)) ∧ w = w' := by
  by_cases h : 1 ≤ d ∧ d ≤ 4
  · obtain ⟨n, rfl, hn1, hn4⟩ := lv_nat h.1 h.2
    have hl := lv_of hn1 hn4
    rw [sl_of hn1 hn4]
    have HL := Lib.hid hl
    clear hl h
    have hne : ((n : Int) == 0) = false := by simp; omega
    go_enter Try.func11, Try.ntmps11
    go_wp2_with (first
      | (go_at_call 22; refine (levels_any _ _).mono ?_; rintro e w' ⟨rfl, rfl⟩; rw [HL.out])
      | (go_at_call 23; refine (width_any n hn4 _).mono ?_; rintro e w' ⟨rfl, rfl⟩))
    go_ret
    exact ⟨rfl, rfl⟩
  · have HL := Lib.hid (lv_out h)
    rw [sl_out h]
    clear h
    go_enter Try.func11, Try.ntmps11
    go_wp2_with (first
      | (go_at_call 22; refine (levels_any _ _).mono ?_; rintro e w' ⟨rfl, rfl⟩; rw [HL.out]))
    go_ret
    exact ⟨rfl, rfl⟩
theorem nodes_any (d : Int) (w : World) :
    Calls Try.prog 13 #[.int .i64 d] w fun e w' => e = .returned (.int .i64 (nd (lv d) : Int)) ∧ w = w' := by
  have hl := lv_le d
  obtain ⟨n, hn⟩ : ∃ n, lv d = n := ⟨_, rfl⟩
  rw [hn] at hl ⊢
  have HN := Lib.hid hn
  clear hn
  go_enter Try.func13, Try.ntmps13
  go_wp2_with (first
    | (go_at_call 22; refine (levels_any _ _).mono ?_; rintro e w' ⟨rfl, rfl⟩; rw [HN.out]))
  go_loop [3, 7] (fun o i => ∃ k : Nat, k ≤ n ∧ i = .int .i64 k ∧ o = .int .i64 (nd k : Int)) (fun _ i => n - (intOf i).toNat)
  case atStart => exact ⟨0, Nat.zero_le _, rfl, rfl⟩
  case round =>
    obtain ⟨k, hk, rfl, rfl⟩ := hrel
    have hp := pw_le (n := k) (by omega)
    have hp0 : (0 : Int) ≤ (pw k : Int) := by omega
    have hp1 : (pw k : Int) ≤ 256 := by omega
    have hd := nd_le (n := k) (by omega)
    have hd0 : (0 : Int) ≤ (nd k : Int) := by omega
    have hd1 : (nd k : Int) ≤ 85 := by omega
    by_cases hlt : k < n
    · go_wp2_with (go_at_call 23; refine (width_any k (by omega) _).mono ?_; rintro e w' ⟨rfl, rfl⟩)
      go_round
      case rel => exact ⟨k + 1, by omega, by go_num, by simp [nd]⟩
      case measure => simp [intOf]; omega
    · obtain rfl : k = n := by omega
      go_wp2
      go_ret
      exact ⟨rfl, rfl⟩
theorem has_any (d s : Int) (w : World) :
    Calls Try.prog 24 #[.int .i64 d, .int .i64 s] w fun e w' => e = .returned (.bool (decide (0 ≤ s) && decide (s < (sl d : Int)))) ∧ w = w' := by
  by_cases h0 : 0 ≤ s
  · have hd : decide (0 ≤ s) = true := decide_eq_true h0
    rw [hd, Bool.true_and]
    clear hd
    by_cases h1 : s < (sl d : Int)
    · have hd : decide (s < (sl d : Int)) = true := decide_eq_true h1
      rw [hd]
      go_enter Try.func24, Try.ntmps24
      go_wp2_with (go_at_call 11; refine (slots_any _ _).mono ?_; rintro e w' ⟨rfl, rfl⟩)
      go_ret
      exact ⟨rfl, rfl⟩
    · have hd : decide (s < (sl d : Int)) = false := decide_eq_false h1
      rw [hd]
      go_enter Try.func24, Try.ntmps24
      go_wp2_with (go_at_call 11; refine (slots_any _ _).mono ?_; rintro e w' ⟨rfl, rfl⟩)
      go_ret
      exact ⟨rfl, rfl⟩
  · have hd : decide (0 ≤ s) = false := decide_eq_false h0
    rw [hd, Bool.false_and]
    go_enter Try.func24, Try.ntmps24
    go_wp2
    go_ret
    exact ⟨rfl, rfl⟩
end Go.Proofs.Ytpkmbgbglefcfaa
