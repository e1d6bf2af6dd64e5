/- The reference's count of blocks; the walk of InodeBlocks. Conditions: those named. -/
import Derived.Test.YtpmldaoligmkaaaIk
set_option linter.unusedVariables false
set_option maxRecDepth 20000
namespace Go.Proofs.Ytpmldaoligmkaaa
open Go.RowKit

theorem rblocks_any (z : Int) (h : z < 9223372036854775808) (w : World) : Calls Try.prog 20 #[.int .i64 z] w fun e w' => e = .returned (.int .i64 (blks z)) ∧ w = w' := by
  by_cases h0 : z ≤ 0
  · have hb : blks z = 0 := by unfold blks; rw [if_pos h0]
    rw [hb]
    clear hb
    go_enter Try.func20, Try.ntmps20
    go_wp2
    go_ret
    exact ⟨rfl, rfl⟩
  · obtain ⟨m, rfl⟩ : ∃ m : Nat, z = (m : Int) := ⟨z.toNat, by omega⟩
    obtain ⟨q, hq⟩ : ∃ q : Nat, m / 256 = q := ⟨_, rfl⟩
    obtain ⟨r, hr⟩ : ∃ r : Nat, m % 256 = r := ⟨_, rfl⟩
    have hd : ((m : Int)) / 256 = (q : Int) := by omega
    have hm : ((m : Int)) % 256 = (r : Int) := by omega
    have hb : blks (m : Int) = if r = 0 then (q : Int) else (q : Int) + 1 := by
      unfold blks
      rw [if_neg h0]
      split <;> omega
    rw [hb]
    have hqb : q + 1 < 9223372036854775808 := by omega
    have hrb : r < 256 := by omega
    have h2 : Int.tdiv (m : Int) 256 = (q : Int) := by rw [Int.tdiv_eq_ediv_of_nonneg (Int.natCast_nonneg m)]; exact hd
    have h2' : Int.tmod (m : Int) 256 = (r : Int) := by rw [Int.tmod_eq_emod_of_nonneg (Int.natCast_nonneg m)]; exact hm
    have h3 : wrap64 (q : Int) = (q : Int) := wr64_nat q (Nat.lt_of_succ_lt hqb)
    have h4 : IntKind.i64.wrap (q : Int) = (q : Int) := wr_nat q (Nat.lt_of_succ_lt hqb)
    have h5 : IntKind.i64.wrap ((q : Int) + 1) = (q : Int) + 1 := wr_nat (q + 1) hqb
    have h6 : wrap64 (r : Int) = (r : Int) := wr64_nat r (Nat.lt_trans hrb (by decide))
    have h7 : IntKind.i64.wrap (r : Int) = (r : Int) := wr_nat r (Nat.lt_trans hrb (by decide))
    have hp : ¬ ((m : Int) ≤ 0) := h0
    by_cases hr0 : r = 0
    · rw [if_pos hr0]
      subst hr0
      clear hb hq hr h hqb hrb
      go_enter Try.func20, Try.ntmps20
      go_wp2
      go_ret
      exact ⟨rfl, rfl⟩
    · rw [if_neg hr0]
      have hr1 : (0 : Int) < (r : Int) := Int.natCast_pos.2 (Nat.pos_of_ne_zero hr0)
      clear hb hq hr h hqb hrb hr0
      go_enter Try.func20, Try.ntmps20
      go_wp2
      go_ret
      exact ⟨rfl, rfl⟩
theorem blks_pos (z : Int) (h : 1 ≤ z) : ∃ q : Nat, blks z = (q : Int) + 1 ∧ (q : Int) * 256 < z ∧ z ≤ (q : Int) * 256 + 256 := by
  unfold blks
  rw [if_neg (by omega)]
  refine ⟨((z - 1) / 256).toNat, by omega, by omega, by omega⟩
theorem blocksW (z : Int) (h : z < 9223372036854775808) (w : World) : Calls Try.prog 6 #[.int .i64 z] w fun e w' => e = .returned (.bool true) ∧ Below w.heap.size w w' := by
  have HX := Lib.hid (fun w => blocks_any z h w)
  have HY := Lib.hid (fun w => rblocks_any z h w)
  by_cases h1 : 1 ≤ z
  · obtain ⟨q, hq, q1, q2⟩ := blks_pos z h1
    rw [hq] at HX HY
    have hz1 : ¬ z < 1 := by omega
    by_cases h40 : 1099511627776 < z
    · clear q1 q2 h hq
      go_enter Try.func6, Try.ntmps6
      go_wp2_with (first
        | (go_at_call 9; refine (awake_any _).mono ?_; rintro e w2 ⟨rfl, hb2⟩; have HB2 := Lib.hid hb2; clear hb2)
        | (go_at_call 19; refine (HX.out _).mono ?_; rintro e w3 ⟨rfl, rfl⟩)
        | (go_at_call 20; refine (HY.out _).mono ?_; rintro e w4 ⟨rfl, rfl⟩))
      go_ret
      exact ⟨rfl, HB2.out⟩
    · have m1 : IntKind.i64.wrap (((q : Int) + 1) * 256) = ((q : Int) + 1) * 256 := wr_int _ (by omega) (by omega)
      have m2 : IntKind.i64.wrap ((q : Int) + 1 - 1) = (q : Int) := by rw [Int.add_sub_cancel]; exact wr_int _ (by omega) (by omega)
      have m3 : IntKind.i64.wrap ((q : Int) * 256) = (q : Int) * 256 := wr_int _ (by omega) (by omega)
      have m4 : IntKind.i64.wrap (q : Int) = (q : Int) := wr_int _ (by omega) (by omega)
      have m5 : (q : Int) + 1 - 1 = (q : Int) := Int.add_sub_cancel _ _
      have l1 : z ≤ ((q : Int) + 1) * 256 := by omega
      clear q2 h hq
      go_enter Try.func6, Try.ntmps6
      go_wp2_with (first
        | (go_at_call 9; refine (awake_any _).mono ?_; rintro e w2 ⟨rfl, hb2⟩; have HB2 := Lib.hid hb2; clear hb2)
        | (go_at_call 19; refine (HX.out _).mono ?_; rintro e w3 ⟨rfl, rfl⟩)
        | (go_at_call 20; refine (HY.out _).mono ?_; rintro e w4 ⟨rfl, rfl⟩))
      go_ret
      exact ⟨rfl, HB2.out⟩
  · have hb : blks z = 0 := by unfold blks; rw [if_pos (by omega)]
    rw [hb] at HX HY
    have hz1 : z < 1 := by omega
    clear h hb
    go_enter Try.func6, Try.ntmps6
    go_wp2_with (first
      | (go_at_call 9; refine (awake_any _).mono ?_; rintro e w2 ⟨rfl, hb2⟩; have HB2 := Lib.hid hb2; clear hb2)
      | (go_at_call 19; refine (HX.out _).mono ?_; rintro e w3 ⟨rfl, rfl⟩)
      | (go_at_call 20; refine (HY.out _).mono ?_; rintro e w4 ⟨rfl, rfl⟩))
    go_ret
    exact ⟨rfl, HB2.out⟩
end Go.Proofs.Ytpmldaoligmkaaa
