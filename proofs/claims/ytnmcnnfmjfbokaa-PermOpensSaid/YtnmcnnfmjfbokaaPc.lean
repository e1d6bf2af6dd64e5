/- Package perm: Wants; the reference's Wants. No conditions. -/
import Derived.Test.YtnmcnnfmjfbokaaPa
import Derived.Laws.BitsAllLaws
set_option linter.unusedVariables false
set_option maxRecDepth 20000
namespace Go.Proofs.Ytnmcnnfmjfbokaa
open Go.RowKit

theorem bv_join (x y : BitVec 64) : x = (x &&& y) ||| (x &&& ~~~y) := by
  apply BitVec.eq_of_getLsbD_eq
  intro i hi
  simp only [BitVec.getLsbD_or, BitVec.getLsbD_and, BitVec.getLsbD_not, hi, decide_true, Bool.true_and]
  cases x.getLsbD i <;> cases y.getLsbD i <;> rfl
theorem bv_512 (x : BitVec 64) : (x &&& 512#64) = 0#64 ∨ (x &&& 512#64) = 512#64 := by
  have h : (x &&& 512#64).toNat = x.toNat / 512 % 2 * 512 := by
    rw [BitVec.toNat_and]
    exact nat_bit 9 x.toNat
  rcases (by omega : x.toNat / 512 % 2 = 0 ∨ x.toNat / 512 % 2 = 1) with h1 | h1
  · left
    apply BitVec.eq_of_toNat_eq
    rw [h, h1]
    rfl
  · right
    apply BitVec.eq_of_toNat_eq
    rw [h, h1]
    rfl
theorem and_512 (z : Int) : bits .and .i64 z 512 = 0 ∨ bits .and .i64 z 512 = 512 := by
  have e : bits .and .i64 z 512 = IntKind.i64.wrap ((BitVec.ofInt 64 z &&& 512#64).toNat : Nat) := rfl
  rcases bv_512 (BitVec.ofInt 64 z) with h | h
  · left
    rw [e, h]
    decide
  · right
    rw [e, h]
    decide
theorem not_512 (z : Int) (h1 : -9223372036854775808 ≤ z) (h2 : z < 9223372036854775808) (k : Nat) (hk : k < 3) (h : bits .andNot .i64 z 512 = (k : Int)) : z = k ∨ z = k + 512 := by
  have e : bits .andNot .i64 z 512 = IntKind.i64.wrap ((BitVec.ofInt 64 z &&& ~~~512#64).toNat : Nat) := rfl
  have hl := (BitVec.ofInt 64 z &&& ~~~512#64).isLt
  rw [e, IntKind.wrap_i64] at h
  have hn : (BitVec.ofInt 64 z &&& ~~~512#64).toNat = k := by omega
  have hb : (BitVec.ofInt 64 z &&& ~~~512#64) = BitVec.ofNat 64 k := by
    apply BitVec.eq_of_toNat_eq
    rw [hn, BitVec.toNat_ofNat]
    omega
  have hj := bv_join (BitVec.ofInt 64 z) 512#64
  rw [hb] at hj
  have hz : (BitVec.ofInt 64 z).toInt = z := by
    rw [BitVec.toInt_ofInt, Int.bmod_eq_of_le (by omega) (by omega)]
  rcases (by omega : k = 0 ∨ k = 1 ∨ k = 2) with rfl | rfl | rfl <;> rcases bv_512 (BitVec.ofInt 64 z) with hc | hc <;> rw [hc] at hj <;> rw [← hz, hj] <;> decide
/-- What an open wants; whether it may be. -/
def wA (z : Int) : Int := if z = 0 then 4 else if z = 1 ∨ z = 513 then 2 else if z = 2 ∨ z = 512 ∨ z = 514 then 6 else 0
def wE (z : Int) : Int := if z = 0 ∨ z = 1 ∨ z = 513 ∨ z = 2 ∨ z = 512 ∨ z = 514 then 0 else 22
theorem pw_0 (w : World) : Calls Try.prog 8 #[.int .i64 0] w fun e w' => e = .returned (.tuple #[.int .i64 4, .int .i64 0]) ∧ w = w' := by
  have a1 : bits .and .i64 0 512 = 0 := by decide
  have a2 : bits .andNot .i64 0 512 = 0 := by decide
  have a3 : bits .or .i64 2 4 = 6 := by decide
  have a4 : bits .or .i64 6 2 = 6 := by decide
  have a5 : bits .or .i64 0 4 = 4 := by decide
  have a6 : bits .or .i64 0 2 = 2 := by decide
  have a7 : bits .or .i64 4 2 = 6 := by decide
  have a8 : bits .or .i64 2 2 = 2 := by decide
  go_enter Try.func8, Try.ntmps8
  go_wp2
  go_ret2
  exact ⟨rfl, rfl⟩
theorem pw_1 (w : World) : Calls Try.prog 8 #[.int .i64 1] w fun e w' => e = .returned (.tuple #[.int .i64 2, .int .i64 0]) ∧ w = w' := by
  have a1 : bits .and .i64 1 512 = 0 := by decide
  have a2 : bits .andNot .i64 1 512 = 1 := by decide
  have a3 : bits .or .i64 2 4 = 6 := by decide
  have a4 : bits .or .i64 6 2 = 6 := by decide
  have a5 : bits .or .i64 0 4 = 4 := by decide
  have a6 : bits .or .i64 0 2 = 2 := by decide
  have a7 : bits .or .i64 4 2 = 6 := by decide
  have a8 : bits .or .i64 2 2 = 2 := by decide
  go_enter Try.func8, Try.ntmps8
  go_wp2
  go_ret2
  exact ⟨rfl, rfl⟩
theorem pw_2 (w : World) : Calls Try.prog 8 #[.int .i64 2] w fun e w' => e = .returned (.tuple #[.int .i64 6, .int .i64 0]) ∧ w = w' := by
  have a1 : bits .and .i64 2 512 = 0 := by decide
  have a2 : bits .andNot .i64 2 512 = 2 := by decide
  have a3 : bits .or .i64 2 4 = 6 := by decide
  have a4 : bits .or .i64 6 2 = 6 := by decide
  have a5 : bits .or .i64 0 4 = 4 := by decide
  have a6 : bits .or .i64 0 2 = 2 := by decide
  have a7 : bits .or .i64 4 2 = 6 := by decide
  have a8 : bits .or .i64 2 2 = 2 := by decide
  go_enter Try.func8, Try.ntmps8
  go_wp2
  go_ret2
  exact ⟨rfl, rfl⟩
theorem pw_512 (w : World) : Calls Try.prog 8 #[.int .i64 512] w fun e w' => e = .returned (.tuple #[.int .i64 6, .int .i64 0]) ∧ w = w' := by
  have a1 : bits .and .i64 512 512 = 512 := by decide
  have a2 : bits .andNot .i64 512 512 = 0 := by decide
  have a3 : bits .or .i64 2 4 = 6 := by decide
  have a4 : bits .or .i64 6 2 = 6 := by decide
  have a5 : bits .or .i64 0 4 = 4 := by decide
  have a6 : bits .or .i64 0 2 = 2 := by decide
  have a7 : bits .or .i64 4 2 = 6 := by decide
  have a8 : bits .or .i64 2 2 = 2 := by decide
  go_enter Try.func8, Try.ntmps8
  go_wp2
  go_ret2
  exact ⟨rfl, rfl⟩
theorem pw_513 (w : World) : Calls Try.prog 8 #[.int .i64 513] w fun e w' => e = .returned (.tuple #[.int .i64 2, .int .i64 0]) ∧ w = w' := by
  have a1 : bits .and .i64 513 512 = 512 := by decide
  have a2 : bits .andNot .i64 513 512 = 1 := by decide
  have a3 : bits .or .i64 2 4 = 6 := by decide
  have a4 : bits .or .i64 6 2 = 6 := by decide
  have a5 : bits .or .i64 0 4 = 4 := by decide
  have a6 : bits .or .i64 0 2 = 2 := by decide
  have a7 : bits .or .i64 4 2 = 6 := by decide
  have a8 : bits .or .i64 2 2 = 2 := by decide
  go_enter Try.func8, Try.ntmps8
  go_wp2
  go_ret2
  exact ⟨rfl, rfl⟩
theorem pw_514 (w : World) : Calls Try.prog 8 #[.int .i64 514] w fun e w' => e = .returned (.tuple #[.int .i64 6, .int .i64 0]) ∧ w = w' := by
  have a1 : bits .and .i64 514 512 = 512 := by decide
  have a2 : bits .andNot .i64 514 512 = 2 := by decide
  have a3 : bits .or .i64 2 4 = 6 := by decide
  have a4 : bits .or .i64 6 2 = 6 := by decide
  have a5 : bits .or .i64 0 4 = 4 := by decide
  have a6 : bits .or .i64 0 2 = 2 := by decide
  have a7 : bits .or .i64 4 2 = 6 := by decide
  have a8 : bits .or .i64 2 2 = 2 := by decide
  go_enter Try.func8, Try.ntmps8
  go_wp2
  go_ret2
  exact ⟨rfl, rfl⟩
theorem rw_0 (w : World) : Calls Try.prog 9 #[.int .i64 0] w fun e w' => e = .returned (.tuple #[.int .i64 4, .int .i64 0]) ∧ w = w' := by
  have a1 : bits .and .i64 0 512 = 0 := by decide
  have a2 : bits .andNot .i64 0 512 = 0 := by decide
  have a3 : bits .or .i64 2 4 = 6 := by decide
  have a4 : bits .or .i64 6 2 = 6 := by decide
  have a5 : bits .or .i64 0 4 = 4 := by decide
  have a6 : bits .or .i64 0 2 = 2 := by decide
  have a7 : bits .or .i64 4 2 = 6 := by decide
  have a8 : bits .or .i64 2 2 = 2 := by decide
  go_enter Try.func9, Try.ntmps9
  go_wp2
  go_ret2
  exact ⟨rfl, rfl⟩
theorem rw_1 (w : World) : Calls Try.prog 9 #[.int .i64 1] w fun e w' => e = .returned (.tuple #[.int .i64 2, .int .i64 0]) ∧ w = w' := by
  have a1 : bits .and .i64 1 512 = 0 := by decide
  have a2 : bits .andNot .i64 1 512 = 1 := by decide
  have a3 : bits .or .i64 2 4 = 6 := by decide
  have a4 : bits .or .i64 6 2 = 6 := by decide
  have a5 : bits .or .i64 0 4 = 4 := by decide
  have a6 : bits .or .i64 0 2 = 2 := by decide
  have a7 : bits .or .i64 4 2 = 6 := by decide
  have a8 : bits .or .i64 2 2 = 2 := by decide
  go_enter Try.func9, Try.ntmps9
  go_wp2
  go_ret2
  exact ⟨rfl, rfl⟩
theorem rw_2 (w : World) : Calls Try.prog 9 #[.int .i64 2] w fun e w' => e = .returned (.tuple #[.int .i64 6, .int .i64 0]) ∧ w = w' := by
  have a1 : bits .and .i64 2 512 = 0 := by decide
  have a2 : bits .andNot .i64 2 512 = 2 := by decide
  have a3 : bits .or .i64 2 4 = 6 := by decide
  have a4 : bits .or .i64 6 2 = 6 := by decide
  have a5 : bits .or .i64 0 4 = 4 := by decide
  have a6 : bits .or .i64 0 2 = 2 := by decide
  have a7 : bits .or .i64 4 2 = 6 := by decide
  have a8 : bits .or .i64 2 2 = 2 := by decide
  go_enter Try.func9, Try.ntmps9
  go_wp2
  go_ret2
  exact ⟨rfl, rfl⟩
theorem rw_512 (w : World) : Calls Try.prog 9 #[.int .i64 512] w fun e w' => e = .returned (.tuple #[.int .i64 6, .int .i64 0]) ∧ w = w' := by
  have a1 : bits .and .i64 512 512 = 512 := by decide
  have a2 : bits .andNot .i64 512 512 = 0 := by decide
  have a3 : bits .or .i64 2 4 = 6 := by decide
  have a4 : bits .or .i64 6 2 = 6 := by decide
  have a5 : bits .or .i64 0 4 = 4 := by decide
  have a6 : bits .or .i64 0 2 = 2 := by decide
  have a7 : bits .or .i64 4 2 = 6 := by decide
  have a8 : bits .or .i64 2 2 = 2 := by decide
  go_enter Try.func9, Try.ntmps9
  go_wp2
  go_ret2
  exact ⟨rfl, rfl⟩
theorem rw_513 (w : World) : Calls Try.prog 9 #[.int .i64 513] w fun e w' => e = .returned (.tuple #[.int .i64 2, .int .i64 0]) ∧ w = w' := by
  have a1 : bits .and .i64 513 512 = 512 := by decide
  have a2 : bits .andNot .i64 513 512 = 1 := by decide
  have a3 : bits .or .i64 2 4 = 6 := by decide
  have a4 : bits .or .i64 6 2 = 6 := by decide
  have a5 : bits .or .i64 0 4 = 4 := by decide
  have a6 : bits .or .i64 0 2 = 2 := by decide
  have a7 : bits .or .i64 4 2 = 6 := by decide
  have a8 : bits .or .i64 2 2 = 2 := by decide
  go_enter Try.func9, Try.ntmps9
  go_wp2
  go_ret2
  exact ⟨rfl, rfl⟩
theorem rw_514 (w : World) : Calls Try.prog 9 #[.int .i64 514] w fun e w' => e = .returned (.tuple #[.int .i64 6, .int .i64 0]) ∧ w = w' := by
  have a1 : bits .and .i64 514 512 = 512 := by decide
  have a2 : bits .andNot .i64 514 512 = 2 := by decide
  have a3 : bits .or .i64 2 4 = 6 := by decide
  have a4 : bits .or .i64 6 2 = 6 := by decide
  have a5 : bits .or .i64 0 4 = 4 := by decide
  have a6 : bits .or .i64 0 2 = 2 := by decide
  have a7 : bits .or .i64 4 2 = 6 := by decide
  have a8 : bits .or .i64 2 2 = 2 := by decide
  go_enter Try.func9, Try.ntmps9
  go_wp2
  go_ret2
  exact ⟨rfl, rfl⟩
theorem pw_bad (z : Int) (h0 : z ≠ 0) (h1 : z ≠ 1) (h2 : z ≠ 2) (h3 : z ≠ 512) (h4 : z ≠ 513) (h5 : z ≠ 514) (hl : -9223372036854775808 ≤ z) (hh : z < 9223372036854775808) (w : World) : Calls Try.prog 8 #[.int .i64 z] w fun e w' => e = .returned (.tuple #[.int .i64 0, .int .i64 22]) ∧ w = w' := by
  obtain ⟨y, hy⟩ : ∃ y, bits .andNot .i64 z 512 = y := ⟨_, rfl⟩
  have y0 : (y == 0) = false := beq_false_of_ne (fun h => by rcases not_512 z hl hh 0 (by omega) (by rw [hy, h]; rfl) with h | h <;> omega)
  have y1 : (y == 1) = false := beq_false_of_ne (fun h => by rcases not_512 z hl hh 1 (by omega) (by rw [hy, h]; rfl) with h | h <;> omega)
  have y2 : (y == 2) = false := beq_false_of_ne (fun h => by rcases not_512 z hl hh 2 (by omega) (by rw [hy, h]; rfl) with h | h <;> omega)
  have hx := and_512 z
  clear h0 h1 h2 h3 h4 h5 hl hh
  rcases hx with hx | hx
  all_goals
    go_enter Try.func8, Try.ntmps8
    go_wp2
    go_ret2
    exact ⟨rfl, rfl⟩
theorem rw_bad (z : Int) (h0 : z ≠ 0) (h1 : z ≠ 1) (h2 : z ≠ 2) (h3 : z ≠ 512) (h4 : z ≠ 513) (h5 : z ≠ 514) (w : World) : Calls Try.prog 9 #[.int .i64 z] w fun e w' => e = .returned (.tuple #[.int .i64 0, .int .i64 22]) ∧ w = w' := by
  have b0 := beq_false_of_ne h0
  have b1 := beq_false_of_ne h1
  have b2 := beq_false_of_ne h2
  have b3 := beq_false_of_ne h3
  have b4 := beq_false_of_ne h4
  have b5 := beq_false_of_ne h5
  clear h0 h1 h2 h3 h4 h5
  go_enter Try.func9, Try.ntmps9
  go_wp2
  go_ret2
  exact ⟨rfl, rfl⟩
theorem w_any (f : FuncId) (w : World) (z : Int) (c : ∀ k ∈ ([(0, 4), (1, 2), (513, 2), (2, 6), (512, 6), (514, 6)] : List (Int × Int)), Calls Try.prog f #[.int .i64 k.1] w fun e w' => e = .returned (.tuple #[.int .i64 k.2, .int .i64 0]) ∧ w = w')
    (cb : z ≠ 0 → z ≠ 1 → z ≠ 2 → z ≠ 512 → z ≠ 513 → z ≠ 514 → Calls Try.prog f #[.int .i64 z] w fun e w' => e = .returned (.tuple #[.int .i64 0, .int .i64 22]) ∧ w = w') :
    Calls Try.prog f #[.int .i64 z] w fun e w' => e = .returned (.tuple #[.int .i64 (wA z), .int .i64 (wE z)]) ∧ w = w' := by
  by_cases h0 : z = 0
  · subst h0; exact c (0, 4) (by simp)
  by_cases h1 : z = 1
  · subst h1; exact c (1, 2) (by simp)
  by_cases h2 : z = 2
  · subst h2; exact c (2, 6) (by simp)
  by_cases h3 : z = 512
  · subst h3; exact c (512, 6) (by simp)
  by_cases h4 : z = 513
  · subst h4; exact c (513, 2) (by simp)
  by_cases h5 : z = 514
  · subst h5; exact c (514, 6) (by simp)
  have e1 : wA z = 0 := by unfold wA; rw [if_neg h0, if_neg (by omega), if_neg (by omega)]
  have e2 : wE z = 22 := by unfold wE; rw [if_neg (by omega)]
  rw [e1, e2]
  exact cb h0 h1 h2 h3 h4 h5
theorem pwants_any (z : Int) (hl : -9223372036854775808 ≤ z) (hh : z < 9223372036854775808) (w : World) : Calls Try.prog 8 #[.int .i64 z] w fun e w' => e = .returned (.tuple #[.int .i64 (wA z), .int .i64 (wE z)]) ∧ w = w' := by
  refine w_any _ w z ?_ fun h0 h1 h2 h3 h4 h5 => pw_bad z h0 h1 h2 h3 h4 h5 hl hh w
  intro k hk
  simp only [List.mem_cons, List.not_mem_nil, or_false] at hk
  rcases hk with rfl | rfl | rfl | rfl | rfl | rfl
  · exact pw_0 w
  · exact pw_1 w
  · exact pw_513 w
  · exact pw_2 w
  · exact pw_512 w
  · exact pw_514 w
theorem rwants_any (z : Int) (w : World) : Calls Try.prog 9 #[.int .i64 z] w fun e w' => e = .returned (.tuple #[.int .i64 (wA z), .int .i64 (wE z)]) ∧ w = w' := by
  refine w_any _ w z ?_ fun h0 h1 h2 h3 h4 h5 => rw_bad z h0 h1 h2 h3 h4 h5 w
  intro k hk
  simp only [List.mem_cons, List.not_mem_nil, or_false] at hk
  rcases hk with rfl | rfl | rfl | rfl | rfl | rfl
  · exact rw_0 w
  · exact rw_1 w
  · exact rw_513 w
  · exact rw_2 w
  · exact rw_512 w
  · exact rw_514 w
end Go.Proofs.Ytnmcnnfmjfbokaa
