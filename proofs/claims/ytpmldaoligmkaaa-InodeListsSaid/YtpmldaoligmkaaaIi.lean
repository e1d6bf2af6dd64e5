/- Package inode: how many blocks a size goes through. No conditions but those named. -/
import Derived.Test.YtpmldaoligmkaaaIb
set_option linter.unusedVariables false
set_option maxRecDepth 20000
namespace Go.Proofs.Ytpmldaoligmkaaa
open Go.RowKit

/-! How many blocks. -/
theorem wr_nat (m : Nat) (h : m < 9223372036854775808) : IntKind.i64.wrap (m : Int) = (m : Int) := by rw [IntKind.wrap_i64]; omega
theorem wr64_nat (m : Nat) (h : m < 9223372036854775808) : wrap64 (m : Int) = (m : Int) := by unfold wrap64; omega
def blks (z : Int) : Int := if z ≤ 0 then 0 else (z - 1) / 256 + 1
theorem blocks_any (z : Int) (h : z < 9223372036854775808) (w : World) : Calls Try.prog 19 #[.int .i64 z] w fun e w' => e = .returned (.int .i64 (blks z)) ∧ w = w' := by
  by_cases h0 : z ≤ 0
  · have hb : blks z = 0 := by unfold blks; rw [if_pos h0]
    rw [hb]
    clear hb
    go_enter Try.func19, Try.ntmps19
    go_wp2
    go_ret
    exact ⟨rfl, rfl⟩
  · have hb : blks z = (z - 1) / 256 + 1 := by unfold blks; rw [if_neg h0]
    rw [hb]
    obtain ⟨m, hm⟩ : ∃ m : Nat, z - 1 = (m : Int) := ⟨(z - 1).toNat, by omega⟩
    obtain ⟨q, hq⟩ : ∃ q : Nat, m / 256 = q := ⟨_, rfl⟩
    have hzm : z = (m : Int) + 1 := by omega
    have hd : ((m : Int)) / 256 = (q : Int) := by omega
    have hmb : m < 9223372036854775807 := by omega
    have hqb : q + 1 < 9223372036854775808 := by omega
    rw [hm, hd]
    clear hb hm hq h h0
    subst hzm
    have h7 : (m : Int) + 1 - 1 = (m : Int) := Int.add_sub_cancel _ _
    have h1 : IntKind.i64.wrap ((m : Int) + 1 - 1) = (m : Int) := by rw [h7]; exact wr_nat m (by omega)
    have h2 : Int.tdiv (m : Int) 256 = (q : Int) := by rw [Int.tdiv_eq_ediv_of_nonneg (Int.natCast_nonneg m)]; exact hd
    have h3 : wrap64 (q : Int) = (q : Int) := wr64_nat q (by omega)
    have h4 : IntKind.i64.wrap (q : Int) = (q : Int) := wr_nat q (by omega)
    have h5 : IntKind.i64.wrap ((q : Int) + 1) = (q : Int) + 1 := wr_nat (q + 1) hqb
    have h6 : wrap64 ((m : Int) + 1 - 1) = (m : Int) := by rw [h7]; exact wr64_nat m (by omega)
    have h8 : wrap64 (m : Int) = (m : Int) := wr64_nat m (by omega)
    have h9 : IntKind.i64.wrap (m : Int) = (m : Int) := wr_nat m (by omega)
    have h0 : ¬ ((m : Int) + 1 ≤ 0) := by omega
    clear hmb hqb hd
    go_enter Try.func19, Try.ntmps19
    go_wp2
    go_ret
    exact ⟨rfl, rfl⟩
end Go.Proofs.Ytpmldaoligmkaaa
