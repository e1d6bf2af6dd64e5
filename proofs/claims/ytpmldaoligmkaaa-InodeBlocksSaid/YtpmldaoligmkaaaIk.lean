/- The walks of InodeSums and InodeBlocks. Conditions: those named. -/
import Derived.Test.YtpmldaoligmkaaaIj
set_option linter.unusedVariables false
set_option maxRecDepth 20000
namespace Go.Proofs.Ytpmldaoligmkaaa
open Go.RowKit

theorem blks_nat (a : Nat) : ∃ q : Nat, blks (a : Int) = (q : Int) ∧ q * 256 < a + 256 ∧ a ≤ q * 256 := by
  unfold blks
  by_cases h : (a : Int) ≤ 0
  · rw [if_pos h]
    exact ⟨0, rfl, by omega, by omega⟩
  · rw [if_neg h]
    exact ⟨(a - 1) / 256 + 1, by omega, by omega, by omega⟩
theorem wr_int (z : Int) (h1 : 0 ≤ z) (h2 : z < 9223372036854775808) : IntKind.i64.wrap z = z := by rw [IntKind.wrap_i64]; omega
theorem sumsW (a b : Nat) (ha : a < 65536) (hb : b < 65536) (w : World) : Calls Try.prog 8 #[.int .u16 (a : Int), .int .u16 (b : Int)] w fun e w' => e = .returned (.bool true) ∧ Below w.heap.size w w' := by
  obtain ⟨x, hx, x1, x2⟩ := blks_nat a
  obtain ⟨y, hy, y1, y2⟩ := blks_nat b
  obtain ⟨z, hz, z1, z2⟩ := blks_nat (a + b)
  have HX := Lib.hid (fun w => blocks_any (a : Int) (by omega) w)
  have HY := Lib.hid (fun w => blocks_any (b : Int) (by omega) w)
  have HZ := Lib.hid (fun w => blocks_any ((a + b : Nat) : Int) (by omega) w)
  rw [hx] at HX
  rw [hy] at HY
  rw [hz] at HZ
  obtain ⟨s, hs⟩ : ∃ s, a + b = s := ⟨_, rfl⟩
  rw [hs] at HZ
  have w1 : IntKind.i64.wrap (a : Int) = (a : Int) := wr_int _ (by omega) (by omega)
  have w2 : IntKind.i64.wrap (b : Int) = (b : Int) := wr_int _ (by omega) (by omega)
  have w3 : IntKind.i64.wrap ((a : Int) + (b : Int)) = (s : Int) := by rw [wr_int _ (by omega) (by omega)]; omega
  have w4 : IntKind.i64.wrap ((x : Int) + (y : Int)) = (x : Int) + (y : Int) := wr_int _ (by omega) (by omega)
  have w5 : IntKind.i64.wrap ((z : Int) + 1) = (z : Int) + 1 := wr_int _ (by omega) (by omega)
  have l1 : (z : Int) ≤ (x : Int) + (y : Int) := by omega
  have l2 : (x : Int) ≤ (z : Int) := by omega
  have l3 : (y : Int) ≤ (z : Int) := by omega
  have l4 : (x : Int) + (y : Int) ≤ (z : Int) + 1 := by omega
  clear hx hy hz x1 x2 y1 y2 z1 z2 hs ha hb
  go_enter Try.func8, Try.ntmps8
  go_wp2_with (go_at_call 9; refine (awake_any _).mono ?_; rintro e w2 ⟨rfl, hb2⟩; have HB2 := Lib.hid hb2; clear hb2; go_wp2_with fail)
  refine (HX.out _).mono ?_
  rintro e w3 ⟨rfl, rfl⟩
  go_wp2_with fail
  refine (HY.out _).mono ?_
  rintro e w4 ⟨rfl, rfl⟩
  go_wp2_with fail
  refine (HZ.out _).mono ?_
  rintro e w5 ⟨rfl, rfl⟩
  go_wp2
  go_ret
  exact ⟨rfl, HB2.out⟩
end Go.Proofs.Ytpmldaoligmkaaa
