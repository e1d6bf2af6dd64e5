/- Words in memory: the space's functions on one set of places, each by what it leaves. Conditions: the words lie there. -/
import Derived.Test.YtpocccnhibjjcaaGreatDoorMgSpread
import Derived.Test.YtpocccnhibjjcaaGreatDoorMgSha
import Derived.StillTailTactics
import Derived.Deep.QuietTactic
import Derived.BigQuiet
import Derived.Test.YtpocccnhibjjcaaGreatDoorChecked
import Derived.Shelf.Spec.TrailingZeros
set_option linter.unusedVariables false
set_option maxRecDepth 20000
namespace Go.Proofs.YtpocccnhibjjcaaGreatDoor.S8
open Go.RowKit

abbrev W64 (x : Nat) : Value := .int .u64 (x : Int)

theorem bit_any (a p : Nat) (hp : p = 2 ^ (a % 64)) (w : World) : Calls Tryz.prog 95 #[.int .i64 (a : Int)] w fun e w' => e = .returned (W64 p) ∧ w' = w := by
  have h1 : IntKind.u64.wrap ((2 : Int) ^ (a % 64)) = (p : Int) := by
    have := pow64_lt (Nat.mod_lt a (show 0 < 64 by decide))
    rw [← hp] at this
    rw [hp, IntKind.wrap_u64, ← hp, show ((2 : Int) ^ (a % 64)) = ((2 ^ (a % 64) : Nat) : Int) by simp, ← hp]
    omega
  have HP := Lib.hid hp
  clear hp
  go_enter Tryz.func95, Tryz.ntmps95
  go_wp2
  go_ret
  exact ⟨congrArg (fun z => Ending.returned (Value.int .u64 z)) h1, rfl⟩

def Tab (w : World) : Prop := TabAt 2 Lib.deBruijn64tab w
theorem Tab.below {w w' : World} {n : Nat} (h : Tab w) (hb : Below n w w') (hn : 2 < n) : Tab w' := fun j hj => (hb.cell (p := ⟨2, j, none⟩) hn).trans (h j hj)
theorem Tab.lt {w : World} (h : Tab w) : 2 < w.heap.size := World.block_lt_of_cell? w _ (h 0 (by decide))
theorem Tab.grown {w w' : World} {g : Nat} (h : Tab w) (hb : w.grownBy w' (some g)) (hg : 2 ≠ g) : Tab w' := fun j hj => hb.cell (h j hj) (fun e => hg (by injection e))
theorem tz_any (x k : Nat) (hx : x < 18446744073709551616) (h0 : x ≠ 0) (hk : Lib.ctz 64 x = k) (w : World) (hT : Tab w) : Calls Tryz.prog 174 #[W64 x] w fun e w' => e = .returned (.int .i64 (k : Int)) ∧ w' = w := by
  obtain ⟨hlow, hk6⟩ := Lib.lowest_bit 64 x h0 hx
  obtain ⟨hi, htab⟩ := Lib.deBruijn64_at _ hk6
  have hc := hT _ hi
  have key := tz64_key x _ hx h0 hlow
  rw [htab] at hc
  rw [hk] at hc key hi hk6
  obtain ⟨i, hi0⟩ : ∃ i, 2 ^ k * 285870213051353865 % 18446744073709551616 / 288230376151711744 = i := ⟨_, rfl⟩
  rw [hi0] at hc key hi
  have hx0 : ((x : Int) == 0) = false := by simp; omega
  have hi2 : (i : Int) < 64 := by omega
  clear hlow htab hi0 hk hx h0 hT
  go_enter Tryz.func174, Tryz.ntmps174
  go_wp2_with (simp only [key])
  go_ret
  exact ⟨rfl, rfl⟩

section
variable {w : World} {g off a : Nat} {t : TypeId} {cs : List Value} {f : Nat → Bool}
theorem has_any (hr : Row w g t cs) (ha : a < 1024) (hx : cs[off + a / 64]? = some (W64 (num 64 f))) :
    Calls Tryz.prog 168 #[.pointer (some ⟨g, off, none⟩), .int .i64 (a : Int)] w fun e w' => e = .returned (.bool (f (a % 64))) ∧ ∃ q, w' = w.drewN q := by
  obtain ⟨p, hp⟩ : ∃ p, p = 2 ^ (a % 64) := ⟨_, rfl⟩
  obtain ⟨q, hq⟩ : ∃ q, a / 64 = q := ⟨_, rfl⟩
  obtain ⟨x, hx0⟩ : ∃ x, num 64 f = x := ⟨_, rfl⟩
  rw [hq, hx0] at hx
  have hc := (hr.cell (off + q)).trans hx
  have hq1 : (a : Int) / 64 = (q : Int) := by omega
  have hq2 : (0 : Int) ≤ (q : Int) := by omega
  have hq3 : (q : Int) < 16 := by omega
  have hq4 : IntKind.i64.wrap (q : Int) = (q : Int) := by rw [IntKind.wrap_i64]; omega
  have hand : bits .and .u64 (x : Int) (p : Int) = ((if f (a % 64) then p else 0 : Nat) : Int) := by
    rw [bits_and_u64_nat _ _ (by rw [← hx0]; exact num64_lt f) (by rw [hp]; exact pow64_lt (Nat.mod_lt a (by decide))), ← hx0, hp, num_and (Nat.mod_lt a (by decide))]
  obtain ⟨y, hy⟩ : ∃ y : Nat, (if f (a % 64) then p else 0) = y := ⟨_, rfl⟩
  rw [hy] at hand
  have hne : ((y : Int) != 0) = f (a % 64) := by
    have hpos : 0 < p := by rw [hp]; exact Nat.two_pow_pos _
    rw [← hy]
    cases f (a % 64) <;> simp
    omega
  have HP := Lib.hid hp
  generalize f (a % 64) = b at *
  clear hp hq hy hr hx
  go_enter Tryz.func168, Tryz.ntmps168
  go_wp2_with fail
  go_quiet (first | (go_at_call 95; refine Calls.quiet_of_same (bit_any a p HP.out _)))
  go_wp2
  go_ret
  exact ⟨rfl, _, rfl⟩

theorem add_any (hr : Row w g t cs) (ha : a < 1024) (hx : cs[off + a / 64]? = some (W64 (num 64 f))) :
    Calls Tryz.prog 65 #[.pointer (some ⟨g, off, none⟩), .int .i64 (a : Int)] w fun e w' => (∃ v, e = .returned v) ∧ Row w' g t (cs.set (off + a / 64) (W64 (num 64 (put f (a % 64) true)))) ∧ w.grownBy w' (some g) := by
  obtain ⟨p, hp⟩ : ∃ p, p = 2 ^ (a % 64) := ⟨_, rfl⟩
  obtain ⟨q, hq⟩ : ∃ q, a / 64 = q := ⟨_, rfl⟩
  obtain ⟨x, hx0⟩ : ∃ x, num 64 f = x := ⟨_, rfl⟩
  obtain ⟨y, hy⟩ : ∃ y, num 64 (put f (a % 64) true) = y := ⟨_, rfl⟩
  rw [hq, hx0] at hx
  have hc := (hr.cell (off + q)).trans hx
  have hf := hr.free (off + q)
  have hq1 : (a : Int) / 64 = (q : Int) := by omega
  have hq2 : (0 : Int) ≤ (q : Int) := by omega
  have hq3 : (q : Int) < 16 := by omega
  have hq4 : IntKind.i64.wrap (q : Int) = (q : Int) := by rw [IntKind.wrap_i64]; omega
  have hor : bits .or .u64 (x : Int) (p : Int) = (y : Int) := by
    rw [bits_or_u64_nat _ _ (by rw [← hx0]; exact num64_lt f) (by rw [hp]; exact pow64_lt (Nat.mod_lt a (by decide))), ← hx0, hp, num_or (Nat.mod_lt a (by decide)), hy]
  rw [hy, hq]
  have HP := Lib.hid hp
  have HR := Lib.hid hr
  clear hp hq hy hr hx hx0
  go_enter Tryz.func65, Tryz.ntmps65
  go_wp2_with fail
  go_still_tail 11, (by kernel_rfl)
  still_call (bit_any a p HP.out _)
  repeat still_step
  refine wpStill_nil ?_
  change wpList _ _ _ _ _ w.drew
  have hcz : w.drew.cell? ⟨g, off + q, none⟩ = some (W64 x) := hc
  have hfz : w.drew.frozen? ⟨g, off + q, none⟩ = false := hf
  have HRZ : Hid (Row w.drew g t cs) := Lib.hid HR.out.drew
  have HGZ : Hid (w.grownBy w.drew (some g)) := Lib.hid ⟨rfl, rfl, rfl, Nat.le_refl _, fun _ _ _ => rfl⟩
  clear HR hc hf
  generalize w.drew = wz at *
  go_wp2
  go_end0
  exact ⟨⟨_, rfl⟩, HRZ.out.put _ _, grown_trans HGZ.out (grown_set _ _ _)⟩
theorem remove_any (hr : Row w g t cs) (ha : a < 1024) (hx : cs[off + a / 64]? = some (W64 (num 64 f))) :
    Calls Tryz.prog 120 #[.pointer (some ⟨g, off, none⟩), .int .i64 (a : Int)] w fun e w' => (∃ v, e = .returned v) ∧ Row w' g t (cs.set (off + a / 64) (W64 (num 64 (put f (a % 64) false)))) ∧ w.grownBy w' (some g) := by
  obtain ⟨p, hp⟩ : ∃ p, p = 2 ^ (a % 64) := ⟨_, rfl⟩
  obtain ⟨q, hq⟩ : ∃ q, a / 64 = q := ⟨_, rfl⟩
  obtain ⟨x, hx0⟩ : ∃ x, num 64 f = x := ⟨_, rfl⟩
  obtain ⟨y, hy⟩ : ∃ y, num 64 (put f (a % 64) false) = y := ⟨_, rfl⟩
  rw [hq, hx0] at hx
  have hc := (hr.cell (off + q)).trans hx
  have hf := hr.free (off + q)
  have hq1 : (a : Int) / 64 = (q : Int) := by omega
  have hq2 : (0 : Int) ≤ (q : Int) := by omega
  have hq3 : (q : Int) < 16 := by omega
  have hq4 : IntKind.i64.wrap (q : Int) = (q : Int) := by rw [IntKind.wrap_i64]; omega
  have hor : bits .andNot .u64 (x : Int) (p : Int) = (y : Int) := by
    rw [← hx0, hp, num_sub (Nat.mod_lt a (by decide)), hy]
  rw [hy, hq]
  have HP := Lib.hid hp
  have HR := Lib.hid hr
  clear hp hq hy hr hx hx0
  go_enter Tryz.func120, Tryz.ntmps120
  go_wp2_with fail
  go_still_tail 11, (by kernel_rfl)
  still_call (bit_any a p HP.out _)
  repeat still_step
  refine wpStill_nil ?_
  change wpList _ _ _ _ _ w.drew
  have hcz : w.drew.cell? ⟨g, off + q, none⟩ = some (W64 x) := hc
  have hfz : w.drew.frozen? ⟨g, off + q, none⟩ = false := hf
  have HRZ : Hid (Row w.drew g t cs) := Lib.hid HR.out.drew
  have HGZ : Hid (w.grownBy w.drew (some g)) := Lib.hid ⟨rfl, rfl, rfl, Nat.le_refl _, fun _ _ _ => rfl⟩
  clear HR hc hf
  generalize w.drew = wz at *
  go_wp2
  go_end0
  exact ⟨⟨_, rfl⟩, HRZ.out.put _ _, grown_trans HGZ.out (grown_set _ _ _)⟩
end

end Go.Proofs.YtpocccnhibjjcaaGreatDoor.S8
