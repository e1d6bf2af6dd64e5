/- Words for the walk of SpaceOnce: which blocks are held, and which given back, as rows of Booleans. No conditions but those named. -/
import Derived.Test.YtkmnmmenjpkkpaaDoorSc
set_option linter.unusedVariables false
namespace Go.Proofs.YtkmnmmenjpkkpaaDoor
open Go.RowKit

def hB (S : Nat → Nat) : Nat → Value := fun j => .bool (!(S j == 0))
def bB (S : Nat → Nat) : Nat → Value := fun j => .bool (S j == 2)
theorem hB_free {S : Nat → Nat} {j : Nat} (h : S j = 0) : hB S j = .bool false := by simp [hB, h]
theorem hB_held {S : Nat → Nat} {j : Nat} (h : S j ≠ 0) : hB S j = .bool true := by
  unfold hB
  rw [beq_false_of_ne h]
  rfl
theorem bB_back {S : Nat → Nat} {j : Nat} (h : S j = 2) : bB S j = .bool true := by simp [bB, h]
theorem bB_not {S : Nat → Nat} {j : Nat} (h : S j ≠ 2) : bB S j = .bool false := by
  unfold bB
  rw [beq_false_of_ne h]
/-- A block's state changed, as the rows see it. -/
theorem hB_keep {S : Nat → Nat} {a v : Nat} (h : S a ≠ 0) (hv : v ≠ 0) : hB (putN S a v) = hB S := by
  funext j
  by_cases e : j = a
  · rw [e, hB_held (by rw [put_at]; exact hv), hB_held h]
  · unfold hB
    rw [put_off e]
theorem bB_keep {S : Nat → Nat} {a v : Nat} (h : S a ≠ 2) (hv : v ≠ 2) : bB (putN S a v) = bB S := by
  funext j
  by_cases e : j = a
  · rw [e, bB_not (by rw [put_at]; exact hv), bB_not h]
  · unfold bB
    rw [put_off e]
theorem hB_take (S : Nat → Nat) (n a : Nat) : (fv n (hB S)).set a (.bool true) = fv n (hB (putN S a 1)) := by
  have e : hB (putN S a 1) a = .bool true := hB_held (by rw [put_at]; omega)
  rw [← e]
  refine fv_set _ _ fun j hj => ?_
  by_cases h : j = a
  · rw [if_pos h, h]
  · rw [if_neg h]
    unfold hB
    rw [put_off h]
theorem bB_give (S : Nat → Nat) (n a : Nat) : (fv n (bB S)).set a (.bool true) = fv n (bB (putN S a 2)) := by
  have e : bB (putN S a 2) a = .bool true := bB_back (by rw [put_at])
  rw [← e]
  refine fv_set _ _ fun j hj => ?_
  by_cases h : j = a
  · rw [if_pos h, h]
  · rw [if_neg h]
    unfold bB
    rw [put_off h]
theorem fv_same {n a : Nat} {f : Nat → Value} {v : Value} (h : f a = v) : (fv n f).set a v = fv n f := by
  rw [← h]
  exact fv_set f f fun j hj => by
    by_cases e : j = a
    · rw [if_pos e, e]
    · rw [if_neg e]
/-- The two rows, settled below k. -/
def hM (S : Nat → Nat) (k : Nat) : Nat → Value := fun j => if j < k then hB (seS S) j else hB S j
def bM (S : Nat → Nat) (k : Nat) : Nat → Value := fun j => if j < k then .bool false else bB S j
theorem hM_zero (S : Nat → Nat) : hM S 0 = hB S := by funext j; simp [hM]
theorem bM_zero (S : Nat → Nat) : bM S 0 = bB S := by funext j; simp [bM]
theorem hM_full (S : Nat → Nat) (n : Nat) : fv n (hM S n) = fv n (hB (seS S)) := fv_congr fun j hj => by simp [hM, hj]
theorem bM_full (S : Nat → Nat) (n : Nat) : fv n (bM S n) = fv n (bB (seS S)) := fv_congr fun j hj => by
  have : bB (seS S) j = .bool false := bB_not (by rw [seS_at]; split <;> omega)
  simp [bM, hj, this]
theorem hM_at (S : Nat → Nat) (k : Nat) : hM S k k = hB S k := by simp [hM]
theorem bM_at (S : Nat → Nat) (k : Nat) : bM S k k = bB S k := by simp [bM]
theorem hM_next (S : Nat → Nat) (n k : Nat) {v : Value} (h : hB (seS S) k = v) : (fv n (hM S k)).set k v = fv n (hM S (k + 1)) := by
  have e : hM S (k + 1) k = v := by simp [hM, h]
  rw [← e]
  refine fv_set _ _ fun j hj => ?_
  by_cases h : j = k
  · rw [if_pos h, h]
  · rw [if_neg h]
    unfold hM
    by_cases h1 : j < k
    · rw [if_pos h1, if_pos (by omega)]
    · rw [if_neg h1, if_neg (by omega)]
theorem bM_next (S : Nat → Nat) (n k : Nat) : (fv n (bM S k)).set k (.bool false) = fv n (bM S (k + 1)) := by
  have e : bM S (k + 1) k = .bool false := by simp [bM]
  rw [← e]
  refine fv_set _ _ fun j hj => ?_
  by_cases h : j = k
  · rw [if_pos h, h]
  · rw [if_neg h]
    unfold bM
    by_cases h1 : j < k
    · rw [if_pos h1, if_pos (by omega)]
    · rw [if_neg h1, if_neg (by omega)]
/-- How many of the first k are free. -/
theorem nFree_succ (S : Nat → Nat) (k : Nat) : nFree (k + 1) S = nFree k S + (S k == 0).toNat := by unfold nFree; rw [cnt_succ]
theorem nFree_zero (S : Nat → Nat) : nFree 0 S = 0 := by unfold nFree; rw [cnt_zero]
theorem nFree_le (k : Nat) (S : Nat → Nat) : nFree k S ≤ k := by unfold nFree; exact cnt_le k _
attribute [irreducible] hB bB hM bM

section
variable {w0 w : World} {g N a : Nat} {S : Nat → Nat}
theorem own_give_one (h : Own w0 w g N S) (ha : a < N) (h1 : S a = 1) : Calls Tryd.prog 15 #[.pointer (some ⟨g, 0, none⟩), .int .i64 (a : Int)] w fun e w' => e = .returned (.int .i64 0) ∧ Own w0 w' g N (putN S a 2) ∧ w.grownBy w' (some g) := by
  have hm : mv N S (a : Int) 1 = 0 := by rw [mv_in ha, if_pos h1]
  have := own_give h (a : Int)
  rw [chS_do hm, hm] at this
  exact this
theorem give_quiet (h : Spc w g N S) (z : Int) (hx : mv N S z 1 = 205) : Calls Tryd.prog 15 #[.pointer (some ⟨g, 0, none⟩), .int .i64 z] w fun e w' => e = .returned (.int .i64 205) ∧ ∃ q, w' = w.drewN q := by
  have H := Lib.hid h
  have HX := Lib.hid hx
  clear h hx
  go_enter Tryd.func15, Tryd.ntmps15
  go_wp2_with (go_at_call 26; refine (must_any H.out z 1).mono ?_; rintro e w' ⟨rfl, q, rfl⟩; rw [HX.out])
  go_ret
  exact ⟨rfl, q, rfl⟩
theorem own_give_quiet (h : Own w0 w g N S) (ha : a < N) (h1 : S a ≠ 1) : Calls Tryd.prog 15 #[.pointer (some ⟨g, 0, none⟩), .int .i64 (a : Int)] w fun e w' => e = .returned (.int .i64 205) ∧ ∃ q, w' = w.drewN q :=
  give_quiet h.sp (a : Int) (by rw [mv_in ha, if_neg h1])
theorem own_give_not (h : Own w0 w g N S) (ha : a < N) (h1 : S a ≠ 1) : Calls Tryd.prog 15 #[.pointer (some ⟨g, 0, none⟩), .int .i64 (a : Int)] w fun e w' => e = .returned (.int .i64 205) ∧ Own w0 w' g N S ∧ w.grownBy w' (some g) := by
  have hm : mv N S (a : Int) 1 = 205 := by rw [mv_in ha, if_neg h1]
  have := own_give h (a : Int)
  rw [chS_keep (by rw [hm]; decide), hm] at this
  exact this
end
theorem below_drwS (w : World) : Below w.heap.size w w.drew := (Below.refl _ _).drew
/-- Of any number, the place that the law makes of it. -/
theorem place_any (z : Int) (N : Nat) (h1 : 1 ≤ N) (h2 : N ≤ 256) : ∃ u a : Nat, IntKind.u64.wrap z = (u : Int) ∧ (u : Int) % (N : Int) = (a : Int) ∧ Int.tmod (u : Int) (N : Int) = (a : Int) ∧ IntKind.u64.wrap (N : Int) = (N : Int) ∧ wrap64 (a : Int) = (a : Int) ∧ IntKind.i64.wrap (a : Int) = (a : Int) ∧ IntKind.u64.wrap (a : Int) = (a : Int) ∧ a < N := by
  have hu := IntKind.wrap_u64 z
  have hb : 0 ≤ z % 18446744073709551616 := Int.emod_nonneg _ (by decide)
  obtain ⟨u, hu'⟩ := Int.eq_ofNat_of_zero_le hb
  have ha : u % N < N := Nat.mod_lt _ (by omega)
  refine ⟨u, u % N, by rw [hu, hu'], by rfl, ?_, by rw [IntKind.wrap_u64]; omega, by unfold wrap64; omega, by rw [IntKind.wrap_i64]; omega, by rw [IntKind.wrap_u64]; omega, ha⟩
  rw [Int.tmod_eq_emod_of_nonneg (by omega)]
  rfl
end Go.Proofs.YtkmnmmenjpkkpaaDoor
