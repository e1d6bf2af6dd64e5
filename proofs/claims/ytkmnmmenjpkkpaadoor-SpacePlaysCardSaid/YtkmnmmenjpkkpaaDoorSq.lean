/- Plain facts: the states of a space's blocks, and what each call makes of them. No program is in sight here, and no conditions. -/
import Derived.Test.YtkmnmmenjpkkpaaDoorSb
set_option linter.unusedVariables false
namespace Go.Proofs.YtkmnmmenjpkkpaaDoor

/-- One block's state, changed. -/
def putN (S : Nat → Nat) (i v : Nat) : Nat → Nat := fun j => if j = i then v else S j
/-- The free blocks, and those given back. -/
def fr (N : Nat) (S : Nat → Nat) : Nat → Bool := fun j => decide (j < N) && (S j == 0)
def bk (N : Nat) (S : Nat → Nat) : Nat → Bool := fun j => decide (j < N) && (S j == 2)
/-- How a block is; what a call that asks for a state answers, and leaves. -/
def stv (N : Nat) (S : Nat → Nat) (z : Int) : Int := if 0 ≤ z ∧ z < (N : Int) then (S z.toNat : Int) else -1
def mv (N : Nat) (S : Nat → Nat) (z : Int) (k : Nat) : Int := if stv N S z = -1 then 201 else if stv N S z = (k : Int) then 0 else 205
def chS (N : Nat) (S : Nat → Nat) (z : Int) (k v : Nat) : Nat → Nat := if mv N S z k = 0 then putN S z.toNat v else S
/-- The first free block. -/
def ft : Nat → (Nat → Nat) → Option Nat
  | 0, _ => none
  | n + 1, S => match ft n S with
    | some m => some m
    | none => if S n = 0 then some n else none
def tkS (S : Nat → Nat) : Option Nat → Nat → Nat
  | some m => putN S m 1
  | none => S
def tkA : Option Nat → Int
  | some m => (m : Int)
  | none => 0
def tkE : Option Nat → Int
  | some _ => 0
  | none => 28
/-- All that was given back is free. -/
def seS (S : Nat → Nat) : Nat → Nat := fun j => if S j = 2 then 0 else S j
def nFree (N : Nat) (S : Nat → Nat) : Nat := cnt N fun j => S j == 0
def nBack (N : Nat) (S : Nat → Nat) : Nat := cnt N fun j => S j == 2

theorem stv_in {N : Nat} {S : Nat → Nat} {a : Nat} (h : a < N) : stv N S (a : Int) = (S a : Int) := by
  unfold stv
  rw [if_pos (by omega)]
  rfl
theorem stv_out {N : Nat} {S : Nat → Nat} {z : Int} (h : ¬ (0 ≤ z ∧ z < (N : Int))) : stv N S z = -1 := by
  unfold stv
  rw [if_neg h]
theorem mv_out {N : Nat} {S : Nat → Nat} {z : Int} {k : Nat} (h : ¬ (0 ≤ z ∧ z < (N : Int))) : mv N S z k = 201 := by
  unfold mv
  rw [stv_out h, if_pos rfl]
theorem mv_in {N : Nat} {S : Nat → Nat} {a k : Nat} (h : a < N) : mv N S (a : Int) k = if S a = k then 0 else 205 := by
  unfold mv
  rw [stv_in h, if_neg (by omega)]
  by_cases e : S a = k
  · rw [if_pos e, if_pos (by omega)]
  · rw [if_neg e, if_neg (by omega)]
theorem mv_zero {N : Nat} {S : Nat → Nat} {z : Int} {k : Nat} (h : mv N S z k = 0) : ∃ a : Nat, z = (a : Int) ∧ a < N ∧ S a = k := by
  by_cases hz : 0 ≤ z ∧ z < (N : Int)
  · obtain ⟨a, rfl⟩ := Int.eq_ofNat_of_zero_le hz.1
    refine ⟨a, rfl, by omega, ?_⟩
    rw [mv_in (by omega)] at h
    split at h
    · assumption
    · omega
  · rw [mv_out hz] at h
    omega
theorem chS_keep {N : Nat} {S : Nat → Nat} {z : Int} {k v : Nat} (h : mv N S z k ≠ 0) : chS N S z k v = S := by
  unfold chS
  rw [if_neg h]
theorem chS_do {N : Nat} {S : Nat → Nat} {a k v : Nat} (h : mv N S (a : Int) k = 0) : chS N S (a : Int) k v = putN S a v := by
  unfold chS
  rw [if_pos h]
  rfl
theorem putN_le {S : Nat → Nat} {i v b : Nat} (h : ∀ j, S j ≤ b) (hv : v ≤ b) : ∀ j, putN S i v j ≤ b := fun j => by
  unfold putN
  split
  · exact hv
  · exact h j
theorem chS_le {N : Nat} {S : Nat → Nat} {z : Int} {k v b : Nat} (h : ∀ j, S j ≤ b) (hv : v ≤ b) : ∀ j, chS N S z k v j ≤ b := by
  unfold chS
  split
  · exact putN_le h hv
  · exact h
theorem seS_le {S : Nat → Nat} (h : ∀ j, S j ≤ 2) : ∀ j, seS S j ≤ 2 := fun j => by
  unfold seS
  split
  · omega
  · exact h j
theorem fr_lt {N : Nat} {S : Nat → Nat} {j : Nat} : fr N S j = true ↔ j < N ∧ S j = 0 := by simp [fr]
theorem bk_lt {N : Nat} {S : Nat → Nat} {j : Nat} : bk N S j = true ↔ j < N ∧ S j = 2 := by simp [bk]
/-- Changes of one block, as the two sets see them. -/
theorem fr_off {N : Nat} {S : Nat → Nat} {a : Nat} (v : Nat) (hv : v ≠ 0) : put (fr N S) a false = fr N (putN S a v) := by
  funext j
  unfold put fr putN
  by_cases e : j = a
  · rw [if_pos e, if_pos e]; simp [hv]
  · rw [if_neg e, if_neg e]
theorem fr_on {N : Nat} {S : Nat → Nat} {a : Nat} (h : a < N) : put (fr N S) a true = fr N (putN S a 0) := by
  funext j
  unfold put fr putN
  by_cases e : j = a
  · rw [if_pos e, if_pos e]; simp [e, h]
  · rw [if_neg e, if_neg e]
theorem fr_same {N : Nat} {S : Nat → Nat} {a v : Nat} (h : S a ≠ 0) (hv : v ≠ 0) : fr N (putN S a v) = fr N S := by
  funext j
  unfold fr putN
  by_cases e : j = a
  · rw [if_pos e, e, beq_false_of_ne hv, beq_false_of_ne h]
  · rw [if_neg e]
theorem bk_on {N : Nat} {S : Nat → Nat} {a : Nat} (h : a < N) : put (bk N S) a true = bk N (putN S a 2) := by
  funext j
  unfold put bk putN
  by_cases e : j = a
  · rw [if_pos e, if_pos e]; simp [e, h]
  · rw [if_neg e, if_neg e]
theorem bk_same {N : Nat} {S : Nat → Nat} {a v : Nat} (h : S a ≠ 2) (hv : v ≠ 2) : bk N (putN S a v) = bk N S := by
  funext j
  unfold bk putN
  by_cases e : j = a
  · rw [if_pos e, e, beq_false_of_ne hv, beq_false_of_ne h]
  · rw [if_neg e]
theorem ft_some : ∀ {n : Nat} {S : Nat → Nat} {m : Nat}, ft n S = some m → m < n ∧ S m = 0 ∧ ∀ j, j < m → S j ≠ 0
  | 0, S, m, h => by simp [ft] at h
  | n + 1, S, m, h => by
    have hn : ∀ {n : Nat} {S : Nat → Nat}, ft n S = none → ∀ j, j < n → S j ≠ 0 := by
      intro n
      induction n with
      | zero => intro S _ j hj; exact absurd hj (Nat.not_lt_zero _)
      | succ n ih =>
        intro S h j hj
        unfold ft at h
        cases e : ft n S with
        | some m => rw [e] at h; cases h
        | none =>
          rw [e] at h
          by_cases h0 : S n = 0
          · simp [h0] at h
          · by_cases ej : j = n
            · rw [ej]; exact h0
            · exact ih e j (by omega)
    unfold ft at h
    cases e : ft n S with
    | some m' =>
      rw [e] at h
      obtain rfl : m' = m := by simpa using h
      obtain ⟨h1, h2, h3⟩ := ft_some e
      exact ⟨by omega, h2, h3⟩
    | none =>
      rw [e] at h
      by_cases h0 : S n = 0
      · obtain rfl : n = m := by simpa [h0] using h
        exact ⟨by omega, h0, hn e⟩
      · simp [h0] at h
theorem ft_none : ∀ {n : Nat} {S : Nat → Nat}, ft n S = none → ∀ j, j < n → S j ≠ 0
  | 0, _, _, j, hj => absurd hj (Nat.not_lt_zero _)
  | n + 1, S, h, j, hj => by
    unfold ft at h
    cases e : ft n S with
    | some m => rw [e] at h; cases h
    | none =>
      rw [e] at h
      by_cases h0 : S n = 0
      · simp [h0] at h
      · by_cases ej : j = n
        · rw [ej]; exact h0
        · exact ft_none e j (by omega)
theorem ft_is {n : Nat} {S : Nat → Nat} {m : Nat} (h1 : m < n) (h2 : S m = 0) (h3 : ∀ j, j < m → S j ≠ 0) : ft n S = some m := by
  cases e : ft n S with
  | none => exact absurd h2 (ft_none e m h1)
  | some k =>
    obtain ⟨k1, k2, k3⟩ := ft_some e
    by_cases hk : k < m
    · exact absurd k2 (h3 k hk)
    · by_cases hm : m < k
      · exact absurd h2 (k3 m hm)
      · rw [show k = m by omega]
theorem ft_no {n : Nat} {S : Nat → Nat} (h : ∀ j, j < n → S j ≠ 0) : ft n S = none := by
  cases e : ft n S with
  | none => rfl
  | some k =>
    obtain ⟨k1, k2, _⟩ := ft_some e
    exact absurd k2 (h k k1)
theorem tkS_le {S : Nat → Nat} {o : Option Nat} (h : ∀ j, S j ≤ 2) : ∀ j, tkS S o j ≤ 2 := by
  cases o with
  | none => exact h
  | some m => exact putN_le h (by omega)
theorem cnt_mask (N : Nat) (f : Nat → Bool) : ∀ M, N ≤ M → cnt M (fun j => decide (j < N) && f j) = cnt N f
  | 0, h => by
    obtain rfl : N = 0 := by omega
    rw [cnt_zero, cnt_zero]
  | M + 1, h => by
    by_cases e : N = M + 1
    · rw [e]
      refine cnt_congr _ fun j hj => ?_
      simp [hj]
    · rw [cnt_succ, cnt_mask N f M (by omega)]
      have : ¬ M < N := by omega
      simp [this]
theorem free_cnt {N : Nat} {S : Nat → Nat} (h : N ≤ 1024) : cnt 1024 (fr N S) = nFree N S := cnt_mask N _ 1024 h
theorem back_cnt {N : Nat} {S : Nat → Nat} (h : N ≤ 1024) : cnt 1024 (bk N S) = nBack N S := cnt_mask N _ 1024 h
theorem settle_fr {N : Nat} {S : Nat → Nat} (h : N ≤ 1024) : (fun j => fr N S j || (decide (j < 1024) && bk N S j)) = fr N (seS S) := by
  funext j
  unfold fr bk seS
  by_cases h1 : j < N
  · have : j < 1024 := by omega
    by_cases h2 : S j = 2
    · simp [h1, this, h2]
    · simp [h1, this, h2]
  · simp [h1]
theorem settle_bk {N : Nat} {S : Nat → Nat} : (fun _ => false) = bk N (seS S) := by
  funext j
  unfold bk seS
  by_cases h2 : S j = 2
  · simp [h2]
  · simp [h2]
attribute [irreducible] fr bk stv mv chS ft seS nFree nBack putN
end Go.Proofs.YtkmnmmenjpkkpaaDoor
