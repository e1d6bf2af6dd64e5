/- Words for the laws' walks: a space of the call's own beside other rows; scripts; plain facts on states. Conditions: those named. -/
import Derived.Test.YtkmnmmenjpkkpaaDoorSa
import Derived.Test.YtkmnmmenjpkkpaaDoorJn
import Derived.Test.YtkmnmmenjpkkpaaDoorFrameS
set_option linter.unusedVariables false
namespace Go.Proofs.YtkmnmmenjpkkpaaDoor
open Go.RowKit

section
variable {W w0 w w' : World} {g N : Nat} {S : Nat → Nat}
theorem Own.base (h : Own w0 w g N S) (hb : Below W.heap.size W w0) : Own W w g N S := ⟨h.sp, hb.trans (h.below.mono hb.size), Nat.le_trans hb.size h.new⟩
theorem Own.far (h : Own w0 w g N S) {row : Option Nat} (k : w.grownBy w' row) (hne : some g ≠ row) (ht : 0 < w0.heap.size) (hlow : ∀ r, row = some r → w0.heap.size ≤ r) : Own w0 w' g N S :=
  ⟨⟨h.sp.row.grown k hne, h.sp.le, h.sp.st, fun j hj => k.cell (h.sp.tab j hj) (fun e => by have := hlow _ e.symm; exact absurd ht (Nat.not_lt.2 this)), h.sp.ne⟩, h.below.grown k h.below.size hlow, h.new⟩
/-- A row of another type lies elsewhere. -/
theorem own_ne {b : Nat} {e t : TypeId} {size n : Nat} {v : Value} {xs cs : List Value} (h : w.ownsRow b e size v n xs) (hr : Row w g t cs) (ht : t ≠ e) : some g ≠ v.ownBlock := by
  rcases h.2 with ⟨rfl, _⟩ | ⟨k, cap, cur, rfl, _, hk, _⟩
  · simp [Value.ownBlock]
  · intro e1
    obtain rfl : g = k := by simpa [Value.ownBlock] using e1
    rw [hr.heap] at hk
    injection hk with hk
    injection hk with _ hk
    exact ht hk
theorem own_far {b : Nat} {e t : TypeId} {size n : Nat} {v : Value} {xs cs : List Value} (h : w.ownsRow b e size v n xs) (hr : Row w g t cs) (ht : t ≠ e) (k : w.grownBy w' (some g)) : w'.ownsRow b e size v n xs := by
  refine h.kept k ?_
  cases hv : v.ownBlock with
  | none => exact .inl rfl
  | some r => exact .inr (fun e1 => by
    have := own_ne h hr ht
    rw [hv] at this
    exact this (by injection e1 with e1; rw [e1]))
end

section
variable {w0 w : World} {g N : Nat} {S : Nat → Nat}
theorem own_state_in (h : Own w0 w g N S) {a : Nat} (ha : a < N) : Calls Tryd.prog 21 #[.pointer (some ⟨g, 0, none⟩), .int .i64 (a : Int)] w fun e w' => e = .returned (.int .i64 (S a : Int)) ∧ ∃ q, w' = w.drewN q := by
  have := own_state h (a : Int)
  rw [stv_in ha] at this
  exact this
end

/-! Plain facts. -/
theorem inn (j : Nat) : (0 : Int) ≤ (j : Int) := by omega
theorem ilt {j m : Nat} (h : j < m) : (j : Int) < (m : Int) := by omega
theorem dlt {j m : Nat} (h : j < m) : decide ((j : Int) < (m : Int)) = true := decide_eq_true (ilt h)
theorem dnlt {j m : Nat} (h : ¬ j < m) : decide ((j : Int) < (m : Int)) = false := decide_eq_false (by omega)
theorem nz_beq {t : Nat} (h : t ≠ 0) : ((t : Int) == 0) = false := beq_false_of_ne (by omega)
theorem wrap_next {j k : Nat} (h : j < k) (hk : k ≤ 1000000) : wrap64 ((j : Int) + 1) = (j : Int) + 1 ∧ IntKind.i64.wrap ((j : Int) + 1) = (j : Int) + 1 := by
  rw [IntKind.wrap_i64]
  unfold wrap64
  omega
theorem seS_at (S : Nat → Nat) (j : Nat) : seS S j = if S j = 2 then 0 else S j := by unfold seS; rfl
theorem seS_ne {S : Nat → Nat} (h : ∀ j, S j ≤ 2) (j : Nat) : seS S j ≤ 1 := by
  have := h j
  rw [seS_at]
  split <;> omega
theorem seS_id {S : Nat → Nat} (h : ∀ j, S j ≤ 1) : seS S = S := by
  funext j
  have := h j
  rw [seS_at, if_neg (by omega)]
theorem putN_putN (S : Nat → Nat) (i a b : Nat) : putN (putN S i a) i b = putN S i b := by
  funext j
  by_cases e : j = i
  · rw [e, put_at, put_at]
  · rw [put_off e, put_off e, put_off e]
theorem putN_self {S : Nat → Nat} {i a : Nat} (h : S i = a) : putN S i a = S := by
  funext j
  by_cases e : j = i
  · rw [e, put_at, h]
  · rw [put_off e]
theorem free_none {N : Nat} {S : Nat → Nat} (h : ft N S = none) : nFree N S = 0 := by
  have hn := ft_none h
  have : ∀ n, n ≤ N → cnt n (fun j => S j == 0) = 0 := by
    intro n
    induction n with
    | zero => intro _; exact cnt_zero _
    | succ n ih =>
      intro hle
      have := hn n (by omega)
      rw [cnt_succ, ih (by omega)]
      simp [this]
  unfold nFree
  exact this N (Nat.le_refl _)
theorem cnt_one {f : Nat → Bool} {m : Nat} (hm : f m = true) (ho : ∀ j, j ≠ m → f j = false) : ∀ N, m < N → cnt N f = 1
  | 0, h => absurd h (Nat.not_lt_zero _)
  | N + 1, h => by
    have z : ∀ n, n ≤ m → cnt n f = 0 := by
      intro n
      induction n with
      | zero => intro _; exact cnt_zero _
      | succ n ih =>
        intro hle
        rw [cnt_succ, ih (by omega), ho n (by omega)]
        rfl
    rw [cnt_succ]
    by_cases e : m = N
    · rw [← e, z m (Nat.le_refl _), hm]
      rfl
    · rw [cnt_one hm ho N (by omega), ho N (fun e1 => e e1.symm)]
      rfl
theorem back_one {N m : Nat} {T : Nat → Nat} (h : ∀ j, T j ≤ 1) (hm : m < N) : nBack N (putN T m 2) = 1 := by
  unfold nBack
  refine cnt_one (m := m) (by simp only [put_at]; rfl) (fun j hj => ?_) N hm
  have := h j
  simp only [put_off hj]
  exact beq_false_of_ne (by omega)
theorem settle_back {m : Nat} {T : Nat → Nat} (h : ∀ j, T j ≤ 1) (hm : T m = 0) : seS (putN T m 2) = T := by
  funext j
  rw [seS_at]
  by_cases e : j = m
  · rw [e, put_at, if_pos rfl, hm]
  · have := h j
    rw [put_off e, if_neg (by omega)]
theorem mv_one {N m : Nat} {T : Nat → Nat} (hm : m < N) : mv N (putN T m 1) (m : Int) 1 = 0 := by
  rw [mv_in hm, put_at, if_pos rfl]

section
variable {w0 w : World} {g N m : Nat} {T : Nat → Nat}
theorem own_giveback (h : Own w0 w g N (putN T m 1)) (hm : m < N) : Calls Tryd.prog 15 #[.pointer (some ⟨g, 0, none⟩), .int .i64 (m : Int)] w fun e w' => e = .returned (.int .i64 0) ∧ Own w0 w' g N (putN T m 2) ∧ w.grownBy w' (some g) := by
  have := own_give h (m : Int)
  rw [chS_do (mv_one hm), mv_one hm, putN_putN] at this
  exact this
theorem own_settleback (h : Own w0 w g N (putN T m 2)) (hT : ∀ j, T j ≤ 1) (hm : m < N) (h0 : T m = 0) : Calls Tryd.prog 17 #[.pointer (some ⟨g, 0, none⟩)] w fun e w' => e = .returned (.int .i64 1) ∧ Own w0 w' g N T ∧ w.grownBy w' (some g) := by
  have := own_settle h
  rw [back_one hT hm, settle_back hT h0] at this
  exact this
theorem own_undone (h : Own w0 w g N (putN T m 1)) (hm : m < N) (h0 : T m = 0) : Calls Tryd.prog 16 #[.pointer (some ⟨g, 0, none⟩), .int .i64 (m : Int)] w fun e w' => e = .returned (.int .i64 0) ∧ Own w0 w' g N T ∧ w.grownBy w' (some g) := by
  have := own_undo h (m : Int)
  rw [chS_do (mv_one hm), mv_one hm, putN_putN, putN_self h0] at this
  exact this
theorem own_nofree (h : Own w0 w g N T) (hf : ft N T = none) : Calls Tryd.prog 19 #[.pointer (some ⟨g, 0, none⟩)] w fun e w' => e = .returned (.int .i64 0) ∧ w' = w := by
  have := own_free h
  rw [free_none hf] at this
  exact this
end
end Go.Proofs.YtkmnmmenjpkkpaaDoor
