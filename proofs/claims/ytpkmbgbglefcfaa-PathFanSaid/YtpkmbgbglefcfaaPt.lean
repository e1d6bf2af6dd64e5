/- Plain facts: how many slots and nodes a tree has. No program is in sight here, and no conditions. -/
import Derived.WalkKit
set_option linter.unusedVariables false
namespace Go.Proofs.Ytpkmbgbglefcfaa

/-- 4 to the n-th. -/
def pw (n : Nat) : Nat := 4 ^ n
theorem pw_zero : pw 0 = 1 := rfl
theorem pw_succ (n : Nat) : pw (n + 1) = pw n * 4 := Nat.pow_succ ..
theorem pw_pos (n : Nat) : 1 ≤ pw n := Nat.pow_pos (by decide)
theorem pw_mono {a b : Nat} (h : a ≤ b) : pw a ≤ pw b := Nat.pow_le_pow_right (by decide) h
theorem pw_le {n : Nat} (h : n ≤ 4) : pw n ≤ 256 := pw_mono h
/-- How many levels of nodes: 0, if there may not be so many. -/
def lv (d : Int) : Nat := if 1 ≤ d ∧ d ≤ 4 then d.toNat else 0
theorem lv_le (d : Int) : lv d ≤ 4 := by unfold lv; split <;> omega
theorem lv_in {d : Int} (h : 1 ≤ d) (h2 : d ≤ 4) : (lv d : Int) = d := by unfold lv; rw [if_pos ⟨h, h2⟩]; omega
theorem lv_out {d : Int} (h : ¬ (1 ≤ d ∧ d ≤ 4)) : lv d = 0 := if_neg h
theorem lv_nat {d : Int} (h : 1 ≤ d) (h2 : d ≤ 4) : ∃ n : Nat, d = (n : Int) ∧ 1 ≤ n ∧ n ≤ 4 := ⟨d.toNat, by omega, by omega, by omega⟩
theorem lv_of {n : Nat} (h : 1 ≤ n) (h2 : n ≤ 4) : lv (n : Int) = n := by unfold lv; rw [if_pos (by omega)]; omega
/-- How many slots. -/
def sl (d : Int) : Nat := if lv d = 0 then 0 else pw (lv d)
theorem sl_le (d : Int) : sl d ≤ 256 := by
  unfold sl
  split
  · omega
  · exact pw_le (lv_le d)
theorem sl_out {d : Int} (h : ¬ (1 ≤ d ∧ d ≤ 4)) : sl d = 0 := by unfold sl; rw [lv_out h]; rfl
theorem sl_of {n : Nat} (h : 1 ≤ n) (h2 : n ≤ 4) : sl (n : Int) = pw n := by unfold sl; rw [lv_of h h2, if_neg (by omega)]
/-- How many nodes on the first so many levels. -/
def nd : Nat → Nat
  | 0 => 0
  | n + 1 => nd n + pw n
theorem nd_le {n : Nat} (h : n ≤ 4) : nd n ≤ 85 := by
  match n, h with
  | 0, _ => decide
  | 1, _ => decide
  | 2, _ => decide
  | 3, _ => decide
  | 4, _ => decide
/-- The nodes of a level, and all nodes of the first so many levels. -/
def lev (l n : Nat) : List (Int × Int) := (List.range n).map fun i : Nat => ((l : Int), (i : Int))
theorem lev_zero (l : Nat) : lev l 0 = [] := rfl
theorem lev_succ (l n : Nat) : lev l (n + 1) = lev l n ++ [((l : Int), (n : Int))] := by unfold lev; rw [List.range_succ, List.map_append]; rfl
theorem lev_len (l n : Nat) : (lev l n).length = n := by simp [lev]
def al : Nat → List (Int × Int)
  | 0 => []
  | n + 1 => al n ++ lev n (pw n)
theorem al_len : ∀ n, (al n).length = nd n
  | 0 => rfl
  | n + 1 => by simp [al, nd, al_len n, lev_len]
/-- The way to a slot: so many of its steps. -/
def wy (d : Nat) (s : Nat) (k : Nat) : List Int := (List.range k).map fun l => ((s / pw (d - 1 - l) % 4 : Nat) : Int)
theorem wy_zero (d s : Nat) : wy d s 0 = [] := rfl
theorem wy_succ (d s k : Nat) : wy d s (k + 1) = wy d s k ++ [((s / pw (d - 1 - k) % 4 : Nat) : Int)] := by unfold wy; rw [List.range_succ, List.map_append]; rfl
theorem wy_len (d s k : Nat) : (wy d s k).length = k := by simp [wy]
theorem wy_get {d s k j : Nat} (h : j < k) : (wy d s k)[j]? = some ((s / pw (d - 1 - j) % 4 : Nat) : Int) := by simp [wy, h]
/-- Going down so many steps of a way. -/
theorem wy_down {d s : Nat} (hs : s < pw d) : ∀ k, k < d → 4 * (s / pw (d - k)) + s / pw (d - 1 - k) % 4 = s / pw (d - (k + 1)) := by
  intro k hk
  have e : d - k = (d - 1 - k) + 1 := by omega
  rw [e, pw_succ, ← Nat.div_div_eq_div_mul, show d - (k + 1) = d - 1 - k by omega]
  omega
theorem wy_top {d s : Nat} (hs : s < pw d) : s / pw d = 0 := Nat.div_eq_of_lt hs
theorem wy_inj {d a b : Nat} (ha : a < pw d) (hb : b < pw d) (h : wy d a d = wy d b d) : a = b := by
  have key : ∀ k, k ≤ d → a / pw (d - k) = b / pw (d - k) := by
    intro k
    induction k with
    | zero => intro _; rw [Nat.sub_zero, wy_top ha, wy_top hb]
    | succ k ih =>
      intro hk
      rw [← wy_down ha k (by omega), ← wy_down hb k (by omega), ih (by omega)]
      have h1 := wy_get (d := d) (s := a) (k := d) (j := k) (by omega)
      have h2 := wy_get (d := d) (s := b) (k := d) (j := k) (by omega)
      rw [h, h2] at h1
      injection h1 with h1
      omega
  have := key d (Nat.le_refl _)
  simpa [pw_zero] using this
end Go.Proofs.Ytpkmbgbglefcfaa
