/- Plain facts: a message eaten block by block, and a digest's bytes. No program is in sight here, and no conditions. -/
import Derived.Test.YtibnmhaipogleaaDoorSha
set_option linter.unusedVariables false
namespace Go.Proofs.YtibnmhaipogleaaDoor

theorem sch_congr {f g : Nat → UInt8} (h : ∀ j, j < 64 → f j = g j) (t : Nat) : sch f t = sch g t := by
  induction t using Nat.strongRecOn with
  | ind t ih =>
    by_cases ht : t < 16
    · rw [sch_lo _ _ ht, sch_lo _ _ ht]
      unfold wd
      rw [h _ (by omega), h _ (by omega), h _ (by omega), h _ (by omega)]
    · rw [sch_hi f t (by omega), sch_hi g t (by omega), ih (t - 2) (by omega), ih (t - 7) (by omega), ih (t - 15) (by omega), ih (t - 16) (by omega)]
theorem rnds_congr (s : S8) {u v : Nat → UInt32} (h : ∀ j, u j = v j) (n : Nat) : rnds s u n = rnds s v n := by
  induction n with
  | zero => rfl
  | succ n ih => rw [rnds, rnds, ih, h]
theorem cmp_congr (s : S8) {f g : Nat → UInt8} (h : ∀ j, j < 64 → f j = g j) : cmp s f = cmp s g := by
  unfold cmp
  rw [rnds_congr s (sch_congr h)]

/-- The i-th block of a message; what n blocks make of eight words. -/
def blk (l : List UInt8) (i j : Nat) : UInt8 := l.getD (64 * i + j) 0
def eat (s : S8) (l : List UInt8) : Nat → S8
  | 0 => s
  | n + 1 => cmp (eat s l n) (blk l n)
theorem blk_app (l x : List UInt8) (i j : Nat) (h : 64 * i + j < l.length) : blk (l ++ x) i j = blk l i j := by
  unfold blk
  rw [List.getD_eq_getElem?_getD, List.getD_eq_getElem?_getD, List.getElem?_append_left h]
theorem eat_app (s : S8) (l x : List UInt8) : ∀ n, 64 * n ≤ l.length → eat s (l ++ x) n = eat s l n
  | 0, _ => rfl
  | n + 1, h => by
    rw [eat, eat, eat_app s l x n (by omega)]
    exact cmp_congr _ fun j hj => blk_app l x n j (by omega)
theorem blk_get (l : List UInt8) (i j : Nat) (h : 64 * i + j < l.length) : l[64 * i + j]? = some (blk l i j) := by
  unfold blk
  rw [List.getD_eq_getElem?_getD, List.getElem?_eq_getElem h]
  rfl
/-- Bytes laid into a rest from place r on. -/
def lay (f : Nat → UInt8) (r : Nat) (x : List UInt8) (j : Nat) : UInt8 := if r ≤ j ∧ j < r + x.length then x.getD (j - r) 0 else f j
theorem lay_cells (f : Nat → UInt8) (r : Nat) (x : List UInt8) (n : Nat) (h : r + x.length ≤ n) :
    (brr n f).take r ++ (x.map B ++ (brr n f).drop (r + x.length)) = brr n (lay f r x) := by
  have hl1 : ((brr n f).take r).length = r := by rw [List.length_take, brr_len]; omega
  apply List.ext_getElem?
  intro j
  by_cases hj : j < n
  · rw [brr_get _ hj]
    by_cases h1 : j < r
    · rw [List.getElem?_append_left (by omega), List.getElem?_take, if_pos h1, brr_get _ hj]
      unfold lay
      rw [if_neg (by omega)]
    · rw [List.getElem?_append_right (by omega), hl1]
      by_cases h2 : j < r + x.length
      · rw [List.getElem?_append_left (by simp; omega), List.getElem?_map]
        unfold lay
        rw [if_pos ⟨by omega, h2⟩, List.getD_eq_getElem?_getD, List.getElem?_eq_getElem (by omega)]
        rfl
      · rw [List.getElem?_append_right (by simp; omega), List.length_map, List.getElem?_drop]
        rw [show r + x.length + (j - r - x.length) = j by omega, brr_get _ hj]
        unfold lay
        rw [if_neg (by omega)]
  · rw [brr_none _ (by omega), List.getElem?_eq_none]
    simp only [List.length_append, hl1, List.length_map, List.length_drop, brr_len]
    omega
/-- The rest holds what no block has taken. -/
def RestOf (f : Nat → UInt8) (l : List UInt8) : Prop := ∀ j, j < l.length % 64 → f j = blk l (l.length / 64) j
theorem rest_nil (f : Nat → UInt8) : RestOf f [] := fun j hj => by simp at hj
/-- Bytes that fit into the rest: below a whole block they lie behind what was there. -/
theorem rest_lay {f : Nat → UInt8} {l x : List UInt8} (h : RestOf f l) (hx : l.length % 64 + x.length ≤ 64) (j : Nat) (hj : j < l.length % 64 + x.length) :
    lay f (l.length % 64) x j = blk (l ++ x) (l.length / 64) j := by
  have hd := Nat.div_add_mod l.length 64
  unfold lay
  by_cases h1 : j < l.length % 64
  · rw [if_neg (by omega), h j h1, blk_app _ _ _ _ (by omega)]
  · rw [if_pos (by omega)]
    unfold blk
    rw [List.getD_eq_getElem?_getD, List.getD_eq_getElem?_getD, List.getElem?_append_right (by omega)]
    congr 2
    omega
theorem rest_part {f : Nat → UInt8} {l x : List UInt8} (h : RestOf f l) (hx : l.length % 64 + x.length < 64) : RestOf (lay f (l.length % 64) x) (l ++ x) ∧ (l ++ x).length / 64 = l.length / 64 := by
  have e : (l ++ x).length / 64 = l.length / 64 := by rw [List.length_append]; omega
  refine ⟨fun j hj => ?_, e⟩
  rw [e]
  rw [List.length_append] at hj
  exact rest_lay h (by omega) j (by omega)
theorem rest_full {f : Nat → UInt8} {l x : List UInt8} (s : S8) (h : RestOf f l) (hx : l.length % 64 + x.length = 64) :
    RestOf (lay f (l.length % 64) x) (l ++ x) ∧ (l ++ x).length % 64 = 0 ∧ eat s (l ++ x) ((l ++ x).length / 64) = cmp (eat s l (l.length / 64)) (lay f (l.length % 64) x) := by
  have hm : (l ++ x).length % 64 = 0 := by rw [List.length_append]; omega
  have e : (l ++ x).length / 64 = l.length / 64 + 1 := by rw [List.length_append]; omega
  refine ⟨fun j hj => by omega, hm, ?_⟩
  rw [e, eat, eat_app s l x _ (by omega)]
  exact cmp_congr _ fun j hj => (rest_lay h (by omega) j (by omega)).symm
theorem eat_part (s : S8) (l x : List UInt8) (h : (l ++ x).length / 64 = l.length / 64) : eat s (l ++ x) ((l ++ x).length / 64) = eat s l (l.length / 64) := by
  rw [h, eat_app s l x _ (by omega)]
end Go.Proofs.YtibnmhaipogleaaDoor
