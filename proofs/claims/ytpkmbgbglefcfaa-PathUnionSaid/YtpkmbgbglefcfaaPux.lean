/- Plain facts: the nodes above two lists of slots. No program is in sight here, and no conditions. -/
import Derived.Test.YtpkmbgbglefcfaaPc
set_option linter.unusedVariables false
namespace Go.Proofs.Ytpkmbgbglefcfaa

/-- The order in which nodes above slots are told. -/
def ahd (s t : Int × Int) : Prop := t.1 < s.1 ∨ (s.1 = t.1 ∧ s.2 < t.2)
theorem ahd_ext : ∀ {a b : List (Int × Int)}, a.Pairwise ahd → b.Pairwise ahd → (∀ x, x ∈ a ↔ x ∈ b) → a = b
  | [], [], _, _, _ => rfl
  | [], y :: b, _, _, h => by have := (h y).2 (by simp); simp at this
  | x :: a, [], _, _, h => by have := (h x).1 (by simp); simp at this
  | x :: a, y :: b, ha, hb, h => by
    obtain ⟨ha1, ha2⟩ := List.pairwise_cons.1 ha
    obtain ⟨hb1, hb2⟩ := List.pairwise_cons.1 hb
    have irr : ∀ z, ¬ ahd z z := by intro z hz; unfold ahd at hz; omega
    have asy : ∀ u v, ahd u v → ahd v u → False := by intro u v h1 h2; unfold ahd at h1 h2; omega
    have hxy : x = y := by
      have h1 := (h x).1 (by simp)
      have h2 := (h y).2 (by simp)
      rcases List.mem_cons.1 h1 with e | h1
      · exact e
      · rcases List.mem_cons.1 h2 with e | h2
        · exact e.symm
        · exact (asy _ _ (hb1 x h1) (ha1 y h2)).elim
    subst hxy
    rw [ahd_ext ha2 hb2]
    intro z
    constructor
    · intro hz
      rcases List.mem_cons.1 ((h z).1 (by simp [hz])) with e | e
      · subst e
        exact (irr _ (ha1 _ hz)).elim
      · exact e
    · intro hz
      rcases List.mem_cons.1 ((h z).2 (by simp [hz])) with e | e
      · subst e
        exact (irr _ (hb1 _ hz)).elim
      · exact e
theorem mem_abv {n : Nat} {zs : List Int} {s : Int × Int} : ∀ {r : Nat}, s ∈ abv n zs r ↔ ∃ p, p < r ∧ s.1 = ((n - 1 - p : Nat) : Int) ∧ s.2 ∈ pl (pw n) zs (p + 1)
  | 0 => by simp [abv_zero]
  | r + 1 => by
    rw [abv_succ, List.mem_append, mem_abv, List.mem_map]
    constructor
    · rintro (⟨p, hp, h⟩ | ⟨i, hi, rfl⟩)
      · exact ⟨p, by omega, h⟩
      · exact ⟨r, by omega, rfl, hi⟩
    · rintro ⟨p, hp, h1, h2⟩
      by_cases e : p = r
      · subst e
        exact .inr ⟨s.2, h2, by rw [← h1]⟩
      · exact .inl ⟨p, by omega, h1, h2⟩
theorem abv_ahd (n : Nat) (zs : List Int) : ∀ r, r ≤ n → (abv n zs r).Pairwise ahd
  | 0, _ => by simp [abv_zero]
  | r + 1, h => by
    rw [abv_succ]
    refine List.pairwise_append.2 ⟨abv_ahd n zs r (by omega), ?_, ?_⟩
    · rw [List.pairwise_map]
      exact List.Pairwise.imp (by intro a b h; exact .inr ⟨rfl, h⟩) (pl_lt _ _ _)
    · intro s hs t ht
      obtain ⟨p, hp, h1, _⟩ := mem_abv.1 hs
      obtain ⟨i, _, rfl⟩ := List.mem_map.1 ht
      left
      rw [h1]
      show ((n - 1 - r : Nat) : Int) < ((n - 1 - p : Nat) : Int)
      omega
theorem abv_app {n : Nat} {a b : List Int} {r : Nat} {s : Int × Int} : s ∈ abv n (a ++ b) r ↔ s ∈ abv n a r ∨ s ∈ abv n b r := by
  simp only [mem_abv, mem_pl, List.mem_append]
  constructor
  · rintro ⟨p, h1, h2, z, h3 | h3, h4⟩
    · exact .inl ⟨p, h1, h2, z, h3, h4⟩
    · exact .inr ⟨p, h1, h2, z, h3, h4⟩
  · rintro (⟨p, h1, h2, z, h3, h4⟩ | ⟨p, h1, h2, z, h3, h4⟩)
    · exact ⟨p, h1, h2, z, .inl h3, h4⟩
    · exact ⟨p, h1, h2, z, .inr h3, h4⟩
theorem abv_part {n : Nat} {a b : List Int} (h : ∀ s, s ∈ abv n a n → s ∈ abv n b n) : (abv n b n).filter (fun s => decide (s ∈ abv n a n)) = abv n a n := by
  apply ahd_ext ((abv_ahd n b n (Nat.le_refl _)).filter _) (abv_ahd n a n (Nat.le_refl _))
  intro s
  rw [List.mem_filter, decide_eq_true_eq]
  exact ⟨fun h => h.2, fun hs => ⟨h s hs, hs⟩⟩
/-- How many of some spots are among others. -/
def cnt (l x : List (Int × Int)) : Nat := (l.filter fun s => decide (s ∈ x)).length
theorem cnt_nil (x : List (Int × Int)) : cnt [] x = 0 := rfl
theorem cnt_snoc (l x : List (Int × Int)) (s : Int × Int) : cnt (l ++ [s]) x = cnt l x + (if s ∈ x then 1 else 0) := by
  unfold cnt
  rw [List.filter_append, List.length_append]
  congr 1
  by_cases h : s ∈ x <;> simp [h]
theorem cnt_le (l x : List (Int × Int)) : cnt l x ≤ l.length := List.length_filter_le _ _
theorem mem_take_snoc {l : List (Int × Int)} {k : Nat} {x s : Int × Int} (hk : l[k]? = some x) : decide (s ∈ l.take (k + 1)) = (decide (s ∈ l.take k) || decide (x = s)) := by
  have hl := (List.getElem?_eq_some_iff.1 hk)
  obtain ⟨hlt, hx⟩ := hl
  rw [List.take_succ_eq_append_getElem hlt, hx]
  rw [Bool.eq_iff_iff]
  simp only [List.mem_append, List.mem_singleton, Bool.or_eq_true, decide_eq_true_eq]
  constructor
  · rintro (h | h)
    · exact .inl h
    · exact .inr h.symm
  · rintro (h | h)
    · exact .inl h
    · exact .inr h.symm
end Go.Proofs.Ytpkmbgbglefcfaa
