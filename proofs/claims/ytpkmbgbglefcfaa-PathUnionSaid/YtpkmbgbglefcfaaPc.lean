/- Plain facts: numbers in order, each once; the nodes above slots. No program is in sight here, and no conditions. -/
import Derived.Test.YtpkmbgbglefcfaaPt
import Derived.Lib.SlicesCompact
set_option linter.unusedVariables false
namespace Go.Proofs.Ytpkmbgbglefcfaa

/-- In order, each once. -/
def ordL (zs : List Int) : List Int := Lib.compact (zs.mergeSort fun x y => decide (x ≤ y))
theorem comp_inv (d : Array Int) (hs : ∀ j, j + 1 < d.size → d[j]! ≤ d[j + 1]!) : ∀ m, m ≤ d.size →
    (Lib.compactUpTo d m).Pairwise (· < ·) ∧ (∀ x ∈ Lib.compactUpTo d m, 0 < m ∧ x ≤ d[m - 1]!) ∧ (∀ x, x ∈ Lib.compactUpTo d m ↔ ∃ j, j < m ∧ d[j]! = x)
  | 0, _ => by simp [Lib.compactUpTo]
  | m + 1, hm => by
    obtain ⟨h1, h2, h3⟩ := comp_inv d hs m (by omega)
    rw [Lib.compactUpTo_succ]
    by_cases hk : Lib.keeps d m = true
    · rw [if_pos hk]
      have hlt : ∀ x ∈ Lib.compactUpTo d m, x < d[m]! := by
        intro x hx
        obtain ⟨h0, hle⟩ := h2 x hx
        have hk' : d[m]! ≠ d[m - 1]! := by
          unfold Lib.keeps at hk
          have := of_decide_eq_true hk
          rcases this with h | h
          · omega
          · exact h
        have := hs (m - 1) (by omega)
        rw [show m - 1 + 1 = m by omega] at this
        omega
      refine ⟨List.pairwise_append.2 ⟨h1, by simp, fun x hx y hy => by simp at hy; rw [hy]; exact hlt x hx⟩, ?_, ?_⟩
      · intro x hx
        refine ⟨by omega, ?_⟩
        rw [Nat.add_sub_cancel]
        rcases List.mem_append.1 hx with h | h
        · have := hlt x h
          omega
        · simp at h
          rw [h]
          exact Int.le_refl _
      · intro x
        rw [List.mem_append, h3]
        constructor
        · rintro (⟨j, hj, e⟩ | h)
          · exact ⟨j, by omega, e⟩
          · simp at h
            exact ⟨m, by omega, h.symm⟩
        · rintro ⟨j, hj, e⟩
          by_cases hjm : j = m
          · right
            subst hjm
            simp [e]
          · exact .inl ⟨j, by omega, e⟩
    · rw [if_neg hk, List.append_nil]
      have hk' : m ≠ 0 ∧ d[m]! = d[m - 1]! := by
        unfold Lib.keeps at hk
        simp only [decide_eq_true_eq, not_or, Decidable.not_not, ne_eq] at hk
        exact hk
      refine ⟨h1, ?_, ?_⟩
      · intro x hx
        obtain ⟨h0, hle⟩ := h2 x hx
        refine ⟨by omega, ?_⟩
        rw [Nat.add_sub_cancel, hk'.2]
        exact hle
      · intro x
        rw [h3]
        constructor
        · rintro ⟨j, hj, e⟩
          exact ⟨j, by omega, e⟩
        · rintro ⟨j, hj, e⟩
          by_cases hjm : j = m
          · subst hjm
            exact ⟨j - 1, by omega, by rw [← hk'.2]; exact e⟩
          · exact ⟨j, by omega, e⟩
theorem sort_steps (zs : List Int) : ∀ j, j + 1 < (zs.mergeSort fun x y => decide (x ≤ y)).toArray.size → (zs.mergeSort fun x y => decide (x ≤ y)).toArray[j]! ≤ (zs.mergeSort fun x y => decide (x ≤ y)).toArray[j + 1]! := by
  intro j hj
  have hp := List.pairwise_mergeSort (le := fun x y : Int => decide (x ≤ y)) (fun a b c h1 h2 => by simp at *; omega) (fun a b => by simp; omega) zs
  generalize (zs.mergeSort fun x y => decide (x ≤ y)) = l at *
  have hj' : j + 1 < l.length := by simpa using hj
  have := List.pairwise_iff_getElem.1 hp j (j + 1) (by omega) hj' (by omega)
  rw [getElem!_pos _ _ (by simpa using (by omega : j < l.length)), getElem!_pos _ _ (by simpa using hj')]
  simpa using this
theorem ordL_lt (zs : List Int) : (ordL zs).Pairwise (· < ·) := by
  have h := (comp_inv _ (sort_steps zs) _ (Nat.le_refl _)).1
  unfold ordL Lib.compact
  simpa using h
theorem mem_ordL {zs : List Int} {x : Int} : x ∈ ordL zs ↔ x ∈ zs := by
  have h := (comp_inv _ (sort_steps zs) _ (Nat.le_refl _)).2.2 x
  have e : x ∈ ordL zs ↔ x ∈ Lib.compactUpTo (zs.mergeSort fun x y => decide (x ≤ y)).toArray (zs.mergeSort fun x y => decide (x ≤ y)).toArray.size := by
    unfold ordL Lib.compact
    simp
  rw [e, h, ← List.mem_mergeSort (le := fun x y : Int => decide (x ≤ y))]
  generalize (zs.mergeSort fun x y => decide (x ≤ y)) = l
  constructor
  · rintro ⟨j, hj, rfl⟩
    have hj' : j < l.length := by simpa using hj
    rw [getElem!_pos l.toArray j hj]
    simp
  · intro hx
    obtain ⟨j, hj, rfl⟩ := List.getElem_of_mem hx
    exact ⟨j, by simpa using hj, by rw [getElem!_pos l.toArray j (by simpa using hj)]; simp⟩
theorem compact_len (zs : List Int) : (Lib.compact zs).length ≤ zs.length := by
  unfold Lib.compact Lib.compactUpTo
  rw [List.length_map]
  exact Nat.le_trans (List.length_filter_le _ _) (by simp)
theorem ordL_len (zs : List Int) : (ordL zs).length ≤ zs.length := by
  have := compact_len (zs.mergeSort fun x y => decide (x ≤ y))
  rw [List.length_mergeSort] at this
  exact this
theorem ordL_nil : ordL [] = [] := by simp [ordL, Lib.compact, Lib.compactUpTo]
/-- Two rows in order with the same members are one. -/
theorem lt_ext : ∀ {a b : List Int}, a.Pairwise (· < ·) → b.Pairwise (· < ·) → (∀ x, x ∈ a ↔ x ∈ b) → a = b
  | [], [], _, _, _ => rfl
  | [], y :: b, _, _, h => by have := (h y).2 (by simp); simp at this
  | x :: a, [], _, _, h => by have := (h x).1 (by simp); simp at this
  | x :: a, y :: b, ha, hb, h => by
    obtain ⟨ha1, ha2⟩ := List.pairwise_cons.1 ha
    obtain ⟨hb1, hb2⟩ := List.pairwise_cons.1 hb
    have hxy : x = y := by
      have h1 := (h x).1 (by simp)
      have h2 := (h y).2 (by simp)
      rcases List.mem_cons.1 h1 with e | h1
      · exact e
      · rcases List.mem_cons.1 h2 with e | h2
        · exact e.symm
        · have := hb1 x h1
          have := ha1 y h2
          omega
    subst hxy
    rw [lt_ext ha2 hb2]
    intro z
    constructor
    · intro hz
      have := ha1 z hz
      rcases List.mem_cons.1 ((h z).1 (by simp [hz])) with e | e
      · omega
      · exact e
    · intro hz
      have := hb1 z hz
      rcases List.mem_cons.1 ((h z).2 (by simp [hz])) with e | e
      · omega
      · exact e

/-- Those of the slots that there are. -/
def thr (S : Nat) (zs : List Int) : List Int := zs.filter fun z => decide (0 ≤ z) && decide (z < (S : Int))
theorem mem_thr {S : Nat} {zs : List Int} {z : Int} : z ∈ thr S zs ↔ z ∈ zs ∧ 0 ≤ z ∧ z < S := by simp [thr]
/-- Where the nodes are that lead to them, so many levels up. -/
def pl (S : Nat) (zs : List Int) : Nat → List Int
  | 0 => thr S zs
  | k + 1 => ordL ((pl S zs k).map (· / 4))
theorem pl_len (S : Nat) (zs : List Int) : ∀ k, (pl S zs k).length ≤ zs.length
  | 0 => List.length_filter_le _ _
  | k + 1 => Nat.le_trans (ordL_len _) (by rw [List.length_map]; exact pl_len S zs k)
theorem mem_pl {S : Nat} {zs : List Int} {x : Int} : ∀ k, x ∈ pl S zs k ↔ ∃ z, z ∈ zs ∧ 0 ≤ z ∧ z < S ∧ z / (pw k : Int) = x
  | 0 => by
    rw [show pl S zs 0 = thr S zs from rfl, mem_thr]
    constructor
    · rintro ⟨h1, h2, h3⟩
      exact ⟨x, h1, h2, h3, by rw [pw_zero]; simp⟩
    · rintro ⟨z, h1, h2, h3, h4⟩
      rw [pw_zero] at h4
      simp at h4
      subst h4
      exact ⟨h1, h2, h3⟩
  | k + 1 => by
    rw [show pl S zs (k + 1) = ordL ((pl S zs k).map (· / 4)) from rfl, mem_ordL, List.mem_map]
    constructor
    · rintro ⟨y, hy, rfl⟩
      obtain ⟨z, h1, h2, h3, rfl⟩ := (mem_pl k).1 hy
      refine ⟨z, h1, h2, h3, ?_⟩
      rw [pw_succ, Int.natCast_mul, ← Int.ediv_ediv_of_nonneg (by omega)]
      rfl
    · rintro ⟨z, h1, h2, h3, rfl⟩
      refine ⟨z / (pw k : Int), (mem_pl k).2 ⟨z, h1, h2, h3, rfl⟩, ?_⟩
      rw [pw_succ, Int.natCast_mul, ← Int.ediv_ediv_of_nonneg (by omega)]
      rfl
theorem pl_pos {S : Nat} {zs : List Int} {k : Nat} {x : Int} (h : x ∈ pl S zs k) : 0 ≤ x ∧ x < S := by
  obtain ⟨z, _, h2, h3, rfl⟩ := (mem_pl k).1 h
  have h1 : (0 : Int) ≤ (pw k : Int) := by omega
  exact ⟨Int.ediv_nonneg h2 h1, Int.lt_of_le_of_lt (Int.ediv_le_self _ h2) h3⟩
theorem pl_lt (S : Nat) (zs : List Int) (k : Nat) : (pl S zs (k + 1)).Pairwise (· < ·) := ordL_lt _
/-- The nodes above slots, in a tree of n levels: those of the first so many rounds. -/
def abv (n : Nat) (zs : List Int) (r : Nat) : List (Int × Int) := (List.range r).flatMap fun p => (pl (pw n) zs (p + 1)).map fun i => (((n - 1 - p : Nat) : Int), i)
theorem abv_zero (n : Nat) (zs : List Int) : abv n zs 0 = [] := rfl
theorem abv_succ (n : Nat) (zs : List Int) (r : Nat) : abv n zs (r + 1) = abv n zs r ++ (pl (pw n) zs (r + 1)).map fun i => (((n - 1 - r : Nat) : Int), i) := by
  unfold abv
  rw [List.range_succ, List.flatMap_append]
  simp
theorem abv_len (n : Nat) (zs : List Int) : ∀ r, (abv n zs r).length ≤ r * zs.length
  | 0 => by simp [abv_zero]
  | r + 1 => by
    rw [abv_succ, List.length_append, List.length_map, Nat.add_mul, Nat.one_mul]
    exact Nat.add_le_add (abv_len n zs r) (pl_len _ _ _)

/-- Is a node on the way to one of the slots? -/
def onB (n : Nat) (s : Int × Int) (z : Int) : Bool := decide (0 ≤ z) && decide (z < (pw n : Int)) && decide (z / (pw (n - s.1.toNat) : Int) = s.2)
def onA (n : Nat) (zs : List Int) (s : Int × Int) : Bool := zs.any (onB n s)
theorem onA_iff {n : Nat} {zs : List Int} {s : Int × Int} : onA n zs s = true ↔ ∃ z, z ∈ zs ∧ 0 ≤ z ∧ z < (pw n : Int) ∧ z / (pw (n - s.1.toNat) : Int) = s.2 := by
  simp [onA, onB, and_assoc]
/-- The reference's nodes of a level, and of the last so many levels. -/
def rowR (n : Nat) (zs : List Int) (l : Nat) : List (Int × Int) := (lev l (pw l)).filter (onA n zs)
theorem al_filter (q : Int × Int → Bool) (l : Nat) : ∀ m, (al m).filter (fun s => (s.1 == (l : Int)) && q s) = if l < m then (lev l (pw l)).filter q else []
  | 0 => by simp [al]
  | m + 1 => by
    rw [show al (m + 1) = al m ++ lev m (pw m) from rfl, List.filter_append, al_filter q l m]
    by_cases h : l = m
    · subst h
      rw [if_neg (by omega), if_pos (by omega), List.nil_append]
      apply List.filter_congr
      intro x hx
      unfold lev at hx
      obtain ⟨i, _, rfl⟩ := List.mem_map.1 hx
      simp
    · have e : (lev m (pw m)).filter (fun s => (s.1 == (l : Int)) && q s) = [] := by
        rw [List.filter_eq_nil_iff]
        intro x hx
        unfold lev at hx
        obtain ⟨i, _, rfl⟩ := List.mem_map.1 hx
        simp
        omega
      rw [e, List.append_nil]
      by_cases h2 : l < m
      · rw [if_pos h2, if_pos (by omega)]
      · rw [if_neg h2, if_neg (by omega)]
theorem pw_split {n p : Nat} (hp : p < n) : pw n = pw (n - 1 - p) * pw (p + 1) := by
  unfold pw
  rw [← Nat.pow_add]
  congr 1
  omega
theorem row_eq {n : Nat} (zs : List Int) {p : Nat} (hp : p < n) : rowR n zs (n - 1 - p) = (pl (pw n) zs (p + 1)).map fun i => (((n - 1 - p : Nat) : Int), i) := by
  have e : pl (pw n) zs (p + 1) = ((List.range (pw (n - 1 - p))).map fun i : Nat => (i : Int)).filter fun i => onA n zs (((n - 1 - p : Nat) : Int), i) := by
    apply lt_ext (pl_lt _ _ _)
    · apply List.Pairwise.filter
      rw [List.pairwise_map]
      exact List.Pairwise.imp (by intro a b h; omega) List.pairwise_lt_range
    · intro x
      rw [mem_pl, List.mem_filter, List.mem_map, onA_iff]
      simp only [Int.toNat_natCast, show n - (n - 1 - p) = p + 1 by omega]
      constructor
      · rintro ⟨z, h1, h2, h3, rfl⟩
        refine ⟨⟨(z / (pw (p + 1) : Int)).toNat, ?_, ?_⟩, z, h1, h2, h3, rfl⟩
        · rw [List.mem_range]
          obtain ⟨m, rfl⟩ := Int.eq_ofNat_of_zero_le h2
          have h4 : m < pw (n - 1 - p) * pw (p + 1) := by rw [← pw_split hp]; omega
          have := Nat.div_lt_of_lt_mul (by rw [Nat.mul_comm]; exact h4 : m < pw (p + 1) * pw (n - 1 - p))
          exact this
        · have := Int.ediv_nonneg h2 (by omega : (0 : Int) ≤ (pw (p + 1) : Int))
          omega
      · rintro ⟨_, z, h1, h2, h3, h4⟩
        exact ⟨z, h1, h2, h3, h4⟩
  rw [e]
  unfold rowR lev
  rw [List.filter_map, List.filter_map, List.map_map]
  rfl
end Go.Proofs.Ytpkmbgbglefcfaa
