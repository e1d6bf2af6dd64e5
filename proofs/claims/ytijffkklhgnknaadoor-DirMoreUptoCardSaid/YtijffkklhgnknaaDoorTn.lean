/- Plain facts of how many leaves a list takes: an entry more takes at most a leaf more, and never a leaf less; where an entry belongs is one place. No conditions. -/
import Derived.Test.YtijffkklhgnknaaDoorSf1
import Derived.Test.YtijffkklhgnknaaDoorSc1
import Derived.Test.YtijffkklhgnknaaDoorQv
set_option linter.unusedVariables false
set_option maxRecDepth 20000
namespace Go.Proofs.YtijffkklhgnknaaDoor
open Go.RowKit

/-- How many leaves more, if the leaf at hand has so much room. -/
def lvs : Nat → List Ent → Nat
  | _, [] => 0
  | r, x :: L => if (enb x).length ≤ r then lvs (r - (enb x).length) L else lvs (255 - (enb x).length) L + 1
def Thin (X : List Ent) : Prop := ∀ x ∈ X, 0 < (enb x).length ∧ (enb x).length ≤ 127
theorem Thin.tail {x : Ent} {L : List Ent} (h : Thin (x :: L)) : Thin L := fun y hy => h y (List.mem_cons_of_mem _ hy)
theorem lvs_mono : ∀ (X : List Ent), Thin X → ∀ r r', r ≤ r' → r' ≤ 255 → lvs r' X ≤ lvs r X ∧ lvs r X ≤ lvs r' X + 1
  | [], _, r, r', _, _ => by simp [lvs]
  | x :: L, ht, r, r', h, h' => by
    have hx := ht x (by simp)
    have ih := lvs_mono L ht.tail
    unfold lvs
    by_cases h1 : (enb x).length ≤ r
    · rw [if_pos h1, if_pos (by omega)]
      exact ih _ _ (by omega) (by omega)
    · rw [if_neg h1]
      by_cases h2 : (enb x).length ≤ r'
      · rw [if_pos h2]
        have := ih (r' - (enb x).length) (255 - (enb x).length) (by omega) (by omega)
        omega
      · rw [if_neg h2]
        omega
theorem lvs_cons {x : Ent} {L : List Ent} (ht : Thin (x :: L)) {r : Nat} (hr : r ≤ 255) : lvs r L ≤ lvs r (x :: L) ∧ lvs r (x :: L) ≤ lvs r L + 1 := by
  have hx := ht x (by simp)
  have hm := lvs_mono L ht.tail
  by_cases h1 : (enb x).length ≤ r
  · have e : lvs r (x :: L) = lvs (r - (enb x).length) L := by rw [lvs, if_pos h1]
    rw [e]
    exact hm _ _ (by omega) hr
  · have e : lvs r (x :: L) = lvs (255 - (enb x).length) L + 1 := by rw [lvs, if_neg h1]
    rw [e]
    have := hm r (255 - (enb x).length) (by omega) (by omega)
    omega
theorem lvs_ins {x : Ent} {M : List Ent} : ∀ {L : List Ent}, Thin (L ++ x :: M) → ∀ {r : Nat}, r ≤ 255 → lvs r (L ++ M) ≤ lvs r (L ++ x :: M) ∧ lvs r (L ++ x :: M) ≤ lvs r (L ++ M) + 1
  | [], ht, r, hr => lvs_cons ht hr
  | y :: L, ht, r, hr => by
    have hy := ht y (by simp)
    have ih := fun r hr => lvs_ins (x := x) (M := M) (L := L) (ht.tail) (r := r) hr
    simp only [List.cons_append, lvs]
    split
    · exact ih _ (by omega)
    · have := ih (255 - (enb y).length) (by omega)
      omega
theorem lvs_sub : ∀ {R X : List Ent}, R.Sublist X → Thin X → ∀ {r : Nat}, r ≤ 255 → lvs r R ≤ lvs r X
  | _, _, .slnil, _, _, _ => Nat.le_refl _
  | _, _, .cons a h, ht, r, hr => Nat.le_trans (lvs_sub h ht.tail hr) (lvs_cons ht hr).1
  | _, _, .cons_cons a h, ht, r, hr => by
    have ha := ht a (by simp)
    simp only [lvs]
    split
    · exact lvs_sub h ht.tail (by omega)
    · have := lvs_sub h ht.tail (r := 255 - (enb a).length) (by omega)
      omega
theorem lvs_fit : ∀ (X : List Ent), Thin X → ∀ r, lvs r X = lvs 0 (X.drop (fitL r X))
  | [], _, r => by simp [lvs]
  | x :: L, ht, r => by
    have hx := ht x (by simp)
    unfold fitL
    by_cases h1 : r < (enb x).length
    · rw [if_pos h1, List.drop_zero, lvs, if_neg (by omega), lvs, if_neg (by omega)]
    · rw [if_neg h1, List.drop_succ_cons, lvs, if_pos (by omega)]
      exact lvs_fit L ht.tail _
theorem lvs_len : ∀ (f : Nat) (X : List Ent), Thin X → X.length ≤ f → (leavesN f X).length = lvs 0 X
  | 0, X, _, h => by
    have : X = [] := List.eq_nil_of_length_eq_zero (by omega)
    subst this
    rfl
  | f + 1, X, ht, h => by
    cases X with
    | nil => simp [leavesN, lvs]
    | cons x L =>
      have hx := ht x (by simp)
      have hp : 1 ≤ fitL 255 (x :: L) := fitL_pos (by simp) (fun y hy => by have := ht y hy; omega)
      have e1 : lvs 0 (x :: L) = lvs 255 (x :: L) + 1 := by rw [lvs, if_neg (by omega), lvs, if_pos (by omega)]
      have ht2 : Thin ((x :: L).drop (fitL 255 (x :: L))) := fun y hy => ht y (List.mem_of_mem_drop hy)
      rw [leavesN, if_neg (by simp), List.length_cons, lvs_len f _ ht2 (by rw [List.length_drop]; simp at h ⊢; omega), e1, lvs_fit (x :: L) ht 255]
theorem leaves_len {X : List Ent} (h : Thin X) : (leaves X).length = lvs 0 X := lvs_len _ _ h (Nat.le_refl _)
theorem thin_may {X : List Ent} (h : MayL X) : Thin X := fun e he => by
  obtain ⟨h1, _⟩ := h.2.1 e he
  have hl : e.nm.data.toList.length ≤ 32 := by
    unfold nameR at h1
    split at h1
    · cases h1
    · split at h1
      · split at h1
        · cases h1
        · omega
      · cases h1
  rw [enb_len]
  omega
/-- An entry more: as many leaves, or one more. -/
theorem leaves_ins {R : List Ent} {x : Ent} {z : Nat} (h : MayL (R.take z ++ x :: R.drop z)) : (leaves R).length ≤ (leaves (R.take z ++ x :: R.drop z)).length ∧ (leaves (R.take z ++ x :: R.drop z)).length ≤ (leaves R).length + 1 := by
  have ht := thin_may h
  have hR : Thin R := fun y hy => ht y (by
    have h1 : y ∈ R.take z ++ R.drop z := by rw [List.take_append_drop]; exact hy
    rcases List.mem_append.1 h1 with h1 | h1
    · exact List.mem_append.2 (.inl h1)
    · exact List.mem_append.2 (.inr (List.mem_cons_of_mem _ h1)))
  have h2 := lvs_ins (x := x) ht (r := 0) (by omega)
  rw [List.take_append_drop] at h2
  rw [leaves_len ht, leaves_len hR]
  exact h2
theorem leaves_sub {R X : List Ent} (hs : R.Sublist X) (h : MayL X) : (leaves R).length ≤ (leaves X).length := by
  have ht := thin_may h
  have hR : Thin R := fun y hy => ht y (hs.subset hy)
  rw [leaves_len ht, leaves_len hR]
  exact lvs_sub hs ht (by omega)
/-- Some of a list's entries: they may be a list. -/
theorem may_filter {X : List Ent} (p : Ent → Bool) (h : MayL X) : MayL (X.filter p) := by
  have hpw : X.Pairwise (fun x y => x.ck ≠ y.ck ∧ lessD x.nm.data.toList y.nm.data.toList = true) := List.pairwise_iff_getElem.2 fun j k hj hk hjk => pairs_may h j k _ _ hjk hk (List.getElem?_eq_getElem hj) (List.getElem?_eq_getElem hk)
  have hpf := hpw.filter p
  refine may_pairs (Nat.le_trans (List.length_filter_le _ _) h.1) (fun e he => h.2.1 e (List.mem_filter.1 he).1) fun j k x y hjk hk hx hy => ?_
  obtain ⟨hj, rfl⟩ := List.getElem?_eq_some_iff.1 hx
  obtain ⟨hk2, rfl⟩ := List.getElem?_eq_some_iff.1 hy
  exact List.pairwise_iff_getElem.1 hpf j k hj hk2 hjk
/-- A name's place is one. -/
theorem place_one {nm : ByteArray} {R : List Ent} {z z' : Nat} (h : MayL R) (hz : z ≤ R.length) (hz' : z' ≤ R.length) (h1 : z < R.length → notAt nm R z = true) (h2 : ∀ q, q + 1 = z' → notAt nm R q = false) : z' ≤ z := by
  by_cases hlt : z < z'
  · exfalso
    obtain ⟨q, rfl⟩ : ∃ q, z' = q + 1 := ⟨z' - 1, by omega⟩
    have e1 := h1 (by omega)
    have e2 := h2 q rfl
    obtain ⟨x, hx⟩ : ∃ x, R[z]? = some x := ⟨_, List.getElem?_eq_getElem (by omega)⟩
    obtain ⟨y, hy⟩ : ∃ y, R[q]? = some y := ⟨_, List.getElem?_eq_getElem (by omega)⟩
    unfold notAt at e1 e2
    rw [hx] at e1
    rw [hy] at e2
    simp only [notB, Bool.not_eq_true', Bool.not_eq_false'] at e1 e2
    by_cases hzq : z = q
    · subst hzq
      rw [hx] at hy
      injection hy with hy
      subst hy
      rw [e1] at e2
      cases e2
    · have h3 := (pairs_may h z q x y (by omega) (by omega) hx hy).2
      rw [lessD_trans h3 e2] at e1
      cases e1
  · omega
end Go.Proofs.YtijffkklhgnknaaDoor
