/- The last changes of a list, slot by slot; how they are put in order. No conditions. -/
import Derived.Test.YtpobppoaidngeaaKj
set_option linter.unusedVariables false
namespace Go.Proofs.Ytpobppoaidngeaa
open Go.RowKit

/-- What a list of changes leaves at each slot: the last. -/
def lastP (ps : List (Int × BV)) : Int → Option BV := ps.foldl (fun C p => upC C p.1 p.2) fun _ => none
theorem lastP_nil : lastP [] = fun _ => none := rfl
theorem lastP_snoc (ps : List (Int × BV)) (p : Int × BV) : lastP (ps ++ [p]) = upC (lastP ps) p.1 p.2 := by
  unfold lastP
  rw [List.foldl_append]
  rfl
/-- Behind place j there is no other change of its slot. -/
def isLast (ps : List (Int × BV)) (j : Nat) (z : Int) : Prop := ∀ k p, j < k → ps[k]? = some p → p.1 ≠ z
theorem last_iff (s : Int) (x : BV) (ps : List (Int × BV)) : lastP ps s = some x ↔ ∃ j, ps[j]? = some (s, x) ∧ isLast ps j s := by
  induction hn : ps.length generalizing ps with
  | zero =>
    have : ps = [] := List.eq_nil_of_length_eq_zero hn
    subst this
    simp [lastP]
  | succ n ih =>
    obtain ⟨qs, p, rfl⟩ : ∃ qs p, ps = qs ++ [p] := by
      refine ⟨ps.dropLast, ps.getLast (by intro e; rw [e] at hn; cases hn), (List.dropLast_concat_getLast _).symm⟩
    have hq : qs.length = n := by simpa using hn
    have hlt : ∀ k, k < qs.length → (qs ++ [p])[k]? = qs[k]? := fun k hk => List.getElem?_append_left hk
    have hat : (qs ++ [p])[qs.length]? = some p := by simp
    have hgt : ∀ k q, (qs ++ [p])[k]? = some q → k < qs.length ∨ (k = qs.length ∧ q = p) := fun k q h => by
      by_cases h1 : k < qs.length
      · exact .inl h1
      · have h2 := (List.getElem?_eq_some_iff.1 h).1
        simp at h2
        have h3 : k = qs.length := by omega
        subst h3
        rw [hat] at h
        injection h with h
        exact .inr ⟨rfl, h.symm⟩
    rw [lastP_snoc]
    by_cases hs : s = p.1
    · subst hs
      rw [upC_same]
      constructor
      · intro h
        injection h with h
        subst h
        refine ⟨qs.length, hat, fun k q hk hq' => ?_⟩
        rcases hgt k q hq' with h1 | ⟨h1, _⟩ <;> omega
      · rintro ⟨j, hj, hl⟩
        rcases hgt j _ hj with h1 | ⟨_, h2⟩
        · exact absurd rfl (hl qs.length p h1 hat)
        · rw [← h2]
    · rw [upC_other _ _ hs, ih qs hq]
      constructor
      · rintro ⟨j, hj, hl⟩
        have h1 := (List.getElem?_eq_some_iff.1 hj).1
        refine ⟨j, by rw [hlt j h1]; exact hj, fun k q hk hq' => ?_⟩
        rcases hgt k q hq' with h2 | ⟨_, rfl⟩
        · rw [hlt k h2] at hq'
          exact hl k q hk hq'
        · exact fun e => hs e.symm
      · rintro ⟨j, hj, hl⟩
        rcases hgt j _ hj with h1 | ⟨_, h2⟩
        · refine ⟨j, by rw [← hlt j h1]; exact hj, fun k q hk hq' => ?_⟩
          have h3 := (List.getElem?_eq_some_iff.1 hq').1
          exact hl k q hk (by rw [hlt k h3]; exact hq')
        · exact absurd (congrArg Prod.fst h2) hs
/-- The last ones of the first i, in order. -/
structure InsOf (ps : List (Int × BV)) (i : Nat) (out : List (Int × BV)) : Prop where
  lt : out.Pairwise (fun x y => x.1 < y.1)
  mem : ∀ p, p ∈ out ↔ ∃ j, j < i ∧ ps[j]? = some p ∧ isLast ps j p.1
theorem InsOf.nil (ps : List (Int × BV)) : InsOf ps 0 [] := ⟨List.Pairwise.nil, fun p => by simp⟩
theorem InsOf.skip {ps : List (Int × BV)} {i : Nat} {out : List (Int × BV)} {p : Int × BV} (h : InsOf ps i out) (hp : ps[i]? = some p) (hn : ¬ isLast ps i p.1) : InsOf ps (i + 1) out := by
  refine ⟨h.lt, fun q => ?_⟩
  rw [h.mem]
  constructor
  · rintro ⟨j, h1, h2⟩
    exact ⟨j, by omega, h2⟩
  · rintro ⟨j, h1, h2, h3⟩
    by_cases e : j = i
    · subst e
      rw [hp] at h2
      injection h2 with h2
      subst h2
      exact absurd h3 hn
    · exact ⟨j, by omega, h2, h3⟩
theorem InsOf.ins {ps : List (Int × BV)} {i a : Nat} {out : List (Int × BV)} {p : Int × BV} (h : InsOf ps i out) (hp : ps[i]? = some p) (hl : isLast ps i p.1) (h1 : ∀ j q, j < a → out[j]? = some q → q.1 < p.1) (h2 : ∀ q, out[a]? = some q → ¬ q.1 < p.1) : InsOf ps (i + 1) (out.take a ++ (p :: out.drop a)) := by
  have hne : ∀ q ∈ out, q.1 ≠ p.1 := fun q hq e => by
    obtain ⟨j, h3, h4, h5⟩ := (h.mem q).1 hq
    exact h5 i p h3 hp e.symm
  have hlo : ∀ q ∈ out.take a, q.1 < p.1 := fun q hq => by
    obtain ⟨j, hj, e⟩ := List.mem_iff_getElem.1 hq
    have hj2 : j < a := by rw [List.length_take] at hj; omega
    refine h1 j q hj2 ?_
    rw [← e, List.getElem_take]
    exact List.getElem?_eq_getElem _
  have hhi : ∀ q ∈ out.drop a, p.1 < q.1 := fun q hq => by
    obtain ⟨j, hj, e⟩ := List.mem_iff_getElem.1 hq
    rw [List.getElem_drop] at e
    have hja : a + j < out.length := by rw [List.length_drop] at hj; omega
    have hg : out[a + j]? = some q := by rw [← e]; exact List.getElem?_eq_getElem _
    have hqm : q ∈ out := List.mem_of_getElem? hg
    have h0 : a < out.length := by omega
    have h3 := h2 out[a] (List.getElem?_eq_getElem h0)
    have h4 := hne out[a] (List.getElem_mem _)
    by_cases e0 : j = 0
    · subst e0
      rw [Nat.add_zero, List.getElem?_eq_getElem h0] at hg
      injection hg with hg
      rw [← hg]
      omega
    · have h5 := List.pairwise_iff_getElem.1 h.lt a (a + j) h0 hja (by omega)
      rw [e] at h5
      omega
  refine ⟨?_, fun q => ?_⟩
  · rw [List.pairwise_append]
    refine ⟨h.lt.sublist (List.take_sublist _ _), List.pairwise_cons.2 ⟨fun q hq => hhi q hq, h.lt.sublist (List.drop_sublist _ _)⟩, fun x hx y hy => ?_⟩
    rcases List.mem_cons.1 hy with e | hy
    · subst e
      exact hlo x hx
    · have := hlo x hx
      have := hhi y hy
      omega
  · have hm : q ∈ out.take a ++ (p :: out.drop a) ↔ q = p ∨ q ∈ out := by
      rw [List.mem_append, List.mem_cons]
      constructor
      · rintro (h3 | rfl | h3)
        · exact .inr (List.mem_of_mem_take h3)
        · exact .inl rfl
        · exact .inr (List.mem_of_mem_drop h3)
      · rintro (rfl | h3)
        · exact .inr (.inl rfl)
        · rw [← List.take_append_drop a out, List.mem_append] at h3
          rcases h3 with h3 | h3
          · exact .inl h3
          · exact .inr (.inr h3)
    rw [hm, h.mem]
    constructor
    · rintro (rfl | ⟨j, h3, h4⟩)
      · exact ⟨i, by omega, hp, hl⟩
      · exact ⟨j, by omega, h4⟩
    · rintro ⟨j, h3, h4, h5⟩
      by_cases e : j = i
      · subst e
        rw [hp] at h4
        injection h4 with h4
        exact .inl h4.symm
      · exact .inr ⟨j, by omega, h4, h5⟩
theorem InsOf.done {ps out : List (Int × BV)} (h : InsOf ps ps.length out) : ChOf (byL (lastP ps)) (chL out) := by
  refine ⟨?_, fun s l => ?_⟩
  · unfold chL
    rw [List.pairwise_map]
    exact h.lt
  · unfold chL byL
    rw [List.mem_map]
    constructor
    · rintro ⟨p, hp, e⟩
      injection e with e1 e2
      obtain ⟨j, _, h2, h3⟩ := (h.mem p).1 hp
      have := (last_iff p.1 p.2 ps).2 ⟨j, h2, h3⟩
      rw [← e1, this, ← e2]
      rfl
    · intro h1
      obtain ⟨x, hx, rfl⟩ := Option.map_eq_some_iff.1 h1
      obtain ⟨j, h2, h3⟩ := (last_iff s x ps).1 hx
      exact ⟨(s, x), (h.mem _).2 ⟨j, (List.getElem?_eq_some_iff.1 h2).1, h2, h3⟩, rfl⟩
end Go.Proofs.Ytpobppoaidngeaa
