/- Plain facts about runes: the runes of a text, which names may be, and the order of texts. No program is in sight here, and no conditions. -/
import Derived.Lib.ValidLaws
import Derived.Lib.TrimUEq
import Derived.Test.YtijffkklhgnknaaDoorChecked
import Derived.Test.YtijffkklhgnknaaDoorMgMem
import Derived.Test.YtijffkklhgnknaaDoorShelf
import Derived.WalkKit
import Derived.WalkMore
import Derived.WalkSpells
import Derived.WalkLawsBesides
import Derived.WalkSmall
import Derived.Handy
import Derived.Lib.OthersKept
import Derived.Outline
set_option linter.unusedVariables false
namespace Go.Proofs.YtijffkklhgnknaaDoor
open Go.Lib

/-- The runes of a text, what is no good rune as FFFD. -/
def dlGo : Nat → List UInt8 → List Nat
  | 0, _ => []
  | n + 1, l => if l = [] then [] else (decodeL l).1 :: dlGo n (l.drop (decodeL l).2)
def dl (l : List UInt8) : List Nat := dlGo l.length l
/-- The first rune and its width; -1 and 1: none. -/
def fst (l : List UInt8) : Int × Nat := if decodeL l = (65533, 1) then (-1, 1) else ((decodeL l).1, (decodeL l).2)
def rlGo : Nat → List UInt8 → List Int
  | 0, _ => []
  | n + 1, l => if l = [] then [] else (fst l).1 :: rlGo n (l.drop (decodeL l).2)
def rl (l : List UInt8) : List Int := rlGo l.length l
theorem fst_width (l : List UInt8) : (fst l).2 = (decodeL l).2 := by
  unfold fst
  split
  · rename_i h
    rw [h]
  · rfl
theorem dlGo_nil : ∀ n, dlGo n [] = []
  | 0 => rfl
  | _ + 1 => by simp [dlGo]
theorem rlGo_nil : ∀ n, rlGo n [] = []
  | 0 => rfl
  | _ + 1 => by simp [rlGo]
theorem dlGo_fuel : ∀ (n m : Nat) (l : List UInt8), l.length ≤ n → l.length ≤ m → dlGo n l = dlGo m l
  | 0, m, l, hn, _ => by
    have : l = [] := List.eq_nil_of_length_eq_zero (by omega)
    subst this
    rw [dlGo_nil, dlGo_nil]
  | n + 1, 0, l, _, hm => by
    have : l = [] := List.eq_nil_of_length_eq_zero (by omega)
    subst this
    rw [dlGo_nil, dlGo_nil]
  | n + 1, m + 1, l, hn, hm => by
    unfold dlGo
    by_cases hne : l = []
    · simp [hne]
    · have hw := decodeL_width l
      have hl : 0 < l.length := List.length_pos_iff.2 hne
      rw [if_neg hne, if_neg hne, dlGo_fuel n m (l.drop (decodeL l).2) (by rw [List.length_drop]; omega) (by rw [List.length_drop]; omega)]
theorem rlGo_fuel : ∀ (n m : Nat) (l : List UInt8), l.length ≤ n → l.length ≤ m → rlGo n l = rlGo m l
  | 0, m, l, hn, _ => by
    have : l = [] := List.eq_nil_of_length_eq_zero (by omega)
    subst this
    rw [rlGo_nil, rlGo_nil]
  | n + 1, 0, l, _, hm => by
    have : l = [] := List.eq_nil_of_length_eq_zero (by omega)
    subst this
    rw [rlGo_nil, rlGo_nil]
  | n + 1, m + 1, l, hn, hm => by
    unfold rlGo
    by_cases hne : l = []
    · simp [hne]
    · have hw := decodeL_width l
      have hl : 0 < l.length := List.length_pos_iff.2 hne
      rw [if_neg hne, if_neg hne, rlGo_fuel n m (l.drop (decodeL l).2) (by rw [List.length_drop]; omega) (by rw [List.length_drop]; omega)]
theorem dl_nil : dl [] = [] := rfl
theorem rl_nil : rl [] = [] := rfl
theorem dl_step (l : List UInt8) (hne : l ≠ []) : dl l = (decodeL l).1 :: dl (l.drop (decodeL l).2) := by
  have hl : 0 < l.length := List.length_pos_iff.2 hne
  have hw := decodeL_width l
  obtain ⟨n, hn⟩ : ∃ n, l.length = n + 1 := ⟨l.length - 1, by omega⟩
  unfold dl
  rw [hn]
  show (if l = [] then [] else _) = _
  rw [if_neg hne, dlGo_fuel n (l.drop (decodeL l).2).length _ (by rw [List.length_drop]; omega) (Nat.le_refl _)]
theorem rl_step (l : List UInt8) (hne : l ≠ []) : rl l = (fst l).1 :: rl (l.drop (decodeL l).2) := by
  have hl : 0 < l.length := List.length_pos_iff.2 hne
  have hw := decodeL_width l
  obtain ⟨n, hn⟩ : ∃ n, l.length = n + 1 := ⟨l.length - 1, by omega⟩
  unfold rl
  rw [hn]
  show (if l = [] then [] else _) = _
  rw [if_neg hne, rlGo_fuel n (l.drop (decodeL l).2).length _ (by rw [List.length_drop]; omega) (Nat.le_refl _)]

/-- An induction along the runes. -/
theorem rune_ind {p : List UInt8 → Prop} (h0 : p []) (h1 : ∀ l, l ≠ [] → p (l.drop (decodeL l).2) → p l) (l : List UInt8) : p l := by
  have key : ∀ n (l : List UInt8), l.length ≤ n → p l := by
    intro n
    induction n with
    | zero =>
      intro l hl
      rw [List.eq_nil_of_length_eq_zero (by omega : l.length = 0)]
      exact h0
    | succ n ih =>
      intro l hl
      by_cases hne : l = []
      · rw [hne]; exact h0
      · refine h1 l hne (ih _ ?_)
        have hw := decodeL_width l
        rw [List.length_drop]
        have : 0 < l.length := List.length_pos_iff.2 hne
        omega
  exact key l.length l (Nat.le_refl _)

theorem rl_len (l : List UInt8) : (rl l).length ≤ l.length := by
  induction l using rune_ind with
  | h0 => simp [rl_nil]
  | h1 l hne ih =>
    rw [rl_step l hne]
    have hw := decodeL_width l
    have : 0 < l.length := List.length_pos_iff.2 hne
    rw [List.length_drop] at ih
    simp only [List.length_cons]
    omega
def fix_ (r : Int) : Nat := if r < 0 then 65533 else r.toNat
theorem fix_fst (l : List UInt8) : fix_ (fst l).1 = (decodeL l).1 := by
  unfold fst fix_
  by_cases h : decodeL l = (65533, 1)
  · rw [if_pos h, h]; rfl
  · rw [if_neg h]
    simp
    omega
theorem fst_range (l : List UInt8) : -1 ≤ (fst l).1 ∧ (fst l).1 ≤ 1114111 := by
  unfold fst
  split
  · simp
  · have := decodeL_rune l
    simp
    omega
theorem rl_range (l : List UInt8) : ∀ r ∈ rl l, -1 ≤ r ∧ r ≤ 1114111 := by
  induction l using rune_ind with
  | h0 => simp [rl_nil]
  | h1 l hne ih =>
    rw [rl_step l hne]
    intro r hr
    rcases List.mem_cons.1 hr with rfl | hr
    · exact fst_range l
    · exact ih r hr
theorem rl_dl (l : List UInt8) : (rl l).map fix_ = dl l := by
  induction l using rune_ind with
  | h0 => rfl
  | h1 l hne ih => rw [rl_step l hne, dl_step l hne, List.map_cons, ih, fix_fst]
theorem dl_len (l : List UInt8) : (dl l).length = (rl l).length := by rw [← rl_dl, List.length_map]
theorem valid_rl (l : List UInt8) : validD l = (rl l).all (fun r => decide (0 ≤ r)) := by
  induction l using rune_ind with
  | h0 => rfl
  | h1 l hne ih =>
    rw [validD_step l hne, rl_step l hne, List.all_cons, ← ih]
    unfold fst
    by_cases h : decodeL l = (65533, 1)
    · rw [if_pos h, if_pos (by rw [h]; exact ⟨rfl, rfl⟩)]
      simp
    · rw [if_neg h, if_neg (fun hh => h (Prod.ext hh.1 hh.2))]
      simp

/-- A rune that may be in a name. -/
def okR (c : Nat) : Bool := decide (32 ≤ c) && decide (c ≠ 47) && decide (c ≠ 127)
def okI (r : Int) : Bool := !(decide (r < 32) || decide (r = 47) || decide (r = 127))
theorem ok_both (l : List UInt8) : (validD l && (dl l).all okR) = (rl l).all okI := by
  rw [valid_rl, ← rl_dl, List.all_map]
  have : ∀ rs : List Int, (rs.all (fun r => decide (0 ≤ r)) && rs.all (okR ∘ fix_)) = rs.all okI := by
    intro rs
    induction rs with
    | nil => rfl
    | cons r rs ih =>
      simp only [List.all_cons]
      rw [← ih]
      have e : (decide (0 ≤ r) && (okR ∘ fix_) r) = okI r := by
        show (decide (0 ≤ r) && okR (fix_ r)) = okI r
        by_cases h : r < 0
        · have h1 : ¬ (0 ≤ r) := by omega
          have h2 : r < 32 := by omega
          simp [okI, h1, h2]
        · obtain ⟨n, rfl⟩ := Int.eq_ofNat_of_zero_le (by omega : 0 ≤ r)
          have ef : fix_ (n : Int) = n := by unfold fix_; rw [if_neg h]; rfl
          rw [ef, Bool.eq_iff_iff]
          simp [okR, okI]
          omega
      rw [← e]
      generalize decide (0 ≤ r) = p1
      generalize (okR ∘ fix_) r = p2
      generalize rs.all (fun r => decide (0 ≤ r)) = p3
      generalize rs.all (okR ∘ fix_) = p4
      cases p1 <;> cases p2 <;> cases p3 <;> cases p4 <;> rfl
  exact this _
/-- Which names may be: 22, 36, or 0. -/
def nameR (l : List UInt8) : Int :=
  if l = [] ∨ l = [46] ∨ l = [46, 46] then 22 else if validD l && (dl l).all okR then (if 32 < l.length then 36 else 0) else 22

/-- The order of lists of runes. -/
def lex : List Nat → List Nat → Bool
  | [], y => !y.isEmpty
  | _ :: _, [] => false
  | x :: xs, y :: ys => if x ≠ y then decide (x < y) else lex xs ys
def lessD (a b : List UInt8) : Bool := lex (dl a) (dl b)
theorem lex_self : ∀ a, lex a a = false
  | [] => rfl
  | x :: xs => by simp [lex, lex_self xs]
theorem lex_asym : ∀ a b, lex a b = true → lex b a = false
  | [], [], h => by simp [lex] at h
  | [], _ :: _, _ => rfl
  | _ :: _, [], h => by simp [lex] at h
  | x :: xs, y :: ys, h => by
    unfold lex at h ⊢
    by_cases e : x = y
    · subst e
      simp at h ⊢
      exact lex_asym xs ys h
    · rw [if_pos e] at h
      rw [if_pos (Ne.symm e)]
      simp at h ⊢
      omega
theorem lex_trans : ∀ a b c, lex a b = true → lex b c = true → lex a c = true
  | [], [], _, h, _ => by simp [lex] at h
  | [], _ :: _, [], _, h => by simp [lex] at h
  | [], _ :: _, _ :: _, _, _ => rfl
  | _ :: _, [], _, h, _ => by simp [lex] at h
  | _ :: _, _ :: _, [], _, h => by simp [lex] at h
  | x :: xs, y :: ys, z :: zs, h, k => by
    unfold lex at h k ⊢
    by_cases e1 : x = y
    · subst e1
      simp at h
      by_cases e2 : x = z
      · subst e2
        simp at k ⊢
        exact lex_trans xs ys zs h k
      · rw [if_pos e2] at k ⊢
        exact k
    · rw [if_pos e1] at h
      by_cases e2 : y = z
      · subst e2
        rw [if_pos e1]
        exact h
      · rw [if_pos e2] at k
        simp at h k
        rw [if_pos (by omega)]
        simp
        omega
theorem lex_total : ∀ a b, a ≠ b → lex a b = true ∨ lex b a = true
  | [], [], h => absurd rfl h
  | [], _ :: _, _ => .inl rfl
  | _ :: _, [], _ => .inr rfl
  | x :: xs, y :: ys, h => by
    unfold lex
    by_cases e : x = y
    · subst e
      simp
      exact lex_total xs ys (fun e => h (by rw [e]))
    · rw [if_pos e, if_pos (Ne.symm e)]
      simp
      omega
theorem lex_prefix : ∀ a b, b ≠ [] → lex a (a ++ b) = true
  | [], b, h => by cases b <;> simp_all [lex]
  | x :: xs, b, h => by simp [lex, lex_prefix xs b h]
theorem lex_drop (x y : List Nat) (i : Nat) (hx : i < x.length) (hy : i < y.length) : lex (x.drop i) (y.drop i) = if x[i] ≠ y[i] then decide (x[i] < y[i]) else lex (x.drop (i + 1)) (y.drop (i + 1)) := by
  rw [List.drop_eq_getElem_cons hx, List.drop_eq_getElem_cons hy]
  rfl
theorem lex_end (x y : List Nat) (i : Nat) (h : x.length ≤ i ∨ y.length ≤ i) (hx : i ≤ x.length) (hy : i ≤ y.length) : lex (x.drop i) (y.drop i) = decide (x.length < y.length) := by
  by_cases h1 : x.length ≤ i
  · rw [List.drop_eq_nil_of_le h1]
    by_cases h2 : y.length ≤ i
    · rw [List.drop_eq_nil_of_le h2]
      have : ¬ x.length < y.length := by omega
      simp [lex, this]
    · have hiy : i < y.length := by omega
      have e := List.drop_eq_getElem_cons hiy
      have : x.length < y.length := by omega
      rw [e]
      simp only [lex, List.isEmpty_cons, this, decide_true, Bool.not_false]
  · have hix : i < x.length := by omega
    have e := List.drop_eq_getElem_cons hix
    have : ¬ x.length < y.length := by omega
    rw [e, List.drop_eq_nil_of_le (by omega : y.length ≤ i)]
    simp only [lex, this, decide_false]

/-! ### texts side by side; good texts with the same runes -/
theorem decodeN_ext (n n' b0 b1 b2 b3 c1 c2 c3 : Nat) (h0 : 0 < n) (hn : n ≤ n') (h1 : 1 < n → c1 = b1) (h2 : 2 < n → c2 = b2) (h3 : 3 < n → c3 = b3) (hd : decodeN n b0 b1 b2 b3 ≠ (65533, 1)) :
    decodeN n' b0 c1 c2 c3 = decodeN n b0 b1 b2 b3 := by
  by_cases k1 : 1 < n <;> by_cases k2 : 2 < n <;> by_cases k3 : 3 < n
  all_goals first | (exfalso; omega) | skip
  · have e1 := h1 k1; have e2 := h2 k2; have e3 := h3 k3
    subst e1 e2 e3
    have m1 : 1 < n' := by omega
    have m2 : 2 < n' := by omega
    have m3 : 3 < n' := by omega
    simp [decodeN, k1, k2, k3, m1, m2, m3]
  · have e1 := h1 k1; have e2 := h2 k2
    subst e1 e2
    have m1 : 1 < n' := by omega
    have m2 : 2 < n' := by omega
    simp only [decodeN, k1, k2, k3, m1, m2, true_and, false_and, and_false, if_false] at hd ⊢
    repeat' split
    all_goals first | rfl | (exfalso; omega) | simp_all
  · have e1 := h1 k1
    subst e1
    have m1 : 1 < n' := by omega
    simp only [decodeN, k1, k2, k3, m1, true_and, false_and, and_false, if_false] at hd ⊢
    repeat' split
    all_goals first | rfl | (exfalso; omega) | simp_all
  · simp only [decodeN, k1, k2, k3, false_and, and_false, if_false] at hd ⊢
    repeat' split
    all_goals first | rfl | (exfalso; omega) | simp_all
theorem decodeN_fits (n b0 b1 b2 b3 : Nat) (h0 : 0 < n) : (decodeN n b0 b1 b2 b3).2 ≤ n := by
  unfold decodeN
  repeat' split
  all_goals simp
  all_goals omega
theorem decodeL_fits (l : List UInt8) (hne : l ≠ []) : (decodeL l).2 ≤ l.length := by
  rw [decodeL_N]
  exact decodeN_fits _ _ _ _ _ (List.length_pos_iff.2 hne)
theorem decodeL_app (a b : List UInt8) (hne : a ≠ []) (hd : decodeL a ≠ (65533, 1)) : decodeL (a ++ b) = decodeL a := by
  rw [decodeL_N] at hd
  rw [decodeL_N, decodeL_N]
  have ha : 0 < a.length := List.length_pos_iff.2 hne
  have g : ∀ k, k < a.length → (a ++ b).getD k 0 = a.getD k 0 := fun k hk => by simp [List.getD, List.getElem?_append_left hk]
  rw [g 0 ha]
  exact decodeN_ext _ _ _ _ _ _ _ _ _ ha (by simp) (fun h => by rw [g 1 h]) (fun h => by rw [g 2 h]) (fun h => by rw [g 3 h]) hd
theorem step_ok (a : List UInt8) (hne : a ≠ []) (hv : validD a = true) : decodeL a ≠ (65533, 1) ∧ validD (a.drop (decodeL a).2) = true := by
  rw [validD_step a hne] at hv
  by_cases h : (decodeL a).1 = 65533 ∧ (decodeL a).2 = 1
  · rw [if_pos h] at hv
    cases hv
  · rw [if_neg h] at hv
    exact ⟨fun e => h (by rw [e]; exact ⟨rfl, rfl⟩), hv⟩
theorem app_all (a b : List UInt8) : validD a = true → dl (a ++ b) = dl a ++ dl b ∧ validD (a ++ b) = validD b := by
  induction a using rune_ind with
  | h0 => intro _; exact ⟨rfl, rfl⟩
  | h1 a hne ih =>
    intro hv
    obtain ⟨h1, h2⟩ := step_ok a hne hv
    obtain ⟨i1, i2⟩ := ih h2
    have hd := decodeL_app a b hne h1
    have hf := decodeL_fits a hne
    have hab : a ++ b ≠ [] := by simp [hne]
    have hdrop : (a ++ b).drop (decodeL a).2 = a.drop (decodeL a).2 ++ b := by rw [List.drop_append_of_le_length hf]
    refine ⟨?_, ?_⟩
    · rw [dl_step (a ++ b) hab, hd, hdrop, i1, dl_step a hne]
      rfl
    · rw [validD_step (a ++ b) hab, hd, hdrop, i2, if_neg (fun h => h1 (Prod.ext h.1 h.2))]
theorem decodeN_inj (n m b0 b1 b2 b3 c0 c1 c2 c3 : Nat) (hb0 : b0 < 256) (hb1 : b1 < 256) (hb2 : b2 < 256) (hb3 : b3 < 256) (hc0 : c0 < 256) (hc1 : c1 < 256) (hc2 : c2 < 256) (hc3 : c3 < 256)
    (h1 : decodeN n b0 b1 b2 b3 ≠ (65533, 1)) (h2 : decodeN m c0 c1 c2 c3 ≠ (65533, 1)) (he : (decodeN n b0 b1 b2 b3).1 = (decodeN m c0 c1 c2 c3).1) :
    (decodeN n b0 b1 b2 b3).2 = (decodeN m c0 c1 c2 c3).2 ∧ b0 = c0 ∧ (1 < (decodeN n b0 b1 b2 b3).2 → b1 = c1) ∧ (2 < (decodeN n b0 b1 b2 b3).2 → b2 = c2) ∧ (3 < (decodeN n b0 b1 b2 b3).2 → b3 = c3) := by
  have key : ∀ n b0 b1 b2 b3 : Nat, b0 < 256 → b1 < 256 → b2 < 256 → b3 < 256 → decodeN n b0 b1 b2 b3 ≠ (65533, 1) →
      ((decodeN n b0 b1 b2 b3).2 = 1 ∧ (decodeN n b0 b1 b2 b3).1 = b0 ∧ b0 < 128) ∨
      ((decodeN n b0 b1 b2 b3).2 = 2 ∧ 128 ≤ (decodeN n b0 b1 b2 b3).1 ∧ (decodeN n b0 b1 b2 b3).1 < 2048 ∧ b0 = 192 + (decodeN n b0 b1 b2 b3).1 / 64 ∧ b1 = 128 + (decodeN n b0 b1 b2 b3).1 % 64) ∨
      ((decodeN n b0 b1 b2 b3).2 = 3 ∧ 2048 ≤ (decodeN n b0 b1 b2 b3).1 ∧ (decodeN n b0 b1 b2 b3).1 < 65536 ∧ b0 = 224 + (decodeN n b0 b1 b2 b3).1 / 4096 ∧ b1 = 128 + (decodeN n b0 b1 b2 b3).1 / 64 % 64 ∧ b2 = 128 + (decodeN n b0 b1 b2 b3).1 % 64) ∨
      ((decodeN n b0 b1 b2 b3).2 = 4 ∧ 65536 ≤ (decodeN n b0 b1 b2 b3).1 ∧ b0 = 240 + (decodeN n b0 b1 b2 b3).1 / 262144 ∧ b1 = 128 + (decodeN n b0 b1 b2 b3).1 / 4096 % 64 ∧ b2 = 128 + (decodeN n b0 b1 b2 b3).1 / 64 % 64 ∧ b3 = 128 + (decodeN n b0 b1 b2 b3).1 % 64) := by
    intro n b0 b1 b2 b3 h0 h1 h2 h3 hd
    unfold decodeN at hd ⊢
    repeat' split at hd
    all_goals first | exact absurd rfl hd | skip
    · left; simp_all
    · right; left
      rename_i a b c
      rw [if_neg a, if_pos b, if_pos c]
      refine ⟨rfl, ?_, ?_, ?_, ?_⟩ <;> simp only <;> omega
    · right; right; left
      rename_i a b c d
      rw [if_neg a, if_neg b, if_pos c, if_pos d]
      refine ⟨rfl, ?_, ?_, ?_, ?_, ?_⟩ <;> simp only <;> omega
    · right; right; right
      rename_i a b c d e
      rw [if_neg a, if_neg b, if_neg c, if_pos d, if_pos e]
      refine ⟨rfl, ?_, ?_, ?_, ?_, ?_⟩ <;> simp only <;> omega
  have k1 := key n b0 b1 b2 b3 hb0 hb1 hb2 hb3 h1
  have k2 := key m c0 c1 c2 c3 hc0 hc1 hc2 hc3 h2
  generalize decodeN n b0 b1 b2 b3 = x at *
  generalize decodeN m c0 c1 c2 c3 = y at *
  obtain ⟨x1, x2⟩ := x
  obtain ⟨y1, y2⟩ := y
  simp only at *
  subst he
  rcases k1 with k | k | k | k <;> rcases k2 with q | q | q | q <;> omega
theorem byte_eq {a b : List UInt8} {k : Nat} (ha : k < a.length) (hb : k < b.length) (h : (a.getD k 0).toNat = (b.getD k 0).toNat) : a[k]? = b[k]? := by
  rw [List.getElem?_eq_getElem ha, List.getElem?_eq_getElem hb]
  simp only [List.getD, List.getElem?_eq_getElem ha, List.getElem?_eq_getElem hb, Option.getD_some] at h
  rw [UInt8.toNat_inj.1 h]
theorem decodeL_inj (a b : List UInt8) (ha : a ≠ []) (hb : b ≠ []) (h1 : decodeL a ≠ (65533, 1)) (h2 : decodeL b ≠ (65533, 1)) (he : (decodeL a).1 = (decodeL b).1) :
    (decodeL a).2 = (decodeL b).2 ∧ a.take (decodeL a).2 = b.take (decodeL a).2 := by
  have fa := decodeL_fits a ha
  have fb := decodeL_fits b hb
  have w4 : (decodeL a).2 ≤ 4 := by
    rw [decodeL_N]
    unfold decodeN
    repeat' split
    all_goals simp
  rw [decodeL_N] at h1 h2 he fa fb w4 ⊢
  rw [decodeL_N] at he ⊢
  obtain ⟨e1, e2, e3, e4, e5⟩ := decodeN_inj _ _ _ _ _ _ _ _ _ _ (UInt8.toNat_lt _) (UInt8.toNat_lt _) (UInt8.toNat_lt _) (UInt8.toNat_lt _) (UInt8.toNat_lt _) (UInt8.toNat_lt _) (UInt8.toNat_lt _) (UInt8.toNat_lt _) h1 h2 he
  refine ⟨e1, ?_⟩
  generalize decodeN a.length (a.getD 0 0).toNat (a.getD 1 0).toNat (a.getD 2 0).toNat (a.getD 3 0).toNat = x at *
  generalize decodeN b.length (b.getD 0 0).toNat (b.getD 1 0).toNat (b.getD 2 0).toNat (b.getD 3 0).toNat = y at *
  apply List.ext_getElem?
  intro k
  rw [List.getElem?_take, List.getElem?_take]
  by_cases hk : k < x.2
  · rw [if_pos hk, if_pos hk]
    have hka : k < a.length := by omega
    have hkb : k < b.length := by omega
    refine byte_eq hka hkb ?_
    rcases (by omega : k = 0 ∨ k = 1 ∨ k = 2 ∨ k = 3) with rfl | rfl | rfl | rfl
    · exact e2
    · exact e3 hk
    · exact e4 hk
    · exact e5 hk
  · rw [if_neg hk, if_neg hk]
theorem dl_inj (a : List UInt8) : ∀ b : List UInt8, validD a = true → validD b = true → dl a = dl b → a = b := by
  induction a using rune_ind with
  | h0 =>
    intro b _ _ h
    by_cases hb : b = []
    · exact hb.symm
    · rw [dl_step b hb, dl_nil] at h
      cases h
  | h1 a hne ih =>
    intro b hv hw h
    by_cases hb : b = []
    · rw [hb, dl_nil, dl_step a hne] at h
      cases h
    · rw [dl_step a hne, dl_step b hb] at h
      injection h with e1 e2
      obtain ⟨a1, a2⟩ := step_ok a hne hv
      obtain ⟨b1, b2⟩ := step_ok b hb hw
      obtain ⟨f1, f2⟩ := decodeL_inj a b hne hb a1 b1 e1
      rw [← f1] at e2 b2
      have := ih _ a2 b2 e2
      rw [← List.take_append_drop (decodeL a).2 a, f2, this, List.take_append_drop]
end Go.Proofs.YtijffkklhgnknaaDoor
/- Names and the order of texts, by the program: what each call leaves, for every text. Condition: the library's two tables hold what their initialisers lay. -/
set_option linter.unusedVariables false
namespace Go.Proofs.YtijffkklhgnknaaDoor
open Go.RowKit

/-- The library's two tables. -/
def Tabs (w : World) : Prop := Lib.Utf8Tabs 0 1 w

theorem maybe_yes (c : Nat) (w : World) (h : okR c = true) (hc : c ≤ 1114111) : Calls Tryd.prog 77 #[.int .i32 c] w fun e w' => e = .returned (.bool true) ∧ w = w' := by
  have h0 : 32 ≤ c ∧ c ≠ 47 ∧ c ≠ 127 := by simpa [okR, and_assoc] using h
  have h1 : (32 : Int) ≤ (c : Int) := by omega
  have h2 : ((c : Int) != 47) = true := by rw [bne_iff_ne]; omega
  have h3 : ((c : Int) != 127) = true := by rw [bne_iff_ne]; omega
  clear h h0
  go_enter Tryd.func77, Tryd.ntmps77
  go_wp2
  go_ret
  exact ⟨rfl, rfl⟩
theorem maybe_no (c : Nat) (w : World) (h : okR c = false) (hc : c ≤ 1114111) : Calls Tryd.prog 77 #[.int .i32 c] w fun e w' => e = .returned (.bool false) ∧ w = w' := by
  have h0 : ¬ (32 ≤ c ∧ c ≠ 47 ∧ c ≠ 127) := by
    intro hh
    have : okR c = true := by simpa [okR, and_assoc] using hh
    rw [this] at h
    cases h
  by_cases k1 : c < 32
  · have h1 : ¬ (32 : Int) ≤ (c : Int) := by omega
    have h2 : decide ((32 : Int) ≤ (c : Int)) = false := by simp; omega
    clear h h0
    go_enter Tryd.func77, Tryd.ntmps77
    go_wp2
    go_ret
    exact ⟨rfl, rfl⟩
  by_cases k2 : c = 47
  · subst k2
    clear h h0
    go_enter Tryd.func77, Tryd.ntmps77
    go_wp2
    go_ret
    exact ⟨rfl, rfl⟩
  obtain rfl : c = 127 := by omega
  clear h h0
  go_enter Tryd.func77, Tryd.ntmps77
  go_wp2
  go_ret
  exact ⟨rfl, rfl⟩

theorem toList_ne {s : ByteArray} {l : List UInt8} (h : s.data.toList ≠ l) : (s.toList == l) = false := by
  rw [Lib.toList_data]
  simpa using h
theorem toList_eq_ {s : ByteArray} {l : List UInt8} (h : s.data.toList = l) : (s.toList == l) = true := by
  rw [Lib.toList_data]
  simpa using h
theorem isEmpty_ne {s : ByteArray} (h : s.data.toList ≠ []) : s.toList.isEmpty = false := by
  rw [Lib.toList_data]
  simpa using h
theorem isEmpty_eq {s : ByteArray} (h : s.data.toList = []) : s.toList.isEmpty = true := by
  rw [Lib.toList_data, h]
  rfl

theorem name_short (s : ByteArray) (w : World) (h : s.data.toList = [] ∨ s.data.toList = [46] ∨ s.data.toList = [46, 46]) :
    Calls Tryd.prog 62 #[.string s] w fun e w' => e = .returned (.int .i64 22) ∧ w = w' := by
  rcases h with h | h | h
  · have h1 := isEmpty_eq h
    clear h
    go_enter Tryd.func62, Tryd.ntmps62
    go_wp2
    go_ret
    exact ⟨rfl, rfl⟩
  · have h1 : s.toList.isEmpty = false := isEmpty_ne (by rw [h]; simp)
    have h2 := toList_eq_ h
    clear h
    go_enter Tryd.func62, Tryd.ntmps62
    go_wp2
    go_ret
    exact ⟨rfl, rfl⟩
  · have h1 : s.toList.isEmpty = false := isEmpty_ne (by rw [h]; simp)
    have h2 : (s.toList == [46]) = false := toList_ne (by rw [h]; simp)
    have h3 := toList_eq_ h
    clear h
    go_enter Tryd.func62, Tryd.ntmps62
    go_wp2
    go_ret
    exact ⟨rfl, rfl⟩

theorem name_bad (s : ByteArray) (w : World) (h1 : s.data.toList ≠ []) (h2 : s.data.toList ≠ [46]) (h3 : s.data.toList ≠ [46, 46]) (hv : Lib.validD s.data.toList = false) (hs : s.size ≤ 9223372036854775807) (hT : Tabs w) :
    Calls Tryd.prog 62 #[.string s] w fun e w' => e = .returned (.int .i64 22) ∧ Below w.heap.size w w' := by
  have cV := Tryd.utf8_ValidString s w hs hT
  rw [hv] at cV
  have k1 := isEmpty_ne h1
  have k2 := toList_ne h2
  have k3 := toList_ne h3
  clear h1 h2 h3 hv
  go_enter Tryd.func62, Tryd.ntmps62
  go_wp2_with (go_at_call 76; refine cV.mono ?_; rintro e w1 ⟨rfl, hb1⟩)
  go_ret
  exact ⟨rfl, hb1⟩

theorem below_iter {B : Nat} {w w1 : World} (h : Below B w w1) (hB : B ≤ w1.heap.size) (s : ByteArray) (p : Nat) : Below B w (w1.iter s p) := h.alloc hB _

theorem name_good (s : ByteArray) (w : World) (h1 : s.data.toList ≠ []) (h2 : s.data.toList ≠ [46]) (h3 : s.data.toList ≠ [46, 46]) (hv : Lib.validD s.data.toList = true) (hs : s.size ≤ 9223372036854775807) (hT : Tabs w) :
    Calls Tryd.prog 62 #[.string s] w fun e w' => e = .returned (.int .i64 (if (dl s.data.toList).all okR then (if 32 < s.data.toList.length then 36 else 0) else 22)) ∧ Below w.heap.size w w' := by
  have cV := Tryd.utf8_ValidString s w hs hT
  rw [hv] at cV
  have k1 := isEmpty_ne h1
  have k2 := toList_ne h2
  have k3 := toList_ne h3
  clear h1 h2 h3 hv
  rw [← Lib.size_eq]
  obtain ⟨ANS, hA⟩ : ∃ ANS, (dl s.data.toList).all okR = ANS := ⟨_, rfl⟩
  rw [hA]
  generalize hR : (if ANS = true then (if 32 < s.size then 36 else 0) else (22 : Int)) = R
  have HR := Lib.hid hR
  have HA := Lib.hid hA
  clear hA hR
  go_enter Tryd.func62, Tryd.ntmps62
  go_wp2_with (go_at_call 76; refine cV.mono ?_; rintro e w1 ⟨rfl, hb1⟩)
  clear cV k1 k2 k3
  go_loopw [4] (fun _ wr => ∃ pos : Nat, wr = w1.iter s pos ∧ Hid ((dl (s.data.toList.drop pos)).all okR = ANS)) (fun _ wr => s.size - wr.iterPos w1.heap.size)
  case atStart => exact ⟨0, rfl, Lib.hid HA.out⟩
  case round =>
    obtain ⟨pos, rfl, hans⟩ := hrel
    by_cases hp : pos < s.size
    · have hnx : ∀ ty, (Instr.next (.pointer (some ⟨w1.heap.size, 0, none⟩)) true ty).run Tryd.prog (w1.iter s pos) = _ := fun ty => run_next_any w1 s pos ty hp
      have hne : s.data.toList.drop pos ≠ [] := by
        intro e
        have := congrArg List.length e
        rw [List.length_drop, ← Lib.size_eq] at this
        simp at this
        omega
      have hdd := Lib.decodeL_drop s pos
      have hst := dl_step _ hne
      rw [hdd] at hst
      have hc := Lib.rune_le s pos
      have hwd := Lib.width_pos s pos
      clear hdd hne
      generalize hd : Utf8.decode s pos = d at *
      obtain ⟨c, n⟩ := d
      replace hc : c ≤ 1114111 := hc
      replace hwd : 1 ≤ n := hwd
      have HST := Lib.hid hst
      clear hst hd
      cases hok : okR c
      · have cM := fun W => maybe_no c W hok hc
        have hA : ANS = false := by
          rw [← hans.out, HST.out]
          simp [hok]
        have hR : R = 22 := by rw [← HR.out, hA]; rfl
        subst hR
        clear hok hA
        go_wp2_with (go_at_call 77; refine (cM _).mono ?_; rintro e w' ⟨rfl, rfl⟩)
        go_ret
        exact ⟨rfl, below_iter hb1 hb1.size s _⟩
      · have cM := fun W => maybe_yes c W hok hc
        have hans2 : Hid ((dl (s.data.toList.drop (pos + n))).all okR = ANS) := by
          have := hans.out
          rw [HST.out, List.all_cons, hok, Bool.true_and, List.drop_drop] at this
          exact this
        clear hok
        go_wp2_with (go_at_call 77; refine (cM _).mono ?_; rintro e w' ⟨rfl, rfl⟩)
        go_roundw
        case rel => exact ⟨pos + n, rfl, hans2⟩
        case measure =>
          simp
          omega
    · have hnx : ∀ ty, (Instr.next (.pointer (some ⟨w1.heap.size, 0, none⟩)) true ty).run Tryd.prog (w1.iter s pos) = _ := fun ty => run_next_end w1 s pos ty hp
      have hA : ANS = true := by
        rw [← hans.out, List.drop_eq_nil_of_le (by rw [← Lib.size_eq]; omega)]
        rfl
      by_cases h32 : 32 < s.size
      · have hz : (32 : Int) < (s.size : Int) := by omega
        have hR : R = 36 := by rw [← HR.out, hA, if_pos rfl, if_pos h32]
        subst hR
        clear hA h32
        go_wp2
        go_ret
        exact ⟨rfl, below_iter hb1 hb1.size s _⟩
      · have hz : ¬ (32 : Int) < (s.size : Int) := by omega
        have hR : R = 0 := by rw [← HR.out, hA, if_pos rfl, if_neg h32]
        subst hR
        clear hA h32
        go_wp2
        go_ret
        exact ⟨rfl, below_iter hb1 hb1.size s _⟩

/-- wire.Name. -/
theorem name_any (s : ByteArray) (w : World) (hs : s.size ≤ 9223372036854775807) (hT : Tabs w) :
    Calls Tryd.prog 62 #[.string s] w fun e w' => e = .returned (.int .i64 (nameR s.data.toList)) ∧ Below w.heap.size w w' := by
  by_cases h : s.data.toList = [] ∨ s.data.toList = [46] ∨ s.data.toList = [46, 46]
  · have hr : nameR s.data.toList = 22 := by unfold nameR; rw [if_pos h]
    rw [hr]
    exact (name_short s w h).mono fun e w' ⟨he, hw⟩ => ⟨he, by rw [hw]; exact Below.refl _ _⟩
  · have h' := h
    simp only [not_or] at h'
    cases hv : Lib.validD s.data.toList
    · have hr : nameR s.data.toList = 22 := by unfold nameR; rw [if_neg h, hv]; rfl
      rw [hr]
      exact name_bad s w h'.1 h'.2.1 h'.2.2 hv hs hT
    · have hr : nameR s.data.toList = (if (dl s.data.toList).all okR then (if 32 < s.data.toList.length then 36 else 0) else 22) := by unfold nameR; rw [if_neg h, hv, Bool.true_and]
      rw [hr]
      exact name_good s w h'.1 h'.2.1 h'.2.2 hv hs hT
end Go.Proofs.YtijffkklhgnknaaDoor
/- The order of texts, by the program, for every two texts. Condition: the library's two tables hold what their initialisers lay. -/
set_option linter.unusedVariables false
namespace Go.Proofs.YtijffkklhgnknaaDoor
open Go.RowKit

theorem tabs_below {w w' : World} (h : Tabs w) (hb : Below w.heap.size w w') : Tabs w' := Utf8Tabs_below h hb
theorem decode_go (t : ByteArray) (h : t.data.toList ≠ []) : Lib.decodeGo t = Lib.decodeL t.data.toList := by
  have hs : t.size ≠ 0 := by
    intro e
    apply h
    have := Lib.size_eq t
    exact List.eq_nil_of_length_eq_zero (by omega)
  unfold Lib.decodeGo
  rw [if_neg hs]
  have := Lib.decodeL_drop t 0
  rw [List.drop_zero] at this
  exact this.symm
theorem dl_empty (l : List UInt8) : dl l = [] ↔ l = [] := by
  constructor
  · intro h
    by_cases hl : l = []
    · exact hl
    · rw [dl_step l hl] at h
      cases h
  · rintro rfl
    rfl

theorem next_above {w wr : World} {a : ByteArray} {p q : Nat} (hk : wr.heap[w.heap.size]? = some (.stringIter a p)) (hb : Below w.heap.size w wr) :
    Below w.heap.size w (wr.iterAt w.heap.size a q) ∧ (wr.iterAt w.heap.size a q).heap[w.heap.size]? = some (.stringIter a q) :=
  ⟨Lib.below_iterAt hb (Nat.le_refl _) a q, Lib.iterAt_heap wr _ a p q hk⟩
theorem iter_kept {w W : World} {o : Obj} {k : Nat} (hk : w.heap[k]? = some o) (hb : Below w.heap.size w W) : W.heap[k]? = some o :=
  (hb.block k (Array.getElem?_eq_some_iff.1 hk).1).trans hk

set_option maxHeartbeats 400000 in
theorem less_any (a b : ByteArray) (w : World) (ha : a.size ≤ 9223372036854775807) (hb : b.size ≤ 9223372036854775807) (hT : Tabs w) :
    Calls Tryd.prog 61 #[.string a, .string b] w fun e w' => e = .returned (.bool (lessD a.data.toList b.data.toList)) ∧ Below w.heap.size w w' := by
  obtain ⟨ANS, hA⟩ : ∃ ANS, lessD a.data.toList b.data.toList = ANS := ⟨_, rfl⟩
  rw [hA]
  have HA := Lib.hid hA
  clear hA
  go_enter Tryd.func61, Tryd.ntmps61
  go_wp2
  go_loopw [1] (fun sb wr => ∃ (pos : Nat) (t : ByteArray), sb = .string t ∧ wr.heap[w.heap.size]? = some (.stringIter a pos) ∧ Below w.heap.size w wr ∧ t.size ≤ 9223372036854775807 ∧ Hid (lex (dl (a.data.toList.drop pos)) (dl t.data.toList) = ANS))
    (fun _ wr => a.size - wr.iterPos w.heap.size)
  case atStart => exact ⟨0, b, rfl, World.iter_heap w a 0, below_iter (Below.refl _ _) (Nat.le_refl _) a 0, hb, Lib.hid HA.out⟩
  case round =>
    obtain ⟨pos, t, rfl, hk, hbw, hts, hans⟩ := hrel
    by_cases hp : pos < a.size
    · obtain ⟨hbw2, hk2⟩ := next_above (q := pos + (Utf8.decode a pos).2) hk hbw
      have hnx : ∀ ty, (Instr.next (.pointer (some ⟨w.heap.size, 0, none⟩)) true ty).run Tryd.prog wr = _ := fun ty => Lib.run_next_any_at wr w.heap.size a pos ty hk hp
      have hne : a.data.toList.drop pos ≠ [] := by
        intro e
        have := congrArg List.length e
        rw [List.length_drop, ← Lib.size_eq] at this
        simp at this
        omega
      have hdd := Lib.decodeL_drop a pos
      have hst := dl_step _ hne
      rw [hdd] at hst
      have hc := Lib.rune_le a pos
      have hwd := Lib.width_pos a pos
      have hit := iterPos_of hk
      clear hdd hne
      generalize hd : Utf8.decode a pos = d at *
      obtain ⟨c, n⟩ := d
      replace hc : c ≤ 1114111 := hc
      replace hwd : 1 ≤ n := hwd
      replace hbw2 : Below w.heap.size w (wr.iterAt w.heap.size a (pos + n)) := hbw2
      replace hk2 : (wr.iterAt w.heap.size a (pos + n)).heap[w.heap.size]? = some (.stringIter a (pos + n)) := hk2
      replace hst : dl (a.data.toList.drop pos) = c :: dl (a.data.toList.drop (pos + n)) := by rw [hst, List.drop_drop]
      have HST := Lib.hid hst
      have HIT := Lib.hid hit
      have HK := Lib.hid hk
      have HK2 := Lib.hid hk2
      clear hst hd hit hk hk2
      replace hnx : ∀ ty, (Instr.next (.pointer (some ⟨w.heap.size, 0, none⟩)) true ty).run Tryd.prog wr = .ok (.tuple #[.bool true, .int .i64 pos, .int .i32 c]) (wr.iterAt w.heap.size a (pos + n)) := hnx
      generalize wr.iterAt w.heap.size a (pos + n) = w2 at *
      by_cases ht : t.data.toList = []
      · have k1 := isEmpty_eq ht
        have hA : ANS = false := by
          rw [← hans.out, HST.out, ht]
          rfl
        subst hA
        clear ht
        go_wp2
        go_ret
        exact ⟨rfl, hbw2⟩
      · have k1 := isEmpty_ne ht
        have cD := Tryd.utf8_DecodeRuneInString t w2 (tabs_below hT hbw2)
        rw [decode_go t ht] at cD
        have hst2 := dl_step _ ht
        have hfit := decodeL_fits _ ht
        have hr2 := Lib.decodeL_rune t.data.toList
        rw [← Lib.size_eq] at hfit
        generalize Lib.decodeL t.data.toList = d2 at *
        obtain ⟨c2, n2⟩ := d2
        replace hfit : n2 ≤ t.size := hfit
        replace hr2 : c2 ≤ 1114111 := hr2
        replace cD : Calls Tryd.prog 75 #[.string t] w2 fun e w' => e = .returned (.tuple #[.int .i32 c2, .int .i64 n2]) ∧ Below w2.heap.size w2 w' := cD
        have HST2 := Lib.hid hst2
        clear hst2 ht
        have CD := Lib.hid cD
        clear cD
        by_cases hcc : c = c2
        · subst hcc
          go_wp2_with (go_at_call 75; refine CD.out.mono ?_; rintro e w3 ⟨rfl, hb3⟩)
          have hans2 : Hid (lex (dl (a.data.toList.drop (pos + n))) (dl (t.extract n2 t.size).data.toList) = ANS) := by
            have := hans.out
            rw [HST.out, HST2.out] at this
            unfold lex at this
            rw [if_neg (fun h => h rfl)] at this
            rw [Lib.extract_to_end]
            exact this
          have hsz2 : (t.extract n2 t.size).size ≤ 9223372036854775807 := by
            rw [Lib.size_eq, Lib.extract_to_end, List.length_drop, ← Lib.size_eq]
            omega
          have hk3 := iter_kept HK2.out hb3
          go_roundw
          case rel => exact ⟨pos + n, t.extract n2 t.size, rfl, hk3, hbw2.trans (hb3.mono hbw2.size), hsz2, hans2⟩
          case measure =>
            rw [iterPos_of hk3, HIT.out]
            omega
        · have hcb : ((c : Int) != (c2 : Int)) = true := by rw [bne_iff_ne]; omega
          have hA : ANS = decide (c < c2) := by
            rw [← hans.out, HST.out, HST2.out]
            unfold lex
            rw [if_pos hcc]
          subst hA
          clear hcc
          go_wp2_with (go_at_call 75; refine CD.out.mono ?_; rintro e w3 ⟨rfl, hb3⟩)
          go_ret
          exact ⟨rfl, hbw2.trans (hb3.mono hbw2.size)⟩
    · have hnx : ∀ ty, (Instr.next (.pointer (some ⟨w.heap.size, 0, none⟩)) true ty).run Tryd.prog wr = _ := fun ty => Lib.run_next_end_at wr w.heap.size a pos ty hk hp
      have HK := Lib.hid hk
      clear hk
      by_cases ht : t.data.toList = []
      · have k1 := isEmpty_eq ht
        have hA : ANS = false := by
          rw [← hans.out, List.drop_eq_nil_of_le (by rw [← Lib.size_eq]; omega), ht]
          rfl
        subst hA
        clear ht
        go_wp2
        go_ret
        exact ⟨rfl, hbw⟩
      · have k1 := isEmpty_ne ht
        have hA : ANS = true := by
          rw [← hans.out, List.drop_eq_nil_of_le (by rw [← Lib.size_eq]; omega), dl_step _ ht]
          rfl
        subst hA
        clear ht
        go_wp2
        go_ret
        exact ⟨rfl, hbw⟩
end Go.Proofs.YtijffkklhgnknaaDoor
