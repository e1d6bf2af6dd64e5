/- Plain facts about runes: the runes of a text, which names may be, and the order of texts. No program is in sight here, and no conditions. -/
import Derived.Lib.ValidLaws
import Derived.Lib.TrimUEq
set_option linter.unusedVariables false
namespace Go.Proofs.YtcdgiailapcooaaDoor
open Go.Lib

/-- The runes of a text, what is no good rune as FFFD. -/
def dlGo : Nat → List UInt8 → List Nat
  | 0, _ => []
  | n + 1, l => if l = [] then [] else (decodeL l).1 :: dlGo n (l.drop (decodeL l).2)
def dl (l : List UInt8) : List Nat := dlGo l.length l
/-- The first rune and its width; -1 and 1: none. -/
def fst (l : List UInt8) : Int × Nat := if decodeL l = (65533, 1) then (-1, 1) else ((decodeL l).1, (decodeL l).2)
def rlGo : Nat → List UInt8 → List Int
  | 0, _ => []
  | n + 1, l => if l = [] then [] else (fst l).1 :: rlGo n (l.drop (decodeL l).2)
def rl (l : List UInt8) : List Int := rlGo l.length l
theorem fst_width (l : List UInt8) : (fst l).2 = (decodeL l).2 := by
  unfold fst
  split
  · rename_i h
    rw [h]
  · rfl
theorem dlGo_nil : ∀ n, dlGo n [] = []
  | 0 => rfl
  | _ + 1 => by simp [dlGo]
theorem rlGo_nil : ∀ n, rlGo n [] = []
  | 0 => rfl
  | _ + 1 => by simp [rlGo]
theorem dlGo_fuel : ∀ (n m : Nat) (l : List UInt8), l.length ≤ n → l.length ≤ m → dlGo n l = dlGo m l
  | 0, m, l, hn, _ => by
    have : l = [] := List.eq_nil_of_length_eq_zero (by omega)
    subst this
    rw [dlGo_nil, dlGo_nil]
  | n + 1, 0, l, _, hm => by
    have : l = [] := List.eq_nil_of_length_eq_zero (by omega)
    subst this
    rw [dlGo_nil, dlGo_nil]
  | n + 1, m + 1, l, hn, hm => by
    unfold dlGo
    by_cases hne : l = []
    · simp [hne]
    · have hw := decodeL_width l
      have hl : 0 < l.length := List.length_pos_iff.2 hne
      rw [if_neg hne, if_neg hne, dlGo_fuel n m (l.drop (decodeL l).2) (by rw [List.length_drop]; omega) (by rw [List.length_drop]; omega)]
theorem rlGo_fuel : ∀ (n m : Nat) (l : List UInt8), l.length ≤ n → l.length ≤ m → rlGo n l = rlGo m l
  | 0, m, l, hn, _ => by
    have : l = [] := List.eq_nil_of_length_eq_zero (by omega)
    subst this
    rw [rlGo_nil, rlGo_nil]
  | n + 1, 0, l, _, hm => by
    have : l = [] := List.eq_nil_of_length_eq_zero (by omega)
    subst this
    rw [rlGo_nil, rlGo_nil]
  | n + 1, m + 1, l, hn, hm => by
    unfold rlGo
    by_cases hne : l = []
    · simp [hne]
    · have hw := decodeL_width l
      have hl : 0 < l.length := List.length_pos_iff.2 hne
      rw [if_neg hne, if_neg hne, rlGo_fuel n m (l.drop (decodeL l).2) (by rw [List.length_drop]; omega) (by rw [List.length_drop]; omega)]
theorem dl_nil : dl [] = [] := rfl
theorem rl_nil : rl [] = [] := rfl
theorem dl_step (l : List UInt8) (hne : l ≠ []) : dl l = (decodeL l).1 :: dl (l.drop (decodeL l).2) := by
  have hl : 0 < l.length := List.length_pos_iff.2 hne
  have hw := decodeL_width l
  obtain ⟨n, hn⟩ : ∃ n, l.length = n + 1 := ⟨l.length - 1, by omega⟩
  unfold dl
  rw [hn]
  show (if l = [] then [] else _) = _
  rw [if_neg hne, dlGo_fuel n (l.drop (decodeL l).2).length _ (by rw [List.length_drop]; omega) (Nat.le_refl _)]
theorem rl_step (l : List UInt8) (hne : l ≠ []) : rl l = (fst l).1 :: rl (l.drop (decodeL l).2) := by
  have hl : 0 < l.length := List.length_pos_iff.2 hne
  have hw := decodeL_width l
  obtain ⟨n, hn⟩ : ∃ n, l.length = n + 1 := ⟨l.length - 1, by omega⟩
  unfold rl
  rw [hn]
  show (if l = [] then [] else _) = _
  rw [if_neg hne, rlGo_fuel n (l.drop (decodeL l).2).length _ (by rw [List.length_drop]; omega) (Nat.le_refl _)]

/-- An induction along the runes. -/
theorem rune_ind {p : List UInt8 → Prop} (h0 : p []) (h1 : ∀ l, l ≠ [] → p (l.drop (decodeL l).2) → p l) (l : List UInt8) : p l := by
  have key : ∀ n (l : List UInt8), l.length ≤ n → p l := by
    intro n
    induction n with
    | zero =>
      intro l hl
      rw [List.eq_nil_of_length_eq_zero (by omega : l.length = 0)]
      exact h0
    | succ n ih =>
      intro l hl
      by_cases hne : l = []
      · rw [hne]; exact h0
      · refine h1 l hne (ih _ ?_)
        have hw := decodeL_width l
        rw [List.length_drop]
        have : 0 < l.length := List.length_pos_iff.2 hne
        omega
  exact key l.length l (Nat.le_refl _)

theorem rl_len (l : List UInt8) : (rl l).length ≤ l.length := by
  induction l using rune_ind with
  | h0 => simp [rl_nil]
  | h1 l hne ih =>
    rw [rl_step l hne]
    have hw := decodeL_width l
    have : 0 < l.length := List.length_pos_iff.2 hne
    rw [List.length_drop] at ih
    simp only [List.length_cons]
    omega
def fix_ (r : Int) : Nat := if r < 0 then 65533 else r.toNat
theorem fix_fst (l : List UInt8) : fix_ (fst l).1 = (decodeL l).1 := by
  unfold fst fix_
  by_cases h : decodeL l = (65533, 1)
  · rw [if_pos h, h]; rfl
  · rw [if_neg h]
    simp
    omega
theorem fst_range (l : List UInt8) : -1 ≤ (fst l).1 ∧ (fst l).1 ≤ 1114111 := by
  unfold fst
  split
  · simp
  · have := decodeL_rune l
    simp
    omega
theorem rl_range (l : List UInt8) : ∀ r ∈ rl l, -1 ≤ r ∧ r ≤ 1114111 := by
  induction l using rune_ind with
  | h0 => simp [rl_nil]
  | h1 l hne ih =>
    rw [rl_step l hne]
    intro r hr
    rcases List.mem_cons.1 hr with rfl | hr
    · exact fst_range l
    · exact ih r hr
theorem rl_dl (l : List UInt8) : (rl l).map fix_ = dl l := by
  induction l using rune_ind with
  | h0 => rfl
  | h1 l hne ih => rw [rl_step l hne, dl_step l hne, List.map_cons, ih, fix_fst]
theorem dl_len (l : List UInt8) : (dl l).length = (rl l).length := by rw [← rl_dl, List.length_map]
theorem valid_rl (l : List UInt8) : validD l = (rl l).all (fun r => decide (0 ≤ r)) := by
  induction l using rune_ind with
  | h0 => rfl
  | h1 l hne ih =>
    rw [validD_step l hne, rl_step l hne, List.all_cons, ← ih]
    unfold fst
    by_cases h : decodeL l = (65533, 1)
    · rw [if_pos h, if_pos (by rw [h]; exact ⟨rfl, rfl⟩)]
      simp
    · rw [if_neg h, if_neg (fun hh => h (Prod.ext hh.1 hh.2))]
      simp

/-- A rune that may be in a name. -/
def okR (c : Nat) : Bool := decide (32 ≤ c) && decide (c ≠ 47) && decide (c ≠ 127)
def okI (r : Int) : Bool := !(decide (r < 32) || decide (r = 47) || decide (r = 127))
theorem ok_both (l : List UInt8) : (validD l && (dl l).all okR) = (rl l).all okI := by
  rw [valid_rl, ← rl_dl, List.all_map]
  have : ∀ rs : List Int, (rs.all (fun r => decide (0 ≤ r)) && rs.all (okR ∘ fix_)) = rs.all okI := by
    intro rs
    induction rs with
    | nil => rfl
    | cons r rs ih =>
      simp only [List.all_cons]
      rw [← ih]
      have e : (decide (0 ≤ r) && (okR ∘ fix_) r) = okI r := by
        show (decide (0 ≤ r) && okR (fix_ r)) = okI r
        by_cases h : r < 0
        · have h1 : ¬ (0 ≤ r) := by omega
          have h2 : r < 32 := by omega
          simp [okI, h1, h2]
        · obtain ⟨n, rfl⟩ := Int.eq_ofNat_of_zero_le (by omega : 0 ≤ r)
          have ef : fix_ (n : Int) = n := by unfold fix_; rw [if_neg h]; rfl
          rw [ef, Bool.eq_iff_iff]
          simp [okR, okI]
          omega
      rw [← e]
      generalize decide (0 ≤ r) = p1
      generalize (okR ∘ fix_) r = p2
      generalize rs.all (fun r => decide (0 ≤ r)) = p3
      generalize rs.all (okR ∘ fix_) = p4
      cases p1 <;> cases p2 <;> cases p3 <;> cases p4 <;> rfl
  exact this _
/-- Which names may be: 22, 36, or 0. -/
def nameR (l : List UInt8) : Int :=
  if l = [] ∨ l = [46] ∨ l = [46, 46] then 22 else if validD l && (dl l).all okR then (if 32 < l.length then 36 else 0) else 22

/-- The order of lists of runes. -/
def lex : List Nat → List Nat → Bool
  | [], y => !y.isEmpty
  | _ :: _, [] => false
  | x :: xs, y :: ys => if x ≠ y then decide (x < y) else lex xs ys
def lessD (a b : List UInt8) : Bool := lex (dl a) (dl b)
theorem lex_self : ∀ a, lex a a = false
  | [] => rfl
  | x :: xs => by simp [lex, lex_self xs]
theorem lex_asym : ∀ a b, lex a b = true → lex b a = false
  | [], [], h => by simp [lex] at h
  | [], _ :: _, _ => rfl
  | _ :: _, [], h => by simp [lex] at h
  | x :: xs, y :: ys, h => by
    unfold lex at h ⊢
    by_cases e : x = y
    · subst e
      simp at h ⊢
      exact lex_asym xs ys h
    · rw [if_pos e] at h
      rw [if_pos (Ne.symm e)]
      simp at h ⊢
      omega
theorem lex_trans : ∀ a b c, lex a b = true → lex b c = true → lex a c = true
  | [], [], _, h, _ => by simp [lex] at h
  | [], _ :: _, [], _, h => by simp [lex] at h
  | [], _ :: _, _ :: _, _, _ => rfl
  | _ :: _, [], _, h, _ => by simp [lex] at h
  | _ :: _, _ :: _, [], _, h => by simp [lex] at h
  | x :: xs, y :: ys, z :: zs, h, k => by
    unfold lex at h k ⊢
    by_cases e1 : x = y
    · subst e1
      simp at h
      by_cases e2 : x = z
      · subst e2
        simp at k ⊢
        exact lex_trans xs ys zs h k
      · rw [if_pos e2] at k ⊢
        exact k
    · rw [if_pos e1] at h
      by_cases e2 : y = z
      · subst e2
        rw [if_pos e1]
        exact h
      · rw [if_pos e2] at k
        simp at h k
        rw [if_pos (by omega)]
        simp
        omega
theorem lex_total : ∀ a b, a ≠ b → lex a b = true ∨ lex b a = true
  | [], [], h => absurd rfl h
  | [], _ :: _, _ => .inl rfl
  | _ :: _, [], _ => .inr rfl
  | x :: xs, y :: ys, h => by
    unfold lex
    by_cases e : x = y
    · subst e
      simp
      exact lex_total xs ys (fun e => h (by rw [e]))
    · rw [if_pos e, if_pos (Ne.symm e)]
      simp
      omega
theorem lex_prefix : ∀ a b, b ≠ [] → lex a (a ++ b) = true
  | [], b, h => by cases b <;> simp_all [lex]
  | x :: xs, b, h => by simp [lex, lex_prefix xs b h]
theorem lex_drop (x y : List Nat) (i : Nat) (hx : i < x.length) (hy : i < y.length) : lex (x.drop i) (y.drop i) = if x[i] ≠ y[i] then decide (x[i] < y[i]) else lex (x.drop (i + 1)) (y.drop (i + 1)) := by
  rw [List.drop_eq_getElem_cons hx, List.drop_eq_getElem_cons hy]
  rfl
theorem lex_end (x y : List Nat) (i : Nat) (h : x.length ≤ i ∨ y.length ≤ i) (hx : i ≤ x.length) (hy : i ≤ y.length) : lex (x.drop i) (y.drop i) = decide (x.length < y.length) := by
  by_cases h1 : x.length ≤ i
  · rw [List.drop_eq_nil_of_le h1]
    by_cases h2 : y.length ≤ i
    · rw [List.drop_eq_nil_of_le h2]
      have : ¬ x.length < y.length := by omega
      simp [lex, this]
    · have hiy : i < y.length := by omega
      have e := List.drop_eq_getElem_cons hiy
      have : x.length < y.length := by omega
      rw [e]
      simp only [lex, List.isEmpty_cons, this, decide_true, Bool.not_false]
  · have hix : i < x.length := by omega
    have e := List.drop_eq_getElem_cons hix
    have : ¬ x.length < y.length := by omega
    rw [e, List.drop_eq_nil_of_le (by omega : y.length ≤ i)]
    simp only [lex, this, decide_false]

/-! ### texts side by side; good texts with the same runes -/
theorem decodeN_ext (n n' b0 b1 b2 b3 c1 c2 c3 : Nat) (h0 : 0 < n) (hn : n ≤ n') (h1 : 1 < n → c1 = b1) (h2 : 2 < n → c2 = b2) (h3 : 3 < n → c3 = b3) (hd : decodeN n b0 b1 b2 b3 ≠ (65533, 1)) :
    decodeN n' b0 c1 c2 c3 = decodeN n b0 b1 b2 b3 := by
  by_cases k1 : 1 < n <;> by_cases k2 : 2 < n <;> by_cases k3 : 3 < n
  all_goals first | (exfalso; omega) | skip
  · have e1 := h1 k1; have e2 := h2 k2; have e3 := h3 k3
    subst e1 e2 e3
    have m1 : 1 < n' := by omega
    have m2 : 2 < n' := by omega
    have m3 : 3 < n' := by omega
    simp [decodeN, k1, k2, k3, m1, m2, m3]
  · have e1 := h1 k1; have e2 := h2 k2
    subst e1 e2
    have m1 : 1 < n' := by omega
    have m2 : 2 < n' := by omega
    simp only [decodeN, k1, k2, k3, m1, m2, true_and, false_and, and_false, if_false] at hd ⊢
    repeat' split
    all_goals first | rfl | (exfalso; omega) | simp_all
  · have e1 := h1 k1
    subst e1
    have m1 : 1 < n' := by omega
    simp only [decodeN, k1, k2, k3, m1, true_and, false_and, and_false, if_false] at hd ⊢
    repeat' split
    all_goals first | rfl | (exfalso; omega) | simp_all
  · simp only [decodeN, k1, k2, k3, false_and, and_false, if_false] at hd ⊢
    repeat' split
    all_goals first | rfl | (exfalso; omega) | simp_all
theorem decodeN_fits (n b0 b1 b2 b3 : Nat) (h0 : 0 < n) : (decodeN n b0 b1 b2 b3).2 ≤ n := by
  unfold decodeN
  repeat' split
  all_goals simp
  all_goals omega
theorem decodeL_fits (l : List UInt8) (hne : l ≠ []) : (decodeL l).2 ≤ l.length := by
  rw [decodeL_N]
  exact decodeN_fits _ _ _ _ _ (List.length_pos_iff.2 hne)
theorem decodeL_app (a b : List UInt8) (hne : a ≠ []) (hd : decodeL a ≠ (65533, 1)) : decodeL (a ++ b) = decodeL a := by
  rw [decodeL_N] at hd
  rw [decodeL_N, decodeL_N]
  have ha : 0 < a.length := List.length_pos_iff.2 hne
  have g : ∀ k, k < a.length → (a ++ b).getD k 0 = a.getD k 0 := fun k hk => by simp [List.getD, List.getElem?_append_left hk]
  rw [g 0 ha]
  exact decodeN_ext _ _ _ _ _ _ _ _ _ ha (by simp) (fun h => by rw [g 1 h]) (fun h => by rw [g 2 h]) (fun h => by rw [g 3 h]) hd
theorem step_ok (a : List UInt8) (hne : a ≠ []) (hv : validD a = true) : decodeL a ≠ (65533, 1) ∧ validD (a.drop (decodeL a).2) = true := by
  rw [validD_step a hne] at hv
  by_cases h : (decodeL a).1 = 65533 ∧ (decodeL a).2 = 1
  · rw [if_pos h] at hv
    cases hv
  · rw [if_neg h] at hv
    exact ⟨fun e => h (by rw [e]; exact ⟨rfl, rfl⟩), hv⟩
theorem app_all (a b : List UInt8) : validD a = true → dl (a ++ b) = dl a ++ dl b ∧ validD (a ++ b) = validD b := by
  induction a using rune_ind with
  | h0 => intro _; exact ⟨rfl, rfl⟩
  | h1 a hne ih =>
    intro hv
    obtain ⟨h1, h2⟩ := step_ok a hne hv
    obtain ⟨i1, i2⟩ := ih h2
    have hd := decodeL_app a b hne h1
    have hf := decodeL_fits a hne
    have hab : a ++ b ≠ [] := by simp [hne]
    have hdrop : (a ++ b).drop (decodeL a).2 = a.drop (decodeL a).2 ++ b := by rw [List.drop_append_of_le_length hf]
    refine ⟨?_, ?_⟩
    · rw [dl_step (a ++ b) hab, hd, hdrop, i1, dl_step a hne]
      rfl
    · rw [validD_step (a ++ b) hab, hd, hdrop, i2, if_neg (fun h => h1 (Prod.ext h.1 h.2))]
theorem decodeN_inj (n m b0 b1 b2 b3 c0 c1 c2 c3 : Nat) (hb0 : b0 < 256) (hb1 : b1 < 256) (hb2 : b2 < 256) (hb3 : b3 < 256) (hc0 : c0 < 256) (hc1 : c1 < 256) (hc2 : c2 < 256) (hc3 : c3 < 256)
    (h1 : decodeN n b0 b1 b2 b3 ≠ (65533, 1)) (h2 : decodeN m c0 c1 c2 c3 ≠ (65533, 1)) (he : (decodeN n b0 b1 b2 b3).1 = (decodeN m c0 c1 c2 c3).1) :
    (decodeN n b0 b1 b2 b3).2 = (decodeN m c0 c1 c2 c3).2 ∧ b0 = c0 ∧ (1 < (decodeN n b0 b1 b2 b3).2 → b1 = c1) ∧ (2 < (decodeN n b0 b1 b2 b3).2 → b2 = c2) ∧ (3 < (decodeN n b0 b1 b2 b3).2 → b3 = c3) := by
  have key : ∀ n b0 b1 b2 b3 : Nat, b0 < 256 → b1 < 256 → b2 < 256 → b3 < 256 → decodeN n b0 b1 b2 b3 ≠ (65533, 1) →
      ((decodeN n b0 b1 b2 b3).2 = 1 ∧ (decodeN n b0 b1 b2 b3).1 = b0 ∧ b0 < 128) ∨
      ((decodeN n b0 b1 b2 b3).2 = 2 ∧ 128 ≤ (decodeN n b0 b1 b2 b3).1 ∧ (decodeN n b0 b1 b2 b3).1 < 2048 ∧ b0 = 192 + (decodeN n b0 b1 b2 b3).1 / 64 ∧ b1 = 128 + (decodeN n b0 b1 b2 b3).1 % 64) ∨
      ((decodeN n b0 b1 b2 b3).2 = 3 ∧ 2048 ≤ (decodeN n b0 b1 b2 b3).1 ∧ (decodeN n b0 b1 b2 b3).1 < 65536 ∧ b0 = 224 + (decodeN n b0 b1 b2 b3).1 / 4096 ∧ b1 = 128 + (decodeN n b0 b1 b2 b3).1 / 64 % 64 ∧ b2 = 128 + (decodeN n b0 b1 b2 b3).1 % 64) ∨
      ((decodeN n b0 b1 b2 b3).2 = 4 ∧ 65536 ≤ (decodeN n b0 b1 b2 b3).1 ∧ b0 = 240 + (decodeN n b0 b1 b2 b3).1 / 262144 ∧ b1 = 128 + (decodeN n b0 b1 b2 b3).1 / 4096 % 64 ∧ b2 = 128 + (decodeN n b0 b1 b2 b3).1 / 64 % 64 ∧ b3 = 128 + (decodeN n b0 b1 b2 b3).1 % 64) := by
    intro n b0 b1 b2 b3 h0 h1 h2 h3 hd
    unfold decodeN at hd ⊢
    repeat' split at hd
    all_goals first | exact absurd rfl hd | skip
    · left; simp_all
    · right; left
      rename_i a b c
      rw [if_neg a, if_pos b, if_pos c]
      refine ⟨rfl, ?_, ?_, ?_, ?_⟩ <;> simp only <;> omega
    · right; right; left
      rename_i a b c d
      rw [if_neg a, if_neg b, if_pos c, if_pos d]
      refine ⟨rfl, ?_, ?_, ?_, ?_, ?_⟩ <;> simp only <;> omega
    · right; right; right
      rename_i a b c d e
      rw [if_neg a, if_neg b, if_neg c, if_pos d, if_pos e]
      refine ⟨rfl, ?_, ?_, ?_, ?_, ?_⟩ <;> simp only <;> omega
  have k1 := key n b0 b1 b2 b3 hb0 hb1 hb2 hb3 h1
  have k2 := key m c0 c1 c2 c3 hc0 hc1 hc2 hc3 h2
  generalize decodeN n b0 b1 b2 b3 = x at *
  generalize decodeN m c0 c1 c2 c3 = y at *
  obtain ⟨x1, x2⟩ := x
  obtain ⟨y1, y2⟩ := y
  simp only at *
  subst he
  rcases k1 with k | k | k | k <;> rcases k2 with q | q | q | q <;> omega
theorem byte_eq {a b : List UInt8} {k : Nat} (ha : k < a.length) (hb : k < b.length) (h : (a.getD k 0).toNat = (b.getD k 0).toNat) : a[k]? = b[k]? := by
  rw [List.getElem?_eq_getElem ha, List.getElem?_eq_getElem hb]
  simp only [List.getD, List.getElem?_eq_getElem ha, List.getElem?_eq_getElem hb, Option.getD_some] at h
  rw [UInt8.toNat_inj.1 h]
theorem decodeL_inj (a b : List UInt8) (ha : a ≠ []) (hb : b ≠ []) (h1 : decodeL a ≠ (65533, 1)) (h2 : decodeL b ≠ (65533, 1)) (he : (decodeL a).1 = (decodeL b).1) :
    (decodeL a).2 = (decodeL b).2 ∧ a.take (decodeL a).2 = b.take (decodeL a).2 := by
  have fa := decodeL_fits a ha
  have fb := decodeL_fits b hb
  have w4 : (decodeL a).2 ≤ 4 := by
    rw [decodeL_N]
    unfold decodeN
    repeat' split
    all_goals simp
  rw [decodeL_N] at h1 h2 he fa fb w4 ⊢
  rw [decodeL_N] at he ⊢
  obtain ⟨e1, e2, e3, e4, e5⟩ := decodeN_inj _ _ _ _ _ _ _ _ _ _ (UInt8.toNat_lt _) (UInt8.toNat_lt _) (UInt8.toNat_lt _) (UInt8.toNat_lt _) (UInt8.toNat_lt _) (UInt8.toNat_lt _) (UInt8.toNat_lt _) (UInt8.toNat_lt _) h1 h2 he
  refine ⟨e1, ?_⟩
  generalize decodeN a.length (a.getD 0 0).toNat (a.getD 1 0).toNat (a.getD 2 0).toNat (a.getD 3 0).toNat = x at *
  generalize decodeN b.length (b.getD 0 0).toNat (b.getD 1 0).toNat (b.getD 2 0).toNat (b.getD 3 0).toNat = y at *
  apply List.ext_getElem?
  intro k
  rw [List.getElem?_take, List.getElem?_take]
  by_cases hk : k < x.2
  · rw [if_pos hk, if_pos hk]
    have hka : k < a.length := by omega
    have hkb : k < b.length := by omega
    refine byte_eq hka hkb ?_
    rcases (by omega : k = 0 ∨ k = 1 ∨ k = 2 ∨ k = 3) with rfl | rfl | rfl | rfl
    · exact e2
    · exact e3 hk
    · exact e4 hk
    · exact e5 hk
  · rw [if_neg hk, if_neg hk]
theorem dl_inj (a : List UInt8) : ∀ b : List UInt8, validD a = true → validD b = true → dl a = dl b → a = b := by
  induction a using rune_ind with
  | h0 =>
    intro b _ _ h
    by_cases hb : b = []
    · exact hb.symm
    · rw [dl_step b hb, dl_nil] at h
      cases h
  | h1 a hne ih =>
    intro b hv hw h
    by_cases hb : b = []
    · rw [hb, dl_nil, dl_step a hne] at h
      cases h
    · rw [dl_step a hne, dl_step b hb] at h
      injection h with e1 e2
      obtain ⟨a1, a2⟩ := step_ok a hne hv
      obtain ⟨b1, b2⟩ := step_ok b hb hw
      obtain ⟨f1, f2⟩ := decodeL_inj a b hne hb a1 b1 e1
      rw [← f1] at e2 b2
      have := ih _ a2 b2 e2
      rw [← List.take_append_drop (decodeL a).2 a, f2, this, List.take_append_drop]
end Go.Proofs.YtcdgiailapcooaaDoor
