/- A row's entries put in order, those of one cookie as they stood: stable. Conditions: the closure's key lies there. -/
import Derived.Test.YtijffkklhgnknaaDoorQm
set_option linter.unusedVariables false
set_option maxRecDepth 20000
namespace Go.Proofs.YtijffkklhgnknaaDoor
open Go.RowKit

/-- A list's runs of one length. -/
def chk (bs q : Nat) (L : List Ent) : List Ent := (L.drop (q * bs)).take bs
theorem chk_get (bs q : Nat) (L : List Ent) (i : Nat) : (chk bs q L)[i]? = if i < bs then L[q * bs + i]? else none := by
  unfold chk
  rw [List.getElem?_take]
  split
  · rw [List.getElem?_drop]
  · rfl
theorem mid_get {P M M' S : List Ent} (hl : M'.length = M.length) {j : Nat} (h : j < P.length ∨ P.length + M.length ≤ j) : (P ++ (M' ++ S))[j]? = (P ++ (M ++ S))[j]? := by
  rcases h with h | h
  · rw [List.getElem?_append_left h, List.getElem?_append_left h]
  · rw [List.getElem?_append_right (by omega), List.getElem?_append_right (by omega), List.getElem?_append_right (by omega), List.getElem?_append_right (by omega), hl]
theorem chk_same {P M M' S : List Ent} {bs q : Nat} (hl : M'.length = M.length) (h : q * bs + bs ≤ P.length ∨ P.length + M.length ≤ q * bs) : chk bs q (P ++ (M' ++ S)) = chk bs q (P ++ (M ++ S)) := by
  apply List.ext_getElem?
  intro i
  rw [chk_get, chk_get]
  split
  · rw [mid_get hl (by omega)]
  · rfl
theorem chk_mid {P M S : List Ent} {bs q : Nat} (hP : P.length = q * bs) (h : M.length = bs ∨ (M.length ≤ bs ∧ S = [])) : chk bs q (P ++ (M ++ S)) = M := by
  unfold chk
  rw [← hP, List.drop_left]
  rcases h with h | ⟨h, rfl⟩
  · rw [← h, List.take_left]
  · rw [List.append_nil, List.take_of_length_le h]
theorem chk_none {L : List Ent} {bs q : Nat} (h : L.length ≤ q * bs) : chk bs q L = [] := by
  unfold chk
  rw [List.drop_of_length_le h, List.take_nil]
theorem chk_two (bs c : Nat) (L : List Ent) : chk (2 * bs) c L = chk bs (2 * c) L ++ chk bs (2 * c + 1) L := by
  apply List.ext_getElem?
  intro i
  have e1 : c * (2 * bs) = 2 * c * bs := by rw [Nat.mul_comm 2 c, Nat.mul_assoc]
  have e2 : (2 * c + 1) * bs = 2 * c * bs + bs := Nat.succ_mul _ _
  rw [chk_get]
  by_cases h1 : i < (chk bs (2 * c) L).length
  · have h2 : i < bs := by unfold chk at h1; rw [List.length_take] at h1; omega
    rw [List.getElem?_append_left h1, chk_get, if_pos (by omega), if_pos h2, e1]
  · rw [List.getElem?_append_right (by omega), chk_get]
    have h3 : (chk bs (2 * c) L).length = min bs (L.length - 2 * c * bs) := by unfold chk; rw [List.length_take, List.length_drop]
    by_cases h4 : bs ≤ L.length - 2 * c * bs
    · have h5 : (chk bs (2 * c) L).length = bs := by omega
      rw [h5, e1, e2]
      by_cases h6 : i < 2 * bs
      · rw [if_pos h6, if_pos (by omega), show 2 * c * bs + bs + (i - bs) = 2 * c * bs + i by omega]
      · rw [if_neg h6, if_neg (by omega)]
    · have h5 : L.length ≤ 2 * c * bs + i := by omega
      rw [e1, e2, List.getElem?_eq_none h5, List.getElem?_eq_none (by omega)]
      split <;> split <;> rfl
theorem cut3 (L : List Ent) (a k : Nat) : L = L.take a ++ ((L.drop a).take k ++ L.drop (a + k)) := by
  rw [← List.drop_drop, List.take_append_drop, List.take_append_drop]
theorem ck0 (L : List Ent) (bs : Nat) (h : L.length ≤ bs) : chk bs 0 L = L := by
  unfold chk
  rw [Nat.zero_mul, List.drop_zero, List.take_of_length_le h]
/-- A run replaced by one of the same, in order. -/
theorem same_mid {P M M' S : List Ent} (h : SameK Ent.ck M M') : SameK Ent.ck (P ++ (M ++ S)) (P ++ (M' ++ S)) := (SameK.refl P).app (h.app (SameK.refl S))
set_option maxHeartbeats 16000000 in
theorem stable_any (gr gk n cp : Nat) (X : List Ent) (Z : List Value) (hn : X.length = n) (hmax : n ≤ 1000000) (w : World) (hk : w.cell? ⟨gk, 0, none⟩ = some (.func (.func 55) #[] #[])) (hkr : gk ≠ gr) (h : ER w gr X Z) :
    Calls Tryd.prog 80 #[.slice (some ⟨gr, 0, none⟩) n cp, .int .i64 (n : Int), .func (.func 71) #[] #[.pointer (some ⟨gk, 0, none⟩)]] w fun e w' => e = .returned (.tuple #[]) ∧ ∃ X', ER w' gr X' Z ∧ Ord Ent.ck X' ∧ SameK Ent.ck X X' ∧ Chg [gr] w w' := by
  have H := Lib.hid h
  have HK := Lib.hid (And.intro hk hkr)
  have HN := Lib.hid (p := X.length = n ∧ n ≤ 1000000) ⟨hn, hmax⟩
  clear h hk hkr hn hmax
  go_enter Tryd.func80, Tryd.ntmps80
  go_wp2
  go_loopw [7, 8] (fun u v wr => ∃ (a b c : Nat) (L : List Ent), u = .int .i64 (a : Int) ∧ v = .int .i64 (b : Int) ∧ Hid (a = c * 20 ∧ b = a + 20 ∧ a ≤ n ∧ L.length = n) ∧ Hid (SameK Ent.ck X L ∧ ∀ q, q < c → Ord Ent.ck (chk 20 q L)) ∧ Hid (ER wr gr L Z) ∧ Hid (Chg [gr] w wr)) (fun u _ _ => n - (intOf u).toNat)
  case atStart => exact ⟨0, 20, 0, X, rfl, rfl, Lib.hid ⟨rfl, rfl, Nat.zero_le _, HN.out.1⟩, Lib.hid ⟨SameK.refl _, fun q hq => absurd hq (Nat.not_lt_zero _)⟩, H, Lib.hid (Chg.refl _ _)⟩
  case round =>
    clear H
    obtain ⟨a, b, c, L, rfl, rfl, HA, HB, HR, HC⟩ := hrel
    rename World => wo
    have HK1 := Lib.hid (HC.out.cell HK.out.1 (by simp; exact HK.out.2))
    by_cases hb : b ≤ n
    · have hbi : (b : Int) ≤ (n : Int) := by omega
      obtain ⟨b2, hb2⟩ : ∃ b2, b + 20 = b2 := ⟨_, rfl⟩
      have hbw : IntKind.i64.wrap ((b : Int) + 20) = (b2 : Int) := by rw [IntKind.wrap_i64]; have := HN.out; omega
      have HB2 := Lib.hid (p := b + 20 = b2 ∧ b ≤ n) ⟨hb2, hb⟩
      have hP : (L.take a).length = a := by rw [List.length_take]; have := HA.out; omega
      have hM : ((L.drop a).take 20).length = 20 := by rw [List.length_take, List.length_drop]; have := HA.out; omega
      have hc3 := cut3 L a 20
      have HPM := Lib.hid (And.intro hP (And.intro hM hc3))
      have HIN := Lib.hid (insertion_any gr gk n cp a b (L.take a) ((L.drop a).take 20) (L.drop (a + 20)) Z hP (by rw [hM]; exact HA.out.2.1.symm) (by rw [List.length_drop]; have := HA.out; omega) HN.out.2 wo HK1.out HK.out.2 (by rw [← hc3]; exact HR.out))
      clear hb hb2 hP hM hc3
      go_wp2_with (go_at_call 85; refine HIN.out.mono ?_; rintro e w2 ⟨rfl, M, hr, ho, hs, hc⟩
                   have HR2 := Lib.hid hr
                   have HO2 := Lib.hid (And.intro ho hs)
                   have HC2 := Lib.hid (HC.out.trans hc (fun z hz => .inl hz))
                   clear hr ho hs hc)
      go_roundw
      case rel =>
        have hl : M.length = 20 := by rw [← HO2.out.2.len, HPM.out.2.1]
        refine ⟨b, b2, c + 1, L.take a ++ (M ++ L.drop (a + 20)), rfl, rfl, Lib.hid ⟨by have := HA.out; omega, HB2.out.1.symm, HB2.out.2, ?_⟩, Lib.hid ⟨?_, fun q hq => ?_⟩, HR2, HC2⟩
        · rw [List.length_append, List.length_append, HPM.out.1, hl, List.length_drop]
          have := HA.out
          have := HB2.out
          omega
        · have h1 := HB.out.1
          rw [HPM.out.2.2] at h1
          exact h1.trans (same_mid HO2.out.2)
        · by_cases e : q = c
          · subst e
            rw [chk_mid (by rw [HPM.out.1]; exact HA.out.1) (.inl hl)]
            exact HO2.out.1
          · have h1 := HB.out.2 q (by omega)
            rw [HPM.out.2.2] at h1
            rw [chk_same (M := (L.drop a).take 20) (by rw [hl, HPM.out.2.1]) (.inl (by rw [HPM.out.1]; have := HA.out; omega))]
            exact h1
      case measure => have := HA.out; have := HB2.out; simp [intOf]; omega
    · have hbi : ¬ (b : Int) ≤ (n : Int) := by omega
      have hP : (L.take a).length = a := by rw [List.length_take]; have := HA.out; omega
      obtain ⟨k, hk⟩ : ∃ k, n - a = k := ⟨_, rfl⟩
      have hM : ((L.drop a).take k).length = k := by rw [List.length_take, List.length_drop]; have := HA.out; omega
      have hc3 := cut3 L a k
      have hS : L.drop (a + k) = [] := List.drop_of_length_le (by have := HA.out; omega)
      rw [hS] at hc3
      have HPM := Lib.hid (p := (L.take a).length = a ∧ ((L.drop a).take k).length = k ∧ L = L.take a ++ ((L.drop a).take k ++ []) ∧ a + k = n ∧ k < 20) ⟨hP, hM, hc3, by have := HA.out; omega, by have := HA.out; omega⟩
      have HIN := Lib.hid (insertion_any gr gk n cp a n (L.take a) ((L.drop a).take k) [] Z hP (by rw [hM]; have := HA.out; omega) (by simp) HN.out.2 wo HK1.out HK.out.2 (by rw [← hc3]; exact HR.out))
      clear hb hP hM hc3 hk hS
      go_wp2_with (go_at_call 85; refine HIN.out.mono ?_; rintro e w2 ⟨rfl, M, hr, ho, hs, hc⟩
                   have HR2 := Lib.hid hr
                   have HO2 := Lib.hid (And.intro ho hs)
                   have HC2 := Lib.hid (HC.out.trans hc (fun z hz => .inl hz))
                   clear hr ho hs hc)
      have hl : M.length = k := by rw [← HO2.out.2.len, HPM.out.2.1]
      have HS0 := Lib.hid (p := SameK Ent.ck X (L.take a ++ (M ++ [])) ∧ (∀ q, Ord Ent.ck (chk 20 q (L.take a ++ (M ++ [])))) ∧ (L.take a ++ (M ++ [])).length = n) (by
        have h9 : (L.take a ++ (M ++ [])).length = n := by
          rw [List.length_append, List.length_append, HPM.out.1, hl, List.length_nil]
          have := HPM.out
          omega
        refine ⟨?_, fun q => ?_, h9⟩
        · have h1 := HB.out.1
          rw [HPM.out.2.2.1] at h1
          exact h1.trans (same_mid HO2.out.2)
        · rcases Nat.lt_trichotomy q c with e | e | e
          · have h1 := HB.out.2 q e
            rw [HPM.out.2.2.1] at h1
            rw [chk_same (M := (L.drop a).take k) (by rw [hl, HPM.out.2.1]) (.inl (by rw [HPM.out.1]; have := HA.out; omega))]
            exact h1
          · subst e
            rw [chk_mid (by rw [HPM.out.1]; exact HA.out.1) (.inr ⟨by rw [hl]; have := HPM.out; omega, rfl⟩)]
            exact HO2.out.1
          · rw [chk_none (by rw [h9]; have := HA.out; have := HPM.out; omega)]
            exact Ord.nil)
      generalize L.take a ++ (M ++ []) = L0 at HR2 HS0
      clear HPM HO2 hl HA HB HR HC HIN HK1 hbi
      go_loopw [6] (fun u wr => ∃ (bs : Nat) (L : List Ent), u = .int .i64 (bs : Int) ∧ Hid (20 ≤ bs ∧ bs ≤ 2000000 ∧ L.length = n) ∧ Hid (SameK Ent.ck X L ∧ ∀ q, Ord Ent.ck (chk bs q L)) ∧ Hid (ER wr gr L Z) ∧ Hid (Chg [gr] w wr)) (fun u _ => n - (intOf u).toNat)
      case atStart => exact ⟨20, L0, rfl, Lib.hid ⟨Nat.le_refl _, by decide, HS0.out.2.2⟩, Lib.hid ⟨HS0.out.1, HS0.out.2.1⟩, HR2, HC2⟩
      case round =>
        clear HR2 HC2 HS0
        obtain ⟨bs, L, rfl, HA, HB, HR, HC⟩ := hrel
        rename World => wp
        by_cases hb : bs < n
        · have hbi : (bs : Int) < (n : Int) := by omega
          obtain ⟨d, hd⟩ : ∃ d, 2 * bs = d := ⟨_, rfl⟩
          have hdw : IntKind.i64.wrap (2 * (bs : Int)) = (d : Int) := by rw [IntKind.wrap_i64]; have := HA.out; omega
          have hdw2 : IntKind.i64.wrap ((bs : Int) * 2) = (d : Int) := by rw [IntKind.wrap_i64]; have := HA.out; omega
          have HD := Lib.hid (p := 2 * bs = d ∧ bs < n ∧ 20 ≤ bs) ⟨hd, hb, HA.out.1⟩
          clear hb hd
          go_wp2
          go_loopw [7, 8] (fun u v wr => ∃ (a b c : Nat) (L : List Ent), u = .int .i64 (a : Int) ∧ v = .int .i64 (b : Int) ∧ Hid (a = c * d ∧ b = a + d ∧ a ≤ n ∧ L.length = n) ∧ Hid (SameK Ent.ck X L ∧ (∀ q, q < c → Ord Ent.ck (chk d q L)) ∧ ∀ q, 2 * c ≤ q → Ord Ent.ck (chk bs q L)) ∧ Hid (ER wr gr L Z) ∧ Hid (Chg [gr] w wr)) (fun u _ _ => n - (intOf u).toNat)
          case atStart => exact ⟨0, d, 0, L, rfl, rfl, Lib.hid ⟨(Nat.zero_mul _).symm, (Nat.zero_add _).symm, Nat.zero_le _, HA.out.2.2⟩, Lib.hid ⟨HB.out.1, fun q hq => absurd hq (Nat.not_lt_zero _), fun q _ => HB.out.2 q⟩, HR, HC⟩
          case round =>
            clear HR HC HB HA
            obtain ⟨a, b, c, L, rfl, rfl, HA, HB, HR, HC⟩ := hrel
            rename World => wo
            have HK1 := Lib.hid (HC.out.cell HK.out.1 (by simp; exact HK.out.2))
            obtain ⟨m, hm⟩ : ∃ m, a + bs = m := ⟨_, rfl⟩
            have hmw : IntKind.i64.wrap ((a : Int) + (bs : Int)) = (m : Int) := by rw [IntKind.wrap_i64]; have := HA.out; have := HD.out; have := HN.out; omega
            have hac : 2 * c * bs = a := by have h1 := HA.out.1; have h2 := HD.out.1; rw [h1, ← h2, Nat.mul_comm 2 c, Nat.mul_assoc]
            have hac2 : (2 * c + 1) * bs = m := by rw [Nat.succ_mul, hac]; exact hm
            have HMA := Lib.hid (p := a + bs = m ∧ 2 * c * bs = a ∧ (2 * c + 1) * bs = m) ⟨hm, hac, hac2⟩
            have hPl : (L.take a).length = a := by rw [List.length_take]; have := HA.out; omega
            clear hm hac hac2
            by_cases hb : b ≤ n
            · have hbi : (b : Int) ≤ (n : Int) := by omega
              obtain ⟨b2, hb2⟩ : ∃ b2, b + d = b2 := ⟨_, rfl⟩
              have hbw : IntKind.i64.wrap ((b : Int) + (d : Int)) = (b2 : Int) := by rw [IntKind.wrap_i64]; have := HN.out; have := HD.out; omega
              have hXl : (chk bs (2 * c) L).length = bs := by unfold chk; rw [List.length_take, List.length_drop, HMA.out.2.1]; have := HA.out; have := HD.out; omega
              have hYl : (chk bs (2 * c + 1) L).length = bs := by unfold chk; rw [List.length_take, List.length_drop, HMA.out.2.2]; have := HA.out; have := HD.out; have := HMA.out; omega
              have hc3 : L = L.take a ++ ((chk bs (2 * c) L ++ chk bs (2 * c + 1) L) ++ L.drop (a + d)) := by
                rw [← chk_two, HD.out.1]
                have h1 := cut3 L a d
                unfold chk
                rw [← HA.out.1]
                exact h1
              have HPM := Lib.hid (p := (L.take a).length = a ∧ (chk bs (2 * c) L ++ chk bs (2 * c + 1) L).length = d ∧ L = L.take a ++ ((chk bs (2 * c) L ++ chk bs (2 * c + 1) L) ++ L.drop (a + d))) ⟨hPl, by rw [List.length_append, hXl, hYl]; have := HD.out; omega, hc3⟩
              have HIN := Lib.hid (merges_any gr gk n cp Z HN.out.2 (b - a) a m b (Nat.le_refl _) (L.take a) (chk bs (2 * c) L) (chk bs (2 * c + 1) L) (L.drop (a + d)) wo hPl (by rw [hXl]; exact HMA.out.1) (by rw [hYl]; have := HMA.out; have := HA.out; have := HD.out; omega) (by rw [List.length_drop]; have := HA.out; omega) (by rw [hXl]; have := HD.out; omega) (by rw [hYl]; have := HD.out; omega) (HB.out.2.2 _ (Nat.le_refl _)) (HB.out.2.2 _ (Nat.le_succ _)) HK1.out HK.out.2 (by rw [← List.append_assoc (chk bs (2 * c) L), ← hc3]; exact HR.out))
              have HB2 := Lib.hid (p := b + d = b2 ∧ b ≤ n) ⟨hb2, hb⟩
              clear hb hb2 hXl hYl hc3 hPl
              go_wp2_with (go_at_call 86; refine HIN.out.mono ?_; rintro e w2 ⟨rfl, M, hr, ho, hs, hc⟩
                           have HR2 := Lib.hid hr
                           have HO2 := Lib.hid (And.intro ho hs)
                           have HC2 := Lib.hid (HC.out.trans hc (fun z hz => .inl hz))
                           clear hr ho hs hc)
              go_roundw
              case rel =>
                have hl : M.length = d := by rw [← HO2.out.2.len, HPM.out.2.1]
                refine ⟨b, b2, c + 1, L.take a ++ (M ++ L.drop (a + d)), rfl, rfl, Lib.hid ⟨by rw [Nat.succ_mul]; have := HA.out; omega, HB2.out.1.symm, HB2.out.2, ?_⟩, Lib.hid ⟨?_, fun q hq => ?_, fun q hq => ?_⟩, HR2, HC2⟩
                · rw [List.length_append, List.length_append, HPM.out.1, hl, List.length_drop]
                  have := HA.out
                  have := HB2.out
                  omega
                · have h1 := HB.out.1
                  rw [HPM.out.2.2] at h1
                  exact h1.trans (same_mid HO2.out.2)
                · by_cases e : q = c
                  · subst e
                    rw [chk_mid (by rw [HPM.out.1]; exact HA.out.1) (.inl hl)]
                    exact HO2.out.1
                  · have h1 := HB.out.2.1 q (by omega)
                    rw [HPM.out.2.2] at h1
                    rw [chk_same (M := chk bs (2 * c) L ++ chk bs (2 * c + 1) L) (by rw [hl, HPM.out.2.1]) (.inl (by
                      rw [HPM.out.1, HA.out.1]
                      have h3 : (q + 1) * d ≤ c * d := Nat.mul_le_mul_right d (by omega)
                      rw [Nat.succ_mul] at h3
                      exact h3))]
                    exact h1
                · have h1 := HB.out.2.2 q (by omega)
                  rw [HPM.out.2.2] at h1
                  rw [chk_same (M := chk bs (2 * c) L ++ chk bs (2 * c + 1) L) (by rw [hl, HPM.out.2.1]) (.inr (by
                    rw [HPM.out.1, HPM.out.2.1]
                    have h3 : (2 * (c + 1)) * bs ≤ q * bs := Nat.mul_le_mul_right bs hq
                    have h4 : (2 * (c + 1)) * bs = 2 * c * bs + 2 * bs := by rw [Nat.mul_succ, Nat.add_mul]
                    have h5 := HMA.out.2.1
                    have h6 := HD.out.1
                    omega))]
                  exact h1
              case measure => have := HA.out; have := HB2.out; have := HD.out; simp [intOf]; omega
            · have hbi : ¬ (b : Int) ≤ (n : Int) := by omega
              have HBN := Lib.hid (p := n < a + d) (by have := HA.out; omega)
              clear hb
              have hfar : ∀ (L' : List Ent) (q : Nat), L'.length = n → c < q → Ord Ent.ck (chk d q L') := fun L' q hl hq => by
                have h3 : (c + 1) * d ≤ q * d := Nat.mul_le_mul_right d (by omega)
                rw [Nat.succ_mul] at h3
                rw [chk_none (by have := HA.out; have := HBN.out; omega)]
                exact Ord.nil
              have HFAR := Lib.hid hfar
              clear hfar
              by_cases hmn : m < n
              · have hmi : (m : Int) < (n : Int) := by omega
                have hXl : (chk bs (2 * c) L).length = bs := by unfold chk; rw [List.length_take, List.length_drop, HMA.out.2.1]; have := HA.out; have := HMA.out; omega
                have hYl : (chk bs (2 * c + 1) L).length = n - m := by unfold chk; rw [List.length_take, List.length_drop, HMA.out.2.2]; have := HA.out; have := HD.out; have := HBN.out; have := HMA.out; omega
                have hc3 : L = L.take a ++ ((chk bs (2 * c) L ++ chk bs (2 * c + 1) L) ++ []) := by
                  rw [← chk_two, HD.out.1]
                  have h1 := cut3 L a d
                  rw [List.drop_of_length_le (by have := HA.out; have := HBN.out; omega : L.length ≤ a + d)] at h1
                  unfold chk
                  rw [← HA.out.1]
                  exact h1
                have HPM := Lib.hid (p := (L.take a).length = a ∧ (chk bs (2 * c) L ++ chk bs (2 * c + 1) L).length = n - a ∧ L = L.take a ++ ((chk bs (2 * c) L ++ chk bs (2 * c + 1) L) ++ [])) ⟨hPl, by rw [List.length_append, hXl, hYl]; have := HMA.out; omega, hc3⟩
                have HIN := Lib.hid (merges_any gr gk n cp Z HN.out.2 (n - a) a m n (Nat.le_refl _) (L.take a) (chk bs (2 * c) L) (chk bs (2 * c + 1) L) [] wo hPl (by rw [hXl]; exact HMA.out.1) (by rw [hYl]; omega) (by simp) (by rw [hXl]; have := HD.out; omega) (by rw [hYl]; omega) (HB.out.2.2 _ (Nat.le_refl _)) (HB.out.2.2 _ (Nat.le_succ _)) HK1.out HK.out.2 (by rw [← List.append_assoc (chk bs (2 * c) L), ← hc3]; exact HR.out))
                have HMN := Lib.hid hmn
                clear hmn hXl hYl hc3 hPl
                go_wp2_with (go_at_call 86; refine HIN.out.mono ?_; rintro e w2 ⟨rfl, M, hr, ho, hs, hc⟩
                             have HR2 := Lib.hid hr
                             have HO2 := Lib.hid (And.intro ho hs)
                             have HC2 := Lib.hid (HC.out.trans hc (fun z hz => .inl hz))
                             clear hr ho hs hc)
                go_roundw
                case rel =>
                  have hl : M.length = n - a := by rw [← HO2.out.2.len, HPM.out.2.1]
                  have h9 : (L.take a ++ (M ++ [])).length = n := by
                    rw [List.length_append, List.length_append, HPM.out.1, hl, List.length_nil]
                    have := HA.out
                    omega
                  refine ⟨d, L.take a ++ (M ++ []), rfl, Lib.hid ⟨by have := HD.out; omega, by have := HD.out; have := HN.out; omega, h9⟩, Lib.hid ⟨?_, fun q => ?_⟩, HR2, HC2⟩
                  · have h1 := HB.out.1
                    rw [HPM.out.2.2] at h1
                    exact h1.trans (same_mid HO2.out.2)
                  · rcases Nat.lt_trichotomy q c with e | e | e
                    · have h1 := HB.out.2.1 q e
                      rw [HPM.out.2.2] at h1
                      rw [chk_same (M := chk bs (2 * c) L ++ chk bs (2 * c + 1) L) (by rw [hl, HPM.out.2.1]) (.inl (by
                        rw [HPM.out.1, HA.out.1]
                        have h3 : (q + 1) * d ≤ c * d := Nat.mul_le_mul_right d (by omega)
                        rw [Nat.succ_mul] at h3
                        exact h3))]
                      exact h1
                    · subst e
                      rw [chk_mid (by rw [HPM.out.1]; exact HA.out.1) (.inr ⟨by rw [hl]; have := HBN.out; omega, rfl⟩)]
                      exact HO2.out.1
                    · exact HFAR.out _ q h9 e
                case measure => have := HD.out; simp [intOf]; omega
              · have hmi : ¬ (m : Int) < (n : Int) := by omega
                have HMN := Lib.hid (p := n ≤ m) (by omega)
                clear hmn hPl
                go_wp2
                go_roundw
                case rel =>
                  refine ⟨d, L, rfl, Lib.hid ⟨by have := HD.out; omega, by have := HD.out; have := HN.out; omega, HA.out.2.2.2⟩, Lib.hid ⟨HB.out.1, fun q => ?_⟩, HR, HC⟩
                  rcases Nat.lt_trichotomy q c with e | e | e
                  · exact HB.out.2.1 q e
                  · subst e
                    rw [← HD.out.1, chk_two, chk_none (q := 2 * q + 1) (by rw [HMA.out.2.2, HA.out.2.2.2]; exact HMN.out), List.append_nil]
                    exact HB.out.2.2 _ (Nat.le_refl _)
                  · exact HFAR.out _ q HA.out.2.2.2 e
                case measure => have := HD.out; simp [intOf]; omega
        · have hbi : ¬ (bs : Int) < (n : Int) := by omega
          have h9 : Ord Ent.ck L := by
            have h1 := HB.out.2 0
            rw [ck0 L bs (by have := HA.out; omega)] at h1
            exact h1
          have HO9 := Lib.hid h9
          clear hb h9
          go_wp2
          go_end0
          exact ⟨rfl, L, HR.out, HO9.out, HB.out.1, HC.out⟩
end Go.Proofs.YtijffkklhgnknaaDoor
