/- The runes of a text, names and order by the reference, for every text of at most 2^40 bytes. No other conditions. -/
import Derived.Test.YtcdgiailapcooaaDoorRunesRef
import Derived.BigQuiet
import Derived.Deep.QuietTactic
set_option linter.unusedVariables false
namespace Go.Proofs.YtcdgiailapcooaaDoor
open Go.RowKit

theorem info3 : (Tryd.prog.info? 3).map (fun i => (i.zero, i.size, i.bytes)) = some (some (.int .i64 0), 1, 8) := by kernel_rfl
/-- Numbers as cells. -/
def ic (l : List Int) : List Value := l.map (Value.int .i64)
theorem ic_len (l : List Int) : (ic l).length = l.length := by simp [ic]
theorem ic_app (a b : List Int) : ic (a ++ b) = ic a ++ ic b := by simp [ic]
/-- The address holds the numbers. -/
def HolI (w : World) (A : Option Addr) (l : List Int) : Prop :=
  l = [] ∨ ∃ g, A = some ⟨g, 0, none⟩ ∧ ∀ j x, l[j]? = some x → w.cell? ⟨g, j, none⟩ = some (.int .i64 x)
theorem HolI.at_ {w : World} {A : Option Addr} {l : List Int} (h : HolI w A l) {j : Nat} (hj : j < l.length) : ∃ g, A = some ⟨g, 0, none⟩ ∧ w.cell? ⟨g, j, none⟩ = some (.int .i64 l[j]) := by
  rcases h with rfl | ⟨g, rfl, hc⟩
  · simp at hj
  · exact ⟨g, rfl, hc j _ (List.getElem?_eq_getElem hj)⟩
theorem HolI.below {w w' : World} {A : Option Addr} {l : List Int} (h : HolI w A l) (hb : Below w.heap.size w w') : HolI w' A l := by
  rcases h with rfl | ⟨g, rfl, hc⟩
  · exact .inl rfl
  · exact .inr ⟨g, rfl, fun j x hx => (hb.cell (p := ⟨g, j, none⟩) (World.block_lt_of_cell? w _ (hc j x hx))).trans (hc j x hx)⟩
theorem own_ints {w : World} {base : Nat} {e : TypeId} {v : Value} {n : Nat} {l : List Int} (h : w.ownsRow base e 1 v n (ic l)) :
    n = l.length ∧ ∃ A c, v = .slice A l.length c ∧ HolI w A l := by
  have hn : n = l.length := by have := h.1; rw [ic_len] at this; omega
  subst hn
  refine ⟨rfl, ?_⟩
  rcases h.2 with ⟨rfl, h0⟩ | ⟨g, cap, cur, rfl, hb, hg, hn, hc, hs, ht⟩
  · rw [h0]
    exact ⟨none, 0, rfl, .inl (List.eq_nil_of_length_eq_zero h0)⟩
  · refine ⟨_, cap, rfl, .inr ⟨g, rfl, fun j x hx => ?_⟩⟩
    have hx2 : (ic l)[j]? = some (.int .i64 x) := by unfold ic; rw [List.getElem?_map, hx]; rfl
    have := h.cells (g := g) rfl j _ hx2
    rw [show (⟨g, j, none⟩ : Addr) = (⟨g, 0, none⟩ : Addr).add j by unfold Addr.add; split <;> simp_all]
    exact this

set_option maxHeartbeats 400000 in
theorem runes_any (s : ByteArray) (w : World) (hs : s.size ≤ 1099511627776) :
    Calls Tryd.prog 36 #[.string s] w fun e w' => ∃ v, e = .returned v ∧ w'.ownsRow w.heap.size 3 1 v (rl s.data.toList).length (ic (rl s.data.toList)) ∧ Below w.heap.size w w' := by
  obtain ⟨i, hi, hz0, hz1, hz2⟩ := info_parts info3
  have hlen := rl_len s.data.toList
  rw [← Lib.size_eq] at hlen
  generalize hR : rl s.data.toList = R at *
  have HR := Lib.hid hR
  clear hR
  go_enter Tryd.func36, Tryd.ntmps36
  go_wp2
  go_loopw [0, 3] (fun st v wr => ∃ (t : ByteArray) (xs : List Int), st = .string t ∧ t.size ≤ 1099511627776 ∧ Hid (xs ++ rl t.data.toList = R) ∧ wr.ownsRow w.heap.size 3 1 v xs.length (ic xs) ∧ Below w.heap.size w wr)
    (fun st _ _ => match st with | .string t => t.size | _ => 0)
  case atStart => exact ⟨s, [], rfl, hs, Lib.hid HR.out, World.ownsRow_nil _ _ _ _, Below.refl _ _⟩
  case round =>
    obtain ⟨t, xs, rfl, hts, hxs, hown, hb⟩ := hrel
    have hxl : xs.length ≤ R.length := by rw [← hxs.out, List.length_append]; omega
    by_cases hp : 0 < t.size
    · have hpz : (0 : Int) < (t.size : Int) := by omega
      have hne : t.data.toList ≠ [] := by
        intro e
        rw [Lib.size_eq, e] at hp
        exact absurd hp (by decide)
      have cF := fun W => first_any t W hp (by omega)
      have hst := rl_step _ hne
      have hfit := decodeL_fits _ hne
      have hw1 := Lib.decodeL_width t.data.toList
      rw [← Lib.size_eq] at hfit
      rw [← fst_width] at hst hfit hw1
      have hrg := fst_range t.data.toList
      generalize fst t.data.toList = d at *
      obtain ⟨r, n⟩ := d
      replace hfit : n ≤ t.size := hfit
      replace hw1 : 1 ≤ n := hw1
      replace hrg : -1 ≤ r ∧ r ≤ 1114111 := hrg
      replace hst : rl t.data.toList = r :: rl (t.data.toList.drop n) := hst
      replace cF : ∀ W, Calls Tryd.prog 39 #[.string t] W fun e w' => e = .returned (.tuple #[.int .i64 r, .int .i64 n]) ∧ W = w' := cF
      have HST := Lib.hid hst
      have CF := Lib.hid cF
      clear hst cF hne
      go_wp2_with (first
        | (go_at_call 39; refine (CF.out _).mono ?_; rintro e w' ⟨rfl, rfl⟩)
        | (at_builtin; refine wpList_append_own_at _ rfl _ _ 59 rfl w.heap.size 3 i (.int .i64 0) 1 8 Tryd.underlying59 hi hz0 hz1 hz2 rfl (by decide) _ xs.length _ rfl (hown.alloc _) ⟨wr.heap.size, 0, none⟩ 1 1 [.int .i64 r] rfl rfl (cell_one_new _ _ _) (by intro u hu; simp at hu; subst hu; rfl) (by unfold maxLen; omega) (by omega) (by have := hb.size; simp; omega) ?_; intro v2 w2 hown2 hg2 _ _))
      have hb2 : Below w.heap.size w w2 := (hb.alloc hb.size _).grown hg2 (by have := hb.size; simp; omega) (fun q hq => (hown.lt q hq).1)
      have hxs2 : Hid ((xs ++ [r]) ++ rl (t.extract n t.size).data.toList = R) := by
        refine Lib.hid ?_
        rw [Lib.extract_to_end, List.append_assoc, ← hxs.out, HST.out]
        rfl
      have hsz2 : (t.extract n t.size).size = t.size - n := by rw [Lib.size_eq, Lib.extract_to_end, List.length_drop, ← Lib.size_eq]
      have hown3 : w2.ownsRow w.heap.size 3 1 v2 (xs ++ [r]).length (ic (xs ++ [r])) := by
        rw [List.length_append, ic_app]
        exact hown2
      go_roundw
      case rel => exact ⟨t.extract n t.size, xs ++ [r], rfl, by omega, hxs2, hown3, hb2⟩
      case measure =>
        simp
        omega
    · have ht : t.data.toList = [] := List.eq_nil_of_length_eq_zero (by rw [← Lib.size_eq]; omega)
      have hx : xs = R := by
        have := hxs.out
        rw [ht, rl_nil, List.append_nil] at this
        exact this
      subst hx
      clear ht
      go_wp2
      go_ret
      exact ⟨_, rfl, hown, hb⟩

theorem rname_short (s : ByteArray) (w : World) (h : s.data.toList = [] ∨ s.data.toList = [46] ∨ s.data.toList = [46, 46]) :
    Calls Tryd.prog 26 #[.string s] w fun e w' => e = .returned (.int .i64 22) ∧ w = w' := by
  rcases h with h | h | h
  · have h1 := isEmpty_eq h
    clear h
    go_enter Tryd.func26, Tryd.ntmps26
    go_wp2
    go_ret
    exact ⟨rfl, rfl⟩
  · have h1 : s.toList.isEmpty = false := isEmpty_ne (by rw [h]; simp)
    have h2 := toList_eq_ h
    clear h
    go_enter Tryd.func26, Tryd.ntmps26
    go_wp2
    go_ret
    exact ⟨rfl, rfl⟩
  · have h1 : s.toList.isEmpty = false := isEmpty_ne (by rw [h]; simp)
    have h2 : (s.toList == [46]) = false := toList_ne (by rw [h]; simp)
    have h3 := toList_eq_ h
    clear h
    go_enter Tryd.func26, Tryd.ntmps26
    go_wp2
    go_ret
    exact ⟨rfl, rfl⟩

set_option maxHeartbeats 400000 in
theorem rname_go (s : ByteArray) (w : World) (h1 : s.data.toList ≠ []) (h2 : s.data.toList ≠ [46]) (h3 : s.data.toList ≠ [46, 46]) (hs : s.size ≤ 1099511627776) :
    Calls Tryd.prog 26 #[.string s] w fun e w' => e = .returned (.int .i64 (if (rl s.data.toList).all okI then (if 32 < s.data.toList.length then 36 else 0) else 22)) ∧ Below w.heap.size w w' := by
  have cR := runes_any s w hs
  have hlen := rl_len s.data.toList
  have k1 := isEmpty_ne h1
  have k2 := toList_ne h2
  have k3 := toList_ne h3
  clear h1 h2 h3
  rw [← Lib.size_eq] at hlen ⊢
  generalize rl s.data.toList = xs at *
  generalize hR : (if xs.all okI = true then (if 32 < s.size then 36 else 0) else (22 : Int)) = R
  have HR := Lib.hid hR
  have CR := Lib.hid cR
  clear hR cR
  go_enter Tryd.func26, Tryd.ntmps26
  go_wp2_with (go_at_call 36; refine CR.out.mono ?_; rintro e w1 ⟨v, rfl, hown1, hb1⟩; obtain ⟨_, A, c, rfl, hA⟩ := own_ints hown1)
  clear k1 k2 k3
  go_loop [4] (fun i => ∃ k : Nat, k ≤ xs.length ∧ i = .int .i64 k ∧ Hid ((xs.take k).all okI = true)) (fun i => xs.length - (intOf i).toNat)
  case atStart => exact ⟨0, Nat.zero_le _, rfl, Lib.hid rfl⟩
  case round =>
    obtain ⟨k, hk, rfl, hall⟩ := hrel
    by_cases hlt : k < xs.length
    · obtain ⟨g, rfl, hc⟩ := hA.at_ hlt
      obtain ⟨r, hr⟩ : ∃ r, xs[k] = r := ⟨_, rfl⟩
      rw [hr] at hc
      have HX := Lib.hid hr
      clear hr
      have hkz : (k : Int) < (xs.length : Int) := by omega
      cases hok : okI r
      · have hRv : R = 22 := by
          rw [← HR.out, if_neg]
          intro e
          have := List.all_eq_true.1 e (xs[k]) (List.getElem_mem hlt)
          rw [HX.out, hok] at this
          cases this
        subst hRv
        have h0 : r < 32 ∨ r = 47 ∨ r = 127 := by
          have hq : 32 ≤ r → ¬ r = 47 → r = 127 := by simpa [okI, or_assoc] using hok
          omega
        clear hok
        rcases h0 with h0 | rfl | rfl
        · go_wp2
          go_ret
          exact ⟨rfl, hb1⟩
        · go_wp2
          go_ret
          exact ⟨rfl, hb1⟩
        · go_wp2
          go_ret
          exact ⟨rfl, hb1⟩
      · have h0 : ¬ (r < 32 ∨ r = 47 ∨ r = 127) := by
          intro e
          have hq : 32 ≤ r → ¬ r = 47 → r = 127 := by omega
          have : okI r = false := by simpa [okI, or_assoc] using hq
          rw [hok] at this
          cases this
        have ha : decide (r < 32) = false := by simp; omega
        have hb : (r == 47) = false := by simp; omega
        have hc2 : (r == 127) = false := by simp; omega
        have hall2 : Hid ((xs.take (k + 1)).all okI = true) := by
          refine Lib.hid ?_
          rw [List.take_succ_eq_append_getElem hlt, List.all_append, hall.out, HX.out]
          simp [hok]
        clear h0 hok
        go_wp2
        go_round
        case rel => exact ⟨k + 1, by omega, by go_num, hall2⟩
        case measure => simp [intOf]; omega
    · have hkk : k = xs.length := by omega
      have hall3 : xs.all okI = true := by
        have := hall.out
        rw [hkk, List.take_length] at this
        exact this
      subst hkk
      by_cases h32 : 32 < s.size
      · have hz : (32 : Int) < (s.size : Int) := by omega
        have hRv : R = 36 := by rw [← HR.out, if_pos hall3, if_pos h32]
        subst hRv
        clear hall3 h32
        go_wp2
        go_ret
        exact ⟨rfl, hb1⟩
      · have hz : ¬ (32 : Int) < (s.size : Int) := by omega
        have hRv : R = 0 := by rw [← HR.out, if_pos hall3, if_neg h32]
        subst hRv
        clear hall3 h32
        go_wp2
        go_ret
        exact ⟨rfl, hb1⟩

/-- The reference's Name. -/
theorem rname_any (s : ByteArray) (w : World) (hs : s.size ≤ 1099511627776) :
    Calls Tryd.prog 26 #[.string s] w fun e w' => e = .returned (.int .i64 (nameR s.data.toList)) ∧ Below w.heap.size w w' := by
  by_cases h : s.data.toList = [] ∨ s.data.toList = [46] ∨ s.data.toList = [46, 46]
  · have hr : nameR s.data.toList = 22 := by unfold nameR; rw [if_pos h]
    rw [hr]
    exact (rname_short s w h).mono fun e w' ⟨he, hw⟩ => ⟨he, by rw [hw]; exact Below.refl _ _⟩
  · have h' := h
    simp only [not_or] at h'
    have hr : nameR s.data.toList = (if (rl s.data.toList).all okI then (if 32 < s.data.toList.length then 36 else 0) else 22) := by unfold nameR; rw [if_neg h, ok_both]
    rw [hr]
    exact rname_go s w h'.1 h'.2.1 h'.2.2 hs

theorem fix_neg {r : Int} (h : r < 0) : fix_ r = 65533 := by unfold fix_; rw [if_pos h]
theorem fix_pos {r : Int} (h : ¬ r < 0) : (fix_ r : Int) = r := by unfold fix_; rw [if_neg h]; omega

set_option maxHeartbeats 1000000 in
theorem rless_any (a b : ByteArray) (w : World) (ha : a.size ≤ 1099511627776) (hb : b.size ≤ 1099511627776) :
    Calls Tryd.prog 28 #[.string a, .string b] w fun e w' => e = .returned (.bool (lessD a.data.toList b.data.toList)) ∧ Below w.heap.size w w' := by
  have cA := runes_any a w ha
  have cB := fun W => runes_any b W hb
  have la := rl_len a.data.toList
  have lb := rl_len b.data.toList
  rw [← Lib.size_eq] at la lb
  unfold lessD
  rw [← rl_dl, ← rl_dl]
  generalize rl a.data.toList = x at *
  generalize rl b.data.toList = y at *
  obtain ⟨ANS, hAns⟩ : ∃ ANS, lex (x.map fix_) (y.map fix_) = ANS := ⟨_, rfl⟩
  rw [hAns]
  have HA := Lib.hid hAns
  have CA := Lib.hid cA
  have CB := Lib.hid cB
  clear hAns cA cB
  have tok : (1 : Nat) = 1 := rfl
  go_enter Tryd.func28, Tryd.ntmps28
  go_wp2_with fail
  refine CA.out.mono ?_
  rintro e w1 ⟨v, rfl, hown1, hb1⟩
  obtain ⟨_, A, c, rfl, hA⟩ := own_ints hown1
  go_wp2_with fail
  refine (CB.out w1).mono ?_
  rintro e w2 ⟨v, rfl, hown2, hb2⟩
  obtain ⟨_, B, d, rfl, hB⟩ := own_ints hown2
  have hA2 := hA.below hb2
  have hbw : Below w.heap.size w w2 := hb1.trans (hb2.mono hb1.size)
  clear hown1 hown2 hA
  go_wp2
  go_loop [7] (fun i => ∃ k : Nat, k ≤ x.length ∧ k ≤ y.length ∧ i = .int .i64 k ∧ Hid (lex ((x.map fix_).drop k) ((y.map fix_).drop k) = ANS)) (fun i => x.length - (intOf i).toNat)
  case atStart => exact ⟨0, Nat.zero_le _, Nat.zero_le _, rfl, Lib.hid HA.out⟩
  case round =>
    obtain ⟨k, hkx, hky, rfl, hans⟩ := hrel
    by_cases hx : k < x.length
    · have hxz : (k : Int) < (x.length : Int) := by omega
      by_cases hy : k < y.length
      · have hyz : (k : Int) < (y.length : Int) := by omega
        obtain ⟨g, rfl, hc1⟩ := hA2.at_ hx
        obtain ⟨g2, rfl, hc2⟩ := hB.at_ hy
        have hst := lex_drop (x.map fix_) (y.map fix_) k (by simpa using hx) (by simpa using hy)
        simp only [List.getElem_map] at hst
        generalize x[k] = p at *
        generalize y[k] = q at *
        rw [hans.out] at hst
        have HST := Lib.hid hst
        clear hst
        by_cases hp : p < 0
        · by_cases hq : q < 0
          · have hans2 : Hid (lex ((x.map fix_).drop (k + 1)) ((y.map fix_).drop (k + 1)) = ANS) := by
              have := HST.out
              rw [fix_neg hp, fix_neg hq, if_neg (fun h => h rfl)] at this
              exact Lib.hid this.symm
            go_wp2
            go_round
            case rel => exact ⟨k + 1, by omega, by omega, by go_num, hans2⟩
            case measure => simp [intOf]; omega
          · by_cases hpq : (65533 : Int) = q
            · subst hpq
              have hans2 : Hid (lex ((x.map fix_).drop (k + 1)) ((y.map fix_).drop (k + 1)) = ANS) := by
                have := HST.out
                rw [fix_neg hp] at this
                rw [if_neg (fun h => h rfl)] at this
                exact Lib.hid this.symm
              go_wp2
              go_round
              case rel => exact ⟨k + 1, by omega, by omega, by go_num, hans2⟩
              case measure => simp [intOf]; omega
            · have hne : ((65533 : Int) != q) = true := by rw [bne_iff_ne]; exact hpq
              have hAv : ANS = decide ((65533 : Int) < q) := by
                have h1 := fix_pos hq
                have := HST.out
                rw [fix_neg hp, if_pos (by omega)] at this
                rw [this, Bool.eq_iff_iff]
                simp
                omega
              subst hAv
              clear hpq
              go_wp2
              go_ret
              exact ⟨rfl, hbw⟩
        · by_cases hq : q < 0
          · by_cases hpq : p = (65533 : Int)
            · subst hpq
              have hans2 : Hid (lex ((x.map fix_).drop (k + 1)) ((y.map fix_).drop (k + 1)) = ANS) := by
                have := HST.out
                rw [fix_neg hq] at this
                rw [if_neg (fun h => h rfl)] at this
                exact Lib.hid this.symm
              go_wp2
              go_round
              case rel => exact ⟨k + 1, by omega, by omega, by go_num, hans2⟩
              case measure => simp [intOf]; omega
            · have hne : (p != (65533 : Int)) = true := by rw [bne_iff_ne]; exact hpq
              have hAv : ANS = decide (p < (65533 : Int)) := by
                have h1 := fix_pos hp
                have := HST.out
                rw [fix_neg hq, if_pos (by omega)] at this
                rw [this, Bool.eq_iff_iff]
                simp
                omega
              subst hAv
              clear hpq
              go_wp2
              go_ret
              exact ⟨rfl, hbw⟩
          · by_cases hpq : p = q
            · subst hpq
              have hans2 : Hid (lex ((x.map fix_).drop (k + 1)) ((y.map fix_).drop (k + 1)) = ANS) := by
                have := HST.out
                rw [if_neg (fun h => h rfl)] at this
                exact Lib.hid this.symm
              go_wp2
              go_round
              case rel => exact ⟨k + 1, by omega, by omega, by go_num, hans2⟩
              case measure => simp [intOf]; omega
            · have hne : (p != q) = true := by rw [bne_iff_ne]; exact hpq
              have hAv : ANS = decide (p < q) := by
                have h1 := fix_pos hp
                have h2 := fix_pos hq
                have := HST.out
                rw [if_pos (by omega)] at this
                rw [this, Bool.eq_iff_iff]
                simp
                omega
              subst hAv
              clear hpq
              go_wp2
              go_ret
              exact ⟨rfl, hbw⟩
      · have hAv : ANS = decide ((x.length : Int) < (y.length : Int)) := by
          have h2 := lex_end (x.map fix_) (y.map fix_) k (.inr (by simp; omega)) (by simpa using hkx) (by simpa using hky)
          rw [hans.out] at h2
          rw [h2, Bool.eq_iff_iff]
          simp
        subst hAv
        have hyz : ¬ (k : Int) < (y.length : Int) := by omega
        go_wp2
        go_ret
        exact ⟨rfl, hbw⟩
    · have hAv : ANS = decide ((x.length : Int) < (y.length : Int)) := by
        have h2 := lex_end (x.map fix_) (y.map fix_) k (.inl (by simp; omega)) (by simpa using hkx) (by simpa using hky)
        rw [hans.out] at h2
        rw [h2, Bool.eq_iff_iff]
        simp
      subst hAv
      have hxz : decide ((k : Int) < (x.length : Int)) = false := by simp; omega
      go_wp2
      go_ret
      exact ⟨rfl, hbw⟩
end Go.Proofs.YtcdgiailapcooaaDoor
