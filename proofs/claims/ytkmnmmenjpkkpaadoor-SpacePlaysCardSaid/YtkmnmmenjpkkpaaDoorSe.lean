/- The places of a set, told one by one (the program's own iterator), and counted. Conditions: the words lie there, and stay so. -/
import Derived.RangeFuncNested
import Derived.RangeFuncBound
import Derived.RangeFuncCalls
import Derived.RangeFuncLeaves
import Derived.Shelf.Abstract
import Derived.Shelf.RegionOpen
import Derived.OwnWalkIn
import Derived.TacticsInMore
import Derived.LoopNIn
import Derived.LoopIn
import Derived.Test.YtkmnmmenjpkkpaaDoorSm
set_option linter.unusedVariables false
namespace Go.Proofs.YtkmnmmenjpkkpaaDoor
open Go.RowKit Go.Shelf

attribute [local go_sem] Oper.semAt_some

/-- The words of a set lie there. -/
def SetAt (w : World) (g off : Nat) (S : Nat → Bool) : Prop := ∀ i, i < 16 → w.cell? ⟨g, off + i, none⟩ = some (W64 (wv S i))

theorem cnt_word (S : Nat → Bool) (i : Nat) : cnt (64 * (i + 1)) S = cnt (64 * i) S + cnt 64 (fun j => S (64 * i + j)) := by
  rw [show 64 * (i + 1) = 64 * i + 64 by omega, cnt_add]
theorem count_any (g off : Nat) (S : Nat → Bool) (w : World) (h : SetAt w g off S) : Calls Tryd.prog 28 #[.pointer (some ⟨g, off, none⟩)] w fun e w' => e = .returned (.int .i64 (cnt 1024 S : Int)) ∧ w' = w := by
  go_enter Tryd.func28, Tryd.ntmps28
  go_wp2
  go_loopw [5, 3] (fun i s wr => ∃ k : Nat, k ≤ 16 ∧ i = .int .i64 k ∧ s = .int .i64 (cnt (64 * k) S : Int) ∧ wr = w) (fun i _ _ => 16 - (intOf i).toNat)
  case atStart => exact ⟨0, by omega, rfl, by rw [Nat.mul_zero, cnt_zero]; rfl, rfl⟩
  case round =>
    obtain ⟨k, hk, rfl, rfl, rfl⟩ := hrel
    by_cases hlt : k < 16
    · have c0 := h k hlt
      obtain ⟨x, hx⟩ : ∃ x, wv S k = x := ⟨_, rfl⟩
      rw [hx] at c0
      have hx' : num 64 (fun j => S (64 * k + j)) = x := (wv_eq S k).symm.trans hx
      have hb := cnt_le (64 * k) S
      have hb1 := cnt_le 64 (fun j => S (64 * k + j))
      have e := cnt_word S k
      have HX := Lib.hid hx'
      obtain ⟨a, ha⟩ : ∃ a, cnt (64 * k) S = a := ⟨_, rfl⟩
      obtain ⟨b, hb'⟩ : ∃ b, cnt 64 (fun j => S (64 * k + j)) = b := ⟨_, rfl⟩
      rw [ha] at hb e ⊢
      rw [hb'] at hb1 e
      have e1 : wrap64 ((a : Int) + (b : Int)) = ((cnt (64 * (k + 1)) S : Nat) : Int) := by rw [e]; unfold wrap64; omega
      have e2 : IntKind.i64.wrap ((a : Int) + (b : Int)) = ((cnt (64 * (k + 1)) S : Nat) : Int) := by rw [e, IntKind.wrap_i64]; omega
      have HB := Lib.hid hb'
      obtain ⟨s2, hs2⟩ : ∃ s2, cnt (64 * (k + 1)) S = s2 := ⟨_, rfl⟩
      rw [hs2] at e1 e2
      have HS2 := Lib.hid hs2
      clear hx hx' hb hb1 e ha hb' hs2
      go_wp2_with (go_at_call 32; refine (ones_any _ x HX.out _).mono ?_; rintro e9 w9 ⟨rfl, rfl⟩; rw [HB.out])
      exact ⟨⟨k + 1, by omega, by go_num, by rw [HS2.out], trivial⟩, by simp [intOf]; omega⟩
    · obtain rfl : k = 16 := by omega
      go_wp2
      go_ret
      exact ⟨rfl, rfl⟩


/-- What is left of a word from place p on. -/
def from_ (S : Nat → Bool) (i p : Nat) : Nat := num 64 (fun j => decide (p ≤ j) && S (64 * i + j))
theorem from_zero (S : Nat → Bool) (i : Nat) : from_ S i 0 = wv S i := by
  rw [wv_eq]
  unfold from_
  simp
theorem from_lt (S : Nat → Bool) (i p : Nat) : from_ S i p < 18446744073709551616 := num64_lt _
theorem from_none {S : Nat → Bool} {i p : Nat} (h : from_ S i p = 0) : ∀ j, p ≤ j → j < 64 → S (64 * i + j) = false := by
  intro j h1 h2
  have := num_zero_iff.1 h j h2
  simpa [h1] using this
theorem from_some {S : Nat → Bool} {i p : Nat} (h : from_ S i p ≠ 0) : ∃ k, p ≤ k ∧ k < 64 ∧ S (64 * i + k) = true ∧ (∀ j, p ≤ j → j < k → S (64 * i + j) = false) ∧ Lib.ctz 64 (from_ S i p) = k ∧ from_ S i p &&& (from_ S i p - 1) = from_ S i (k + 1) := by
  obtain ⟨k, h1, h2, h3, h4, h5⟩ := low 64 _ h
  simp only [Bool.and_eq_true, decide_eq_true_eq] at h2
  refine ⟨k, h2.1, h1, h2.2, fun j hj1 hj2 => ?_, h4, h5.trans ?_⟩
  · have := h3 j hj2
    simpa [hj1] using this
  · unfold from_
    congr 1
    funext j
    by_cases e : k < j
    · have : p ≤ j := by omega
      have : k + 1 ≤ j := by omega
      simp [*]
    · have : ¬ k + 1 ≤ j := by omega
      simp [*]
attribute [irreducible] from_
theorem skip {S : Nat → Bool} {J : Nat → World → Prop} (hs : ∀ m W, m < 1024 → S m = false → J m W → J (m + 1) W) {W : World} {a : Nat} : ∀ n, (∀ j, a ≤ j → j < a + n → S j = false) → a + n ≤ 1024 → J a W → J (a + n) W
  | 0, _, _, h => h
  | n + 1, h1, h2, h => hs (a + n) W (by omega) (h1 (a + n) (by omega) (by omega)) (skip hs n (fun j hj hj2 => h1 j hj (by omega)) (by omega) h)

set_option maxRecDepth 100000 in
set_option maxHeartbeats 2000000 in
/-- The places come one by one, the least first, till the loop is left. -/
theorem each_in (n : Nat) (hn : 1 ≤ n) (l g off : Nat) (S : Nat → Bool) (J Jx : Nat → World → Prop)
    (hC : ∀ m W, J m W → Tab W ∧ SetAt W g off S) (hs : ∀ m W, m < 1024 → S m = false → J m W → J (m + 1) W)
    (hY : ∀ m W, m < 1024 → S m = true → J m W → YieldAt Fence.wide (n - 1) Tryd.prog l #[.int .i64 (m : Int)] W fun e W' =>
      (e = .returned (.bool true) ∧ J (m + 1) W') ∨ (e = .returned (.bool false) ∧ Jx m W'))
    (W : World) (h0 : J 0 W) :
    CallsIn Fence.wide n Tryd.prog 27 #[.pointer (some ⟨g, off, none⟩), .func (.yield l) #[] #[]] W fun e W' => (∃ v, e = .returned v) ∧
      (J 1024 W' ∨ ∃ m, m < 1024 ∧ S m = true ∧ Jx m W') := by
  refine callsIn_of_wp Tryd.func27 rfl trivial ?_ rfl
  simp only [Tryd.ntmps27, List.size_toArray, List.length_cons, List.length_nil, Nat.reduceAdd, Nat.reduceSub, Array.replicate_succ, Array.replicate_zero, List.push_toArray, List.append_toArray, List.nil_append, List.cons_append]
  gi_wp2
  gi_loopw [6] (fun i wr => ∃ k : Nat, k ≤ 16 ∧ i = .int .i64 k ∧ Hid (J (64 * k) wr)) (fun i _ => 16 - (intOf i).toNat)
  case atStart => exact ⟨0, by omega, rfl, Lib.hid (by rw [Nat.mul_zero]; exact h0)⟩
  case round =>
    obtain ⟨k, hk, rfl, hJ⟩ := hrel
    by_cases hlt : k < 16
    · obtain ⟨_, hS⟩ := hC _ _ hJ.out
      have c0 := hS k hlt
      rw [← from_zero] at c0
      obtain ⟨x, hx⟩ : ∃ x, from_ S k 0 = x := ⟨_, rfl⟩
      rw [hx] at c0
      have HX := Lib.hid hx
      have hkd : decide ((k : Int) < 16) = true := by simp; omega
      clear hx hS
      gi_wp2
      gi_loopw [5] (fun y wq => ∃ p X : Nat, p ≤ 64 ∧ y = W64 X ∧ Hid (from_ S k p = X) ∧ Hid (J (64 * k + p) wq)) (fun y _ => (intOf y).toNat)
      case atStart => exact ⟨0, x, by omega, rfl, HX, hJ⟩
      case round =>
        obtain ⟨p, X, hp, rfl, hX, hJp⟩ := hrel
        clear c0 HX hJ
        by_cases h0' : X = 0
        · subst h0'
          have hJ1 : Hid (J (64 * (k + 1)) wr) := by
            have := skip hs (64 - p) (fun j h1 h2 => by
              have := from_none hX.out (j - 64 * k) (by omega) (by omega)
              rwa [show 64 * k + (j - 64 * k) = j by omega] at this) (by omega) hJp.out
            rw [show 64 * k + p + (64 - p) = 64 * (k + 1) by omega] at this
            exact Lib.hid this
          gi_wp2
          go_roundw
          case rel => exact ⟨k + 1, by omega, by go_num, hJ1⟩
          case measure => simp [intOf]; omega
        · obtain ⟨q, q1, q2, q3, q4, q5, q6⟩ := from_some (by rw [hX.out]; exact h0')
          have hlt64 := from_lt S k p
          rw [hX.out] at q5 q6 hlt64
          obtain ⟨Y, hY0⟩ : ∃ Y, from_ S k (q + 1) = Y := ⟨_, rfl⟩
          rw [hY0] at q6
          have hJq : J (64 * k + q) wr := by
            have := skip hs (q - p) (fun j h1 h2 => by
              have := q4 (j - 64 * k) (by omega) (by omega)
              rwa [show 64 * k + (j - 64 * k) = j by omega] at this) (by omega) hJp.out
            rwa [show 64 * k + p + (q - p) = 64 * k + q by omega] at this
          obtain ⟨hT, _⟩ := hC _ _ hJq
          obtain ⟨m, hm⟩ : ∃ m, 64 * k + q = m := ⟨_, rfl⟩
          rw [hm] at q3 hJq
          have hm9 : m < 1024 := by clear hlt64 q5 q6; omega
          obtain ⟨fn, tmps, assign, body, hy, hR⟩ := hY m wr hm9 q3 hJq
          have hne : ((X : Int) != 0) = true := by simp; omega
          have hmul : IntKind.i64.wrap ((k : Int) * 64) = (k : Int) * 64 := by rw [IntKind.wrap_i64]; omega
          have hadd : IntKind.i64.wrap ((k : Int) * 64 + (q : Int)) = (m : Int) := by rw [IntKind.wrap_i64]; omega
          have hadd2 : wrap64 ((k : Int) * 64 + (q : Int)) = (m : Int) := by unfold wrap64; omega
          have hsub : IntKind.u64.wrap ((X : Int) - 1) = ((X - 1 : Nat) : Int) := by rw [IntKind.wrap_u64]; omega
          have hand : bits .and .u64 (X : Int) ((X - 1 : Nat) : Int) = (Y : Int) := by rw [bits_and_u64_nat _ _ hlt64 (by omega), q6]
          have hYX : Y < X := by
            have := Nat.and_le_right (n := X) (m := X - 1)
            omega
          obtain ⟨Z, hZ⟩ : ∃ Z, X - 1 = Z := ⟨_, rfl⟩
          rw [hZ] at hsub hand
          have HT := Lib.hid (p := X < 18446744073709551616 ∧ X ≠ 0 ∧ Lib.ctz 64 X = q ∧ Tab wr) ⟨hlt64, h0', q5, hT⟩
          have HY := Lib.hid (p := m < 1024 ∧ S m = true ∧ 64 * k + q = m ∧ q < 64 ∧ Y < X) ⟨hm9, q3, hm, q2, hYX⟩
          have HY0 := Lib.hid hY0
          clear hm9 hT hlt64 q5 q1 q2 q3 q4 q6 hX hJp hJq h0' hm hYX hZ hY0 hp
          gi_wp2_with (refine ⟨trivial, ?_⟩; gi_at_call 31; refine (callsIn_wide.2 (tz_any X q HT.out.1 HT.out.2.1 HT.out.2.2.1 _ HT.out.2.2.2)).mono ?_; rintro e w' ⟨rfl, rfl⟩)
          refine hR.mono ?_
          rintro e W3 (⟨rfl, hJ3⟩ | ⟨rfl, hJx3⟩)
          · have H3 := Lib.hid (p := J (64 * k + (q + 1)) W3) (by rw [← Nat.add_assoc, HY.out.2.2.1]; exact hJ3)
            clear hy hR hJ3
            gi_wp2
            go_roundw
            case rel => exact ⟨q + 1, Y, by have := HY.out.2.2.2.1; omega, rfl, HY0, H3⟩
            case measure => simp [intOf]; have := HY.out.2.2.2.2; omega
          · clear hy hR
            gi_wp2
            refine bodyPost_ret (results_none rfl _ _ _) rfl ?_
            exact ⟨⟨_, rfl⟩, .inr ⟨m, HY.out.1, HY.out.2.1, hJx3⟩⟩
    · obtain rfl : k = 16 := by omega
      gi_wp2
      go_end0
      exact ⟨⟨_, rfl⟩, .inl hJ.out⟩
end Go.Proofs.YtkmnmmenjpkkpaaDoor
