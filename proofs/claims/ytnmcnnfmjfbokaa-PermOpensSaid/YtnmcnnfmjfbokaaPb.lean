/- Package perm: Bits, May, Wants; the reference's Wants. No conditions. -/
import Derived.Test.YtnmcnnfmjfbokaaPa
set_option linter.unusedVariables false
set_option maxRecDepth 20000
namespace Go.Proofs.Ytnmcnnfmjfbokaa
open Go.RowKit

set_option maxHeartbeats 2000000 in
theorem bits_any (v : Nat → Int) (u g : Int) (w : World) : Calls Try.prog 10 #[.agg (ncs v).toArray, .int .u32 u, .int .u32 g] w fun e w' => e = .returned (.int .i64 (pB v u g : Nat)) ∧ Below w.heap.size w w' := by
  have h7 := Lib.hid i64_and7
  by_cases h0 : u = 0
  · have hp : pB v u g = 7 := by unfold pB; rw [if_pos h0]
    rw [hp]
    subst h0
    clear hp
    go_enter Try.func10, Try.ntmps10
    go_wp2_with (refine step_box rfl 3 rfl 26 (.tmp 0) rfl (ncs v) rfl ?_; intro g2 w2 hr2 hg2 hb2 hs2
                 have R2 := Lib.hid hr2
                 have HB2 := Lib.hid hb2
                 clear hr2 hb2 hg2 hs2)
    go_ret
    exact ⟨rfl, HB2.out⟩
  · have b0 : (u == 0) = false := beq_false_of_ne h0
    obtain ⟨m0, hm0⟩ : ∃ z, v 1 = z := ⟨_, rfl⟩
    obtain ⟨m1, hm1⟩ : ∃ z, m0 / 8 = z := ⟨_, rfl⟩
    obtain ⟨m2, hm2⟩ : ∃ z, m1 / 8 = z := ⟨_, rfl⟩
    obtain ⟨n2, hn2⟩ : ∃ z, v 2 = z := ⟨_, rfl⟩
    obtain ⟨n3, hn3⟩ : ∃ z, v 3 = z := ⟨_, rfl⟩
    by_cases h2 : u = n2
    · obtain ⟨b, hb⟩ : ∃ b : Nat, m2 % 8 = (b : Int) := ⟨(m2 % 8).toNat, by omega⟩
      have hp : pB v u g = b := by
        unfold pB
        rw [if_neg h0, if_pos (by rw [hn2]; exact h2), hm0, hm1, hm2, hb]
        rfl
      rw [hp]
      have HC := Lib.hid (p := ∀ (w : World) (k : Nat), Row w k 26 (ncs v) → w.cell? ⟨k, 1, none⟩ = some (.int .i64 m0) ∧ w.cell? ⟨k, 2, none⟩ = some (.int .u32 u)) (fun w k h => ⟨by rw [h.cell, ← hm0]; rfl, by rw [h.cell, h2, ← hn2]; rfl⟩)
      have E := Lib.hid ((h7.out m2).trans hb)
      have M1 := Lib.hid hm1
      have M2 := Lib.hid hm2
      clear hp hm0 hm1 hm2 hn2 hn3 h2 hb h0 h7
      go_enter Try.func10, Try.ntmps10
      go_wp2_with (first
        | (refine step_box rfl 3 rfl 26 (.tmp 0) rfl (ncs v) rfl ?_; intro g2 w2 hr2 hg2 hb2 hs2
           have HB2 := Lib.hid hb2
           obtain ⟨c1, c2⟩ := HC.out _ _ hr2
           have e1 := E.out
           clear hr2 hb2 hg2 hs2 HC E)
        | (refine wp_shr3 rfl _ _ _ _ rfl m0 m1 rfl _ rfl M1.out ?_; clear M1)
        | (refine wp_shr3 rfl _ _ _ _ rfl m1 m2 rfl _ rfl M2.out ?_; clear M2))
      go_ret
      exact ⟨rfl, HB2.out⟩
    · have b2 : (u == n2) = false := beq_false_of_ne h2
      by_cases h3 : g = n3
      · obtain ⟨b, hb⟩ : ∃ b : Nat, m1 % 8 = (b : Int) := ⟨(m1 % 8).toNat, by omega⟩
        have hp : pB v u g = b := by
          unfold pB
          rw [if_neg h0, if_neg (by rw [hn2]; exact h2), if_pos (by rw [hn3]; exact h3), hm0, hm1, hb]
          rfl
        rw [hp]
        have HC := Lib.hid (p := ∀ (w : World) (k : Nat), Row w k 26 (ncs v) → w.cell? ⟨k, 1, none⟩ = some (.int .i64 m0) ∧ w.cell? ⟨k, 2, none⟩ = some (.int .u32 n2) ∧ w.cell? ⟨k, 3, none⟩ = some (.int .u32 g)) (fun w k h => ⟨by rw [h.cell, ← hm0]; rfl, by rw [h.cell, ← hn2]; rfl, by rw [h.cell, h3, ← hn3]; rfl⟩)
        have E := Lib.hid ((h7.out m1).trans hb)
        have M1 := Lib.hid hm1
        clear hp hm0 hm1 hm2 hn2 hn3 h2 h3 hb h0 h7
        go_enter Try.func10, Try.ntmps10
        go_wp2_with (first
          | (refine step_box rfl 3 rfl 26 (.tmp 0) rfl (ncs v) rfl ?_; intro g2 w2 hr2 hg2 hb2 hs2
             have HB2 := Lib.hid hb2
             obtain ⟨c1, c2, c3⟩ := HC.out _ _ hr2
             have e1 := E.out
             clear hr2 hb2 hg2 hs2 HC E)
          | (refine wp_shr3 rfl _ _ _ _ rfl m0 m1 rfl _ rfl M1.out ?_; clear M1))
        go_ret
        exact ⟨rfl, HB2.out⟩
      · have b3 : (g == n3) = false := beq_false_of_ne h3
        obtain ⟨b, hb⟩ : ∃ b : Nat, m0 % 8 = (b : Int) := ⟨(m0 % 8).toNat, by omega⟩
        have hp : pB v u g = b := by
          unfold pB
          rw [if_neg h0, if_neg (by rw [hn2]; exact h2), if_neg (by rw [hn3]; exact h3), hm0, hb]
          rfl
        rw [hp]
        have HC := Lib.hid (p := ∀ (w : World) (k : Nat), Row w k 26 (ncs v) → w.cell? ⟨k, 1, none⟩ = some (.int .i64 m0) ∧ w.cell? ⟨k, 2, none⟩ = some (.int .u32 n2) ∧ w.cell? ⟨k, 3, none⟩ = some (.int .u32 n3)) (fun w k h => ⟨by rw [h.cell, ← hm0]; rfl, by rw [h.cell, ← hn2]; rfl, by rw [h.cell, ← hn3]; rfl⟩)
        have E := Lib.hid ((h7.out m0).trans hb)
        clear hp hm0 hm1 hm2 hn2 hn3 h2 h3 hb h0 h7
        go_enter Try.func10, Try.ntmps10
        go_wp2_with (first
          | (refine step_box rfl 3 rfl 26 (.tmp 0) rfl (ncs v) rfl ?_; intro g2 w2 hr2 hg2 hb2 hs2
             have HB2 := Lib.hid hb2
             obtain ⟨c1, c2, c3⟩ := HC.out _ _ hr2
             have e1 := E.out
             clear hr2 hb2 hg2 hs2 HC E))
        go_ret
        exact ⟨rfl, HB2.out⟩
set_option maxHeartbeats 2000000 in
theorem may_any (v : Nat → Int) (u g z : Int) (w : World) : Calls Try.prog 7 #[.agg (ncs v).toArray, .int .u32 u, .int .u32 g, .int .i64 z] w fun e w' => e = .returned (.bool (mayB (z % 8).toNat (pB v u g))) ∧ Below w.heap.size w w' := by
  have HB := Lib.hid (fun w => bits_any v u g w)
  obtain ⟨b, hb⟩ : ∃ b, pB v u g = b := ⟨_, rfl⟩
  have hl : b < 8 := by rw [← hb]; exact pB_lt v u g
  obtain ⟨q, hq⟩ : ∃ q : Nat, z % 8 = (q : Int) := ⟨(z % 8).toNat, by omega⟩
  have hq8 : q < 8 := by omega
  rw [hb] at HB ⊢
  rw [hq, Int.toNat_natCast]
  have e1 : bits .and .i64 z 7 = (q : Int) := (i64_and7 z).trans hq
  have e2 := not_nat hq8 hl
  obtain ⟨t, ht⟩ : ∃ t, mayB q b = t := ⟨_, rfl⟩
  have e3 : (((lack q b : Nat) : Int) == 0) = t := by
    rw [← ht]
    unfold mayB
    rw [Bool.eq_iff_iff]
    simp only [beq_iff_eq]
    omega
  rw [ht]
  generalize lack q b = r at e2 e3
  have E1 := Lib.hid e1
  have E2 := Lib.hid e2
  have E3 := Lib.hid e3
  clear e1 e2 e3 ht hq hq8 hl hb
  go_enter Try.func7, Try.ntmps7
  go_wp2_with (first
    | (refine step_box rfl 4 rfl 26 (.tmp 0) rfl (ncs v) rfl ?_; intro g2 w2 hr2 hg2 hb2 hs2
       have R2 := Lib.hid hr2
       have HB2 := Lib.hid hb2
       have e1 := E1.out
       have e2 := E2.out
       have e3 := E3.out
       clear hr2 hb2 hg2 hs2)
    | (refine step_load rfl 11 rfl 26 (.tmp 4) rfl g2 rfl (ncs v) _ R2.out.all Try.underlying26 rfl (info_ncs v) ?_)
    | (go_at_call 10; refine (HB.out _).mono ?_; rintro e w3 ⟨rfl, hb3⟩
       have HB3 := Lib.hid (HB2.out.trans (hb3.mono HB2.out.size))
       clear hb3))
  go_ret
  exact ⟨rfl, HB3.out⟩
end Go.Proofs.Ytnmcnnfmjfbokaa
