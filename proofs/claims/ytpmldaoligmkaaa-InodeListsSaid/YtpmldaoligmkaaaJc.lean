/- The reference's answers: whether an inode may be. Conditions: those named. -/
import Derived.Test.YtpmldaoligmkaaaIc
set_option linter.unusedVariables false
set_option maxRecDepth 20000
namespace Go.Proofs.Ytpmldaoligmkaaa
open Go.RowKit

theorem rin_any (v b : Int) (w : World) : Calls Try.prog 34 #[.int .i64 v, .int .i64 b] w fun e w' => e = .returned (.bool (inB v 0 b)) ∧ w = w' := by
  unfold inB
  by_cases h0 : 0 ≤ v
  · rw [decide_eq_true h0, Bool.true_and]
    go_enter Try.func34, Try.ntmps34
    go_wp2
    go_ret
    exact ⟨rfl, rfl⟩
  · rw [decide_eq_false h0, Bool.false_and]
    go_enter Try.func34, Try.ntmps34
    go_wp2
    go_ret
    exact ⟨rfl, rfl⟩
/-- A slot that is none. -/
theorem rmay_bad (v : Nat → Int) (hs : slotB (fun j => v (10 + j)) 16 = false) (w : World) : Calls Try.prog 25 #[.agg (ncs v).toArray] w fun e w' => e = .returned (.bool false) ∧ Below w.heap.size w w' := by
  have HS := Lib.hid hs
  clear hs
  go_enter Try.func25, Try.ntmps25
  go_wp2_with (refine step_box rfl 1 rfl 26 (.tmp 0) rfl (ncs v) rfl ?_; intro g2 w2 hr2 hg2 hb2 hs2
               have R2 := Lib.hid hr2
               have HB2 := Lib.hid hb2
               clear hr2 hb2 hg2 hs2)
  go_loop [3] (fun y => ∃ k : Nat, k ≤ 16 ∧ y = .int .i64 (k : Int) ∧ Hid (slotB (fun j => v (10 + j)) k = true)) (fun y => 16 - (intOf y).toNat)
  case atStart => exact ⟨0, by omega, rfl, Lib.hid rfl⟩
  case round =>
    obtain ⟨k, hk, rfl, HK⟩ := hrel
    have hkw : IntKind.i64.wrap ((k : Int) + 1) = (k : Int) + 1 := by rw [IntKind.wrap_i64]; omega
    have hk16 : k < 16 := by
      refine Nat.lt_of_le_of_ne hk fun e => ?_
      have h1 := HK.out
      rw [e, HS.out] at h1
      cases h1
    have hki : (k : Int) < 16 := by omega
    have hk0 : (0 : Int) ≤ (k : Int) := by omega
    obtain ⟨z, hz⟩ : ∃ z, v (10 + k) = z := ⟨_, rfl⟩
    have ck : w2.cell? ⟨g2, 10 + k, none⟩ = some (.int .i64 z) := by rw [R2.out.cell, ncs_slot v (by omega), hz]
    have HKL := Lib.hid hk16
    cases hb : inB z 0 255
    · have HB := Lib.hid hb
      clear hk hk16 hz hb
      go_wp2_with (go_at_call 34; refine (rin_any _ _ _).mono ?_; rintro e w' ⟨rfl, rfl⟩; rw [HB.out])
      go_ret
      exact ⟨rfl, HB2.out⟩
    · have HS2 := Lib.hid (p := slotB (fun j => v (10 + j)) (k + 1) = true) (by rw [slotB_succ, HK.out]; show (true && inB (v (10 + k)) 0 255) = true; rw [hz, hb]; rfl)
      have HB := Lib.hid hb
      clear hk hk16 hz hb
      go_wp2_with (go_at_call 34; refine (rin_any _ _ _).mono ?_; rintro e w' ⟨rfl, rfl⟩; rw [HB.out])
      go_round
      case rel => exact ⟨k + 1, HKL.out, by go_num, HS2⟩
      case measure => have := HKL.out; simp [intOf]; omega
theorem eightt (b0 b1 b2 b3 b4 b5 b6 b7 : Bool) : (b0 = false) ∨ (b0 = true ∧ b1 = false) ∨ (b0 = true ∧ b1 = true ∧ b2 = false) ∨ (b0 = true ∧ b1 = true ∧ b2 = true ∧ b3 = false) ∨ (b0 = true ∧ b1 = true ∧ b2 = true ∧ b3 = true ∧ b4 = false) ∨ (b0 = true ∧ b1 = true ∧ b2 = true ∧ b3 = true ∧ b4 = true ∧ b5 = false) ∨ (b0 = true ∧ b1 = true ∧ b2 = true ∧ b3 = true ∧ b4 = true ∧ b5 = true ∧ b6 = false) ∨ (b0 = true ∧ b1 = true ∧ b2 = true ∧ b3 = true ∧ b4 = true ∧ b5 = true ∧ b6 = true ∧ b7 = false) ∨ (b0 = true ∧ b1 = true ∧ b2 = true ∧ b3 = true ∧ b4 = true ∧ b5 = true ∧ b6 = true ∧ b7 = true) := by
  cases b0
  case false => exact .inl rfl
  cases b1
  case false => exact .inr (.inl ⟨rfl, rfl⟩)
  cases b2
  case false => exact .inr (.inr (.inl ⟨rfl, rfl, rfl⟩))
  cases b3
  case false => exact .inr (.inr (.inr (.inl ⟨rfl, rfl, rfl, rfl⟩)))
  cases b4
  case false => exact .inr (.inr (.inr (.inr (.inl ⟨rfl, rfl, rfl, rfl, rfl⟩))))
  cases b5
  case false => exact .inr (.inr (.inr (.inr (.inr (.inl ⟨rfl, rfl, rfl, rfl, rfl, rfl⟩)))))
  cases b6
  case false => exact .inr (.inr (.inr (.inr (.inr (.inr (.inl ⟨rfl, rfl, rfl, rfl, rfl, rfl, rfl⟩))))))
  cases b7
  case false => exact .inr (.inr (.inr (.inr (.inr (.inr (.inr (.inl ⟨rfl, rfl, rfl, rfl, rfl, rfl, rfl, rfl⟩)))))))
  exact .inr (.inr (.inr (.inr (.inr (.inr (.inr (.inr (⟨rfl, rfl, rfl, rfl, rfl, rfl, rfl, rfl⟩))))))))
set_option maxHeartbeats 2000000 in
theorem rmay_good (v : Nat → Int) (hw : Wf v) (hs : slotB (fun j => v (10 + j)) 16 = true) (w : World) : Calls Try.prog 25 #[.agg (ncs v).toArray] w fun e w' => e = .returned (.bool (mayB v)) ∧ Below w.heap.size w w' := by
  have hmay : mayB v = (decide (1 ≤ v 0) && (decide (v 0 ≤ 3) && (inB (v 1) 0 511 && (inB (v 4) 0 32768 && (inB (v 5) 0 32768 && (decide (0 < v 6) && (inB (v 8) 0 64 && inB (v 26) 0 255))))))) := by
    have h6 : (!(v 6 == 0)) = decide (0 < v 6) := by
      have := hw.s
      rw [Bool.eq_iff_iff]
      simp
      omega
    unfold mayB
    rw [hs, h6]
    show ((decide (1 ≤ v 0) && decide (v 0 ≤ 3)) && _) = _
    rw [Bool.and_assoc]
    rfl
  rw [hmay]
  have HSA := Lib.hid (p := ∀ k, k < 16 → inB (v (10 + k)) 0 255 = true) (fun k hk => (inB_iff _ _ _).2 ((slotB_iff _ _).1 hs k hk))
  have HV := Lib.hid (p := ∀ (w : World) (g : Nat), Row w g 26 (ncs v) → w.cell? ⟨g, 26, none⟩ = some (.int .i64 (v 26))) (fun w g h => by rw [h.cell]; rfl)
  clear hmay hs hw
  generalize hb7 : inB (v 26) 0 255 = b7 at *
  generalize hb6 : inB (v 8) 0 64 = b6
  generalize hb5 : decide (0 < v 6) = b5
  generalize hb4 : inB (v 5) 0 32768 = b4
  generalize hb3 : inB (v 4) 0 32768 = b3
  generalize hb2 : inB (v 1) 0 511 = b2
  generalize hb1 : decide (v 0 ≤ 3) = b1
  generalize hb0 : decide (1 ≤ v 0) = b0
  have W2 := Lib.hid hb2
  have W3 := Lib.hid hb3
  have W4 := Lib.hid hb4
  have W6 := Lib.hid hb6
  have W7 := Lib.hid hb7
  obtain ⟨z0, hz0⟩ : ∃ z, v 0 = z := ⟨_, rfl⟩
  obtain ⟨z6, hz6⟩ : ∃ z, v 6 = z := ⟨_, rfl⟩
  rw [hz0] at hb0 hb1
  rw [hz6] at hb5
  have HZ0 := Lib.hid hz0
  have HZ6 := Lib.hid hz6
  clear hb2 hb3 hb4 hb6 hb7 hz0 hz6
  rcases eightt b0 b1 b2 b3 b4 b5 b6 b7 with ⟨rfl⟩ | ⟨rfl, rfl⟩ | ⟨rfl, rfl, rfl⟩ | ⟨rfl, rfl, rfl, rfl⟩ | ⟨rfl, rfl, rfl, rfl, rfl⟩ | ⟨rfl, rfl, rfl, rfl, rfl, rfl⟩ | ⟨rfl, rfl, rfl, rfl, rfl, rfl, rfl⟩ | ⟨rfl, rfl, rfl, rfl, rfl, rfl, rfl, rfl⟩ | ⟨rfl, rfl, rfl, rfl, rfl, rfl, rfl, rfl⟩
  all_goals
    try simp only [decide_eq_true_eq, decide_eq_false_iff_not] at hb0
    try simp only [decide_eq_true_eq, decide_eq_false_iff_not] at hb1
    try simp only [decide_eq_true_eq, decide_eq_false_iff_not] at hb5
    go_enter Try.func25, Try.ntmps25
    go_wp2_with (refine step_box rfl 1 rfl 26 (.tmp 0) rfl (ncs v) rfl ?_; intro g2 w2 hr2 hg2 hb2 hs2
                 have R2 := Lib.hid hr2
                 have HB2 := Lib.hid hb2
                 clear hr2 hb2 hg2 hs2)
    go_loop [3] (fun y => ∃ k : Nat, k ≤ 16 ∧ y = .int .i64 (k : Int) ∧ Hid (slotB (fun j => v (10 + j)) k = true)) (fun y => 16 - (intOf y).toNat)
    case atStart => exact ⟨0, by omega, rfl, Lib.hid rfl⟩
    case round =>
      obtain ⟨k, hk, rfl, HK⟩ := hrel
      have hkw : IntKind.i64.wrap ((k : Int) + 1) = (k : Int) + 1 := by rw [IntKind.wrap_i64]; omega
      by_cases hk16 : k < 16
      · have hki : (k : Int) < 16 := by omega
        have hk0 : (0 : Int) ≤ (k : Int) := by omega
        obtain ⟨z, hz⟩ : ∃ z, v (10 + k) = z := ⟨_, rfl⟩
        have ck : w2.cell? ⟨g2, 10 + k, none⟩ = some (.int .i64 z) := by rw [R2.out.cell, ncs_slot v (by omega), hz]
        have hb := HSA.out k hk16
        rw [hz] at hb
        have HKL := Lib.hid hk16
        have HS2 := Lib.hid (p := slotB (fun j => v (10 + j)) (k + 1) = true) (by rw [slotB_succ, HK.out]; show (true && inB (v (10 + k)) 0 255) = true; rw [hz, hb]; rfl)
        have HB := Lib.hid hb
        clear hk hk16 hz hb
        go_wp2_with (go_at_call 34; refine (rin_any _ _ _).mono ?_; rintro e w' ⟨rfl, rfl⟩; rw [HB.out])
        go_round
        case rel => exact ⟨k + 1, HKL.out, by go_num, HS2⟩
        case measure => have := HKL.out; simp [intOf]; omega
      · obtain rfl : k = 16 := by omega
        have hki : ¬ ((16 : Nat) : Int) < 16 := by omega
        have c0 : w2.cell? ⟨g2, 0, none⟩ = some (.int .i64 z0) := by rw [R2.out.cell, ← HZ0.out]; rfl
        have c1 : w2.cell? ⟨g2, 1, none⟩ = some (.int .i64 (v 1)) := by rw [R2.out.cell]; rfl
        have c4 : w2.cell? ⟨g2, 4, none⟩ = some (.int .i64 (v 4)) := by rw [R2.out.cell]; rfl
        have c5 : w2.cell? ⟨g2, 5, none⟩ = some (.int .i64 (v 5)) := by rw [R2.out.cell]; rfl
        have c6 : w2.cell? ⟨g2, 6, none⟩ = some (.int .u64 z6) := by rw [R2.out.cell, ← HZ6.out]; rfl
        have c8 : w2.cell? ⟨g2, 8, none⟩ = some (.int .i64 (v 8)) := by rw [R2.out.cell]; rfl
        have c26 := HV.out w2 g2 R2.out
        generalize v 1 = z1 at *
        generalize v 4 = z4 at *
        generalize v 5 = z5 at *
        generalize v 8 = z8 at *
        clear hk hk16
        go_wp2_with (go_at_call 34; refine (rin_any _ _ _).mono ?_; rintro e w' ⟨rfl, rfl⟩; first | rw [W2.out] | rw [W3.out] | rw [W4.out] | rw [W6.out] | rw [W7.out])
        go_ret
        exact ⟨rfl, HB2.out⟩
theorem rmay_any (v : Nat → Int) (hw : Wf v) (w : World) : Calls Try.prog 25 #[.agg (ncs v).toArray] w fun e w' => e = .returned (.bool (mayB v)) ∧ Below w.heap.size w w' := by
  cases hs : slotB (fun j => v (10 + j)) 16
  · have h : mayB v = false := by
      cases h : mayB v
      · rfl
      · rw [(slotB_iff _ _).2 ((mayB_iff v).1 h).2.2.2.2.2.2.1] at hs
        cases hs
    rw [h]
    exact rmay_bad v hs w
  · exact rmay_good v hw hs w
end Go.Proofs.Ytpmldaoligmkaaa
