/- Package inode: whether an inode may be; an inode's block, and a list's. Conditions: those named. -/
import Derived.Test.YtpmldaoligmkaaaIb
set_option linter.unusedVariables false
set_option maxRecDepth 20000
namespace Go.Proofs.Ytpmldaoligmkaaa
open Go.RowKit

theorem eight (b0 b1 b2 b3 b4 b5 b6 b7 : Bool) : (b0 = false) ∨ (b0 = true ∧ b1 = false) ∨ (b0 = true ∧ b1 = true ∧ b2 = false) ∨ (b0 = true ∧ b1 = true ∧ b2 = true ∧ b3 = false) ∨ (b0 = true ∧ b1 = true ∧ b2 = true ∧ b3 = true ∧ b4 = true) ∨ (b0 = true ∧ b1 = true ∧ b2 = true ∧ b3 = true ∧ b4 = false ∧ b5 = false) ∨ (b0 = true ∧ b1 = true ∧ b2 = true ∧ b3 = true ∧ b4 = false ∧ b5 = true ∧ b6 = false) ∨ (b0 = true ∧ b1 = true ∧ b2 = true ∧ b3 = true ∧ b4 = false ∧ b5 = true ∧ b6 = true ∧ b7 = false) ∨ (b0 = true ∧ b1 = true ∧ b2 = true ∧ b3 = true ∧ b4 = false ∧ b5 = true ∧ b6 = true ∧ b7 = true) := by
  cases b0
  case false => exact .inl rfl
  cases b1
  case false => exact .inr (.inl ⟨rfl, rfl⟩)
  cases b2
  case false => exact .inr (.inr (.inl ⟨rfl, rfl, rfl⟩))
  cases b3
  case false => exact .inr (.inr (.inr (.inl ⟨rfl, rfl, rfl, rfl⟩)))
  cases b4
  case true => exact .inr (.inr (.inr (.inr (.inl ⟨rfl, rfl, rfl, rfl, rfl⟩))))
  cases b5
  case false => exact .inr (.inr (.inr (.inr (.inr (.inl ⟨rfl, rfl, rfl, rfl, rfl, rfl⟩)))))
  cases b6
  case false => exact .inr (.inr (.inr (.inr (.inr (.inr (.inl ⟨rfl, rfl, rfl, rfl, rfl, rfl, rfl⟩))))))
  cases b7
  case false => exact .inr (.inr (.inr (.inr (.inr (.inr (.inr (.inl ⟨rfl, rfl, rfl, rfl, rfl, rfl, rfl, rfl⟩)))))))
  exact .inr (.inr (.inr (.inr (.inr (.inr (.inr (.inr (⟨rfl, rfl, rfl, rfl, rfl, rfl, rfl, rfl⟩))))))))
set_option maxHeartbeats 2000000 in
theorem maybe_any (v : Nat → Int) (w : World) : Calls Try.prog 21 #[.agg (ncs v).toArray] w fun e w' => e = .returned (.bool (mayB v)) ∧ Below w.heap.size w w' := by
  unfold mayB
  have HSL := Lib.hid (fun (w : World) (g : Nat) (h : Row w g 26 (ncs v)) => areslots_any _ 16 16 _ (by omega) w (hol_ino h))
  have HS1 := Lib.hid (fun (w : World) (g : Nat) (h : w.cell? ⟨g, 0, none⟩ = some (.int .i64 (v 26))) => areslots_any _ 1 1 _ (by omega) w (hol_single h))
  have h26 : slotB (fun _ => v 26) 1 = inB (v 26) 0 255 := by
    rw [slotB_succ]
    exact Bool.true_and _
  rw [h26] at HS1
  have HV := Lib.hid (p := ∀ (w : World) (g : Nat), Row w g 26 (ncs v) → w.cell? ⟨g, 26, none⟩ = some (.int .i64 (v 26))) (fun w g h => by rw [h.cell]; rfl)
  clear h26
  generalize hb7 : inB (v 26) 0 255 = b7 at *
  generalize hb6 : slotB (fun j => v (10 + j)) 16 = b6 at *
  generalize hb5 : inB (v 8) 0 64 = b5
  generalize hb4 : (v 6 == 0) = b4
  have h6 : (v 6 != 0) = !b4 := by rw [← hb4]; rfl
  clear hb4
  generalize hb3 : inB (v 5) 0 32768 = b3
  generalize hb2 : inB (v 4) 0 32768 = b2
  generalize hb1 : inB (v 1) 0 511 = b1
  generalize hb0 : inB (v 0) 1 3 = b0
  have W0 := Lib.hid hb0
  have W1 := Lib.hid hb1
  have W2 := Lib.hid hb2
  have W3 := Lib.hid hb3
  have W5 := Lib.hid hb5
  clear hb0 hb1 hb2 hb3 hb5 hb6 hb7
  rcases eight b0 b1 b2 b3 b4 b5 b6 b7 with ⟨rfl⟩ | ⟨rfl, rfl⟩ | ⟨rfl, rfl, rfl⟩ | ⟨rfl, rfl, rfl, rfl⟩ | ⟨rfl, rfl, rfl, rfl, rfl⟩ | ⟨rfl, rfl, rfl, rfl, rfl, rfl⟩ | ⟨rfl, rfl, rfl, rfl, rfl, rfl, rfl⟩ | ⟨rfl, rfl, rfl, rfl, rfl, rfl, rfl, rfl⟩ | ⟨rfl, rfl, rfl, rfl, rfl, rfl, rfl, rfl⟩
  all_goals
    try simp only [Bool.not_false, Bool.not_true] at h6
    go_enter Try.func21, Try.ntmps21
    go_wp2_with (first
      | (refine step_box rfl 1 rfl 26 (.tmp 0) rfl (ncs v) rfl ?_; intro g2 w2 hr2 hg2 hb2 hs2
         have R2 := Lib.hid hr2
         have HB2 := Lib.hid hb2
         have c0 : w2.cell? ⟨g2, 0, none⟩ = some (.int .i64 (v 0)) := by rw [R2.out.cell]; rfl
         have c1 : w2.cell? ⟨g2, 1, none⟩ = some (.int .i64 (v 1)) := by rw [R2.out.cell]; rfl
         have c4 : w2.cell? ⟨g2, 4, none⟩ = some (.int .i64 (v 4)) := by rw [R2.out.cell]; rfl
         have c5 : w2.cell? ⟨g2, 5, none⟩ = some (.int .i64 (v 5)) := by rw [R2.out.cell]; rfl
         have c6 : w2.cell? ⟨g2, 6, none⟩ = some (.int .u64 (v 6)) := by rw [R2.out.cell]; rfl
         have c8 : w2.cell? ⟨g2, 8, none⟩ = some (.int .i64 (v 8)) := by rw [R2.out.cell]; rfl
         have c26 := HV.out w2 g2 R2.out
         generalize v 0 = z0 at *
         generalize v 1 = z1 at *
         generalize v 4 = z4 at *
         generalize v 5 = z5 at *
         generalize v 6 = z6 at *
         generalize v 8 = z8 at *
         clear hr2 hb2 hg2 hs2)
      | (go_at_call 36; refine (within_any _ _ _ _).mono ?_; rintro e w' ⟨rfl, rfl⟩; first | rw [W0.out] | rw [W1.out] | rw [W2.out] | rw [W3.out] | rw [W5.out])
      | (go_at_call_of 33 (Value.slice (some ⟨g2, 10, none⟩) 16 16); refine (HSL.out _ _ R2.out).mono ?_; rintro e w' ⟨rfl, rfl⟩)
      | (go_at_call 33; refine (HS1.out _ _ (by simp)).mono ?_; rintro e w' ⟨rfl, rfl⟩))
    go_ret
    first
      | exact ⟨rfl, HB2.out⟩
      | exact ⟨rfl, HB2.out.alloc HB2.out.size _⟩
end Go.Proofs.Ytpmldaoligmkaaa
