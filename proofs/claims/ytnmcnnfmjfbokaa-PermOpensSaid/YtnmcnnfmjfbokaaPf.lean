/- The walk of PermOpens. No conditions. -/
import Derived.Test.YtnmcnnfmjfbokaaPc
import Derived.Test.YtnmcnnfmjfbokaaPd
set_option linter.unusedVariables false
set_option maxRecDepth 20000
namespace Go.Proofs.Ytnmcnnfmjfbokaa
open Go.RowKit
set_option maxHeartbeats 2000000 in
theorem opensW (v : Nat → Int) (u g : Int) (w : World) : Calls Try.prog 5 #[.agg (ncs v).toArray, .agg #[.int .u32 u, .int .u32 g]] w fun e w' => e = .returned (.bool true) ∧ Below w.heap.size w w' := by
  have i1 := Lib.hid (fun v => info_ncs v)
  have H0 := Lib.hid (fun w => pwants_any 0 (by decide) (by decide) w)
  have H1 := Lib.hid (fun w => pwants_any 1 (by decide) (by decide) w)
  have H2 := Lib.hid (fun w => pwants_any 2 (by decide) (by decide) w)
  have H5 := Lib.hid (fun w => pwants_any 512 (by decide) (by decide) w)
  rw [show wA 0 = 4 by decide, show wE 0 = 0 by decide] at H0
  rw [show wA 1 = 2 by decide, show wE 1 = 0 by decide] at H1
  rw [show wA 2 = 6 by decide, show wE 2 = 0 by decide] at H2
  rw [show wA 512 = 6 by decide, show wE 512 = 0 by decide] at H5
  have M4 := Lib.hid (fun w => may_any v u g 4 w)
  have M2 := Lib.hid (fun w => may_any v u g 2 w)
  have M6 := Lib.hid (fun w => may_any v u g 6 w)
  obtain ⟨b, hb⟩ : ∃ b, pB v u g = b := ⟨_, rfl⟩
  have hl : b < 8 := by rw [← hb]; exact pB_lt v u g
  rw [hb, show ((4 : Int) % 8).toNat = 4 by decide] at M4
  rw [hb, show ((2 : Int) % 8).toNat = 2 by decide] at M2
  rw [hb, show ((6 : Int) % 8).toNat = 6 by decide] at M6
  have hm := may_both ⟨b, hl⟩
  dsimp only at hm
  obtain ⟨x, hx⟩ : ∃ x, mayB 4 b = x := ⟨_, rfl⟩
  obtain ⟨y, hy⟩ : ∃ y, mayB 2 b = y := ⟨_, rfl⟩
  rw [hm, hx, hy] at M6
  rw [hx] at M4
  rw [hy] at M2
  clear hm hx hy hl hb
  cases x <;> cases y
  all_goals
    simp only [Bool.and_true, Bool.and_false, Bool.true_and, Bool.false_and] at M6
    have M7 := M6
    go_enter Try.func5, Try.ntmps5
    go_wp2_with (first
      | (refine step_box rfl 2 rfl 26 (.tmp 0) rfl (ncs v) rfl ?_; intro g2 w1 hr1 hg1 hb1 hs1
         have R1 := Lib.hid hr1
         have B1 := Lib.hid hb1
         clear hr1 hg1 hb1 hs1)
      | (refine step_box rfl 3 rfl 27 (.tmp 1) rfl [.int .u32 u, .int .u32 g] rfl ?_; intro g3 w2 hr2 hg2 hb2 hs2
         have S2 := Lib.hid hr2
         have R2 := Lib.hid (R1.out.kept hb2)
         have B2 := Lib.hid (below_nxt hb2 B1.out)
         clear hr2 hg2 hb2 hs2)
      | (go_at_call 6; refine (awake_any _).mono ?_; rintro e w3 ⟨rfl, hb3⟩
         have S3 := Lib.hid (S2.out.kept hb3)
         have R3 := Lib.hid (R2.out.kept hb3)
         have B3 := Lib.hid (below_nxt hb3 B2.out)
         have c0 : w3.cell? ⟨g3, 0, none⟩ = some (.int .u32 u) := by rw [S3.out.cell]; rfl
         have c1 : w3.cell? ⟨g3, 1, none⟩ = some (.int .u32 g) := by rw [S3.out.cell]; rfl
         clear hb3)
      | (go_at_call 8; refine (H0.out _).mono ?_; rintro e w' ⟨rfl, rfl⟩; clear H0)
      | (go_at_call 8; refine (H1.out _).mono ?_; rintro e w' ⟨rfl, rfl⟩; clear H1)
      | (go_at_call 8; refine (H2.out _).mono ?_; rintro e w' ⟨rfl, rfl⟩; clear H2)
      | (go_at_call 8; refine (H5.out _).mono ?_; rintro e w' ⟨rfl, rfl⟩; clear H5)
      | (refine step_load rfl 47 rfl 26 (.tmp 2) rfl g2 rfl (ncs v) _ R3.out.all Try.underlying26 rfl (i1.out _) ?_)
      | (refine step_load rfl 54 rfl 26 (.tmp 2) rfl g2 rfl (ncs v) _ R4.out.all Try.underlying26 rfl (i1.out _) ?_)
      | (refine step_load rfl 61 rfl 26 (.tmp 2) rfl g2 rfl (ncs v) _ R5.out.all Try.underlying26 rfl (i1.out _) ?_)
      | (refine step_load_g (by rfl) 74 rfl 26 (.tmp 2) rfl g2 rfl (ncs v) _ R6.out.all Try.underlying26 rfl (i1.out _) ?_)
      | (go_at_call 7; refine (M4.out _).mono ?_; rintro e w4 ⟨rfl, hb4⟩
         have S4 := Lib.hid (S3.out.kept hb4)
         have R4 := Lib.hid (R3.out.kept hb4)
         have B4 := Lib.hid (below_nxt hb4 B3.out)
         have c0 : w4.cell? ⟨g3, 0, none⟩ = some (.int .u32 u) := by rw [S4.out.cell]; rfl
         have c1 : w4.cell? ⟨g3, 1, none⟩ = some (.int .u32 g) := by rw [S4.out.cell]; rfl
         clear hb4 M4)
      | (go_at_call 7; refine (M2.out _).mono ?_; rintro e w5 ⟨rfl, hb5⟩
         have S5 := Lib.hid (S4.out.kept hb5)
         have R5 := Lib.hid (R4.out.kept hb5)
         have B5 := Lib.hid (below_nxt hb5 B4.out)
         have c0 : w5.cell? ⟨g3, 0, none⟩ = some (.int .u32 u) := by rw [S5.out.cell]; rfl
         have c1 : w5.cell? ⟨g3, 1, none⟩ = some (.int .u32 g) := by rw [S5.out.cell]; rfl
         clear hb5 M2)
      | (go_at_call 7; refine (M7.out _).mono ?_; rintro e w6 ⟨rfl, hb6⟩
         have S6 := Lib.hid (S5.out.kept hb6)
         have R6 := Lib.hid (R5.out.kept hb6)
         have B6 := Lib.hid (below_nxt hb6 B5.out)
         have c0 : w6.cell? ⟨g3, 0, none⟩ = some (.int .u32 u) := by rw [S6.out.cell]; rfl
         have c1 : w6.cell? ⟨g3, 1, none⟩ = some (.int .u32 g) := by rw [S6.out.cell]; rfl
         clear hb6 M7)
      | (go_at_call 7; refine (M6.out _).mono ?_; rintro e w7 ⟨rfl, hb7⟩
         have B7 := Lib.hid (below_nxt hb7 B6.out)
         clear hb7))
    go_ret
    exact ⟨rfl, B7.out⟩
end Go.Proofs.Ytnmcnnfmjfbokaa
