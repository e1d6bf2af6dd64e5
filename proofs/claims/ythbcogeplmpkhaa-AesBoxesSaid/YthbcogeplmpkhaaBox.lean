/- A byte's box by the program, and the law's first test: what each call leaves. No conditions. -/
import Derived.Test.YthbcogeplmpkhaaBoxes
set_option linter.unusedVariables false
namespace Go.Proofs.Ythbcogeplmpkhaa
open Go.RowKit

set_option maxRecDepth 20000 in
theorem box_any (x : UInt8) (w : World) : Calls Try.prog 5 #[B x] w fun e w' => e = .returned (B (sbox x)) ∧ Calm w w' := by
  have hz := Lib.hid (p := ∀ w : World, (zeroValue 25).run Try.prog w = .ok (.agg (brr 256 (fun _ => 0)).toArray) w) fun w => by kernel_rfl
  have i25 := Lib.hid (p := (Try.prog.info? 25).map (·.size) = some 256) (by kernel_rfl)
  have hx6 : x.toNat < 256 := u8_lt x
  have hsb : sbf x.toNat = sbox x := by unfold sbf; rw [UInt8.ofNat_toNat]
  go_enter Try.func5, Try.ntmps5
  go_wp2_with (first
    | (go_at_call 7; refine (boxes_any _).mono ?_; rintro e w1 ⟨rfl, hc1⟩)
    | (refine calm_alloc rfl 3 rfl 25 rfl _ hz ?_; intro g w2 hr2 hg2 hc2 hs2)
    | (refine calm_store rfl 25 _ _ rfl g rfl _ (brr 256 (fun _ => 0)) (brr 256 sbf) rfl hr2 (by rw [brr_len, brr_len]) (by rw [brr_len]; exact i25) (brr_one _ _) ?_; intro w3 hr3 hc3 hs3 hg3; have hc := hr3.cell x.toNat; rw [brr_get _ hx6, hsb] at hc))
  go_ret
  exact ⟨rfl, hc3.out w (hc1.of hc2) (by rw [hg2.out]; exact hc1.size)⟩

theorem awake_any (w : World) : Calls Try.prog 4 #[] w fun e w' => e = .returned (.bool true) ∧ Calm w w' := by
  have e0 : bv (sbox 0) = 99 := by rw [sbox_zero]; rfl
  have e1 : bv (sbox 83) = 237 := by rw [sbox_53]; rfl
  go_enter Try.func4, Try.ntmps4
  go_wp2_with (first
    | (go_at_call 5; refine (box_any 0 _).mono ?_; rintro e w1 ⟨rfl, hc1⟩)
    | (go_at_call 5; refine (box_any 83 _).mono ?_; rintro e w2 ⟨rfl, hc2⟩))
  go_ret
  exact ⟨rfl, hc1.trans hc2⟩

theorem law_walk (x y : UInt8) (w : World) : Calls Try.prog 3 #[B x, B y] w fun e w' => e = .returned (.bool true) ∧ Calm w w' := by
  go_enter Try.func3, Try.ntmps3
  go_wp2_with (first
    | (go_at_call 4; refine (awake_any _).mono ?_; rintro e w1 ⟨rfl, hc1⟩)
    | (go_at_call 5; refine (box_any x _).mono ?_; rintro e w2 ⟨rfl, hc2⟩; have hc := Calm.trans hc1 hc2; clear hc1; have hc1 := hc; clear hc hc2)
    | (go_at_call 5; refine (box_any y _).mono ?_; rintro e w2 ⟨rfl, hc2⟩; have hc := Calm.trans hc1 hc2; clear hc1; have hc1 := hc; clear hc hc2)
    | (go_at_call 6; refine (refbox_any _ _).mono ?_; rintro e w3 ⟨rfl, rfl⟩))
  go_ret
  have hq : ((bv (sbox x) == bv (sbox y)) == (bv x == bv y)) = true := by
    by_cases h : x = y
    · subst h
      simp
    · have h1 : bv x ≠ bv y := fun e => h ((bv_eq _ _).1 e)
      have h2 : bv (sbox x) ≠ bv (sbox y) := fun e => h ((sbox_inj _ _).1 ((bv_eq _ _).1 e))
      rw [beq_false_of_ne h1, beq_false_of_ne h2]
      rfl
  refine ⟨?_, hc1⟩
  show Ending.returned (.bool _) = _
  rw [hq]
end Go.Proofs.Ythbcogeplmpkhaa
