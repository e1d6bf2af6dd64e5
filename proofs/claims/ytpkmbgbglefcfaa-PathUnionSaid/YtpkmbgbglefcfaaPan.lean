/- The walk of the law PathAbove. Conditions: those named. -/
import Derived.Test.YtpkmbgbglefcfaaPk
import Derived.Test.YtpkmbgbglefcfaaPe
import Derived.Test.YtpkmbgbglefcfaaPb
import Derived.Test.YtpkmbgbglefcfaaPr
import Derived.Test.YtpkmbgbglefcfaaPys
set_option linter.unusedVariables false
namespace Go.Proofs.Ytpkmbgbglefcfaa
open Go.RowKit

/-- Whether the address is nil, there being numbers or not. -/
def NilI (A : Option Addr) (zs : List Int) : Prop := A = none → zs = []
/-- Numbers copied behind none. -/
theorem aboveLR (d : Int) (zs : List Int) : abr (lv d) zs (lv d) = aboveL d zs := abr_eq _ _ _ (Nat.le_refl _)
set_option maxRecDepth 20000 in
set_option maxHeartbeats 1000000 in
theorem pabove_any (d : Int) (A : Option Addr) (c : Nat) (zs : List Int) (w : World) (hA : HolI w A zs) (hN : NilI A zs) (hl : zs.length ≤ 9223372036854775807) :
    Calls Try.prog 5 #[.int .i64 d, .slice A zs.length c] w fun e w' => e = .returned (.bool true) ∧ Below w.heap.size w w' := by
  by_cases hz : zs.length ≤ 300
  · have HA := Lib.hid hA
    have HNI := Lib.hid hN
    have hgt : ¬ (300 : Int) < (zs.length : Int) := by omega
    obtain ⟨as_, has⟩ : ∃ as_, aboveL d zs = as_ := ⟨_, rfl⟩
    have HAS := Lib.hid has
    have HAL : Hid (as_.length ≤ 4000) := Lib.hid (by rw [← has]; have := aboveL_len d zs; omega)
    clear hA hN has
    go_enter Try.func5, Try.ntmps5
    go_wp2_with (first
      | (go_at_call 9; refine (awake_any _).mono ?_; rintro e w1 ⟨rfl, hB1⟩; have HB1 := Lib.hid hB1; have HA1 := Lib.hid (HA.out.below hB1); clear hB1)
      | (at_builtin; go_loud (refine wp_join rfl _ _ rfl rec_int w1.heap.size (.slice (some ⟨w1.heap.size, 0, none⟩) 0 0) 0 [] rfl (void_own w1 3 1 _ (Nat.le_refl _)) A zs.length c (ic zs) rfl (by rw [ic_len, Nat.mul_one]) ((HA1.out.below (below_al w1 _)).src HNI.out) (ic_one _) (by omega) (below_al w1 _).size ?_)
         intro v2 w2 hr2 hg2 hat2
         rw [List.nil_append, Nat.zero_add] at hr2
         obtain ⟨A2, c2, rfl⟩ := own_sl hr2
         have hB2 : Below w1.heap.size w1 w2 := (below_al w1 _).grown hg2 (below_al w1 (.cells #[] 3)).size (fun q hq => by have h0 : some w1.heap.size = some q := hq; injection h0 with h0; omega)
         have HO2 : Hid (OwnI w1.heap.size w2 A2 zs.length c2 zs) := Lib.hid hr2
         have HB2 := Lib.hid (below_nxt hB2 HB1.out)
         have HA2 := Lib.hid (HA1.out.below hB2)
         clear hr2 hg2 hat2 hB2)
      | (go_at_call 19; refine (above_any d A2 c2 zs _ HO2.out.hol (by omega)).mono ?_; rintro e w3 ⟨A3, c3, rfl, hO3, hB3⟩
         rw [HAS.out] at hO3
         rw [HAS.out]
         have HO2 := Lib.hid (HO2.out.kept hB3)
         have HA3 := Lib.hid (HA2.out.below hB3)
         have HO3 := Lib.hid hO3
         have HB3 := Lib.hid (below_nxt hB3 HB2.out)
         clear hO3 hB3)
      | (go_at_call 20; refine (rabove_any d A c zs _ HA3.out (by omega)).mono ?_; rintro e w4 ⟨A4, c4, rfl, hO4, hB4⟩
         rw [aboveLR, HAS.out] at hO4
         rw [aboveLR, HAS.out]
         have HO2 := Lib.hid (HO2.out.kept hB4)
         have HO3 := Lib.hid (HO3.out.kept hB4)
         have HA4 := Lib.hid (HA3.out.below hB4)
         have HO4 := Lib.hid hO4
         have HB4 := Lib.hid (below_nxt hB4 HB3.out)
         clear hO4 hB4)
      | (go_at_call 14; refine (spots_any A3 A4 c3 c4 as_ as_ _ HO3.out.hol HO4.out.hol (by have := HAL.out; omega) (by have := HAL.out; omega)).mono ?_; rintro e w5 ⟨rfl, hq⟩
         rw [decide_eq_true rfl]
         have hB5 : Below w4.heap.size w4 w5 := by obtain ⟨q, rfl⟩ := hq; exact below_drewN (Below.refl _ _) _
         have HO2 := Lib.hid (HO2.out.kept hB5)
         have HA5 := Lib.hid (HA4.out.below hB5)
         have HB5 := Lib.hid (below_nxt hB5 HB4.out)
         clear hB5 hq)
      | (go_at_call 17; refine (ints_same A2 A c2 c zs _ HO2.out.hol HA5.out (by omega)).mono ?_; rintro e w6 ⟨rfl, hB6⟩
         have HB6 := Lib.hid (below_nxt hB6 HB5.out)
         clear hB6))
    go_ret
    exact ⟨rfl, HB6.out⟩
  · have hgt : (300 : Int) < (zs.length : Int) := by omega
    clear hz hA
    go_enter Try.func5, Try.ntmps5
    go_wp2_with (first
      | (go_at_call 9; refine (awake_any _).mono ?_; rintro e w1 ⟨rfl, hB1⟩; have HB1 := Lib.hid hB1; clear hB1))
    go_ret
    exact ⟨rfl, HB1.out⟩
end Go.Proofs.Ytpkmbgbglefcfaa
