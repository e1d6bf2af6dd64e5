/- The laws' first test. No conditions. -/
import Derived.Test.YtnmcnnfmjfbokaaPb
set_option linter.unusedVariables false
set_option maxRecDepth 20000
namespace Go.Proofs.Ytnmcnnfmjfbokaa
open Go.RowKit
theorem below_nxt {w u v : World} (hb : Below u.heap.size u v) (ha : Below w.heap.size w u) : Below w.heap.size w v := ha.trans (hb.mono ha.size)
def inoA : Nat → Int := fun k => if k = 1 then 416 else if k = 2 then 5 else if k = 3 then 7 else 0
theorem built_inoA : Try.prog.built 26 [(1, .int .i64 416), (2, .int .u32 5), (3, .int .u32 7)] = some (ncs inoA).toArray := by kernel_rfl
set_option maxHeartbeats 2000000 in
theorem awake_any (w : World) : Calls Try.prog 6 #[] w fun e w' => e = .returned (.bool true) ∧ Below w.heap.size w w' := by
  have i1 := Lib.hid (fun v => info_ncs v)
  have hz := Lib.hid zero_ino
  have HBU := Lib.hid built_inoA
  have HB1 := Lib.hid (fun w => bits_any inoA 5 9 w)
  have HB2 := Lib.hid (fun w => bits_any inoA 6 7 w)
  have HB3 := Lib.hid (fun w => bits_any inoA 6 8 w)
  have HM := Lib.hid (fun w => may_any inoA 0 0 7 w)
  rw [show ((pB inoA 5 9 : Nat) : Int) = 6 by decide] at HB1
  rw [show ((pB inoA 6 7 : Nat) : Int) = 4 by decide] at HB2
  rw [show ((pB inoA 6 8 : Nat) : Int) = 0 by decide] at HB3
  rw [show mayB ((7 : Int) % 8).toNat (pB inoA 0 0) = true by decide] at HM
  obtain ⟨v, hv⟩ : ∃ v, inoA = v := ⟨_, rfl⟩
  rw [hv] at HBU HB1 HB2 HB3 HM
  clear hv
  go_enter Try.func6, Try.ntmps6
  go_wp2_with (first
    | (refine step_build rfl 26 _ rfl [(1, .int .i64 416), (2, .int .u32 5), (3, .int .u32 7)] ?hv _ HBU.out ?_; case hv => simp [Act.eval])
    | (refine step_alloc rfl 1 rfl 26 rfl _ hz.out ?_; intro g1 w1 hr1 hg1 hb1 hs1
       have R1 := Lib.hid hr1
       have G1 := Lib.hid (p := w.heap.size ≤ g1) (by rw [hg1.out]; exact Nat.le_refl _)
       have B1 := Lib.hid hb1
       clear hr1 hg1 hb1 hs1 hz)
    | (refine step_store rfl 26 (.tmp 1) (.tmp 2) rfl g1 (by rfl) _ (ncs ino0) (ncs v) (by rfl) R1.out rfl (i1.out _) (ncs_one _) ?_; intro w2 hr2 hg2 hs2
       have R2 := Lib.hid hr2
       have B2 := Lib.hid (p := Below w.heap.size w w2) (B1.out.grown hg2 B1.out.size (fun q hq => by injection hq with hq; subst hq; exact G1.out))
       clear hr2 hg2 hs2)
    | (refine step_load rfl 3 rfl 26 (.tmp 1) rfl g1 rfl (ncs v) _ R2.out.all Try.underlying26 rfl (i1.out _) ?_)
    | (refine step_load_g (by rfl) 7 rfl 26 (.tmp 1) rfl g1 rfl (ncs v) _ R3.out.all Try.underlying26 rfl (i1.out _) ?_)
    | (refine step_load_g (by rfl) 12 rfl 26 (.tmp 1) rfl g1 rfl (ncs v) _ R4.out.all Try.underlying26 rfl (i1.out _) ?_)
    | (refine step_load_g (by rfl) 17 rfl 26 (.tmp 1) rfl g1 rfl (ncs v) _ R5.out.all Try.underlying26 rfl (i1.out _) ?_)
    | (go_at_call 10; refine (HB1.out _).mono ?_; rintro e w3 ⟨rfl, hb3⟩
       have R3 := Lib.hid (R2.out.kept hb3)
       have B3 := Lib.hid (below_nxt hb3 B2.out)
       clear hb3 HB1)
    | (go_at_call 10; refine (HB2.out _).mono ?_; rintro e w4 ⟨rfl, hb4⟩
       have R4 := Lib.hid (R3.out.kept hb4)
       have B4 := Lib.hid (below_nxt hb4 B3.out)
       clear hb4 HB2)
    | (go_at_call 10; refine (HB3.out _).mono ?_; rintro e w5 ⟨rfl, hb5⟩
       have R5 := Lib.hid (R4.out.kept hb5)
       have B5 := Lib.hid (below_nxt hb5 B4.out)
       clear hb5 HB3)
    | (go_at_call 7; refine (HM.out _).mono ?_; rintro e w6 ⟨rfl, hb6⟩
       have B6 := Lib.hid (below_nxt hb6 B5.out)
       clear hb6))
  go_ret
  exact ⟨rfl, B6.out⟩
end Go.Proofs.Ytnmcnnfmjfbokaa
