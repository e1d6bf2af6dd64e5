/- The laws' first test; how many blocks a size goes through. No conditions but those named. -/
import Derived.Test.YtpmldaoligmkaaaIh
import Derived.Test.YtpmldaoligmkaaaIi
set_option linter.unusedVariables false
set_option maxRecDepth 20000
namespace Go.Proofs.Ytpmldaoligmkaaa
open Go.RowKit

def zer : List UInt8 := lst 256 fun _ => 0
theorem zer_len : zer.length = 256 := lst_len _ _
theorem zer_i : iOk zer = false := by decide +kernel
theorem zer_l : lOk zer = true := by decide +kernel
theorem blks_257 : blks 257 = 2 := by decide
set_option maxHeartbeats 1000000 in
theorem awake_any (w : World) : Calls Try.prog 9 #[] w fun e w' => e = .returned (.bool true) ∧ Below w.heap.size w w' := by
  obtain ⟨i, U⟩ := u8_tab
  have i1 := Lib.hid (fun v => info_ncs v)
  have i2 := Lib.hid (fun f => info_inl f)
  have hz := Lib.hid zero_ino
  have hz2 := Lib.hid zero_112
  have HU1 : Hid (∀ (w : World) (g : Nat), Row w g 5 (brr 256 fun _ => 0) → Calls Try.prog 13 #[.slice (some ⟨g, 0, none⟩) 256 256] w fun e w' => e = .returned (.tuple #[.agg (ncs ino0).toArray, .int .i64 210]) ∧ Below w.heap.size w w') := fun w g hr => by
    have h := unpack_any (some ⟨g, 0, none⟩) 256 256 zer zer_len (by omega) w hr.hol
    rwa [iV_bad zer_i] at h
  have HU2 : Hid (∀ (w : World) (g : Nat), Row w g 5 (brr 256 fun _ => 0) → Calls Try.prog 17 #[.slice (some ⟨g, 0, none⟩) 256 256] w fun e w' => e = .returned (.tuple #[.agg (inl 112 (rd s2 zer)).toArray, .int .i64 0]) ∧ Below w.heap.size w w') := fun w g hr => by
    have h := unpacklist_any (some ⟨g, 0, none⟩) 256 256 zer zer_len (by omega) w hr.hol
    rwa [lV_ok zer_l] at h
  have HBL := Lib.hid (fun w => blocks_any 257 (by omega) w)
  rw [blks_257] at HBL
  go_enter Try.func9, Try.ntmps9
  go_wp2_with (first
    | (refine step_make rfl _ _ 28 5 i U rfl 256 rfl rfl (by omega) ?_; intro g11 w5 hr5 hg5 hb5 hs5
       have R5 := Lib.hid hr5
       have HB5 := Lib.hid (below_nxt hb5 HB4.out)
       clear hr5 hg5 hb5 hs5)
    | (refine step_make rfl _ _ 28 5 i U rfl 256 rfl rfl (by omega) ?_; intro g6 w1 hr1 hg1 hb1 hs1
       have R1 := Lib.hid hr1
       have HB1 := Lib.hid hb1
       clear hr1 hg1 hb1 hs1)
    | (go_at_call 13; refine (HU1.out _ _ R1.out).mono ?_; rintro e w2 ⟨rfl, hb2⟩
       have HB2 := Lib.hid (below_nxt hb2 HB1.out)
       clear hb2 HU1)
    | (refine step_alloc rfl 1 rfl 26 rfl _ hz.out ?_; intro g1 w3 hr3 hg3 hb3 hs3
       have R3 := Lib.hid hr3
       have Q3 := Lib.hid (p := w.heap.size ≤ g1) (by rw [hg3.out]; exact HB2.out.size)
       have HB3 := Lib.hid (below_nxt hb3 HB2.out)
       clear hr3 hg3 hb3 hs3)
    | (refine step_store rfl 26 (.tmp 1) (.tmp 8) rfl g1 (by rfl) _ (ncs ino0) (ncs ino0) (by rfl) R3.out rfl (i1.out _) (ncs_one _) ?_; intro w4 hr4 hg4 hs4
       have HB4 := Lib.hid (p := Below w.heap.size w w4) (HB3.out.grown hg4 HB3.out.size (fun q hq => by injection hq with hq; subst hq; exact Q3.out))
       clear hr4 hg4 hs4)
    | (go_at_call 17; refine (HU2.out _ _ R5.out).mono ?_; rintro e w6 ⟨rfl, hb6⟩
       have HB6 := Lib.hid (below_nxt hb6 HB5.out)
       clear hb6)
    | (refine step_alloc rfl 3 rfl 37 rfl _ hz2.out ?_; intro g3 w7 hr7 hg7 hb7 hs7
       have R7 := Lib.hid hr7
       have Q7 := Lib.hid (p := w.heap.size ≤ g3) (by rw [hg7.out]; exact HB6.out.size)
       have HB7 := Lib.hid (below_nxt hb7 HB6.out)
       clear hr7 hg7 hb7 hs7)
    | (refine step_store rfl 37 (.tmp 3) (.tmp 13) rfl g3 (by rfl) _ (inl 112 ino0) (inl 112 (rd s2 zer)) (by rfl) R7.out (by rw [inl_len, inl_len]) (i2.out _) (inl_one _ _) ?_; intro w8 hr8 hg8 hs8
       have HB8 := Lib.hid (p := Below w.heap.size w w8) (HB7.out.grown hg8 HB7.out.size (fun q hq => by injection hq with hq; subst hq; exact Q7.out))
       clear hr8 hg8 hs8)
    | (go_at_call 19; refine (HBL.out _).mono ?_; rintro e w9 ⟨rfl, rfl⟩))
  go_ret
  exact ⟨rfl, HB8.out⟩
end Go.Proofs.Ytpmldaoligmkaaa
