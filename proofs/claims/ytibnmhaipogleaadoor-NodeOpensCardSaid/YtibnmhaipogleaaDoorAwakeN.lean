/- What the sixth stage's laws ask first: a node, a block and a record that answer as the document fixes. No conditions. -/
import Derived.Test.YtibnmhaipogleaaDoorShut
import Derived.Test.YtibnmhaipogleaaDoorPack
set_option linter.unusedVariables false
set_option maxRecDepth 20000
namespace Go.Proofs.YtibnmhaipogleaaDoor
open Go.RowKit

theorem rec0_ok : rec0.Ok := ⟨by decide, by decide⟩
theorem rec0_may : rec0.may = true := by unfold RecV.may; rw [RecV.eqb_refl]; simp
theorem rec0_leads : rec0.leads = false := by decide
set_option maxHeartbeats 1000000 in
theorem awake_any (w : World) : Calls Tryd.prog 10 #[] w fun e w' => e = .returned (.bool true) ∧ Below w.heap.size w w' := by
  obtain ⟨i, U⟩ := u8_tab
  obtain ⟨CS, hCS⟩ : ∃ CS, CS = recsC fun _ => rec0 := ⟨_, rfl⟩
  obtain ⟨C1, hC1⟩ : ∃ C1, C1 = rec0.cs := ⟨_, rfl⟩
  have hz := Lib.hid (p := ∀ w, (zeroValue 27).run Tryd.prog w = .ok (.agg CS.toArray) w) (by rw [hCS]; exact zero_recs)
  have i140 := Lib.hid (p := (Tryd.prog.info? 27).map (·.size) = some CS.length) (by rw [hCS, recsC_len]; exact info_recs)
  have h1 := Lib.hid (p := ∀ v ∈ CS, v.oneCell' = true) (by rw [hCS]; exact recsC_one _)
  have HZ := Lib.hid (p := Tryd.prog.built 27 [] = some CS.toArray) (by rw [hCS]; exact recs0_cs)
  have HZ1 := Lib.hid (p := Tryd.prog.built 26 [] = some C1.toArray) (by rw [hC1]; exact rec0_cs)
  have HP := Lib.hid (pack_ok (fun _ => rec0) (fun _ _ => rec0_ok) (fun _ _ => rec0_may) w)
  have HUS := Lib.hid (fun (A : Option Addr) (w : World) => unpack_short A 255 255 (by omega) w)
  have HOF := Lib.hid (fun (A : Option Addr) (w : World) => open_far (.pointer none) rec0 rec0_leads A 256 256 w)
  rw [← hCS] at HP HUS
  rw [← hC1] at HOF
  clear hCS hC1
  go_enter Tryd.func10, Tryd.ntmps10
  go_wp2_with (first
    | (refine step_build rfl 27 #[] rfl [] ?hv _ HZ.out ?_; case hv => simp)
    | (go_at_call 11; refine HP.out.mono ?_; rintro e1 w1 ⟨g1, rfl, _, _, HB1⟩)
    | (refine step_make rfl _ _ 29 5 i U rfl 255 rfl rfl (by omega) ?_; intro g2 w2 hr2 hg2 hb2 hs2
       have HB2 := Lib.hid (HB1.out.trans (hb2.mono HB1.out.size))
       clear hr2 hg2 hb2 hs2)
    | (go_at_call 14; refine (HUS.out _ _).mono ?_; rintro e3 w3 ⟨rfl, hb3⟩
       have HB3 := Lib.hid (HB2.out.trans (hb3.mono HB2.out.size))
       clear hb3)
    | (refine step_alloc rfl 3 rfl 27 rfl _ hz ?_; intro g4 w4 hr4 hg4 hb4 hs4)
    | (refine step_store rfl 27 (.tmp 3) (.tmp 15) rfl g4 (by rfl) _ CS CS (by rfl) hr4 rfl i140 h1.out ?_; intro w5 hr5 hg5 hs5
       have HB5 := Lib.hid (p := Below w.heap.size w w5) (HB3.out.trans ((hb4.grown hg5 hb4.size (fun q hq => by injection hq with hq; subst hq; rw [hg4.out]; exact Nat.le_refl _)).mono HB3.out.size))
       clear hr4 hg4 hb4 hs4 hr5 hg5 hs5)
    | (refine step_build rfl 26 #[] rfl [] ?hv _ HZ1.out ?_; case hv => simp)
    | (refine step_make rfl _ _ 29 5 i U rfl 256 rfl rfl (by omega) ?_; intro g6 w6 hr6 hg6 hb6 hs6
       have HB6 := Lib.hid (HB5.out.trans (hb6.mono HB5.out.size))
       clear hr6 hg6 hb6 hs6)
    | (go_at_call 24; refine (HOF.out _ _).mono ?_; rintro e7 w7 ⟨rfl, hb7⟩
       have HB7 := Lib.hid (HB6.out.trans (hb7.mono HB6.out.size))
       clear hb7))
  go_ret
  exact ⟨rfl, HB7.out⟩
end Go.Proofs.YtibnmhaipogleaaDoor
