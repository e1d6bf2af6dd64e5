/- The walk of VaultNews. Conditions: the tables lie there. -/
import Derived.Test.YtpocccnhibjjcaaGreatDoorVna
import Derived.Test.YtpocccnhibjjcaaGreatDoorVnb
import Derived.Test.YtpocccnhibjjcaaGreatDoorVnc
import Derived.Test.YtpocccnhibjjcaaGreatDoorVnd
set_option linter.unusedVariables false
set_option maxRecDepth 20000
namespace Go.Proofs.YtpocccnhibjjcaaGreatDoor
open Go.RowKit
theorem newsW (zb zd zs : Int) (w : World) (hT : Tabs w ∧ S8.Tab w) : Calls Tryz.prog 3 #[.int .i64 zb, .int .i64 zd, .int .i64 zs] w fun e w' => e = .returned (.bool true) ∧ Below w.heap.size w w' := by
  have HT := Lib.hid hT
  by_cases hz : zb < 1 ∨ 1024 < zb
  · exact news_a zb zd zs w HT (Lib.hid hz)
  · obtain ⟨m, rfl⟩ : ∃ m : Nat, zb = (m : Int) := ⟨zb.toNat, by omega⟩
    have HM := Lib.hid (p := 1 ≤ m ∧ m ≤ 1024) (by omega)
    have HS := Lib.hid (fun w => P7.rslots_any zd w)
    by_cases hs : 0 < P7.sl zd
    · have hzd : 1 ≤ zd ∧ zd ≤ 4 := by
        refine Classical.byContradiction fun h => ?_
        rw [P7.sl_out h] at hs
        omega
      have HBL := Lib.hid (fun w => blocks_all zd w)
      obtain ⟨n, rfl, hn1, hn4⟩ := P7.lv_nat hzd.1 hzd.2
      have he : enB (n : Int) (m : Int) = decide (2 * ((P7.sl (n : Int) : Int) + (P7.nd (P7.lv (n : Int)) : Int)) ≤ (m : Int)) := by
        unfold enB
        rw [decide_eq_true hs, Bool.true_and]
      obtain ⟨s, hs2⟩ : ∃ s, P7.sl (n : Int) = s := ⟨_, rfl⟩
      obtain ⟨k, hk⟩ : ∃ k, P7.nd (P7.lv (n : Int)) = k := ⟨_, rfl⟩
      rw [hs2] at HS HBL hs he
      rw [hk] at HBL he
      have hsi : (0 : Int) < (s : Int) := by omega
      by_cases hge : 2 * ((s : Int) + (k : Int)) ≤ (m : Int)
      · exact news_d m n s k zs w HT HM (Lib.hid ⟨hn1, hn4⟩) HS HBL hsi hge (Lib.hid (he.trans (decide_eq_true hge)))
      · exact news_c m n s k zs w HT HM HS HBL hsi hge (Lib.hid (he.trans (decide_eq_false hge)))
    · have h0 : P7.sl zd = 0 := by omega
      rw [h0] at HS
      exact news_b m zd zs w HT HM HS (Lib.hid (by unfold enB; rw [h0]; rfl))
end Go.Proofs.YtpocccnhibjjcaaGreatDoor
