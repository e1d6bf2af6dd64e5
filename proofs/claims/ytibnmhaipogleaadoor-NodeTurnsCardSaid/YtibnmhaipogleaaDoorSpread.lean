/- The words that follow from a block: for every block. -/
import Derived.Test.YtibnmhaipogleaaDoorRot
import Derived.Test.YtibnmhaipogleaaDoorRows2
import Derived.BigRegion
import Derived.BigQuiet
import Derived.StillTailTactics
set_option linter.unusedVariables false
set_option maxRecDepth 20000
namespace Go.Proofs.YtibnmhaipogleaaDoor
open Go.RowKit
theorem spread_any (f : Nat → UInt8) (w : World) : Calls Tryd.prog 67 #[.agg (brr 64 f).toArray] w fun e w' => e = .returned (.agg (arr 64 (sch f)).toArray) ∧ Below w.heap.size w w' := by
  have hz := Lib.hid (p := ∀ w : World, (zeroValue 115).run Tryd.prog w = .ok (.agg (arr 64 (fun _ => 0)).toArray) w) fun w => by kernel_rfl
  have i43 := Lib.hid (p := (Tryd.prog.info? 98).map (·.size) = some 64) (by kernel_rfl)
  have i51 := Lib.hid (p := (Tryd.prog.info? 115).map (·.size) = some 64) (by kernel_rfl)
  go_enter Tryd.func67, Tryd.ntmps67
  go_wp2_with (first
    | (refine step_box rfl 1 rfl 98 _ rfl (brr 64 f) rfl ?_; intro g1 w1 hr1 hg1 hb1 hs1)
    | (refine step_alloc rfl 2 rfl 115 rfl _ hz ?_; intro g2 w2 hr2 hg2 hb2 hs2)
    | (refine step_alloc rfl 3 rfl 115 rfl _ hz ?_; intro g3 w3 hr3 hg3 hb3 hs3)
    | (refine step_load rfl 11 rfl 98 _ rfl _ rfl (brr 64 f) _ ((hr1.kept hb2).kept hb3).all Tryd.underlying98 rfl (by rw [brr_len]; exact i43) ?_))
  clear hz
  have hb3' : Below w.heap.size w w3 := (hb1.trans (hb2.mono hb1.size)).trans (hb3.mono (Nat.le_trans hb1.size hb2.size))
  have q2 : w.heap.size ≤ g2 := by rw [hg2.out]; exact hb1.size
  have q3 : w.heap.size ≤ g3 := by rw [hg3.out]; exact Nat.le_trans hb1.size hb2.size
  have q23 : g2 ≠ g3 := by have := hg2.out; have := hg3.out; have := hs2.out; omega
  have hr2' := hr2.kept hb3
  clear hr1 hr2 hb1 hb2 hb3 hg1 hg2 hg3 hs1 hs2 hs3
  go_loopw [12] (fun i wr => ∃ k : Nat, k ≤ 64 ∧ i = .int .i64 k ∧ Row wr g3 115 (arr 64 (prt f k)) ∧ Row wr g2 115 (arr 64 (fun _ => 0)) ∧ Below w.heap.size w wr) (fun i _ => 64 - (intOf i).toNat)
  case atStart => exact ⟨0, by omega, rfl, by rw [show prt f 0 = fun _ => 0 from funext (prt_zero f)]; exact hr3, hr2', hb3'⟩
  case round =>
    obtain ⟨k, hk, rfl, hrow, hrow2, hbel⟩ := hrel
    by_cases hlt : k < 64
    · have hix := fun w => run_index_brr (P := Tryd.prog) w 98 5 64 f k hlt Tryd.underlying98 Tryd.underlying5 (by kernel_rfl)
      have hcell : wr.cell? ⟨g3, k / 4, none⟩ = some (U (prt f k (k / 4))) := by rw [hrow.cell, arr_get _ (by omega)]
      have hfr := hrow.free (k / 4)
      go_wp2
      go_roundw
      case rel => exact ⟨k + 1, by omega, by go_num, by rw [← prt_step f k, ← join_ap, ← arr_set]; exact hrow.put _ _, hrow2.far q23 _, hbel.setCell q3 _⟩
      case measure => simp [intOf]; omega
    · obtain rfl : k = 64 := by omega
      go_wp2
      obtain ⟨wo, rfl⟩ : ∃ wo : World, wo = wr := ⟨_, rfl⟩
      rw [arr_congr (sft_start f)] at hrow
      go_loopw [6] (fun i wr => ∃ k : Nat, 16 ≤ k ∧ k ≤ 64 ∧ i = .int .i64 k ∧ Row wr g3 115 (arr 64 (sft f k)) ∧ Row wr g2 115 (arr 64 (fun _ => 0)) ∧ Below w.heap.size w wr) (fun i _ => 64 - (intOf i).toNat)
      case atStart => exact ⟨16, by omega, by omega, rfl, hrow, hrow2, hbel⟩
      case round =>
        obtain ⟨t, h16, ht, rfl, hrw, hrw2, hbl⟩ := hrel
        clear hrow hrow2 hbel
        by_cases hlt : t < 64
        · have c2 : wr.cell? ⟨g3, t - 2, none⟩ = some (U (sch f (t - 2))) := by rw [hrw.cell, arr_get _ (by omega), sft_lt f (by omega)]
          have c15 : wr.cell? ⟨g3, t - 15, none⟩ = some (U (sch f (t - 15))) := by rw [hrw.cell, arr_get _ (by omega), sft_lt f (by omega)]
          have c7 : wr.cell? ⟨g3, t - 7, none⟩ = some (U (sch f (t - 7))) := by rw [hrw.cell, arr_get _ (by omega), sft_lt f (by omega)]
          have c16 : wr.cell? ⟨g3, t - 16, none⟩ = some (U (sch f (t - 16))) := by rw [hrw.cell, arr_get _ (by omega), sft_lt f (by omega)]
          go_wp2
          go_quiet (fail)
          go_wp2_with (go_at_call 68; refine (turned_at _ _ (by decide) (by decide) _).mono ?_; rintro e w' ⟨rfl, rfl⟩)
          have cc := hrw.cell t
          rw [arr_get _ (by omega)] at cc
          have cf := hrw.free t
          go_region
          go_wp2
          go_roundw
          case rel =>
            repeat apply Exists.intro
            apply And.intro ?ra ?rb
            case rb => exact rfl
            case ra => exact ⟨t + 1, by omega, by omega, by go_num, by rw [← sft_step f t, ← arr_set, sch_hi f t h16]; exact (hrw.drewN _).put _ _, (hrw2.drewN _).far q23 _, (below_drewN hbl _).setCell q3 _⟩
          case measure => simp [intOf]; omega
        · obtain rfl : t = 64 := by omega
          go_wp2_with (first
            | (refine step_load rfl 71 rfl 115 _ rfl _ rfl (arr 64 (sft f 64)) _ hrw.all Tryd.underlying115 rfl (by rw [arr_len]; exact i51) ?_)
            | (refine step_store rfl 115 _ _ rfl g2 rfl _ (arr 64 (fun _ => 0)) (arr 64 (sft f 64)) rfl hrw2 (by rw [arr_len, arr_len]) (by rw [arr_len]; exact i51) (arr_one _ _) ?_; intro w5 hr5 hg5 hs5))
          refine bodyPost_ret (results_cell_row rfl _ _ g2 _ _ _ _ rfl hr5 Tryd.underlying115 rfl (by simpa [arr_len] using i51.out)) rfl ?_
          exact ⟨by rw [arr_congr (fun j hj => (sft_lt f hj).symm)], hbl.grown hg5 hbl.size (fun k hk => by injection hk with hk; omega)⟩
end Go.Proofs.YtibnmhaipogleaaDoor
