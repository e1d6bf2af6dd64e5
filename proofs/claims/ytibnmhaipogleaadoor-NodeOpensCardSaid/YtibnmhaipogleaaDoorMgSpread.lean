/- The words that follow from a block: for every block. -/
import Derived.Test.YtibnmhaipogleaaDoorRot
import Derived.Test.YtibnmhaipogleaaDoorRows2
import Derived.BigRegion
import Derived.BigQuiet
import Derived.StillTailTactics
set_option linter.unusedVariables false
set_option maxRecDepth 20000
namespace Go.Proofs.YtibnmhaipogleaaDoor
open Go.RowKit
theorem spread_any (f : Nat → UInt8) (w : World) : Calls Tryd.prog 67 #[.agg (brr 64 f).toArray] w fun e w' => e = .returned (.agg (arr 64 (sch f)).toArray) ∧ Below w.heap.size w w' := by
  have hz := Lib.hid (p := ∀ w : World, (zeroValue 115).run Tryd.prog w = .ok (.agg (arr 64 (fun _ => 0)).toArray) w) fun w => by kernel_rfl
  have i43 := Lib.hid (p := (Tryd.prog.info? 98).map (·.size) = some 64) (by kernel_rfl)
  have i51 := Lib.hid (p := (Tryd.prog.info? 115).map (·.size) = some 64) (by kernel_rfl)
  go_enter Tryd.func67, Tryd.ntmps67
  go_wp2_with (first
    | (refine step_box rfl 1 rfl 98 _ rfl (brr 64 f) rfl ?_; intro g1 w1 hr1 hg1 hb1 hs1)
    | (refine step_alloc rfl 2 rfl 115 rfl _ hz ?_; intro g2 w2 hr2 hg2 hb2 hs2)
    | (refine step_alloc rfl 3 rfl 115 rfl _ hz ?_; intro g3 w3 hr3 hg3 hb3 hs3)
    | (refine step_load rfl 11 rfl 98 _ rfl _ rfl (brr 64 f) _ ((hr1.kept hb2).kept hb3).all Tryd.underlying98 rfl (by rw [brr_len]; exact i43) ?_))
  clear hz
  have hb3' : Below w.heap.size w w3 := (hb1.trans (hb2.mono hb1.size)).trans (hb3.mono (Nat.le_trans hb1.size hb2.size))
  have q2 : w.heap.size ≤ g2 := by rw [hg2.out]; exact hb1.size
  have q3 : w.heap.size ≤ g3 := by rw [hg3.out]; exact Nat.le_trans hb1.size hb2.size
  have q23 : g2 ≠ g3 := by have := hg2.out; have := hg3.out; have := hs2.out; omega
  have hr2' := hr2.kept hb3
  clear hr1 hr2 hb1 hb2 hb3 hg1 hg2 hg3 hs1 hs2 hs3
  go_loopw [12] (fun i wr => ∃ k : Nat, k ≤ 64 ∧ i = .int .i64 k ∧ Row wr g3 115 (arr 64 (prt f k)) ∧ Row wr g2 115 (arr 64 (fun _ => 0)) ∧ Below w.heap.size w wr) (fun i _ => 64 - (intOf i).toNat)
  case atStart => exact ⟨0, by omega, rfl, by rw [show prt f 0 = fun _ => 0 from funext (prt_zero f)]; exact hr3, hr2', hb3'⟩
  case round =>
    obtain ⟨k, hk, rfl, hrow, hrow2, hbel⟩ := hrel
    by_cases hlt : k < 64
    · have hix := fun w => run_index_brr (P := Tryd.prog) w 98 5 64 f k hlt Tryd.underlying98 Tryd.underlying5 (by kernel_rfl)
      have hcell : wr.cell? ⟨g3, k / 4, none⟩ = some (U (prt f k (k / 4))) := by rw [hrow.cell, arr_get _ (by omega)]
      have hfr := hrow.free (k / 4)
      go_wp2
      go_roundw
      case rel => exact ⟨k + 1, by omega, by go_num, by rw [← prt_step f k, ← join_ap, ← arr_set]; exact hrow.put _ _, hrow2.far q23 _, hbel.setCell q3 _⟩
      case measure => simp [intOf]; omega
    · obtain rfl : k = 64 := by omega
      go_wp2
      obtain ⟨wo, rfl⟩ : ∃ wo : World, wo = wr := ⟨_, rfl⟩
      rw [arr_congr (sft_start f)] at hrow
      go_loopw [6] (fun i wr => ∃ k : Nat, 16 ≤ k ∧ k ≤ 64 ∧ i = .int .i64 k ∧ Row wr g3 115 (arr 64 (sft f k)) ∧ Row wr g2 115 (arr 64 (fun _ => 0)) ∧ Below w.heap.size w wr) (fun i _ => 64 - (intOf i).toNat)
      case atStart => exact ⟨16, by omega, by omega, rfl, hrow, hrow2, hbel⟩
      case round =>
        obtain ⟨t, h16, ht, rfl, hrw, hrw2, hbl⟩ := hrel
        clear hrow hrow2 hbel
        by_cases hlt : t < 64
        · have c2 : wr.cell? ⟨g3, t - 2, none⟩ = some (U (sch f (t - 2))) := by rw [hrw.cell, arr_get _ (by omega), sft_lt f (by omega)]
          have c15 : wr.cell? ⟨g3, t - 15, none⟩ = some (U (sch f (t - 15))) := by rw [hrw.cell, arr_get _ (by omega), sft_lt f (by omega)]
          have c7 : wr.cell? ⟨g3, t - 7, none⟩ = some (U (sch f (t - 7))) := by rw [hrw.cell, arr_get _ (by omega), sft_lt f (by omega)]
          have c16 : wr.cell? ⟨g3, t - 16, none⟩ = some (U (sch f (t - 16))) := by rw [hrw.cell, arr_get _ (by omega), sft_lt f (by omega)]
          go_wp2
          go_quiet (fail)
          go_wp2_with (go_at_call 68; refine (turned_at _ _ (by decide) (by decide) _).mono ?_; rintro e w' ⟨rfl, rfl⟩)
          have cc := hrw.cell t
          rw [arr_get _ (by omega)] at cc
          have cf := hrw.free t
          go_region
          go_wp2
          go_roundw
          case rel =>
            repeat apply Exists.intro
            apply And.intro ?ra ?rb
            case rb => exact rfl
            case ra => exact ⟨t + 1, by omega, by omega, by go_num, by rw [← sft_step f t, ← arr_set, sch_hi f t h16]; exact (hrw.drewN _).put _ _, (hrw2.drewN _).far q23 _, (below_drewN hbl _).setCell q3 _⟩
          case measure => simp [intOf]; omega
        · obtain rfl : t = 64 := by omega
          go_wp2_with (first
            | (refine step_load rfl 71 rfl 115 _ rfl _ rfl (arr 64 (sft f 64)) _ hrw.all Tryd.underlying115 rfl (by rw [arr_len]; exact i51) ?_)
            | (refine step_store rfl 115 _ _ rfl g2 rfl _ (arr 64 (fun _ => 0)) (arr 64 (sft f 64)) rfl hrw2 (by rw [arr_len, arr_len]) (by rw [arr_len]; exact i51) (arr_one _ _) ?_; intro w5 hr5 hg5 hs5))
          refine bodyPost_ret (results_cell_row rfl _ _ g2 _ _ _ _ rfl hr5 Tryd.underlying115 rfl (by simpa [arr_len] using i51.out)) rfl ?_
          exact ⟨by rw [arr_congr (fun j hj => (sft_lt f hj).symm)], hbl.grown hg5 hbl.size (fun k hk => by injection hk with hk; omega)⟩
end Go.Proofs.YtibnmhaipogleaaDoor
/- What a block makes of eight words: for every block and all words. Condition: the listed constants. -/
set_option linter.unusedVariables false
namespace Go.Proofs.YtibnmhaipogleaaDoor
open Go.RowKit

/-- The two listed tables, read off the world. -/
structure Tabs (w : World) : Prop where
  h : w.rangeAt 0 0 (arr 8 h0.at)
  k : w.rangeAt 1 0 (arr 64 kk)
theorem Tabs.below {w w' : World} (h : Tabs w) (hb : Below w.heap.size w w') : Tabs w' :=
  ⟨fun j v hv => (hb.cell (World.block_lt_of_cell? w _ (h.h j v hv))).trans (h.h j v hv), fun j v hv => (hb.cell (World.block_lt_of_cell? w _ (h.k j v hv))).trans (h.k j v hv)⟩
theorem Tabs.kc {w : World} (h : Tabs w) {j : Nat} (hj : j < 64) : w.cell? ⟨1, j, none⟩ = some (U (kk j)) := by
  have := h.k j _ (arr_get kk hj)
  rwa [Nat.zero_add] at this

set_option maxRecDepth 20000 in
set_option maxHeartbeats 1000000 in
theorem change_any (s : S8) (f : Nat → UInt8) (w : World) (hT : Tabs w) : Calls Tryd.prog 57 #[.agg (arr 8 s.at).toArray, .agg (brr 64 f).toArray] w fun e w' => e = .returned (.agg (arr 8 (cmp s f).at).toArray) ∧ Below w.heap.size w w' := by
  have hz := Lib.hid (p := ∀ w : World, (zeroValue 115).run Tryd.prog w = .ok (.agg (arr 64 (fun _ => 0)).toArray) w) fun w => by kernel_rfl
  have hz8 := Lib.hid (p := ∀ w : World, (zeroValue 97).run Tryd.prog w = .ok (.agg (arr 8 (fun _ => 0)).toArray) w) fun w => by kernel_rfl
  have i42 := Lib.hid (p := (Tryd.prog.info? 97).map (·.size) = some 8) (by kernel_rfl)
  have i43 := Lib.hid (p := (Tryd.prog.info? 98).map (·.size) = some 64) (by kernel_rfl)
  have i51 := Lib.hid (p := (Tryd.prog.info? 115).map (·.size) = some 64) (by kernel_rfl)
  go_enter Tryd.func57, Tryd.ntmps57
  go_wp2_with (first
    | (refine step_box rfl 2 rfl 97 _ rfl (arr 8 s.at) rfl ?_; intro g1 w1 hr1 hg1 hb1 hs1)
    | (refine step_box rfl 3 rfl 98 _ rfl (brr 64 f) rfl ?_; intro g2 w2 hr2 hg2 hb2 hs2)
    | (refine step_alloc rfl 4 rfl 97 rfl _ hz8 ?_; intro g3 w3 hr3 hg3 hb3 hs3)
    | (refine step_load rfl 19 rfl 98 _ rfl _ rfl (brr 64 f) _ (hr2.kept hb3).all Tryd.underlying98 rfl (by rw [brr_len]; exact i43) ?_)
    | (go_at_call 67; refine (spread_any f _).mono ?_; rintro e w4 ⟨rfl, hb4⟩)
    | (refine step_alloc rfl 5 rfl 115 rfl _ hz ?_; intro g5 w5 hr5 hg5 hb5 hs5)
    | (refine step_store rfl 115 _ _ rfl g5 rfl _ _ (arr 64 (sch f)) rfl hr5 (by rw [arr_len, arr_len]) (by rw [arr_len]; exact i51) (arr_one _ _) ?_; intro w6 hr6 hg6 hs6))
  have hbA : Below w.heap.size w w4 := ((hb1.trans (hb2.mono hb1.size)).trans (hb3.mono (Nat.le_trans hb1.size hb2.size))).trans (hb4.mono (Nat.le_trans (Nat.le_trans hb1.size hb2.size) hb3.size))
  have hbB : Below w.heap.size w w5 := hbA.trans (hb5.mono hbA.size)
  have q5 : w.heap.size ≤ g5 := by rw [hg5.out]; exact hbA.size
  have hb6 : Below w.heap.size w w6 := hbB.grown hg6 hbB.size (fun k hk => by injection hk with hk; omega)
  have l1 := hr1.lt
  have l2 := hr2.lt
  have l3 := hr3.lt
  have q1 : w.heap.size ≤ g1 := by rw [hg1.out]; exact Nat.le_refl _
  have q3 : w.heap.size ≤ g3 := by rw [hg3.out]; exact Nat.le_trans hb1.size hb2.size
  have n15 : g1 ≠ g5 := by have := hg5.out; have := hb2.size; have := hb3.size; have := hb4.size; omega
  have n35 : g3 ≠ g5 := by have := hg5.out; have := hb4.size; omega
  have n13 : g1 ≠ g3 := by have := hg3.out; have := hb2.size; omega
  have r1 : Row w6 g1 97 (arr 8 s.at) := ((((hr1.kept hb2).kept hb3).kept hb4).kept hb5).grown hg6 (fun e => by injection e with e; exact n15 e)
  have r3 : Row w6 g3 97 (arr 8 (fun _ => 0)) := ((hr3.kept hb4).kept hb5).grown hg6 (fun e => by injection e with e; exact n35 e)
  have hT6 := hT.below hb6
  clear hr1 hr2 hr3 hr5 hb1 hb2 hb3 hb4 hb5 hg1 hg2 hg3 hg5 hg6 hs1 hs2 hs3 hs5 hs6 hbA hbB l1 l2 l3 hz hz8 i43 n15 n35
  have a0 : w6.cell? ⟨g1, 0, none⟩ = some (U s.a) := by rw [r1.cell, arr_get _ (by omega)]; rfl
  have a1 : w6.cell? ⟨g1, 1, none⟩ = some (U s.b) := by rw [r1.cell, arr_get _ (by omega)]; rfl
  have a2 : w6.cell? ⟨g1, 2, none⟩ = some (U s.c) := by rw [r1.cell, arr_get _ (by omega)]; rfl
  have a3 : w6.cell? ⟨g1, 3, none⟩ = some (U s.d) := by rw [r1.cell, arr_get _ (by omega)]; rfl
  have a4 : w6.cell? ⟨g1, 4, none⟩ = some (U s.e) := by rw [r1.cell, arr_get _ (by omega)]; rfl
  have a5 : w6.cell? ⟨g1, 5, none⟩ = some (U s.f) := by rw [r1.cell, arr_get _ (by omega)]; rfl
  have a6 : w6.cell? ⟨g1, 6, none⟩ = some (U s.g) := by rw [r1.cell, arr_get _ (by omega)]; rfl
  have a7 : w6.cell? ⟨g1, 7, none⟩ = some (U s.h) := by rw [r1.cell, arr_get _ (by omega)]; rfl
  go_frame
  go_quiet (fail)
  go_wp2
  go_quiet (fail)
  go_wp2
  go_loopw [6, 7, 8, 9, 10, 11, 12, 13, 37] (fun va vb vc vd ve vf vg vh i wr => ∃ k : Nat, k ≤ 64 ∧ va = U (rnds s (sch f) k).a ∧ vb = U (rnds s (sch f) k).b ∧ vc = U (rnds s (sch f) k).c ∧ vd = U (rnds s (sch f) k).d ∧ ve = U (rnds s (sch f) k).e ∧ vf = U (rnds s (sch f) k).f ∧ vg = U (rnds s (sch f) k).g ∧ vh = U (rnds s (sch f) k).h ∧ i = .int .i64 k ∧
    Row wr g1 97 (arr 8 s.at) ∧ Row wr g3 97 (arr 8 (fun _ => 0)) ∧ Row wr g5 115 (arr 64 (sch f)) ∧ Tabs wr ∧ Below w.heap.size w wr) (fun _ _ _ _ _ _ _ _ i _ => 64 - (intOf i).toNat)
  case atStart => exact ⟨0, by omega, rfl, rfl, rfl, rfl, rfl, rfl, rfl, rfl, rfl, r1, r3, hr6, ⟨hT6.h, hT6.k⟩, below_drewN (below_drewN hb6 _) _⟩
  case round =>
    obtain ⟨k, hk, rfl, rfl, rfl, rfl, rfl, rfl, rfl, rfl, rfl, p1, p3, p5, pT, pb⟩ := hrel
    clear r1 r3 hr6 hT6 hb6 a0 a1 a2 a3 a4 a5 a6 a7 hT
    by_cases hlt : k < 64
    · have ck := pT.kc hlt
      have cw : wr.cell? ⟨g5, k, none⟩ = some (U (sch f k)) := by rw [p5.cell, arr_get _ hlt]
      have hkp : (k : Int) < 64 := by omega
      obtain ⟨r, hr⟩ : ∃ r, r = rnds s (sch f) k := ⟨_, rfl⟩
      have hR : Hid (rnds s (sch f) (k + 1) = rnd r (kk k) (sch f k)) := by rw [hr]; rfl
      rw [← hr]
      clear hr
      go_wp2
      go_quiet ((go_at_call 68; refine Calls.quiet_of_same (turned_at _ _ (by decide) (by decide) _)))
      go_wp2_with (go_at_call 68; refine (turned_at _ _ (by decide) (by decide) _).mono ?_; rintro e w' ⟨rfl, rfl⟩)
      go_roundw
      case rel =>
        have e := hR.out
        refine ⟨k + 1, by omega, ?_, ?_, ?_, ?_, ?_, ?_, ?_, ?_, by go_num, p1.drewN _, p3.drewN _, p5.drewN _, ⟨pT.h, pT.k⟩, below_drewN pb _⟩
        all_goals (rw [e]; rfl)
      case measure => simp [intOf]; omega
    · obtain rfl : k = 64 := by omega
      obtain ⟨r, hr⟩ : ∃ r, r = rnds s (sch f) 64 := ⟨_, rfl⟩
      have hC : Hid (cmp s f = s.plus r) := by rw [hr]; rfl
      rw [← hr]
      clear hr
      go_wp2
      obtain ⟨wo, rfl⟩ : ∃ wo : World, wo = wr := ⟨_, rfl⟩
      go_loopw [109] (fun i wr => ∃ k : Nat, k ≤ 8 ∧ i = .int .i64 k ∧ Row wr g1 97 (arr 8 (mix s r k)) ∧ Row wr g3 97 (arr 8 (fun _ => 0)) ∧ Below w.heap.size w wr) (fun i _ => 8 - (intOf i).toNat)
      case atStart => exact ⟨0, by omega, rfl, by rw [mix_zero]; exact p1, p3, pb⟩
      case round =>
        obtain ⟨k, hk8, rfl, m1, m3, mb⟩ := hrel
        clear p1 p3 p5 pT pb
        by_cases hlt : k < 8
        · have c1 : wr.cell? ⟨g1, k, none⟩ = some (U (s.at k)) := by rw [m1.cell, arr_get _ hlt, mix_at]
          have hfr := m1.free k
          have hix := fun w => run_index_arr (P := Tryd.prog) w 97 22 8 r.at k hlt Tryd.underlying97 Tryd.underlying22 (by kernel_rfl)
          rw [arr8] at hix
          go_wp2
          go_roundw
          case rel => exact ⟨k + 1, by omega, by go_num, by rw [← mix_step s r k hlt, ← arr_set]; exact m1.put _ _, m3.far (Ne.symm n13) _, mb.setCell q1 _⟩
          case measure => simp [intOf]; omega
        · obtain rfl : k = 8 := by omega
          go_wp2_with (first
            | (refine step_load rfl 120 rfl 97 _ rfl _ rfl (arr 8 (mix s r 8)) _ m1.all Tryd.underlying97 rfl (by rw [arr_len]; exact i42) ?_)
            | (refine step_store rfl 97 _ _ rfl g3 rfl _ (arr 8 (fun _ => 0)) (arr 8 (mix s r 8)) rfl m3 (by rw [arr_len, arr_len]) (by rw [arr_len]; exact i42) (arr_one _ _) ?_; intro w5 hr5 hg5 hs5))
          refine bodyPost_ret (results_cell_row rfl _ _ g3 _ _ _ _ rfl hr5 Tryd.underlying97 rfl (by simpa [arr_len] using i42.out)) rfl ?_
          exact ⟨by rw [mix_full, hC.out], mb.grown hg5 mb.size (fun k hk => by injection hk with hk; omega)⟩
end Go.Proofs.YtibnmhaipogleaaDoor
