/- The words that follow from a block: for every block. -/
import Derived.Test.YtpocccnhibjjcaaGreatDoorMgSha
import Derived.BigRegion
import Derived.BigQuiet
import Derived.StillTailTactics
import Derived.Laws.Bits64b
import Derived.Lib.TrailingZeros
import Derived.WalkKit
set_option linter.unusedVariables false
set_option maxRecDepth 20000
namespace Go.Proofs.YtpocccnhibjjcaaGreatDoor
open Go.RowKit
theorem spread_any (f : Nat → UInt8) (w : World) : Calls Tryz.prog 171 #[.agg (brr 64 f).toArray] w fun e w' => e = .returned (.agg (arr 64 (sch f)).toArray) ∧ Below w.heap.size w w' := by
  have hz := Lib.hid (p := ∀ w : World, (zeroValue 219).run Tryz.prog w = .ok (.agg (arr 64 (fun _ => 0)).toArray) w) fun w => by kernel_rfl
  have i43 := Lib.hid (p := (Tryz.prog.info? 204).map (·.size) = some 64) (by kernel_rfl)
  have i51 := Lib.hid (p := (Tryz.prog.info? 219).map (·.size) = some 64) (by kernel_rfl)
  go_enter Tryz.func171, Tryz.ntmps171
  go_wp2_with (first
    | (refine step_box rfl 1 rfl 204 _ rfl (brr 64 f) rfl ?_; intro g1 w1 hr1 hg1 hb1 hs1)
    | (refine step_alloc rfl 2 rfl 219 rfl _ hz ?_; intro g2 w2 hr2 hg2 hb2 hs2)
    | (refine step_alloc rfl 3 rfl 219 rfl _ hz ?_; intro g3 w3 hr3 hg3 hb3 hs3)
    | (refine step_load rfl 11 rfl 204 _ rfl _ rfl (brr 64 f) _ ((hr1.kept hb2).kept hb3).all Tryz.underlying204 rfl (by rw [brr_len]; exact i43) ?_))
  clear hz
  have hb3' : Below w.heap.size w w3 := (hb1.trans (hb2.mono hb1.size)).trans (hb3.mono (Nat.le_trans hb1.size hb2.size))
  have q2 : w.heap.size ≤ g2 := by rw [hg2.out]; exact hb1.size
  have q3 : w.heap.size ≤ g3 := by rw [hg3.out]; exact Nat.le_trans hb1.size hb2.size
  have q23 : g2 ≠ g3 := by have := hg2.out; have := hg3.out; have := hs2.out; omega
  have hr2' := hr2.kept hb3
  clear hr1 hr2 hb1 hb2 hb3 hg1 hg2 hg3 hs1 hs2 hs3
  go_loopw [12] (fun i wr => ∃ k : Nat, k ≤ 64 ∧ i = .int .i64 k ∧ Row wr g3 219 (arr 64 (prt f k)) ∧ Row wr g2 219 (arr 64 (fun _ => 0)) ∧ Below w.heap.size w wr) (fun i _ => 64 - (intOf i).toNat)
  case atStart => exact ⟨0, by omega, rfl, by rw [show prt f 0 = fun _ => 0 from funext (prt_zero f)]; exact hr3, hr2', hb3'⟩
  case round =>
    obtain ⟨k, hk, rfl, hrow, hrow2, hbel⟩ := hrel
    by_cases hlt : k < 64
    · have hix := fun w => run_index_brr (P := Tryz.prog) w 204 5 64 f k hlt Tryz.underlying204 Tryz.underlying5 (by kernel_rfl)
      have hcell : wr.cell? ⟨g3, k / 4, none⟩ = some (U (prt f k (k / 4))) := by rw [hrow.cell, arr_get _ (by omega)]
      have hfr := hrow.free (k / 4)
      go_wp2
      go_roundw
      case rel => exact ⟨k + 1, by omega, by go_num, by rw [← prt_step f k, ← join_ap, ← arr_set]; exact hrow.put _ _, hrow2.far q23 _, hbel.setCell q3 _⟩
      case measure => simp [intOf]; omega
    · obtain rfl : k = 64 := by omega
      go_wp2
      obtain ⟨wo, rfl⟩ : ∃ wo : World, wo = wr := ⟨_, rfl⟩
      rw [arr_congr (sft_start f)] at hrow
      go_loopw [6] (fun i wr => ∃ k : Nat, 16 ≤ k ∧ k ≤ 64 ∧ i = .int .i64 k ∧ Row wr g3 219 (arr 64 (sft f k)) ∧ Row wr g2 219 (arr 64 (fun _ => 0)) ∧ Below w.heap.size w wr) (fun i _ => 64 - (intOf i).toNat)
      case atStart => exact ⟨16, by omega, by omega, rfl, hrow, hrow2, hbel⟩
      case round =>
        obtain ⟨t, h16, ht, rfl, hrw, hrw2, hbl⟩ := hrel
        clear hrow hrow2 hbel
        by_cases hlt : t < 64
        · have c2 : wr.cell? ⟨g3, t - 2, none⟩ = some (U (sch f (t - 2))) := by rw [hrw.cell, arr_get _ (by omega), sft_lt f (by omega)]
          have c15 : wr.cell? ⟨g3, t - 15, none⟩ = some (U (sch f (t - 15))) := by rw [hrw.cell, arr_get _ (by omega), sft_lt f (by omega)]
          have c7 : wr.cell? ⟨g3, t - 7, none⟩ = some (U (sch f (t - 7))) := by rw [hrw.cell, arr_get _ (by omega), sft_lt f (by omega)]
          have c16 : wr.cell? ⟨g3, t - 16, none⟩ = some (U (sch f (t - 16))) := by rw [hrw.cell, arr_get _ (by omega), sft_lt f (by omega)]
          go_wp2
          go_quiet (fail)
          go_wp2_with (go_at_call 172; refine (turned_at _ _ (by decide) (by decide) _).mono ?_; rintro e w' ⟨rfl, rfl⟩)
          have cc := hrw.cell t
          rw [arr_get _ (by omega)] at cc
          have cf := hrw.free t
          go_region
          go_wp2
          go_roundw
          case rel =>
            repeat apply Exists.intro
            apply And.intro ?ra ?rb
            case rb => exact rfl
            case ra => exact ⟨t + 1, by omega, by omega, by go_num, by rw [← sft_step f t, ← arr_set, sch_hi f t h16]; exact (hrw.drewN _).put _ _, (hrw2.drewN _).far q23 _, (below_drewN hbl _).setCell q3 _⟩
          case measure => simp [intOf]; omega
        · obtain rfl : t = 64 := by omega
          go_wp2_with (first
            | (refine step_load rfl 71 rfl 219 _ rfl _ rfl (arr 64 (sft f 64)) _ hrw.all Tryz.underlying219 rfl (by rw [arr_len]; exact i51) ?_)
            | (refine step_store rfl 219 _ _ rfl g2 rfl _ (arr 64 (fun _ => 0)) (arr 64 (sft f 64)) rfl hrw2 (by rw [arr_len, arr_len]) (by rw [arr_len]; exact i51) (arr_one _ _) ?_; intro w5 hr5 hg5 hs5))
          refine bodyPost_ret (results_cell_row rfl _ _ g2 _ _ _ _ rfl hr5 Tryz.underlying219 rfl (by simpa [arr_len] using i51.out)) rfl ?_
          exact ⟨by rw [arr_congr (fun j hj => (sft_lt f hj).symm)], hbl.grown hg5 hbl.size (fun k hk => by injection hk with hk; omega)⟩
end Go.Proofs.YtpocccnhibjjcaaGreatDoor
/- What a block makes of eight words: for every block and all words. Condition: the listed constants. -/
set_option linter.unusedVariables false
namespace Go.Proofs.YtpocccnhibjjcaaGreatDoor
open Go.RowKit

structure Tabs (w : World) : Prop where
  h : w.rangeAt 0 0 (arr 8 h0.at)
  k : w.rangeAt 1 0 (arr 64 kk)
theorem Tabs.below {w w' : World} (h : Tabs w) (hb : Below w.heap.size w w') : Tabs w' :=
  ⟨fun j v hv => (hb.cell (World.block_lt_of_cell? w _ (h.h j v hv))).trans (h.h j v hv), fun j v hv => (hb.cell (World.block_lt_of_cell? w _ (h.k j v hv))).trans (h.k j v hv)⟩
theorem Tabs.kc {w : World} (h : Tabs w) {j : Nat} (hj : j < 64) : w.cell? ⟨1, j, none⟩ = some (U (kk j)) := by
  have := h.k j _ (arr_get kk hj)
  rwa [Nat.zero_add] at this

set_option maxRecDepth 20000 in
set_option maxHeartbeats 1000000 in
theorem change_any (s : S8) (f : Nat → UInt8) (w : World) (hT : Tabs w) : Calls Tryz.prog 156 #[.agg (arr 8 s.at).toArray, .agg (brr 64 f).toArray] w fun e w' => e = .returned (.agg (arr 8 (cmp s f).at).toArray) ∧ Below w.heap.size w w' := by
  have hz := Lib.hid (p := ∀ w : World, (zeroValue 219).run Tryz.prog w = .ok (.agg (arr 64 (fun _ => 0)).toArray) w) fun w => by kernel_rfl
  have hz8 := Lib.hid (p := ∀ w : World, (zeroValue 203).run Tryz.prog w = .ok (.agg (arr 8 (fun _ => 0)).toArray) w) fun w => by kernel_rfl
  have i42 := Lib.hid (p := (Tryz.prog.info? 203).map (·.size) = some 8) (by kernel_rfl)
  have i43 := Lib.hid (p := (Tryz.prog.info? 204).map (·.size) = some 64) (by kernel_rfl)
  have i51 := Lib.hid (p := (Tryz.prog.info? 219).map (·.size) = some 64) (by kernel_rfl)
  go_enter Tryz.func156, Tryz.ntmps156
  go_wp2_with (first
    | (refine step_box rfl 2 rfl 203 _ rfl (arr 8 s.at) rfl ?_; intro g1 w1 hr1 hg1 hb1 hs1)
    | (refine step_box rfl 3 rfl 204 _ rfl (brr 64 f) rfl ?_; intro g2 w2 hr2 hg2 hb2 hs2)
    | (refine step_alloc rfl 4 rfl 203 rfl _ hz8 ?_; intro g3 w3 hr3 hg3 hb3 hs3)
    | (refine step_load rfl 19 rfl 204 _ rfl _ rfl (brr 64 f) _ (hr2.kept hb3).all Tryz.underlying204 rfl (by rw [brr_len]; exact i43) ?_)
    | (go_at_call 171; refine (spread_any f _).mono ?_; rintro e w4 ⟨rfl, hb4⟩)
    | (refine step_alloc rfl 5 rfl 219 rfl _ hz ?_; intro g5 w5 hr5 hg5 hb5 hs5)
    | (refine step_store rfl 219 _ _ rfl g5 rfl _ _ (arr 64 (sch f)) rfl hr5 (by rw [arr_len, arr_len]) (by rw [arr_len]; exact i51) (arr_one _ _) ?_; intro w6 hr6 hg6 hs6))
  have hbA : Below w.heap.size w w4 := ((hb1.trans (hb2.mono hb1.size)).trans (hb3.mono (Nat.le_trans hb1.size hb2.size))).trans (hb4.mono (Nat.le_trans (Nat.le_trans hb1.size hb2.size) hb3.size))
  have hbB : Below w.heap.size w w5 := hbA.trans (hb5.mono hbA.size)
  have q5 : w.heap.size ≤ g5 := by rw [hg5.out]; exact hbA.size
  have hb6 : Below w.heap.size w w6 := hbB.grown hg6 hbB.size (fun k hk => by injection hk with hk; omega)
  have l1 := hr1.lt
  have l2 := hr2.lt
  have l3 := hr3.lt
  have q1 : w.heap.size ≤ g1 := by rw [hg1.out]; exact Nat.le_refl _
  have q3 : w.heap.size ≤ g3 := by rw [hg3.out]; exact Nat.le_trans hb1.size hb2.size
  have n15 : g1 ≠ g5 := by have := hg5.out; have := hb2.size; have := hb3.size; have := hb4.size; omega
  have n35 : g3 ≠ g5 := by have := hg5.out; have := hb4.size; omega
  have n13 : g1 ≠ g3 := by have := hg3.out; have := hb2.size; omega
  have r1 : Row w6 g1 203 (arr 8 s.at) := ((((hr1.kept hb2).kept hb3).kept hb4).kept hb5).grown hg6 (fun e => by injection e with e; exact n15 e)
  have r3 : Row w6 g3 203 (arr 8 (fun _ => 0)) := ((hr3.kept hb4).kept hb5).grown hg6 (fun e => by injection e with e; exact n35 e)
  have hT6 := hT.below hb6
  clear hr1 hr2 hr3 hr5 hb1 hb2 hb3 hb4 hb5 hg1 hg2 hg3 hg5 hg6 hs1 hs2 hs3 hs5 hs6 hbA hbB l1 l2 l3 hz hz8 i43 n15 n35
  have a0 : w6.cell? ⟨g1, 0, none⟩ = some (U s.a) := by rw [r1.cell, arr_get _ (by omega)]; rfl
  have a1 : w6.cell? ⟨g1, 1, none⟩ = some (U s.b) := by rw [r1.cell, arr_get _ (by omega)]; rfl
  have a2 : w6.cell? ⟨g1, 2, none⟩ = some (U s.c) := by rw [r1.cell, arr_get _ (by omega)]; rfl
  have a3 : w6.cell? ⟨g1, 3, none⟩ = some (U s.d) := by rw [r1.cell, arr_get _ (by omega)]; rfl
  have a4 : w6.cell? ⟨g1, 4, none⟩ = some (U s.e) := by rw [r1.cell, arr_get _ (by omega)]; rfl
  have a5 : w6.cell? ⟨g1, 5, none⟩ = some (U s.f) := by rw [r1.cell, arr_get _ (by omega)]; rfl
  have a6 : w6.cell? ⟨g1, 6, none⟩ = some (U s.g) := by rw [r1.cell, arr_get _ (by omega)]; rfl
  have a7 : w6.cell? ⟨g1, 7, none⟩ = some (U s.h) := by rw [r1.cell, arr_get _ (by omega)]; rfl
  go_frame
  go_quiet (fail)
  go_wp2
  go_quiet (fail)
  go_wp2
  go_loopw [6, 7, 8, 9, 10, 11, 12, 13, 37] (fun va vb vc vd ve vf vg vh i wr => ∃ k : Nat, k ≤ 64 ∧ va = U (rnds s (sch f) k).a ∧ vb = U (rnds s (sch f) k).b ∧ vc = U (rnds s (sch f) k).c ∧ vd = U (rnds s (sch f) k).d ∧ ve = U (rnds s (sch f) k).e ∧ vf = U (rnds s (sch f) k).f ∧ vg = U (rnds s (sch f) k).g ∧ vh = U (rnds s (sch f) k).h ∧ i = .int .i64 k ∧
    Row wr g1 203 (arr 8 s.at) ∧ Row wr g3 203 (arr 8 (fun _ => 0)) ∧ Row wr g5 219 (arr 64 (sch f)) ∧ Tabs wr ∧ Below w.heap.size w wr) (fun _ _ _ _ _ _ _ _ i _ => 64 - (intOf i).toNat)
  case atStart => exact ⟨0, by omega, rfl, rfl, rfl, rfl, rfl, rfl, rfl, rfl, rfl, r1, r3, hr6, ⟨hT6.h, hT6.k⟩, below_drewN (below_drewN hb6 _) _⟩
  case round =>
    obtain ⟨k, hk, rfl, rfl, rfl, rfl, rfl, rfl, rfl, rfl, rfl, p1, p3, p5, pT, pb⟩ := hrel
    clear r1 r3 hr6 hT6 hb6 a0 a1 a2 a3 a4 a5 a6 a7 hT
    by_cases hlt : k < 64
    · have ck := pT.kc hlt
      have cw : wr.cell? ⟨g5, k, none⟩ = some (U (sch f k)) := by rw [p5.cell, arr_get _ hlt]
      have hkp : (k : Int) < 64 := by omega
      obtain ⟨r, hr⟩ : ∃ r, r = rnds s (sch f) k := ⟨_, rfl⟩
      have hR : Hid (rnds s (sch f) (k + 1) = rnd r (kk k) (sch f k)) := by rw [hr]; rfl
      rw [← hr]
      clear hr
      go_wp2
      go_quiet ((go_at_call 172; refine Calls.quiet_of_same (turned_at _ _ (by decide) (by decide) _)))
      go_wp2_with (go_at_call 172; refine (turned_at _ _ (by decide) (by decide) _).mono ?_; rintro e w' ⟨rfl, rfl⟩)
      go_roundw
      case rel =>
        have e := hR.out
        refine ⟨k + 1, by omega, ?_, ?_, ?_, ?_, ?_, ?_, ?_, ?_, by go_num, p1.drewN _, p3.drewN _, p5.drewN _, ⟨pT.h, pT.k⟩, below_drewN pb _⟩
        all_goals (rw [e]; rfl)
      case measure => simp [intOf]; omega
    · obtain rfl : k = 64 := by omega
      obtain ⟨r, hr⟩ : ∃ r, r = rnds s (sch f) 64 := ⟨_, rfl⟩
      have hC : Hid (cmp s f = s.plus r) := by rw [hr]; rfl
      rw [← hr]
      clear hr
      go_wp2
      obtain ⟨wo, rfl⟩ : ∃ wo : World, wo = wr := ⟨_, rfl⟩
      go_loopw [109] (fun i wr => ∃ k : Nat, k ≤ 8 ∧ i = .int .i64 k ∧ Row wr g1 203 (arr 8 (mix s r k)) ∧ Row wr g3 203 (arr 8 (fun _ => 0)) ∧ Below w.heap.size w wr) (fun i _ => 8 - (intOf i).toNat)
      case atStart => exact ⟨0, by omega, rfl, by rw [mix_zero]; exact p1, p3, pb⟩
      case round =>
        obtain ⟨k, hk8, rfl, m1, m3, mb⟩ := hrel
        clear p1 p3 p5 pT pb
        by_cases hlt : k < 8
        · have c1 : wr.cell? ⟨g1, k, none⟩ = some (U (s.at k)) := by rw [m1.cell, arr_get _ hlt, mix_at]
          have hfr := m1.free k
          have hix := fun w => run_index_arr (P := Tryz.prog) w 203 44 8 r.at k hlt Tryz.underlying203 Tryz.underlying44 (by kernel_rfl)
          rw [arr8] at hix
          go_wp2
          go_roundw
          case rel => exact ⟨k + 1, by omega, by go_num, by rw [← mix_step s r k hlt, ← arr_set]; exact m1.put _ _, m3.far (Ne.symm n13) _, mb.setCell q1 _⟩
          case measure => simp [intOf]; omega
        · obtain rfl : k = 8 := by omega
          go_wp2_with (first
            | (refine step_load rfl 120 rfl 203 _ rfl _ rfl (arr 8 (mix s r 8)) _ m1.all Tryz.underlying203 rfl (by rw [arr_len]; exact i42) ?_)
            | (refine step_store rfl 203 _ _ rfl g3 rfl _ (arr 8 (fun _ => 0)) (arr 8 (mix s r 8)) rfl m3 (by rw [arr_len, arr_len]) (by rw [arr_len]; exact i42) (arr_one _ _) ?_; intro w5 hr5 hg5 hs5))
          refine bodyPost_ret (results_cell_row rfl _ _ g3 _ _ _ _ rfl hr5 Tryz.underlying203 rfl (by simpa [arr_len] using i42.out)) rfl ?_
          exact ⟨by rw [mix_full, hC.out], mb.grown hg5 mb.size (fun k hk => by injection hk with hk; omega)⟩
end Go.Proofs.YtpocccnhibjjcaaGreatDoor
/- Plain facts: a set of places as words of 64 bits; its least place, how many it has, and what one operation makes of a word. No program is in sight here, and no conditions. -/
set_option linter.unusedVariables false
namespace Go.Proofs.YtpocccnhibjjcaaGreatDoor.S8

def num : Nat → (Nat → Bool) → Nat
  | 0, _ => 0
  | n + 1, f => (f 0).toNat + 2 * num n (fun j => f (j + 1))
def cnt : Nat → (Nat → Bool) → Nat
  | 0, _ => 0
  | n + 1, f => cnt n f + (f n).toNat
def put (f : Nat → Bool) (i : Nat) (b : Bool) : Nat → Bool := fun j => if j = i then b else f j
def wv (S : Nat → Bool) (w : Nat) : Nat := num 64 (fun j => S (64 * w + j))

theorem bool_le (b : Bool) : b.toNat ≤ 1 := by cases b <;> decide
theorem num_lt : ∀ n f, num n f < 2 ^ n
  | 0, f => by simp [num]
  | n + 1, f => by
    have h := num_lt n (fun j => f (j + 1))
    have hb := bool_le (f 0)
    rw [num, Nat.pow_succ]
    omega
theorem num_congr : ∀ n {f g : Nat → Bool}, (∀ j, j < n → f j = g j) → num n f = num n g
  | 0, f, g, _ => rfl
  | n + 1, f, g, h => by rw [num, num, h 0 (by omega), num_congr n (fun j hj => h (j + 1) (by omega))]
theorem num_bit : ∀ n f j, (num n f).testBit j = (decide (j < n) && f j)
  | 0, f, j => by simp [num]
  | n + 1, f, 0 => by
    rw [num, Nat.testBit_zero]
    cases f 0 <;> simp <;> omega
  | n + 1, f, j + 1 => by
    rw [num, Nat.testBit_succ]
    have hb := bool_le (f 0)
    rw [show ((f 0).toNat + 2 * num n fun j => f (j + 1)) / 2 = num n fun j => f (j + 1) by omega, num_bit n _ j]
    simp
theorem num_zero : ∀ n {f : Nat → Bool}, (∀ j, j < n → f j = false) → num n f = 0
  | 0, f, _ => rfl
  | n + 1, f, h => by rw [num, h 0 (by omega), num_zero n (fun j hj => h (j + 1) (by omega))]; rfl
theorem num_zero_iff {n : Nat} {f : Nat → Bool} : num n f = 0 ↔ ∀ j, j < n → f j = false := by
  refine ⟨fun h j hj => ?_, num_zero n⟩
  have := num_bit n f j
  rw [h] at this
  simpa [hj] using this.symm
theorem num_or {n i : Nat} (h : i < n) (f : Nat → Bool) : num n f ||| 2 ^ i = num n (put f i true) := by
  apply Nat.eq_of_testBit_eq
  intro j
  rw [Nat.testBit_or, num_bit, num_bit, Nat.testBit_two_pow]
  unfold put
  by_cases e : j = i
  · subst e
    simp [h]
  · rw [if_neg e]
    simp [Ne.symm e]
theorem num_and {n i : Nat} (h : i < n) (f : Nat → Bool) : num n f &&& 2 ^ i = if f i then 2 ^ i else 0 := by
  apply Nat.eq_of_testBit_eq
  intro j
  rw [Nat.testBit_and, num_bit, Nat.testBit_two_pow]
  by_cases e : j = i
  · subst e
    cases f j <;> simp [h]
  · cases f i <;> simp [Ne.symm e]
theorem pow64_lt {i : Nat} (h : i < 64) : 2 ^ i < 18446744073709551616 := by
  have := Nat.pow_lt_pow_right (a := 2) (by decide) h
  simpa using this
theorem num64_lt (f : Nat → Bool) : num 64 f < 18446744073709551616 := num_lt 64 f
theorem num_sub {i : Nat} (h : i < 64) (f : Nat → Bool) : bits .andNot .u64 (num 64 f : Nat) (2 ^ i : Nat) = (num 64 (put f i false) : Int) := by
  have hx := num64_lt f
  have hp := pow64_lt h
  have h1 : (BitVec.ofInt 64 ((num 64 f : Nat) : Int)).toNat = num 64 f := by
    rw [BitVec.ofInt_natCast, BitVec.toNat_ofNat]; exact Nat.mod_eq_of_lt (by simpa using hx)
  have h2 : (BitVec.ofInt 64 ((2 ^ i : Nat) : Int)).toNat = 2 ^ i := by
    rw [BitVec.ofInt_natCast, BitVec.toNat_ofNat]; exact Nat.mod_eq_of_lt (by simpa using hp)
  have h3 : (BitVec.ofInt 64 ((num 64 f : Nat) : Int) &&& ~~~ BitVec.ofInt 64 ((2 ^ i : Nat) : Int)).toNat = num 64 (put f i false) := by
    apply Nat.eq_of_testBit_eq
    intro j
    rw [BitVec.testBit_toNat, BitVec.getLsbD_and, BitVec.getLsbD_not, ← BitVec.testBit_toNat, ← BitVec.testBit_toNat, h1, h2, num_bit, num_bit, Nat.testBit_two_pow]
    unfold put
    by_cases e : j = i
    · subst e
      simp
    · rw [if_neg e]
      by_cases hj : j < 64 <;> simp [Ne.symm e, hj]
  show IntKind.u64.wrap ((BitVec.ofInt 64 ((num 64 f : Nat) : Int) &&& ~~~ BitVec.ofInt 64 ((2 ^ i : Nat) : Int)).toNat : Int) = _
  rw [h3, IntKind.wrap_u64]
  have := num64_lt (put f i false)
  omega

theorem ctz_succ (n x : Nat) (h : x ≠ 0) : Lib.ctz (n + 1) (2 * x) = Lib.ctz n x + 1 := by
  unfold Lib.ctz
  rw [if_neg (by omega), if_neg h, Lib.ctzFrom, if_neg (by omega), show 2 * x / 2 = x by omega]
  omega
theorem and_odd (y z : Nat) : (2 * y) &&& (2 * z + 1) = 2 * (y &&& z) := by
  apply Nat.eq_of_testBit_eq
  intro j
  cases j with
  | zero => simp [Nat.testBit_zero]
  | succ j =>
    rw [Nat.testBit_and, Nat.testBit_succ, Nat.testBit_succ, Nat.testBit_succ, show 2 * y / 2 = y by omega, show (2 * z + 1) / 2 = z by omega, show 2 * (y &&& z) / 2 = y &&& z by omega, Nat.testBit_and]
theorem and_even (y : Nat) : (1 + 2 * y) &&& (2 * y) = 2 * y := by
  apply Nat.eq_of_testBit_eq
  intro j
  cases j with
  | zero => simp [Nat.testBit_zero]
  | succ j =>
    rw [Nat.testBit_and, Nat.testBit_succ, Nat.testBit_succ, show (1 + 2 * y) / 2 = y by omega, show 2 * y / 2 = y by omega]
    simp
theorem low : ∀ (n : Nat) (f : Nat → Bool), num n f ≠ 0 → ∃ k, k < n ∧ f k = true ∧ (∀ i, i < k → f i = false) ∧ Lib.ctz n (num n f) = k ∧ num n f &&& (num n f - 1) = num n (fun j => decide (k < j) && f j)
  | 0, f, h => absurd rfl h
  | n + 1, f, h => by
    cases h0 : f 0 with
    | true =>
      refine ⟨0, by omega, h0, fun i hi => absurd hi (Nat.not_lt_zero _), ?_, ?_⟩
      · unfold Lib.ctz
        rw [if_neg h, Lib.ctzFrom, if_pos (by rw [num, h0]; simp)]
      · have e : num (n + 1) f = 1 + 2 * num n (fun j => f (j + 1)) := by rw [num, h0]; rfl
        rw [e, show 1 + 2 * num n (fun j => f (j + 1)) - 1 = 2 * num n (fun j => f (j + 1)) by omega, and_even, num]
        simp
    | false =>
      have e : num (n + 1) f = 2 * num n (fun j => f (j + 1)) := by rw [num, h0]; simp
      have hy : num n (fun j => f (j + 1)) ≠ 0 := fun h1 => h (by rw [e, h1])
      obtain ⟨k, h1, h2, h3, h4, h5⟩ := low n _ hy
      refine ⟨k + 1, by omega, h2, fun i hi => ?_, ?_, ?_⟩
      · cases i with
        | zero => exact h0
        | succ i => exact h3 i (by omega)
      · rw [e, ctz_succ _ _ hy, h4]
      · rw [e, show 2 * num n (fun j => f (j + 1)) - 1 = 2 * (num n (fun j => f (j + 1)) - 1) + 1 by omega, and_odd, h5, num]
        simp

theorem cnt_congr : ∀ n {f g : Nat → Bool}, (∀ j, j < n → f j = g j) → cnt n f = cnt n g
  | 0, f, g, _ => rfl
  | n + 1, f, g, h => by rw [cnt, cnt, h n (by omega), cnt_congr n (fun j hj => h j (by omega))]
theorem cnt_le : ∀ n f, cnt n f ≤ n
  | 0, _ => Nat.le_refl _
  | n + 1, f => by have := cnt_le n f; have := bool_le (f n); rw [cnt]; omega
theorem and_split (a b x y : Nat) (ha : a < 256) (hb : b < 256) : (a + 256 * x) &&& (b + 256 * y) = (a &&& b) + 256 * (x &&& y) := by
  have h1 := Nat.and_mod_two_pow (a := a + 256 * x) (b := b + 256 * y) (n := 8)
  have h2 := Nat.and_div_two_pow (a := a + 256 * x) (b := b + 256 * y) (n := 8)
  rw [show (2 : Nat) ^ 8 = 256 by decide] at h1 h2
  rw [show (a + 256 * x) % 256 = a by omega, show (b + 256 * y) % 256 = b by omega] at h1
  rw [show (a + 256 * x) / 256 = x by omega, show (b + 256 * y) / 256 = y by omega] at h2
  omega
def val : List Nat → Nat
  | [] => 0
  | c :: t => c + 256 * val t
def st1 (c : Nat) : Nat := (c / 2 &&& 85) + (c &&& 85)
def st2 (c : Nat) : Nat := (c / 4 &&& 51) + (c &&& 51)
def st3 (c : Nat) : Nat := (c / 16 + c) % 16
theorem all_lt (n : Nat) (p : Nat → Bool) (h : (List.range n).all p = true) : ∀ c, c < n → p c = true := fun c hc => List.all_eq_true.1 h c (List.mem_range.2 hc)
theorem f1 : ∀ c, c < 256 → st1 c < 256 ∧ ∀ r, r < 2 → (c / 2 + 128 * r) &&& 85 = c / 2 &&& 85 := by
  have h := all_lt 256 (fun c => decide (st1 c < 256) && decide ((c / 2 + 128 * 1) &&& 85 = c / 2 &&& 85)) (by decide +kernel)
  intro c hc
  have := h c hc
  simp only [Bool.and_eq_true, decide_eq_true_eq] at this
  refine ⟨this.1, fun r hr => ?_⟩
  match r, hr with
  | 0, _ => simp
  | 1, _ => exact this.2
theorem f2 : ∀ c, c < 256 → st2 c ≤ 255 ∧ ∀ r, r < 4 → (c / 4 + 64 * r) &&& 51 = c / 4 &&& 51 := by
  have h := all_lt 256 (fun c => decide (st2 c ≤ 255) && decide ((c / 4 + 64 * 1) &&& 51 = c / 4 &&& 51) && decide ((c / 4 + 64 * 2) &&& 51 = c / 4 &&& 51) && decide ((c / 4 + 64 * 3) &&& 51 = c / 4 &&& 51)) (by decide +kernel)
  intro c hc
  have := h c hc
  simp only [Bool.and_eq_true, decide_eq_true_eq] at this
  obtain ⟨⟨⟨h1, h2⟩, h3⟩, h4⟩ := this
  refine ⟨h1, fun r hr => ?_⟩
  match r, hr with
  | 0, _ => simp
  | 1, _ => exact h2
  | 2, _ => exact h3
  | 3, _ => exact h4
theorem f3 : ∀ c, c < 256 → st2 (st1 c) ≤ 68 ∧ st2 (st1 c) % 16 ≤ 4 ∧ st3 (st2 (st1 c)) ≤ 8 := by
  have h := all_lt 256 (fun c => decide (st2 (st1 c) ≤ 68) && decide (st2 (st1 c) % 16 ≤ 4) && decide (st3 (st2 (st1 c)) ≤ 8)) (by decide +kernel)
  intro c hc
  have := h c hc
  simp only [Bool.and_eq_true, decide_eq_true_eq] at this
  exact ⟨this.1.1, this.1.2, this.2⟩
theorem a1 : ∀ l : List Nat, (∀ c ∈ l, c < 256) → (val l / 2 &&& val (l.map fun _ => 85)) + (val l &&& val (l.map fun _ => 85)) = val (l.map st1)
  | [], _ => rfl
  | c :: t, h => by
    have hc := h c (by simp)
    have ih := a1 t (fun d hd => h d (by simp [hd]))
    have e := (f1 c hc).2 (val t % 2) (by omega)
    simp only [List.map_cons, val]
    rw [show (c + 256 * val t) / 2 = (c / 2 + 128 * (val t % 2)) + 256 * (val t / 2) by omega, and_split _ _ _ _ (by omega) (by omega), and_split _ _ _ _ hc (by omega), e, ← ih]
    unfold st1
    omega
theorem a2 : ∀ l : List Nat, (∀ c ∈ l, c < 256) → (val l / 4 &&& val (l.map fun _ => 51)) + (val l &&& val (l.map fun _ => 51)) = val (l.map st2)
  | [], _ => rfl
  | c :: t, h => by
    have hc := h c (by simp)
    have ih := a2 t (fun d hd => h d (by simp [hd]))
    have e := (f2 c hc).2 (val t % 4) (by omega)
    simp only [List.map_cons, val]
    rw [show (c + 256 * val t) / 4 = (c / 4 + 64 * (val t % 4)) + 256 * (val t / 4) by omega, and_split _ _ _ _ (by omega) (by omega), and_split _ _ _ _ hc (by omega), e, ← ih]
    unfold st2
    omega
theorem head4 : ∀ l : List Nat, (∀ c ∈ l, c ≤ 68 ∧ c % 16 ≤ 4) → val l % 16 ≤ 4
  | [], _ => by simp [val]
  | c :: t, h => by have := h c (by simp); simp only [val]; omega
theorem a3 : ∀ l : List Nat, (∀ c ∈ l, c ≤ 68 ∧ c % 16 ≤ 4) → (val l / 16 + val l) &&& val (l.map fun _ => 15) = val (l.map st3)
  | [], _ => rfl
  | c :: t, h => by
    have hc := h c (by simp)
    have ht := head4 t (fun d hd => h d (by simp [hd]))
    have ih := a3 t (fun d hd => h d (by simp [hd]))
    simp only [List.map_cons, val]
    rw [show (c + 256 * val t) / 16 + (c + 256 * val t) = (c / 16 + 16 * (val t % 16) + c) + 256 * (val t / 16 + val t) by omega, and_split _ _ _ _ (by omega) (by omega), ih,
      show (15 : Nat) = 2 ^ 4 - 1 by decide, Nat.and_two_pow_sub_one_eq_mod]
    unfold st3
    omega
theorem wv_eq (S : Nat → Bool) (w : Nat) : wv S w = num 64 (fun j => S (64 * w + j)) := rfl
theorem cnt_zero (f : Nat → Bool) : cnt 0 f = 0 := rfl
theorem cnt_succ (n : Nat) (f : Nat → Bool) : cnt (n + 1) f = cnt n f + (f n).toNat := rfl
attribute [irreducible] num cnt wv
end Go.Proofs.YtpocccnhibjjcaaGreatDoor.S8
