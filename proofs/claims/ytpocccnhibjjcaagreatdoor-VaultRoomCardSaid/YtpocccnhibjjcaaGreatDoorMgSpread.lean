/- The words that follow from a block: for every block. -/
import Derived.Test.YtpocccnhibjjcaaGreatDoorMgSha
import Derived.BigRegion
import Derived.BigQuiet
import Derived.StillTailTactics
import Derived.Laws.Bits64b
import Derived.Lib.TrailingZeros
import Derived.WalkKit
set_option linter.unusedVariables false
set_option maxRecDepth 20000
namespace Go.Proofs.YtpocccnhibjjcaaGreatDoor
open Go.RowKit
theorem spread_any (f : Nat → UInt8) (w : World) : Calls Tryz.prog 171 #[.agg (brr 64 f).toArray] w fun e w' => e = .returned (.agg (arr 64 (sch f)).toArray) ∧ Below w.heap.size w w' := by
  have hz := Lib.hid (p := ∀ w : World, (zeroValue 219).run Tryz.prog w = .ok (.agg (arr 64 (fun _ => 0)).toArray) w) fun w => by kernel_rfl
  have i43 := Lib.hid (p := (Tryz.prog.info? 204).map (·.size) = some 64) (by kernel_rfl)
  have i51 := Lib.hid (p := (Tryz.prog.info? 219).map (·.size) = some 64) (by kernel_rfl)
  go_enter Tryz.func171, Tryz.ntmps171
  go_wp2_with (first
    | (refine step_box rfl 1 rfl 204 _ rfl (brr 64 f) rfl ?_; intro g1 w1 hr1 hg1 hb1 hs1)
    | (refine step_alloc rfl 2 rfl 219 rfl _ hz ?_; intro g2 w2 hr2 hg2 hb2 hs2)
    | (refine step_alloc rfl 3 rfl 219 rfl _ hz ?_; intro g3 w3 hr3 hg3 hb3 hs3)
    | (refine step_load rfl 11 rfl 204 _ rfl _ rfl (brr 64 f) _ ((hr1.kept hb2).kept hb3).all Tryz.underlying204 rfl (by rw [brr_len]; exact i43) ?_))
  clear hz
  have hb3' : Below w.heap.size w w3 := (hb1.trans (hb2.mono hb1.size)).trans (hb3.mono (Nat.le_trans hb1.size hb2.size))
  have q2 : w.heap.size ≤ g2 := by rw [hg2.out]; exact hb1.size
  have q3 : w.heap.size ≤ g3 := by rw [hg3.out]; exact Nat.le_trans hb1.size hb2.size
  have q23 : g2 ≠ g3 := by have := hg2.out; have := hg3.out; have := hs2.out; omega
  have hr2' := hr2.kept hb3
  clear hr1 hr2 hb1 hb2 hb3 hg1 hg2 hg3 hs1 hs2 hs3
  go_loopw [12] (fun i wr => ∃ k : Nat, k ≤ 64 ∧ i = .int .i64 k ∧ Row wr g3 219 (arr 64 (prt f k)) ∧ Row wr g2 219 (arr 64 (fun _ => 0)) ∧ Below w.heap.size w wr) (fun i _ => 64 - (intOf i).toNat)
  case atStart => exact ⟨0, by omega, rfl, by rw [show prt f 0 = fun _ => 0 from funext (prt_zero f)]; exact hr3, hr2', hb3'⟩
  case round =>
    obtain ⟨k, hk, rfl, hrow, hrow2, hbel⟩ := hrel
    by_cases hlt : k < 64
    · have hix := fun w => run_index_brr (P := Tryz.prog) w 204 5 64 f k hlt Tryz.underlying204 Tryz.underlying5 (by kernel_rfl)
      have hcell : wr.cell? ⟨g3, k / 4, none⟩ = some (U (prt f k (k / 4))) := by rw [hrow.cell, arr_get _ (by omega)]
      have hfr := hrow.free (k / 4)
      go_wp2
      go_roundw
      case rel => exact ⟨k + 1, by omega, by go_num, by rw [← prt_step f k, ← join_ap, ← arr_set]; exact hrow.put _ _, hrow2.far q23 _, hbel.setCell q3 _⟩
      case measure => simp [intOf]; omega
    · obtain rfl : k = 64 := by omega
      go_wp2
      obtain ⟨wo, rfl⟩ : ∃ wo : World, wo = wr := ⟨_, rfl⟩
      rw [arr_congr (sft_start f)] at hrow
      go_loopw [6] (fun i wr => ∃ k : Nat, 16 ≤ k ∧ k ≤ 64 ∧ i = .int .i64 k ∧ Row wr g3 219 (arr 64 (sft f k)) ∧ Row wr g2 219 (arr 64 (fun _ => 0)) ∧ Below w.heap.size w wr) (fun i _ => 64 - (intOf i).toNat)
      case atStart => exact ⟨16, by omega, by omega, rfl, hrow, hrow2, hbel⟩
      case round =>
        obtain ⟨t, h16, ht, rfl, hrw, hrw2, hbl⟩ := hrel
        clear hrow hrow2 hbel
        by_cases hlt : t < 64
        · have c2 : wr.cell? ⟨g3, t - 2, none⟩ = some (U (sch f (t - 2))) := by rw [hrw.cell, arr_get _ (by omega), sft_lt f (by omega)]
          have c15 : wr.cell? ⟨g3, t - 15, none⟩ = some (U (sch f (t - 15))) := by rw [hrw.cell, arr_get _ (by omega), sft_lt f (by omega)]
          have c7 : wr.cell? ⟨g3, t - 7, none⟩ = some (U (sch f (t - 7))) := by rw [hrw.cell, arr_get _ (by omega), sft_lt f (by omega)]
          have c16 : wr.cell? ⟨g3, t - 16, none⟩ = some (U (sch f (t - 16))) := by rw [hrw.cell, arr_get _ (by omega), sft_lt f (by omega)]
          go_wp2
          go_quiet (fail)
          go_wp2_with (go_at_call 172; refine (turned_at _ _ (by decide) (by decide) _).mono ?_; rintro e w' ⟨rfl, rfl⟩)
          have cc := hrw.cell t
          rw [arr_get _ (by omega)] at cc
          have cf := hrw.free t
          go_region
          go_wp2
          go_roundw
          case rel =>
            repeat apply Exists.intro
            apply And.intro ?ra ?rb
            case rb => exact rfl
            case ra => exact ⟨t + 1, by omega, by omega, by go_num, by rw [← sft_step f t, ← arr_set, sch_hi f t h16]; exact (hrw.drewN _).put _ _, (hrw2.drewN _).far q23 _, (below_drewN hbl _).setCell q3 _⟩
          case measure => simp [intOf]; omega
        · obtain rfl : t = 64 := by omega
          go_wp2_with (first
            | (refine step_load rfl 71 rfl 219 _ rfl _ rfl (arr 64 (sft f 64)) _ hrw.all Tryz.underlying219 rfl (by rw [arr_len]; exact i51) ?_)
            | (refine step_store rfl 219 _ _ rfl g2 rfl _ (arr 64 (fun _ => 0)) (arr 64 (sft f 64)) rfl hrw2 (by rw [arr_len, arr_len]) (by rw [arr_len]; exact i51) (arr_one _ _) ?_; intro w5 hr5 hg5 hs5))
          refine bodyPost_ret (results_cell_row rfl _ _ g2 _ _ _ _ rfl hr5 Tryz.underlying219 rfl (by simpa [arr_len] using i51.out)) rfl ?_
          exact ⟨by rw [arr_congr (fun j hj => (sft_lt f hj).symm)], hbl.grown hg5 hbl.size (fun k hk => by injection hk with hk; omega)⟩
end Go.Proofs.YtpocccnhibjjcaaGreatDoor
/- What a block makes of eight words: for every block and all words. Condition: the listed constants. -/
set_option linter.unusedVariables false
namespace Go.Proofs.YtpocccnhibjjcaaGreatDoor
open Go.RowKit

structure Tabs (w : World) : Prop where
  h : w.rangeAt 0 0 (arr 8 h0.at)
  k : w.rangeAt 1 0 (arr 64 kk)
theorem Tabs.below {w w' : World} (h : Tabs w) (hb : Below w.heap.size w w') : Tabs w' :=
  ⟨fun j v hv => (hb.cell (World.block_lt_of_cell? w _ (h.h j v hv))).trans (h.h j v hv), fun j v hv => (hb.cell (World.block_lt_of_cell? w _ (h.k j v hv))).trans (h.k j v hv)⟩
theorem Tabs.kc {w : World} (h : Tabs w) {j : Nat} (hj : j < 64) : w.cell? ⟨1, j, none⟩ = some (U (kk j)) := by
  have := h.k j _ (arr_get kk hj)
  rwa [Nat.zero_add] at this

set_option maxRecDepth 20000 in
set_option maxHeartbeats 1000000 in
theorem change_any (s : S8) (f : Nat → UInt8) (w : World) (hT : Tabs w) : Calls Tryz.prog 156 #[.agg (arr 8 s.at).toArray, .agg (brr 64 f).toArray] w fun e w' => e = .returned (.agg (arr 8 (cmp s f).at).toArray) ∧ Below w.heap.size w w' := by
  have hz := Lib.hid (p := ∀ w : World, (zeroValue 219).run Tryz.prog w = .ok (.agg (arr 64 (fun _ => 0)).toArray) w) fun w => by kernel_rfl
  have hz8 := Lib.hid (p := ∀ w : World, (zeroValue 203).run Tryz.prog w = .ok (.agg (arr 8 (fun _ => 0)).toArray) w) fun w => by kernel_rfl
  have i42 := Lib.hid (p := (Tryz.prog.info? 203).map (·.size) = some 8) (by kernel_rfl)
  have i43 := Lib.hid (p := (Tryz.prog.info? 204).map (·.size) = some 64) (by kernel_rfl)
  have i51 := Lib.hid (p := (Tryz.prog.info? 219).map (·.size) = some 64) (by kernel_rfl)
  go_enter Tryz.func156, Tryz.ntmps156
  go_wp2_with (first
    | (refine step_box rfl 2 rfl 203 _ rfl (arr 8 s.at) rfl ?_; intro g1 w1 hr1 hg1 hb1 hs1)
    | (refine step_box rfl 3 rfl 204 _ rfl (brr 64 f) rfl ?_; intro g2 w2 hr2 hg2 hb2 hs2)
    | (refine step_alloc rfl 4 rfl 203 rfl _ hz8 ?_; intro g3 w3 hr3 hg3 hb3 hs3)
    | (refine step_load rfl 19 rfl 204 _ rfl _ rfl (brr 64 f) _ (hr2.kept hb3).all Tryz.underlying204 rfl (by rw [brr_len]; exact i43) ?_)
    | (go_at_call 171; refine (spread_any f _).mono ?_; rintro e w4 ⟨rfl, hb4⟩)
    | (refine step_alloc rfl 5 rfl 219 rfl _ hz ?_; intro g5 w5 hr5 hg5 hb5 hs5)
    | (refine step_store rfl 219 _ _ rfl g5 rfl _ _ (arr 64 (sch f)) rfl hr5 (by rw [arr_len, arr_len]) (by rw [arr_len]; exact i51) (arr_one _ _) ?_; intro w6 hr6 hg6 hs6))
  have hbA : Below w.heap.size w w4 := ((hb1.trans (hb2.mono hb1.size)).trans (hb3.mono (Nat.le_trans hb1.size hb2.size))).trans (hb4.mono (Nat.le_trans (Nat.le_trans hb1.size hb2.size) hb3.size))
  have hbB : Below w.heap.size w w5 := hbA.trans (hb5.mono hbA.size)
  have q5 : w.heap.size ≤ g5 := by rw [hg5.out]; exact hbA.size
  have hb6 : Below w.heap.size w w6 := hbB.grown hg6 hbB.size (fun k hk => by injection hk with hk; omega)
  have l1 := hr1.lt
  have l2 := hr2.lt
  have l3 := hr3.lt
  have q1 : w.heap.size ≤ g1 := by rw [hg1.out]; exact Nat.le_refl _
  have q3 : w.heap.size ≤ g3 := by rw [hg3.out]; exact Nat.le_trans hb1.size hb2.size
  have n15 : g1 ≠ g5 := by have := hg5.out; have := hb2.size; have := hb3.size; have := hb4.size; omega
  have n35 : g3 ≠ g5 := by have := hg5.out; have := hb4.size; omega
  have n13 : g1 ≠ g3 := by have := hg3.out; have := hb2.size; omega
  have r1 : Row w6 g1 203 (arr 8 s.at) := ((((hr1.kept hb2).kept hb3).kept hb4).kept hb5).grown hg6 (fun e => by injection e with e; exact n15 e)
  have r3 : Row w6 g3 203 (arr 8 (fun _ => 0)) := ((hr3.kept hb4).kept hb5).grown hg6 (fun e => by injection e with e; exact n35 e)
  have hT6 := hT.below hb6
  clear hr1 hr2 hr3 hr5 hb1 hb2 hb3 hb4 hb5 hg1 hg2 hg3 hg5 hg6 hs1 hs2 hs3 hs5 hs6 hbA hbB l1 l2 l3 hz hz8 i43 n15 n35
  have a0 : w6.cell? ⟨g1, 0, none⟩ = some (U s.a) := by rw [r1.cell, arr_get _ (by omega)]; rfl
  have a1 : w6.cell? ⟨g1, 1, none⟩ = some (U s.b) := by rw [r1.cell, arr_get _ (by omega)]; rfl
  have a2 : w6.cell? ⟨g1, 2, none⟩ = some (U s.c) := by rw [r1.cell, arr_get _ (by omega)]; rfl
  have a3 : w6.cell? ⟨g1, 3, none⟩ = some (U s.d) := by rw [r1.cell, arr_get _ (by omega)]; rfl
  have a4 : w6.cell? ⟨g1, 4, none⟩ = some (U s.e) := by rw [r1.cell, arr_get _ (by omega)]; rfl
  have a5 : w6.cell? ⟨g1, 5, none⟩ = some (U s.f) := by rw [r1.cell, arr_get _ (by omega)]; rfl
  have a6 : w6.cell? ⟨g1, 6, none⟩ = some (U s.g) := by rw [r1.cell, arr_get _ (by omega)]; rfl
  have a7 : w6.cell? ⟨g1, 7, none⟩ = some (U s.h) := by rw [r1.cell, arr_get _ (by omega)]; rfl
  go_frame
  go_quiet (fail)
  go_wp2
  go_quiet (fail)
  go_wp2
  go_loopw [6, 7, 8, 9, 10, 11, 12, 13, 37] (fun va vb vc vd ve vf vg vh i wr => ∃ k : Nat, k ≤ 64 ∧ va = U (rnds s (sch f) k).a ∧ vb = U (rnds s (sch f) k).b ∧ vc = U (rnds s (sch f) k).c ∧ vd = U (rnds s (sch f) k).d ∧ ve = U (rnds s (sch f) k).e ∧ vf = U (rnds s (sch f) k).f ∧ vg = U (rnds s (sch f) k).g ∧ vh = U (rnds s (sch f) k).h ∧ i = .int .i64 k ∧
    Row wr g1 203 (arr 8 s.at) ∧ Row wr g3 203 (arr 8 (fun _ => 0)) ∧ Row wr g5 219 (arr 64 (sch f)) ∧ Tabs wr ∧ Below w.heap.size w wr) (fun _ _ _ _ _ _ _ _ i _ => 64 - (intOf i).toNat)
  case atStart => exact ⟨0, by omega, rfl, rfl, rfl, rfl, rfl, rfl, rfl, rfl, rfl, r1, r3, hr6, ⟨hT6.h, hT6.k⟩, below_drewN (below_drewN hb6 _) _⟩
  case round =>
    obtain ⟨k, hk, rfl, rfl, rfl, rfl, rfl, rfl, rfl, rfl, rfl, p1, p3, p5, pT, pb⟩ := hrel
    clear r1 r3 hr6 hT6 hb6 a0 a1 a2 a3 a4 a5 a6 a7 hT
    by_cases hlt : k < 64
    · have ck := pT.kc hlt
      have cw : wr.cell? ⟨g5, k, none⟩ = some (U (sch f k)) := by rw [p5.cell, arr_get _ hlt]
      have hkp : (k : Int) < 64 := by omega
      obtain ⟨r, hr⟩ : ∃ r, r = rnds s (sch f) k := ⟨_, rfl⟩
      have hR : Hid (rnds s (sch f) (k + 1) = rnd r (kk k) (sch f k)) := by rw [hr]; rfl
      rw [← hr]
      clear hr
      go_wp2
      go_quiet ((go_at_call 172; refine Calls.quiet_of_same (turned_at _ _ (by decide) (by decide) _)))
      go_wp2_with (go_at_call 172; refine (turned_at _ _ (by decide) (by decide) _).mono ?_; rintro e w' ⟨rfl, rfl⟩)
      go_roundw
      case rel =>
        have e := hR.out
        refine ⟨k + 1, by omega, ?_, ?_, ?_, ?_, ?_, ?_, ?_, ?_, by go_num, p1.drewN _, p3.drewN _, p5.drewN _, ⟨pT.h, pT.k⟩, below_drewN pb _⟩
        all_goals (rw [e]; rfl)
      case measure => simp [intOf]; omega
    · obtain rfl : k = 64 := by omega
      obtain ⟨r, hr⟩ : ∃ r, r = rnds s (sch f) 64 := ⟨_, rfl⟩
      have hC : Hid (cmp s f = s.plus r) := by rw [hr]; rfl
      rw [← hr]
      clear hr
      go_wp2
      obtain ⟨wo, rfl⟩ : ∃ wo : World, wo = wr := ⟨_, rfl⟩
      go_loopw [109] (fun i wr => ∃ k : Nat, k ≤ 8 ∧ i = .int .i64 k ∧ Row wr g1 203 (arr 8 (mix s r k)) ∧ Row wr g3 203 (arr 8 (fun _ => 0)) ∧ Below w.heap.size w wr) (fun i _ => 8 - (intOf i).toNat)
      case atStart => exact ⟨0, by omega, rfl, by rw [mix_zero]; exact p1, p3, pb⟩
      case round =>
        obtain ⟨k, hk8, rfl, m1, m3, mb⟩ := hrel
        clear p1 p3 p5 pT pb
        by_cases hlt : k < 8
        · have c1 : wr.cell? ⟨g1, k, none⟩ = some (U (s.at k)) := by rw [m1.cell, arr_get _ hlt, mix_at]
          have hfr := m1.free k
          have hix := fun w => run_index_arr (P := Tryz.prog) w 203 44 8 r.at k hlt Tryz.underlying203 Tryz.underlying44 (by kernel_rfl)
          rw [arr8] at hix
          go_wp2
          go_roundw
          case rel => exact ⟨k + 1, by omega, by go_num, by rw [← mix_step s r k hlt, ← arr_set]; exact m1.put _ _, m3.far (Ne.symm n13) _, mb.setCell q1 _⟩
          case measure => simp [intOf]; omega
        · obtain rfl : k = 8 := by omega
          go_wp2_with (first
            | (refine step_load rfl 120 rfl 203 _ rfl _ rfl (arr 8 (mix s r 8)) _ m1.all Tryz.underlying203 rfl (by rw [arr_len]; exact i42) ?_)
            | (refine step_store rfl 203 _ _ rfl g3 rfl _ (arr 8 (fun _ => 0)) (arr 8 (mix s r 8)) rfl m3 (by rw [arr_len, arr_len]) (by rw [arr_len]; exact i42) (arr_one _ _) ?_; intro w5 hr5 hg5 hs5))
          refine bodyPost_ret (results_cell_row rfl _ _ g3 _ _ _ _ rfl hr5 Tryz.underlying203 rfl (by simpa [arr_len] using i42.out)) rfl ?_
          exact ⟨by rw [mix_full, hC.out], mb.grown hg5 mb.size (fun k hk => by injection hk with hk; omega)⟩
end Go.Proofs.YtpocccnhibjjcaaGreatDoor
/- Plain facts: a set of places as words of 64 bits; its least place, how many it has, and what one operation makes of a word. No program is in sight here, and no conditions. -/
set_option linter.unusedVariables false
namespace Go.Proofs.YtpocccnhibjjcaaGreatDoor.S8

def num : Nat → (Nat → Bool) → Nat
  | 0, _ => 0
  | n + 1, f => (f 0).toNat + 2 * num n (fun j => f (j + 1))
def cnt : Nat → (Nat → Bool) → Nat
  | 0, _ => 0
  | n + 1, f => cnt n f + (f n).toNat
def put (f : Nat → Bool) (i : Nat) (b : Bool) : Nat → Bool := fun j => if j = i then b else f j
def wv (S : Nat → Bool) (w : Nat) : Nat := num 64 (fun j => S (64 * w + j))

theorem bool_le (b : Bool) : b.toNat ≤ 1 := by cases b <;> decide
theorem num_lt : ∀ n f, num n f < 2 ^ n
  | 0, f => by simp [num]
  | n + 1, f => by
    have h := num_lt n (fun j => f (j + 1))
    have hb := bool_le (f 0)
    rw [num, Nat.pow_succ]
    omega
theorem num_congr : ∀ n {f g : Nat → Bool}, (∀ j, j < n → f j = g j) → num n f = num n g
  | 0, f, g, _ => rfl
  | n + 1, f, g, h => by rw [num, num, h 0 (by omega), num_congr n (fun j hj => h (j + 1) (by omega))]
theorem num_bit : ∀ n f j, (num n f).testBit j = (decide (j < n) && f j)
  | 0, f, j => by simp [num]
  | n + 1, f, 0 => by
    rw [num, Nat.testBit_zero]
    cases f 0 <;> simp <;> omega
  | n + 1, f, j + 1 => by
    rw [num, Nat.testBit_succ]
    have hb := bool_le (f 0)
    rw [show ((f 0).toNat + 2 * num n fun j => f (j + 1)) / 2 = num n fun j => f (j + 1) by omega, num_bit n _ j]
    simp
theorem num_zero : ∀ n {f : Nat → Bool}, (∀ j, j < n → f j = false) → num n f = 0
  | 0, f, _ => rfl
  | n + 1, f, h => by rw [num, h 0 (by omega), num_zero n (fun j hj => h (j + 1) (by omega))]; rfl
theorem num_zero_iff {n : Nat} {f : Nat → Bool} : num n f = 0 ↔ ∀ j, j < n → f j = false := by
  refine ⟨fun h j hj => ?_, num_zero n⟩
  have := num_bit n f j
  rw [h] at this
  simpa [hj] using this.symm
theorem num_or {n i : Nat} (h : i < n) (f : Nat → Bool) : num n f ||| 2 ^ i = num n (put f i true) := by
  apply Nat.eq_of_testBit_eq
  intro j
  rw [Nat.testBit_or, num_bit, num_bit, Nat.testBit_two_pow]
  unfold put
  by_cases e : j = i
  · subst e
    simp [h]
  · rw [if_neg e]
    simp [Ne.symm e]
theorem num_and {n i : Nat} (h : i < n) (f : Nat → Bool) : num n f &&& 2 ^ i = if f i then 2 ^ i else 0 := by
  apply Nat.eq_of_testBit_eq
  intro j
  rw [Nat.testBit_and, num_bit, Nat.testBit_two_pow]
  by_cases e : j = i
  · subst e
    cases f j <;> simp [h]
  · cases f i <;> simp [Ne.symm e]
theorem pow64_lt {i : Nat} (h : i < 64) : 2 ^ i < 18446744073709551616 := by
  have := Nat.pow_lt_pow_right (a := 2) (by decide) h
  simpa using this
theorem num64_lt (f : Nat → Bool) : num 64 f < 18446744073709551616 := num_lt 64 f
theorem num_sub {i : Nat} (h : i < 64) (f : Nat → Bool) : bits .andNot .u64 (num 64 f : Nat) (2 ^ i : Nat) = (num 64 (put f i false) : Int) := by
  have hx := num64_lt f
  have hp := pow64_lt h
  have h1 : (BitVec.ofInt 64 ((num 64 f : Nat) : Int)).toNat = num 64 f := by
    rw [BitVec.ofInt_natCast, BitVec.toNat_ofNat]; exact Nat.mod_eq_of_lt (by simpa using hx)
  have h2 : (BitVec.ofInt 64 ((2 ^ i : Nat) : Int)).toNat = 2 ^ i := by
    rw [BitVec.ofInt_natCast, BitVec.toNat_ofNat]; exact Nat.mod_eq_of_lt (by simpa using hp)
  have h3 : (BitVec.ofInt 64 ((num 64 f : Nat) : Int) &&& ~~~ BitVec.ofInt 64 ((2 ^ i : Nat) : Int)).toNat = num 64 (put f i false) := by
    apply Nat.eq_of_testBit_eq
    intro j
    rw [BitVec.testBit_toNat, BitVec.getLsbD_and, BitVec.getLsbD_not, ← BitVec.testBit_toNat, ← BitVec.testBit_toNat, h1, h2, num_bit, num_bit, Nat.testBit_two_pow]
    unfold put
    by_cases e : j = i
    · subst e
      simp
    · rw [if_neg e]
      by_cases hj : j < 64 <;> simp [Ne.symm e, hj]
  show IntKind.u64.wrap ((BitVec.ofInt 64 ((num 64 f : Nat) : Int) &&& ~~~ BitVec.ofInt 64 ((2 ^ i : Nat) : Int)).toNat : Int) = _
  rw [h3, IntKind.wrap_u64]
  have := num64_lt (put f i false)
  omega

theorem ctz_succ (n x : Nat) (h : x ≠ 0) : Lib.ctz (n + 1) (2 * x) = Lib.ctz n x + 1 := by
  unfold Lib.ctz
  rw [if_neg (by omega), if_neg h, Lib.ctzFrom, if_neg (by omega), show 2 * x / 2 = x by omega]
  omega
theorem and_odd (y z : Nat) : (2 * y) &&& (2 * z + 1) = 2 * (y &&& z) := by
  apply Nat.eq_of_testBit_eq
  intro j
  cases j with
  | zero => simp [Nat.testBit_zero]
  | succ j =>
    rw [Nat.testBit_and, Nat.testBit_succ, Nat.testBit_succ, Nat.testBit_succ, show 2 * y / 2 = y by omega, show (2 * z + 1) / 2 = z by omega, show 2 * (y &&& z) / 2 = y &&& z by omega, Nat.testBit_and]
theorem and_even (y : Nat) : (1 + 2 * y) &&& (2 * y) = 2 * y := by
  apply Nat.eq_of_testBit_eq
  intro j
  cases j with
  | zero => simp [Nat.testBit_zero]
  | succ j =>
    rw [Nat.testBit_and, Nat.testBit_succ, Nat.testBit_succ, show (1 + 2 * y) / 2 = y by omega, show 2 * y / 2 = y by omega]
    simp
theorem low : ∀ (n : Nat) (f : Nat → Bool), num n f ≠ 0 → ∃ k, k < n ∧ f k = true ∧ (∀ i, i < k → f i = false) ∧ Lib.ctz n (num n f) = k ∧ num n f &&& (num n f - 1) = num n (fun j => decide (k < j) && f j)
  | 0, f, h => absurd rfl h
  | n + 1, f, h => by
    cases h0 : f 0 with
    | true =>
      refine ⟨0, by omega, h0, fun i hi => absurd hi (Nat.not_lt_zero _), ?_, ?_⟩
      · unfold Lib.ctz
        rw [if_neg h, Lib.ctzFrom, if_pos (by rw [num, h0]; simp)]
      · have e : num (n + 1) f = 1 + 2 * num n (fun j => f (j + 1)) := by rw [num, h0]; rfl
        rw [e, show 1 + 2 * num n (fun j => f (j + 1)) - 1 = 2 * num n (fun j => f (j + 1)) by omega, and_even, num]
        simp
    | false =>
      have e : num (n + 1) f = 2 * num n (fun j => f (j + 1)) := by rw [num, h0]; simp
      have hy : num n (fun j => f (j + 1)) ≠ 0 := fun h1 => h (by rw [e, h1])
      obtain ⟨k, h1, h2, h3, h4, h5⟩ := low n _ hy
      refine ⟨k + 1, by omega, h2, fun i hi => ?_, ?_, ?_⟩
      · cases i with
        | zero => exact h0
        | succ i => exact h3 i (by omega)
      · rw [e, ctz_succ _ _ hy, h4]
      · rw [e, show 2 * num n (fun j => f (j + 1)) - 1 = 2 * (num n (fun j => f (j + 1)) - 1) + 1 by omega, and_odd, h5, num]
        simp

theorem cnt_congr : ∀ n {f g : Nat → Bool}, (∀ j, j < n → f j = g j) → cnt n f = cnt n g
  | 0, f, g, _ => rfl
  | n + 1, f, g, h => by rw [cnt, cnt, h n (by omega), cnt_congr n (fun j hj => h j (by omega))]
theorem cnt_add (f : Nat → Bool) (a : Nat) : ∀ b, cnt (a + b) f = cnt a f + cnt b (fun j => f (a + j))
  | 0 => rfl
  | b + 1 => by rw [show a + (b + 1) = (a + b) + 1 from rfl, cnt, cnt_add f a b, cnt]; omega
theorem cnt_le : ∀ n f, cnt n f ≤ n
  | 0, _ => Nat.le_refl _
  | n + 1, f => by have := cnt_le n f; have := bool_le (f n); rw [cnt]; omega
theorem num_split (f : Nat → Bool) : ∀ a b, num (a + b) f = num a f + 2 ^ a * num b (fun j => f (a + j))
  | 0, b => by simp [num]
  | a + 1, b => by
    have e := num_split (fun j => f (j + 1)) a b
    rw [show a + 1 + b = (a + b) + 1 by omega, num, e, num, Nat.pow_succ]
    have : (fun j => f (a + 1 + j)) = (fun j => f (a + j + 1)) := by funext j; rw [show a + 1 + j = a + j + 1 by omega]
    rw [this, Nat.mul_add, ← Nat.mul_assoc, Nat.mul_comm 2 (2 ^ a)]
    omega

theorem and_split (a b x y : Nat) (ha : a < 256) (hb : b < 256) : (a + 256 * x) &&& (b + 256 * y) = (a &&& b) + 256 * (x &&& y) := by
  have h1 := Nat.and_mod_two_pow (a := a + 256 * x) (b := b + 256 * y) (n := 8)
  have h2 := Nat.and_div_two_pow (a := a + 256 * x) (b := b + 256 * y) (n := 8)
  rw [show (2 : Nat) ^ 8 = 256 by decide] at h1 h2
  rw [show (a + 256 * x) % 256 = a by omega, show (b + 256 * y) % 256 = b by omega] at h1
  rw [show (a + 256 * x) / 256 = x by omega, show (b + 256 * y) / 256 = y by omega] at h2
  omega
def val : List Nat → Nat
  | [] => 0
  | c :: t => c + 256 * val t
def st1 (c : Nat) : Nat := (c / 2 &&& 85) + (c &&& 85)
def st2 (c : Nat) : Nat := (c / 4 &&& 51) + (c &&& 51)
def st3 (c : Nat) : Nat := (c / 16 + c) % 16
theorem all_lt (n : Nat) (p : Nat → Bool) (h : (List.range n).all p = true) : ∀ c, c < n → p c = true := fun c hc => List.all_eq_true.1 h c (List.mem_range.2 hc)
theorem f1 : ∀ c, c < 256 → st1 c < 256 ∧ ∀ r, r < 2 → (c / 2 + 128 * r) &&& 85 = c / 2 &&& 85 := by
  have h := all_lt 256 (fun c => decide (st1 c < 256) && decide ((c / 2 + 128 * 1) &&& 85 = c / 2 &&& 85)) (by decide +kernel)
  intro c hc
  have := h c hc
  simp only [Bool.and_eq_true, decide_eq_true_eq] at this
  refine ⟨this.1, fun r hr => ?_⟩
  match r, hr with
  | 0, _ => simp
  | 1, _ => exact this.2
theorem f2 : ∀ c, c < 256 → st2 c ≤ 255 ∧ ∀ r, r < 4 → (c / 4 + 64 * r) &&& 51 = c / 4 &&& 51 := by
  have h := all_lt 256 (fun c => decide (st2 c ≤ 255) && decide ((c / 4 + 64 * 1) &&& 51 = c / 4 &&& 51) && decide ((c / 4 + 64 * 2) &&& 51 = c / 4 &&& 51) && decide ((c / 4 + 64 * 3) &&& 51 = c / 4 &&& 51)) (by decide +kernel)
  intro c hc
  have := h c hc
  simp only [Bool.and_eq_true, decide_eq_true_eq] at this
  obtain ⟨⟨⟨h1, h2⟩, h3⟩, h4⟩ := this
  refine ⟨h1, fun r hr => ?_⟩
  match r, hr with
  | 0, _ => simp
  | 1, _ => exact h2
  | 2, _ => exact h3
  | 3, _ => exact h4
theorem f3 : ∀ c, c < 256 → st2 (st1 c) ≤ 68 ∧ st2 (st1 c) % 16 ≤ 4 ∧ st3 (st2 (st1 c)) ≤ 8 := by
  have h := all_lt 256 (fun c => decide (st2 (st1 c) ≤ 68) && decide (st2 (st1 c) % 16 ≤ 4) && decide (st3 (st2 (st1 c)) ≤ 8)) (by decide +kernel)
  intro c hc
  have := h c hc
  simp only [Bool.and_eq_true, decide_eq_true_eq] at this
  exact ⟨this.1.1, this.1.2, this.2⟩
theorem a1 : ∀ l : List Nat, (∀ c ∈ l, c < 256) → (val l / 2 &&& val (l.map fun _ => 85)) + (val l &&& val (l.map fun _ => 85)) = val (l.map st1)
  | [], _ => rfl
  | c :: t, h => by
    have hc := h c (by simp)
    have ih := a1 t (fun d hd => h d (by simp [hd]))
    have e := (f1 c hc).2 (val t % 2) (by omega)
    simp only [List.map_cons, val]
    rw [show (c + 256 * val t) / 2 = (c / 2 + 128 * (val t % 2)) + 256 * (val t / 2) by omega, and_split _ _ _ _ (by omega) (by omega), and_split _ _ _ _ hc (by omega), e, ← ih]
    unfold st1
    omega
theorem a2 : ∀ l : List Nat, (∀ c ∈ l, c < 256) → (val l / 4 &&& val (l.map fun _ => 51)) + (val l &&& val (l.map fun _ => 51)) = val (l.map st2)
  | [], _ => rfl
  | c :: t, h => by
    have hc := h c (by simp)
    have ih := a2 t (fun d hd => h d (by simp [hd]))
    have e := (f2 c hc).2 (val t % 4) (by omega)
    simp only [List.map_cons, val]
    rw [show (c + 256 * val t) / 4 = (c / 4 + 64 * (val t % 4)) + 256 * (val t / 4) by omega, and_split _ _ _ _ (by omega) (by omega), and_split _ _ _ _ hc (by omega), e, ← ih]
    unfold st2
    omega
theorem head4 : ∀ l : List Nat, (∀ c ∈ l, c ≤ 68 ∧ c % 16 ≤ 4) → val l % 16 ≤ 4
  | [], _ => by simp [val]
  | c :: t, h => by have := h c (by simp); simp only [val]; omega
theorem a3 : ∀ l : List Nat, (∀ c ∈ l, c ≤ 68 ∧ c % 16 ≤ 4) → (val l / 16 + val l) &&& val (l.map fun _ => 15) = val (l.map st3)
  | [], _ => rfl
  | c :: t, h => by
    have hc := h c (by simp)
    have ht := head4 t (fun d hd => h d (by simp [hd]))
    have ih := a3 t (fun d hd => h d (by simp [hd]))
    simp only [List.map_cons, val]
    rw [show (c + 256 * val t) / 16 + (c + 256 * val t) = (c / 16 + 16 * (val t % 16) + c) + 256 * (val t / 16 + val t) by omega, and_split _ _ _ _ (by omega) (by omega), ih,
      show (15 : Nat) = 2 ^ 4 - 1 by decide, Nat.and_two_pow_sub_one_eq_mod]
    unfold st3
    omega
theorem a3_lt (l : List Nat) (h : ∀ c ∈ l, c ≤ 68 ∧ c % 16 ≤ 4) (hl : l.length = 8) : val l / 16 + val l < 18446744073709551616 := by
  match l, hl with
  | [c0, c1, c2, c3, c4, c5, c6, c7], _ =>
    have h0 := h c0 (by simp); have h1 := h c1 (by simp); have h2 := h c2 (by simp); have h3 := h c3 (by simp)
    have h4 := h c4 (by simp); have h5 := h c5 (by simp); have h6 := h c6 (by simp); have h7 := h c7 (by simp)
    simp only [val]
    omega
theorem val_lt : ∀ l : List Nat, (∀ c ∈ l, c < 256) → val l < 256 ^ l.length
  | [], _ => by simp [val]
  | c :: t, h => by
    have := h c (by simp)
    have := val_lt t (fun d hd => h d (by simp [hd]))
    simp only [val, List.length_cons, Nat.pow_succ]
    omega
theorem sums (d0 d1 d2 d3 d4 d5 d6 d7 : Nat) (h0 : d0 ≤ 8) (h1 : d1 ≤ 8) (h2 : d2 ≤ 8) (h3 : d3 ≤ 8) (h4 : d4 ≤ 8) (h5 : d5 ≤ 8) (h6 : d6 ≤ 8) (h7 : d7 ≤ 8) :
    ∃ x4 x5 x6, val [d0, d1, d2, d3, d4, d5, d6, d7] + val [d0, d1, d2, d3, d4, d5, d6, d7] / 256 = x4 ∧ x4 < 18446744073709551616 ∧ x4 + x4 / 65536 = x5 ∧ x5 < 18446744073709551616 ∧ x5 + x5 / 4294967296 = x6 ∧ x6 < 9223372036854775808 ∧ x6 % 128 = d0 + d1 + d2 + d3 + d4 + d5 + d6 + d7 := by
  have e1 : val [d0, d1, d2, d3, d4, d5, d6, d7] / 256 = val [d1, d2, d3, d4, d5, d6, d7] := by simp only [val]; omega
  have e2 : val [d0, d1, d2, d3, d4, d5, d6, d7] + val [d1, d2, d3, d4, d5, d6, d7] = val [d0 + d1, d1 + d2, d2 + d3, d3 + d4, d4 + d5, d5 + d6, d6 + d7, d7] := by simp only [val]; omega
  have e3 : val [d0 + d1, d1 + d2, d2 + d3, d3 + d4, d4 + d5, d5 + d6, d6 + d7, d7] / 65536 = val [d2 + d3, d3 + d4, d4 + d5, d5 + d6, d6 + d7, d7] := by simp only [val]; omega
  have e4 : val [d0 + d1, d1 + d2, d2 + d3, d3 + d4, d4 + d5, d5 + d6, d6 + d7, d7] + val [d2 + d3, d3 + d4, d4 + d5, d5 + d6, d6 + d7, d7] = val [d0 + d1 + d2 + d3, d1 + d2 + d3 + d4, d2 + d3 + d4 + d5, d3 + d4 + d5 + d6, d4 + d5 + d6 + d7, d5 + d6 + d7, d6 + d7, d7] := by simp only [val]; omega
  have e5 : val [d0 + d1 + d2 + d3, d1 + d2 + d3 + d4, d2 + d3 + d4 + d5, d3 + d4 + d5 + d6, d4 + d5 + d6 + d7, d5 + d6 + d7, d6 + d7, d7] / 4294967296 = val [d4 + d5 + d6 + d7, d5 + d6 + d7, d6 + d7, d7] := by simp only [val]; omega
  refine ⟨_, _, _, rfl, ?_, rfl, ?_, rfl, ?_, ?_⟩
  · rw [e1, e2]; simp only [val]; omega
  · rw [e1, e2, e3, e4]; simp only [val]; omega
  · rw [e1, e2, e3, e4, e5]; simp only [val]; omega
  · rw [e1, e2, e3, e4, e5]
    show (d0 + d1 + d2 + d3 + 256 * val [d1 + d2 + d3 + d4, d2 + d3 + d4 + d5, d3 + d4 + d5 + d6, d4 + d5 + d6 + d7, d5 + d6 + d7, d6 + d7, d7] + (d4 + d5 + d6 + d7 + 256 * val [d5 + d6 + d7, d6 + d7, d7])) % 128 = _
    generalize val [d1 + d2 + d3 + d4, d2 + d3 + d4 + d5, d3 + d4 + d5 + d6, d4 + d5 + d6 + d7, d5 + d6 + d7, d6 + d7, d7] = A
    generalize val [d5 + d6 + d7, d6 + d7, d7] = B
    clear e1 e2 e3 e4 e5
    omega
theorem pop8 (f : Nat → Bool) : num 8 f < 256 ∧ st3 (st2 (st1 (num 8 f))) = cnt 8 f := by
  refine ⟨num_lt 8 f, ?_⟩
  simp only [num, cnt, Nat.zero_add]
  generalize f 0 = b0
  generalize f 1 = b1
  generalize f 2 = b2
  generalize f 3 = b3
  generalize f 4 = b4
  generalize f 5 = b5
  generalize f 6 = b6
  generalize f 7 = b7
  revert b0 b1 b2 b3 b4 b5 b6 b7
  decide +kernel
theorem and_i64_127 (x : Nat) (hx : x < 9223372036854775808) : bits .and .i64 (x : Int) 127 = ((x % 128 : Nat) : Int) := by
  have h1 : (BitVec.ofInt 64 (x : Int)).toNat = x := by
    rw [BitVec.ofInt_natCast, BitVec.toNat_ofNat]; exact Nat.mod_eq_of_lt (by omega)
  have h2 : (BitVec.ofInt 64 (127 : Int)).toNat = 2 ^ 7 - 1 := by decide
  show IntKind.i64.wrap ((BitVec.ofInt 64 (x : Int) &&& BitVec.ofInt 64 (127 : Int)).toNat : Int) = _
  rw [BitVec.toNat_and, h1, h2, Nat.and_two_pow_sub_one_eq_mod, IntKind.wrap_i64]
  omega
theorem pop64 (f : Nat → Bool) : ∃ x1 x2 x3 x4 x5 x6 : Nat,
    (num 64 f / 2 &&& 6148914691236517205) + (num 64 f &&& 6148914691236517205) = x1 ∧ x1 < 18446744073709551616 ∧
    (x1 / 4 &&& 3689348814741910323) + (x1 &&& 3689348814741910323) = x2 ∧ x2 < 18446744073709551616 ∧
    x2 / 16 + x2 < 18446744073709551616 ∧ (x2 / 16 + x2) &&& 1085102592571150095 = x3 ∧ x3 < 18446744073709551616 ∧
    x3 + x3 / 256 = x4 ∧ x4 < 18446744073709551616 ∧ x4 + x4 / 65536 = x5 ∧ x5 < 18446744073709551616 ∧ x5 + x5 / 4294967296 = x6 ∧ x6 < 9223372036854775808 ∧ x6 % 128 = cnt 64 f := by
  obtain ⟨g, hg⟩ : ∃ g : Nat → Nat → Bool, g = fun i j => f (8 * i + j) := ⟨_, rfl⟩
  have e : num 64 f = val ((List.range 8).map fun i => num 8 (g i)) := by
    have s1 := num_split f 8 56
    have s2 := num_split (fun j => f (8 + j)) 8 48
    have s3 := num_split (fun j => f (8 + (8 + j))) 8 40
    have s4 := num_split (fun j => f (8 + (8 + (8 + j)))) 8 32
    have s5 := num_split (fun j => f (8 + (8 + (8 + (8 + j))))) 8 24
    have s6 := num_split (fun j => f (8 + (8 + (8 + (8 + (8 + j)))))) 8 16
    have s7 := num_split (fun j => f (8 + (8 + (8 + (8 + (8 + (8 + j))))))) 8 8
    rw [s2, s3, s4, s5, s6, s7] at s1
    rw [show (64 : Nat) = 8 + 56 by decide, s1, hg]
    simp only [List.range, List.range.loop, List.map_cons, List.map_nil, val, Nat.mul_zero, Nat.add_zero, show (2 : Nat) ^ 8 = 256 by decide, ← Nat.add_assoc, Nat.reduceAdd, Nat.reduceMul, Nat.zero_add]
  have ec : cnt 64 f = cnt 8 (g 0) + cnt 8 (g 1) + cnt 8 (g 2) + cnt 8 (g 3) + cnt 8 (g 4) + cnt 8 (g 5) + cnt 8 (g 6) + cnt 8 (g 7) := by
    have s1 := cnt_add f 56 8
    have s2 := cnt_add f 48 8
    have s3 := cnt_add f 40 8
    have s4 := cnt_add f 32 8
    have s5 := cnt_add f 24 8
    have s6 := cnt_add f 16 8
    have s7 := cnt_add f 8 8
    rw [show (56 : Nat) = 48 + 8 by decide, s2, show (48 : Nat) = 40 + 8 by decide, s3, show (40 : Nat) = 32 + 8 by decide, s4, show (32 : Nat) = 24 + 8 by decide, s5, show (24 : Nat) = 16 + 8 by decide, s6, show (16 : Nat) = 8 + 8 by decide, s7] at s1
    rw [hg]
    simpa using s1
  obtain ⟨l, hl⟩ : ∃ l, l = (List.range 8).map fun i => num 8 (g i) := ⟨_, rfl⟩
  rw [← hl] at e
  have hl8 : l.length = 8 := by rw [hl]; simp
  have hb : ∀ c ∈ l, c < 256 := by
    intro c hc
    rw [hl] at hc
    obtain ⟨i, _, rfl⟩ := List.mem_map.1 hc
    exact (pop8 (g i)).1
  have hb1 : ∀ c ∈ l.map st1, c < 256 := by
    intro c hc
    obtain ⟨d, hd, rfl⟩ := List.mem_map.1 hc
    exact (f1 d (hb d hd)).1
  have hb2 : ∀ c ∈ (l.map st1).map st2, c ≤ 68 ∧ c % 16 ≤ 4 := by
    intro c hc
    rw [List.map_map] at hc
    obtain ⟨d, hd, rfl⟩ := List.mem_map.1 hc
    have := f3 d (hb d hd)
    exact ⟨this.1, this.2.1⟩
  have v1 := a1 l hb
  have v2 := a2 (l.map st1) hb1
  have v3 := a3 ((l.map st1).map st2) hb2
  have m1 : val (l.map fun _ => 85) = 6148914691236517205 := by rw [hl]; simp [List.range, List.range.loop, val]
  have m2 : val ((l.map st1).map fun _ => 51) = 3689348814741910323 := by rw [hl]; simp [List.range, List.range.loop, val]
  have m3 : val (((l.map st1).map st2).map fun _ => 15) = 1085102592571150095 := by rw [hl]; simp [List.range, List.range.loop, val]
  rw [m1, ← e] at v1
  rw [m2] at v2
  rw [m3] at v3
  have t1 := val_lt (l.map st1) hb1
  have t2 := val_lt ((l.map st1).map st2) (fun c hc => by have := (hb2 c hc).1; omega)
  have t3 := a3_lt ((l.map st1).map st2) hb2 (by simp [hl8])
  rw [show (256 : Nat) ^ ((l.map st1)).length = 18446744073709551616 by rw [List.length_map, hl8]] at t1
  rw [show (256 : Nat) ^ (((l.map st1).map st2)).length = 18446744073709551616 by rw [List.length_map, List.length_map, hl8]] at t2
  have e3 : ((l.map st1).map st2).map st3 = [cnt 8 (g 0), cnt 8 (g 1), cnt 8 (g 2), cnt 8 (g 3), cnt 8 (g 4), cnt 8 (g 5), cnt 8 (g 6), cnt 8 (g 7)] := by
    rw [hl]
    simp only [List.range, List.range.loop, List.map_cons, List.map_nil, (pop8 _).2]
  rw [e3] at v3
  have c8 : ∀ i, cnt 8 (g i) ≤ 8 := fun i => cnt_le 8 _
  obtain ⟨x4, x5, x6, k1, k2, k3, k4, k5, k6, k7⟩ := sums _ _ _ _ _ _ _ _ (c8 0) (c8 1) (c8 2) (c8 3) (c8 4) (c8 5) (c8 6) (c8 7)
  refine ⟨_, _, _, x4, x5, x6, v1, t1, v2, t2, t3, v3, ?_, k1, k2, k3, k4, k5, k6, by rw [k7, ec]⟩
  have := c8 0; have := c8 1; have := c8 2; have := c8 3; have := c8 4; have := c8 5; have := c8 6; have := c8 7
  simp only [val]
  omega
theorem wv_eq (S : Nat → Bool) (w : Nat) : wv S w = num 64 (fun j => S (64 * w + j)) := rfl
theorem cnt_zero (f : Nat → Bool) : cnt 0 f = 0 := rfl
theorem cnt_succ (n : Nat) (f : Nat → Bool) : cnt (n + 1) f = cnt n f + (f n).toNat := rfl
attribute [irreducible] num cnt wv
end Go.Proofs.YtpocccnhibjjcaaGreatDoor.S8
