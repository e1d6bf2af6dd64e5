/- Eight words as bytes: for all words. -/
import Derived.Test.YtibnmhaipogleaaDoorHash
set_option linter.unusedVariables false
set_option maxRecDepth 20000
namespace Go.Proofs.YtibnmhaipogleaaDoor
open Go.RowKit

/-- The bytes of eight words, and the first k of them. -/
def dig (s : S8) (i : Nat) : UInt8 := (shr (s.at (i / 4)) (8 * (3 - i % 4))).toUInt8
def dft (s : S8) (k j : Nat) : UInt8 := if j < k then dig s j else 0
theorem dft_zero (s : S8) : dft s 0 = fun _ => 0 := by
  funext j
  exact if_neg (by omega)
theorem dft_step (s : S8) (k : Nat) : upd (dft s k) k (dig s k) = dft s (k + 1) := by
  funext j
  unfold upd dft
  by_cases h : j = k
  · subst h
    simp
  · rw [if_neg h]
    by_cases h2 : j < k
    · rw [if_pos h2, if_pos (by omega)]
    · rw [if_neg h2, if_neg (by omega)]
theorem dft_full (s : S8) : brr 32 (dft s 32) = brr 32 (dig s) := brr_congr fun j hj => if_pos hj
theorem shr_zero (x : UInt32) : shr x 0 = x := by
  unfold shr
  simp
theorem zero_sum (w : World) : (zeroValue 24).run Tryd.prog w = .ok (.agg (brr 32 (fun _ => 0)).toArray) w := by kernel_rfl

theorem together_any (s : S8) (w : World) : Calls Tryd.prog 59 #[.agg (arr 8 s.at).toArray] w fun e w' => e = .returned (.agg (brr 32 (dig s)).toArray) ∧ Below w.heap.size w w' := by
  have i27 := Lib.hid (p := (Tryd.prog.info? 24).map (·.size) = some 32) (by kernel_rfl)
  have hz := Lib.hid zero_sum
  go_enter Tryd.func59, Tryd.ntmps59
  go_wp2_with (first
    | (refine step_box rfl 1 rfl 97 _ rfl (arr 8 s.at) rfl ?_; intro g1 w1 hr1 hg1 hb1 hs1)
    | (refine step_alloc rfl 2 rfl 24 rfl _ hz ?_; intro g2 w2 hr2 hg2 hb2 hs2)
    | (refine step_alloc rfl 3 rfl 24 rfl _ hz ?_; intro g3 w3 hr3 hg3 hb3 hs3))
  have hb : Below w.heap.size w w3 := (hb1.trans (hb2.mono hb1.size)).trans (hb3.mono (Nat.le_trans hb1.size hb2.size))
  have q2 : w.heap.size ≤ g2 := by rw [hg2.out]; exact hb1.size
  have q3 : w.heap.size ≤ g3 := by rw [hg3.out]; exact Nat.le_trans hb1.size hb2.size
  have q23 : g2 ≠ g3 := by have := hg2.out; have := hg3.out; have := hs2.out; omega
  have q13 : g1 ≠ g3 := by have := hg1.out; have := hg3.out; have := hs2.out; have := hs1.out; omega
  have r1 := (hr1.kept hb2).kept hb3
  have r2 := hr2.kept hb3
  clear hr1 hr2 hb1 hb2 hb3 hg1 hg2 hg3 hs1 hs2 hs3 hz
  go_loopw [5] (fun i wr => ∃ k : Nat, k ≤ 32 ∧ i = .int .i64 k ∧ Row wr g1 97 (arr 8 s.at) ∧ Row wr g2 24 (brr 32 (fun _ => 0)) ∧ Row wr g3 24 (brr 32 (dft s k)) ∧ Below w.heap.size w wr) (fun i _ => 32 - (intOf i).toNat)
  case atStart => exact ⟨0, by omega, rfl, r1, r2, by rw [dft_zero]; exact hr3, hb⟩
  case round =>
    obtain ⟨k, hk, rfl, p1, p2, p3, pb⟩ := hrel
    clear r1 r2 hr3 hb
    by_cases hlt : k < 32
    · have c1 : wr.cell? ⟨g1, k / 4, none⟩ = some (U (s.at (k / 4))) := by rw [p1.cell, arr_get _ (by omega)]
      have c3 := p3.cell k
      rw [brr_get _ hlt] at c3
      have cf := p3.free k
      have hD : Hid (dig s k = (shr (s.at (k / 4)) (8 * (3 - k % 4))).toUInt8) := show _ = _ from rfl
      have fin : ∀ wz : World, wz = wr.setCell ⟨g3, k, none⟩ (B (dig s k)) → Row wz g1 97 (arr 8 s.at) ∧ Row wz g2 24 (brr 32 (fun _ => 0)) ∧ Row wz g3 24 (brr 32 (dft s (k + 1))) ∧ Below w.heap.size w wz := by
        rintro wz rfl
        exact ⟨p1.far q13 _, p2.far q23 _, by rw [← dft_step s k, ← brr_set]; exact p3.put _ _, pb.setCell q3 _⟩
      have h4 : k % 4 = 0 ∨ k % 4 = 1 ∨ k % 4 = 2 ∨ k % 4 = 3 := by omega
      rcases h4 with h4 | h4 | h4 | h4
      all_goals
        rw [h4] at hD
        have hI : (k : Int) % 4 = ((k % 4 : Nat) : Int) := by omega
        rw [h4] at hI
        clear h4
        go_wp2
        go_roundw
        case rel => exact ⟨k + 1, by omega, by go_num, fin _ (by first | (rw [hD.out]; done) | (rw [hD.out, shr_zero]; done))⟩
        case measure => simp [intOf]; omega
    · obtain rfl : k = 32 := by omega
      go_wp2_with (first
        | (refine step_load rfl 21 rfl 24 _ rfl _ rfl (brr 32 (dft s 32)) _ p3.all Tryd.underlying24 rfl (by rw [brr_len]; exact i27) ?_)
        | (refine step_store rfl 24 _ _ rfl g2 rfl _ (brr 32 (fun _ => 0)) (brr 32 (dft s 32)) rfl p2 (by rw [brr_len, brr_len]) (by rw [brr_len]; exact i27) (brr_one _ _) ?_; intro w5 hr5 hg5 hs5))
      refine bodyPost_ret (results_cell_row rfl _ _ g2 _ _ _ _ rfl hr5 Tryd.underlying24 rfl (by simpa [brr_len] using i27.out)) rfl ?_
      exact ⟨by rw [dft_full], pb.grown hg5 pb.size (fun k hk => by injection hk with hk; omega)⟩
end Go.Proofs.YtibnmhaipogleaaDoor
