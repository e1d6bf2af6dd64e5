/- A cipher made of a key: what each call leaves. Conditions: those named. -/
import Derived.Test.YtecojmafnonkiaaCipher
set_option linter.unusedVariables false
namespace Go.Proofs.Ytecojmafnonkiaa
open Go.RowKit

set_option maxRecDepth 20000 in
theorem boxed_any (g : Nat) (K f : Nat → UInt8) (w : World) (hC : CipherAt w g K) :
    Calls Try.prog 38 #[.pointer (some ⟨g, 0, none⟩), .agg (brr 4 f).toArray] w fun e w' => e = .returned (.agg (brr 4 (fun j => sbox (f j))).toArray) ∧ Calm w w' := by
  have hz := Lib.hid (p := ∀ w : World, (zeroValue 71).run Try.prog w = .ok (.agg (brr 4 (fun _ => 0)).toArray) w) fun w => by kernel_rfl
  have i4 := Lib.hid (p := (Try.prog.info? 71).map (·.size) = some 4) (by kernel_rfl)
  go_enter Try.func38, Try.ntmps38
  go_wp2_with (first
    | (refine calm_box rfl 3 rfl 71 _ rfl (brr 4 f) rfl ?_; intro g1 w1 hr1 hg1 hb1 hs1)
    | (refine calm_alloc rfl 4 rfl 71 rfl _ hz ?_; intro g2 w2 hr2 hg2 hb2 hs2)
    | (refine step_load rfl 7 rfl 71 _ rfl _ rfl (brr 4 f) _ (hr1.calm hb2).all Try.underlying71 rfl (by rw [brr_len]; exact i4) ?_))
  have hcalm := hb1.out.of hb2
  have q1 : w.heap.size ≤ g1 := by rw [hg1.out]; exact Nat.le_refl _
  have q2 : w.heap.size ≤ g2 := by rw [hg2.out]; exact hb1.out.size
  have q12 : g2 ≠ g1 := (neq_new hg2 hr1).symm
  have qg1 : g ≠ g1 := by have := hC.lt; omega
  have hr1' := hr1.calm hb2
  have hC' := hC.calm hcalm
  clear hr1 hb1 hb2 hg1 hg2 hs1 hs2 hC
  go_loopw [8] (fun i wr => ∃ n : Nat, n ≤ 4 ∧ i = .int .i64 n ∧ Row wr g1 71 (brr 4 (upto n (fun j => sbox (f j)) f)) ∧ Row wr g2 71 (brr 4 (fun _ => 0)) ∧ CipherAt wr g K ∧ Calm w wr) (fun i _ => 4 - (intOf i).toNat)
  case atStart => exact ⟨0, by omega, rfl, by rw [upto_zero]; exact hr1', hr2, hC', hcalm⟩
  case round =>
    clear hr1' hr2 hC' hcalm
    obtain ⟨n, hn, rfl, hrow, hrow2, hC, hcalm⟩ := hrel
    by_cases hlt : n < 4
    · have hix := fun w => run_index_brr (P := Try.prog) w 71 5 4 f n hlt Try.underlying71 Try.underlying5 (by kernel_rfl)
      have c1 : wr.cell? ⟨g1, n, none⟩ = some (B (f n)) := by rw [hrow.cell, brr_get _ (by omega), upto_self]
      have f1 := hrow.free n
      have c2 : wr.cell? ⟨g, (f n).toNat, none⟩ = some (B (sbox (f n))) := by rw [hC.cell, cph_box]
      go_wp2
      go_roundw
      case rel => exact ⟨n + 1, by omega, by go_num, by rw [← upto_step n, ← brr_set]; exact hrow.put _ _, hrow2.far q12 _, hC.far qg1 _, hcalm.setCell q1 _⟩
      case measure => simp [intOf]; omega
    · obtain rfl : n = 4 := by omega
      rw [upto_all] at hrow
      go_wp2_with (first
        | (refine step_load rfl 21 rfl 71 _ rfl _ rfl (brr 4 fun j => sbox (f j)) _ hrow.all Try.underlying71 rfl (by rw [brr_len]; exact i4) ?_)
        | (refine calm_store rfl 71 _ _ rfl g2 rfl _ (brr 4 (fun _ => 0)) (brr 4 fun j => sbox (f j)) rfl hrow2 (by rw [brr_len, brr_len]) (by rw [brr_len]; exact i4) (brr_one _ _) ?_; intro w6 hr6 hc6 hs6 hg6))
      refine bodyPost_ret (results_cell_row rfl _ _ g2 _ _ _ _ rfl hr6 Try.underlying71 rfl (by simpa [brr_len] using i4.out)) rfl ?_
      exact ⟨rfl, hc6.out w hcalm q2⟩

end Go.Proofs.Ytecojmafnonkiaa
