/- A block behind all rounds, by the program: what the call leaves, for every block. Conditions: those named. -/
import Derived.Test.YtecojmafnonkiaaCipher
set_option linter.unusedVariables false
namespace Go.Proofs.Ytecojmafnonkiaa
open Go.RowKit

theorem st_last (K s : Nat → UInt8) : ak K 14 (sr (st K s 13)) = enc K s := rfl

set_option maxRecDepth 20000 in
theorem encrypt_any (g : Nat) (K s : Nat → UInt8) (w : World) (hC : CipherAt w g K) :
    Calls Try.prog 20 #[.pointer (some ⟨g, 0, none⟩), .agg (brr 16 s).toArray] w fun e w' => e = .returned (.agg (brr 16 (enc K s)).toArray) ∧ Calm w w' := by
  have hz := Lib.hid (p := ∀ w : World, (zeroValue 57).run Try.prog w = .ok (.agg (brr 16 (fun _ => 0)).toArray) w) fun w => by kernel_rfl
  have i16 := Lib.hid (p := (Try.prog.info? 57).map (·.size) = some 16) (by kernel_rfl)
  go_enter Try.func20, Try.ntmps20
  go_wp2_with (first
    | (refine calm_box rfl 3 rfl 57 _ rfl (brr 16 s) rfl ?_; intro g1 w1 hr1 hg1 hb1 hs1)
    | (refine calm_alloc rfl 4 rfl 57 rfl _ hz ?_; intro g2 w2 hr2 hg2 hb2 hs2)
    | (refine step_load rfl 11 rfl 57 _ rfl _ rfl (brr 16 s) _ (hr1.calm hb2).all Try.underlying57 rfl (by rw [brr_len]; exact i16) ?_)
    | (go_at_call 29; refine (keyed_any g K s 0 (by omega) _ (hC.calm (hb1.out.of hb2))).mono ?_; rintro e w3 ⟨rfl, hc3⟩)
    | (refine calm_alloc rfl 5 rfl 57 rfl _ hz ?_; intro g4 w4 hr4 hg4 hb4 hs4)
    | (refine calm_store rfl 57 _ _ rfl g4 rfl _ (brr 16 (fun _ => 0)) (brr 16 (ak K 0 s)) rfl hr4 (by rw [brr_len, brr_len]) (by rw [brr_len]; exact i16) (brr_one _ _) ?_; intro w5 hr5 hc5 hs5 hg5))
  have hc2 := hb1.out.of hb2
  have hc34 := (hc2.trans hc3).of hb4
  have q2 : w.heap.size ≤ g2 := by rw [hg2.out]; exact hb1.out.size
  have q4 : w.heap.size ≤ g4 := by rw [hg4.out]; exact (hc2.trans hc3).size
  have q24 : g2 ≠ g4 := neq_new hg4 (hr2.calm hc3)
  have qg4 : g ≠ g4 := by have := hC.lt; omega
  have hcalm := hc5.out w hc34 q4
  have hr2' : Row w5 g2 57 (brr 16 fun _ => 0) := ((hr2.calm hc3).calm hb4).upon hg5.out q24
  have hC' := hC.calm hcalm
  clear hr1 hr2 hb1 hb2 hg1 hg2 hs1 hs2 hc2 hc3 hg4 hb4 hs4 hr4 hc5 hs5 hg5 hc34 hC
  go_loopw [6] (fun i wr => ∃ r : Nat, r ≤ 13 ∧ i = .int .i64 (r + 1 : Nat) ∧ Row wr g4 57 (brr 16 (st K s r)) ∧ Row wr g2 57 (brr 16 (fun _ => 0)) ∧ CipherAt wr g K ∧ Calm w wr) (fun i _ => 16 - (intOf i).toNat)
  case atStart => exact ⟨0, by omega, rfl, hr5, hr2', hC', hcalm⟩
  case round =>
    clear hr5 hr2' hC' hcalm
    obtain ⟨r, hr, rfl, hrow, hrow2, hC, hcalm⟩ := hrel
    by_cases hlt : r < 13
    · go_wp2_with (first
        | (refine step_load rfl 19 rfl 57 _ rfl _ rfl (brr 16 (st K s r)) _ hrow.all Try.underlying57 rfl (by rw [brr_len]; exact i16) ?_)
        | (go_at_call 31; refine (turned_any g K _ _ hC).mono ?_; rintro e w6 ⟨rfl, hc6⟩)
        | (go_at_call 30; refine (mixed_any _ _).mono ?_; rintro e w7 ⟨rfl, hc7⟩)
        | (go_at_call 29; refine (keyed_any g K _ (r + 1) (by omega) _ (hC.calm (hc6.trans hc7))).mono ?_; rintro e w8 ⟨rfl, hc8⟩)
        | (refine calm_store rfl 57 _ _ rfl g4 rfl _ (brr 16 (st K s r)) (brr 16 (st K s (r + 1))) rfl (hrow.calm ((hc6.trans hc7).trans hc8)) (by rw [brr_len, brr_len]) (by rw [brr_len]; exact i16) (brr_one _ _) ?_; intro w9 hr9 hc9 hs9 hg9))
      have hcc := (hc6.trans hc7).trans hc8
      have hca := hcalm.trans hcc
      have hcn := hc9.out w hca q4
      go_roundw
      case rel => exact ⟨r + 1, by omega, by go_num, hr9, (hrow2.calm hcc).upon hg9.out q24, (hC.calm hcc).upon hg9.out qg4, hcn⟩
      case measure => simp [intOf]; omega
    · obtain rfl : r = 13 := by omega
      go_wp2_with (first
        | (refine step_load rfl 26 rfl 57 _ rfl _ rfl (brr 16 (st K s 13)) _ hrow.all Try.underlying57 rfl (by rw [brr_len]; exact i16) ?_)
        | (go_at_call 31; refine (turned_any g K _ _ hC).mono ?_; rintro e w6 ⟨rfl, hc6⟩)
        | (go_at_call 29; refine (keyed_any g K _ 14 (by omega) _ (hC.calm hc6)).mono ?_; rintro e w8 ⟨rfl, hc8⟩)
        | (refine calm_store rfl 57 _ _ rfl g2 rfl _ (brr 16 (fun _ => 0)) (brr 16 (enc K s)) rfl (hrow2.calm (hc6.trans hc8)) (by rw [brr_len, brr_len]) (by rw [brr_len]; exact i16) (brr_one _ _) ?_; intro w9 hr9 hc9 hs9 hg9))
      refine bodyPost_ret (results_cell_row rfl _ _ g2 _ _ _ _ rfl hr9 Try.underlying57 rfl (by simpa [brr_len] using i16.out)) rfl ?_
      exact ⟨rfl, hc9.out w (hcalm.trans (hc6.trans hc8)) q2⟩
end Go.Proofs.Ytecojmafnonkiaa
