/- A cipher in memory, and the steps of one round: what each call leaves, for every block. Conditions: those named. -/
import Derived.Test.YtecojmafnonkiaaBoxes
import Derived.Test.YtecojmafnonkiaaAesK
import Derived.BigRegion
import Derived.BigQuiet
import Derived.StillTailTactics
set_option linter.unusedVariables false
namespace Go.Proofs.Ytecojmafnonkiaa
open Go.RowKit

/-- A cipher's cells: the boxes, the rounds' keys. -/
def cph (K : Nat → UInt8) : List Value := brr 256 sbf ++ brr 240 K
theorem cph_len (K : Nat → UInt8) : (cph K).length = 496 := by simp [cph, brr_len]
theorem cph_one (K : Nat → UInt8) : ∀ u ∈ cph K, u.oneCell' = true := by
  intro u hu
  rcases List.mem_append.1 hu with h | h
  · exact brr_one _ _ u h
  · exact brr_one _ _ u h
theorem cph_box (K : Nat → UInt8) (x : UInt8) : (cph K)[x.toNat]? = some (B (sbox x)) := by
  have := u8_lt x
  unfold cph
  rw [List.getElem?_append_left (by rw [brr_len]; omega), brr_get _ (by omega)]
  unfold sbf
  rw [UInt8.ofNat_toNat]
theorem cph_key (K : Nat → UInt8) {m : Nat} (h : m < 240) : (cph K)[256 + m]? = some (B (K m)) := by
  unfold cph
  rw [List.getElem?_append_right (by rw [brr_len]; omega), brr_len, Nat.add_sub_cancel_left, brr_get _ h]
theorem cph_set (K : Nat → UInt8) (m : Nat) (v : UInt8) : (cph K).set (256 + m) (B v) = cph (upd K m v) := by
  unfold cph
  rw [List.set_append_right _ _ (by rw [brr_len]; omega), brr_len, Nat.add_sub_cancel_left, brr_set]
abbrev CipherAt (w : World) (g : Nat) (K : Nat → UInt8) : Prop := Row w g 74 (cph K)

set_option maxRecDepth 20000 in
theorem keyed_any (g : Nat) (K s : Nat → UInt8) (r : Nat) (hr : r ≤ 14) (w : World) (hC : CipherAt w g K) :
    Calls Try.prog 29 #[.pointer (some ⟨g, 0, none⟩), .agg (brr 16 s).toArray, .int .i64 r] w fun e w' => e = .returned (.agg (brr 16 (ak K r s)).toArray) ∧ Calm w w' := by
  have hz := Lib.hid (p := ∀ w : World, (zeroValue 57).run Try.prog w = .ok (.agg (brr 16 (fun _ => 0)).toArray) w) fun w => by kernel_rfl
  have i16 := Lib.hid (p := (Try.prog.info? 57).map (·.size) = some 16) (by kernel_rfl)
  go_enter Try.func29, Try.ntmps29
  go_wp2_with (first
    | (refine calm_box rfl 4 rfl 57 _ rfl (brr 16 s) rfl ?_; intro g1 w1 hr1 hg1 hb1 hs1)
    | (refine calm_alloc rfl 6 rfl 57 rfl _ hz ?_; intro g2 w2 hr2 hg2 hb2 hs2))
  have hcalm := hb1.out.of hb2
  have q1 : w.heap.size ≤ g1 := by rw [hg1.out]; exact Nat.le_refl _
  have q2 : w.heap.size ≤ g2 := by rw [hg2.out]; exact hb1.out.size
  have q12 : g2 ≠ g1 := (neq_new hg2 hr1).symm
  have qg1 : g ≠ g1 := by have := hC.lt; omega
  have hr1' := hr1.calm hb2
  have hC' := hC.calm hcalm
  clear hr1 hb1 hb2 hg1 hg2 hs1 hs2 hC
  go_loopw [8] (fun i wr => ∃ n : Nat, n ≤ 16 ∧ i = .int .i64 n ∧ Row wr g1 57 (brr 16 (upto n (ak K r s) s)) ∧ Row wr g2 57 (brr 16 (fun _ => 0)) ∧ CipherAt wr g K ∧ Calm w wr) (fun i _ => 16 - (intOf i).toNat)
  case atStart => exact ⟨0, by omega, rfl, by rw [upto_zero]; exact hr1', hr2, hC', hcalm⟩
  case round =>
    clear hr1' hr2 hC' hcalm
    obtain ⟨n, hn, rfl, hrow, hrow2, hC, hcalm⟩ := hrel
    by_cases hlt : n < 16
    · have c1 : wr.cell? ⟨g1, n, none⟩ = some (B (s n)) := by rw [hrow.cell, brr_get _ (by omega), upto_self]
      have f1 := hrow.free n
      have c2 : wr.cell? ⟨g, 256 + (4 * r + n / 4) * 4 + n % 4, none⟩ = some (B (K (16 * r + n))) := by rw [show 256 + (4 * r + n / 4) * 4 + n % 4 = 256 + (16 * r + n) by omega, hC.cell, cph_key _ (by omega)]
      go_wp2
      go_region
      go_wp2
      go_roundw
      case rel => exact ⟨n + 1, by omega, by go_num, by rw [← upto_step n, ← brr_set]; exact (hrow.drewN _).put _ _, (hrow2.drewN _).far q12 _, (hC.drewN _).far qg1 _, (hcalm.drewN _).setCell q1 _⟩
      case measure => simp [intOf]; omega
    · obtain rfl : n = 16 := by omega
      rw [upto_all] at hrow
      go_wp2_with (first
        | (refine step_load rfl 30 rfl 57 _ rfl _ rfl (brr 16 (ak K r s)) _ hrow.all Try.underlying57 rfl (by rw [brr_len]; exact i16) ?_)
        | (refine calm_store rfl 57 _ _ rfl g2 rfl _ (brr 16 (fun _ => 0)) (brr 16 (ak K r s)) rfl hrow2 (by rw [brr_len, brr_len]) (by rw [brr_len]; exact i16) (brr_one _ _) ?_; intro w6 hr6 hc6 hs6 hg6))
      refine bodyPost_ret (results_cell_row rfl _ _ g2 _ _ _ _ rfl hr6 Try.underlying57 rfl (by simpa [brr_len] using i16.out)) rfl ?_
      exact ⟨rfl, hc6.out w hcalm q2⟩

set_option maxRecDepth 20000 in
theorem turned_any (g : Nat) (K s : Nat → UInt8) (w : World) (hC : CipherAt w g K) :
    Calls Try.prog 31 #[.pointer (some ⟨g, 0, none⟩), .agg (brr 16 s).toArray] w fun e w' => e = .returned (.agg (brr 16 (sr s)).toArray) ∧ Calm w w' := by
  have hz := Lib.hid (p := ∀ w : World, (zeroValue 57).run Try.prog w = .ok (.agg (brr 16 (fun _ => 0)).toArray) w) fun w => by kernel_rfl
  have i16 := Lib.hid (p := (Try.prog.info? 57).map (·.size) = some 16) (by kernel_rfl)
  go_enter Try.func31, Try.ntmps31
  go_wp2_with (first
    | (refine calm_box rfl 3 rfl 57 _ rfl (brr 16 s) rfl ?_; intro g1 w1 hr1 hg1 hb1 hs1)
    | (refine calm_alloc rfl 4 rfl 57 rfl _ hz ?_; intro g2 w2 hr2 hg2 hb2 hs2)
    | (refine calm_alloc rfl 5 rfl 57 rfl _ hz ?_; intro g3 w3 hr3 hg3 hb3 hs3))
  have hc2 := hb1.out.of hb2
  have hcalm := hc2.of hb3
  have q1 : w.heap.size ≤ g1 := by rw [hg1.out]; exact Nat.le_refl _
  have q2 : w.heap.size ≤ g2 := by rw [hg2.out]; exact hb1.out.size
  have q3 : w.heap.size ≤ g3 := by rw [hg3.out]; exact hc2.size
  have q13 : g1 ≠ g3 := neq_new hg3 (hr1.calm hb2)
  have q23 : g2 ≠ g3 := neq_new hg3 hr2
  have qg3 : g ≠ g3 := by have := hC.lt; omega
  have hr1' := (hr1.calm hb2).calm hb3
  have hr2' := hr2.calm hb3
  have hC' := hC.calm hcalm
  clear hr1 hr2 hb1 hb2 hb3 hg1 hg2 hg3 hs1 hs2 hs3 hC hc2
  go_loopw [8] (fun i wr => ∃ n : Nat, n ≤ 16 ∧ i = .int .i64 n ∧ Row wr g3 57 (brr 16 (upto n (sr s) fun _ => 0)) ∧ Row wr g1 57 (brr 16 s) ∧ Row wr g2 57 (brr 16 (fun _ => 0)) ∧ CipherAt wr g K ∧ Calm w wr) (fun i _ => 16 - (intOf i).toNat)
  case atStart => exact ⟨0, by omega, rfl, by rw [upto_zero]; exact hr3, hr1', hr2', hC', hcalm⟩
  case round =>
    clear hr1' hr2' hr3 hC' hcalm
    obtain ⟨n, hn, rfl, hrow, hrow1, hrow2, hC, hcalm⟩ := hrel
    by_cases hlt : n < 16
    · have c1 : wr.cell? ⟨g1, (n + 4 * (n % 4)) % 16, none⟩ = some (B (s ((n + 4 * (n % 4)) % 16))) := by rw [hrow1.cell, brr_get _ (by omega)]
      have c2 : wr.cell? ⟨g, (s ((n + 4 * (n % 4)) % 16)).toNat, none⟩ = some (B (sr s n)) := by rw [hC.cell, cph_box]; rfl
      have c3 : wr.cell? ⟨g3, n, none⟩ = some (B 0) := by rw [hrow.cell, brr_get _ (by omega), upto_self]
      have f3 := hrow.free n
      go_wp2
      go_region
      go_wp2
      go_roundw
      case rel => exact ⟨n + 1, by omega, by go_num, by rw [← upto_step n, ← brr_set]; exact (hrow.drewN _).put _ _, (hrow1.drewN _).far q13 _, (hrow2.drewN _).far q23 _, (hC.drewN _).far qg3 _, (hcalm.drewN _).setCell q3 _⟩
      case measure => simp [intOf]; omega
    · obtain rfl : n = 16 := by omega
      rw [upto_all] at hrow
      go_wp2_with (first
        | (refine step_load rfl 28 rfl 57 _ rfl _ rfl (brr 16 (sr s)) _ hrow.all Try.underlying57 rfl (by rw [brr_len]; exact i16) ?_)
        | (refine calm_store rfl 57 _ _ rfl g2 rfl _ (brr 16 (fun _ => 0)) (brr 16 (sr s)) rfl hrow2 (by rw [brr_len, brr_len]) (by rw [brr_len]; exact i16) (brr_one _ _) ?_; intro w6 hr6 hc6 hs6 hg6))
      refine bodyPost_ret (results_cell_row rfl _ _ g2 _ _ _ _ rfl hr6 Try.underlying57 rfl (by simpa [brr_len] using i16.out)) rfl ?_
      exact ⟨rfl, hc6.out w hcalm q2⟩

set_option maxRecDepth 20000 in
theorem mixed_any (s : Nat → UInt8) (w : World) :
    Calls Try.prog 30 #[.agg (brr 16 s).toArray] w fun e w' => e = .returned (.agg (brr 16 (mx s)).toArray) ∧ Calm w w' := by
  have hz := Lib.hid (p := ∀ w : World, (zeroValue 57).run Try.prog w = .ok (.agg (brr 16 (fun _ => 0)).toArray) w) fun w => by kernel_rfl
  have i16 := Lib.hid (p := (Try.prog.info? 57).map (·.size) = some 16) (by kernel_rfl)
  go_enter Try.func30, Try.ntmps30
  go_wp2_with (first
    | (refine calm_box rfl 1 rfl 57 _ rfl (brr 16 s) rfl ?_; intro g1 w1 hr1 hg1 hb1 hs1)
    | (refine calm_alloc rfl 2 rfl 57 rfl _ hz ?_; intro g2 w2 hr2 hg2 hb2 hs2)
    | (refine calm_alloc rfl 3 rfl 57 rfl _ hz ?_; intro g3 w3 hr3 hg3 hb3 hs3))
  have hc2 := hb1.out.of hb2
  have hcalm := hc2.of hb3
  have q2 : w.heap.size ≤ g2 := by rw [hg2.out]; exact hb1.out.size
  have q3 : w.heap.size ≤ g3 := by rw [hg3.out]; exact hc2.size
  have q13 : g1 ≠ g3 := neq_new hg3 (hr1.calm hb2)
  have q23 : g2 ≠ g3 := neq_new hg3 hr2
  have hr1' := (hr1.calm hb2).calm hb3
  have hr2' := hr2.calm hb3
  clear hr1 hr2 hb1 hb2 hb3 hg1 hg2 hg3 hs1 hs2 hs3 hc2
  go_loopw [8] (fun i wr => ∃ n : Nat, n ≤ 16 ∧ i = .int .i64 n ∧ Row wr g3 57 (brr 16 (upto n (mx s) fun _ => 0)) ∧ Row wr g1 57 (brr 16 s) ∧ Row wr g2 57 (brr 16 (fun _ => 0)) ∧ Calm w wr) (fun i _ => 16 - (intOf i).toNat)
  case atStart => exact ⟨0, by omega, rfl, by rw [upto_zero]; exact hr3, hr1', hr2', hcalm⟩
  case round =>
    clear hr1' hr2' hr3 hcalm
    obtain ⟨n, hn, rfl, hrow, hrow1, hrow2, hcalm⟩ := hrel
    by_cases hlt : n < 16
    · obtain ⟨f, hf⟩ : ∃ f : Nat, f = n - n % 4 := ⟨_, rfl⟩
      have hfi : (n : Int) - n % 4 = f := by omega
      have hf12 : f ≤ 12 := by omega
      have hf0 : (0 : Int) ≤ f := by omega
      have c0 : wr.cell? ⟨g1, f, none⟩ = some (B (s f)) := by rw [hrow1.cell, brr_get _ (by omega)]
      have c1 : wr.cell? ⟨g1, f + 1, none⟩ = some (B (s (f + 1))) := by rw [hrow1.cell, brr_get _ (by omega)]
      have c2 : wr.cell? ⟨g1, f + 2, none⟩ = some (B (s (f + 2))) := by rw [hrow1.cell, brr_get _ (by omega)]
      have c3 : wr.cell? ⟨g1, f + 3, none⟩ = some (B (s (f + 3))) := by rw [hrow1.cell, brr_get _ (by omega)]
      have cx : wr.cell? ⟨g1, f + (n + 1) % 4, none⟩ = some (B (s (f + (n + 1) % 4))) := by rw [hrow1.cell, brr_get _ (by omega)]
      have ci : wr.cell? ⟨g1, n, none⟩ = some (B (s n)) := by rw [hrow1.cell, brr_get _ (by omega)]
      have co : wr.cell? ⟨g3, n, none⟩ = some (B 0) := by rw [hrow.cell, brr_get _ (by omega), upto_self]
      have fo := hrow.free n
      have hF := Lib.hid hf
      clear hf
      go_wp2
      go_quiet (fail)
      go_wp2
      obtain ⟨wq, hwq⟩ : ∃ wq, wq = wr.drewN nq := ⟨_, rfl⟩
      rw [← hwq]
      have ciq : wq.cell? ⟨g1, n, none⟩ = some (B (s n)) := by rw [hwq]; exact ci
      have coq : wq.cell? ⟨g3, n, none⟩ = some (B 0) := by rw [hwq]; exact co
      have foq : wq.frozen? ⟨g3, n, none⟩ = false := by rw [hwq]; exact fo
      have hrow' : Row wq g3 57 (brr 16 (upto n (mx s) fun _ => 0)) := by rw [hwq]; exact hrow.drewN _
      have hrow1' : Row wq g1 57 (brr 16 s) := by rw [hwq]; exact hrow1.drewN _
      have hrow2' : Row wq g2 57 (brr 16 (fun _ => 0)) := by rw [hwq]; exact hrow2.drewN _
      have hcalm' : Calm w wq := by rw [hwq]; exact hcalm.drewN _
      clear hwq ci co fo hrow hrow1 hrow2 hcalm c0 c1 c2 c3 cx
      go_still_tail 14, (by kernel_rfl)
      still_call (double_any _ _)
      repeat still_step
      refine wpStill_nil ?_
      change wpList _ _ _ _ _ wq.drew
      have coz : wq.drew.cell? ⟨g3, n, none⟩ = some (B 0) := coq
      have foz : wq.drew.frozen? ⟨g3, n, none⟩ = false := foq
      have hrow'' := hrow'.drew
      have hrow1'' := hrow1'.drew
      have hrow2'' := hrow2'.drew
      have hcalm'' := hcalm'.drew
      clear hrow' hrow1' hrow2' hcalm' coq foq ciq
      generalize wq.drew = wz at *
      go_wp2
      have hmx : mx s n = (s n ^^^ (s f ^^^ s (f + 1) ^^^ s (f + 2) ^^^ s (f + 3))) ^^^ dbl (s n ^^^ s (f + (n + 1) % 4)) := by rw [hF.out]; rfl
      go_roundw
      case rel => exact ⟨n + 1, by omega, by go_num, by rw [← upto_step n, ← brr_set, hmx]; exact hrow''.put _ _, hrow1''.far q13 _, hrow2''.far q23 _, hcalm''.setCell q3 _⟩
      case measure => simp [intOf]; omega
    · obtain rfl : n = 16 := by omega
      rw [upto_all] at hrow
      go_wp2_with (first
        | (refine step_load rfl 55 rfl 57 _ rfl _ rfl (brr 16 (mx s)) _ hrow.all Try.underlying57 rfl (by rw [brr_len]; exact i16) ?_)
        | (refine calm_store rfl 57 _ _ rfl g2 rfl _ (brr 16 (fun _ => 0)) (brr 16 (mx s)) rfl hrow2 (by rw [brr_len, brr_len]) (by rw [brr_len]; exact i16) (brr_one _ _) ?_; intro w6 hr6 hc6 hs6 hg6))
      refine bodyPost_ret (results_cell_row rfl _ _ g2 _ _ _ _ rfl hr6 Try.underlying57 rfl (by simpa [brr_len] using i16.out)) rfl ?_
      exact ⟨rfl, hc6.out w hcalm q2⟩
end Go.Proofs.Ytecojmafnonkiaa
