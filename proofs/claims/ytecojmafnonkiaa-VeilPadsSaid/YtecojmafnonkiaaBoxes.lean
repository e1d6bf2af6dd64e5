/- The program's table of boxes: what the call leaves. No conditions. -/
import Derived.Test.YtecojmafnonkiaaBlend
import Derived.Test.YtecojmafnonkiaaCalm
import Derived.BigRegion
import Derived.BigQuiet
import Derived.StillTailTactics
set_option linter.unusedVariables false
namespace Go.Proofs.Ytecojmafnonkiaa
open Go.RowKit

/-- Every byte's box, by its place. -/
def sbf (j : Nat) : UInt8 := sbox (UInt8.ofNat j)
def pwf (k j : Nat) : UInt8 := if j < k then pw j else 0
theorem pwf_zero : pwf 0 = fun _ => 0 := by funext j; simp [pwf]
theorem pwf_step (k : Nat) : upd (pwf k) k (pw k) = pwf (k + 1) := by
  funext j
  unfold upd pwf
  by_cases h : j = k
  · subst h
    simp
  · rw [if_neg h]
    by_cases h2 : j < k
    · rw [if_pos h2, if_pos (by omega)]
    · rw [if_neg h2, if_neg (by omega)]
theorem pwf_all : brr 256 (pwf 256) = brr 256 pw := brr_congr fun j hj => by unfold pwf; rw [if_pos hj]
/-- The boxes of 0 and of the first powers lie there. -/
def Boxed (k : Nat) (f : Nat → UInt8) : Prop := ∀ x : UInt8, (x = 0 ∨ ∃ i, i < k ∧ pw i = x) → f x.toNat = sbox x
theorem boxed_zero : Boxed 0 (upd (fun _ => 0) 0 (sb 0)) := by
  rintro x (rfl | ⟨i, hi, _⟩)
  · show (if (0 : UInt8).toNat = 0 then sb 0 else 0) = sbox 0
    rw [if_pos (by rfl), sbox_def, inverse_zero]
  · omega
theorem boxed_step {k : Nat} {f : Nat → UInt8} (hk : k < 256) (h : Boxed k f) : Boxed (k + 1) (upd f (pw k).toNat (sb (pw (255 - k)))) := by
  intro x hx
  unfold upd
  by_cases e : x.toNat = (pw k).toNat
  · rw [if_pos e]
    have : x = pw k := UInt8.toNat_inj.1 e
    rw [this, sbox_def, inverse_pw k (by omega)]
  · rw [if_neg e]
    refine h x ?_
    rcases hx with hx | ⟨i, hi, hx⟩
    · exact .inl hx
    · refine .inr ⟨i, ?_, hx⟩
      rcases Nat.lt_or_ge i k with h | h
      · exact h
      · obtain rfl : i = k := by omega
        exact absurd (by rw [hx]) e
theorem boxed_all {f : Nat → UInt8} (h : Boxed 256 f) : brr 256 f = brr 256 sbf := brr_congr fun j hj => by
  have e : (UInt8.ofNat j).toNat = j := by rw [u8_toNat]; omega
  unfold sbf
  rw [← h (UInt8.ofNat j) (by
    rcases is_pw (UInt8.ofNat j) with h | ⟨i, hi, h⟩
    · exact .inl h
    · exact .inr ⟨i, by omega, h⟩), e]

theorem neq_new {w : World} {g g' : Nat} {t : TypeId} {cs : List Value} (hg : Hid (g' = w.heap.size)) (h : Row w g t cs) : g ≠ g' := by
  have := hg.out
  have := h.lt
  omega

set_option maxRecDepth 20000 in
theorem boxes_any (w : World) : Calls Try.prog 27 #[] w fun e w' => e = .returned (.agg (brr 256 sbf).toArray) ∧ Calm w w' := by
  have hz := Lib.hid (p := ∀ w : World, (zeroValue 69).run Try.prog w = .ok (.agg (brr 256 (fun _ => 0)).toArray) w) fun w => by kernel_rfl
  have i25 := Lib.hid (p := (Try.prog.info? 69).map (·.size) = some 256) (by kernel_rfl)
  go_enter Try.func27, Try.ntmps27
  go_wp2_with (first
    | (refine calm_alloc rfl 0 rfl 69 rfl _ hz ?_; intro g0 w0 hr0 hg0 hb0 hs0)
    | (refine calm_alloc rfl 1 rfl 69 rfl _ hz ?_; intro g1 w1 hr1 hg1 hb1 hs1))
  have hb1' := hb0.out.of hb1
  have q0 : w.heap.size ≤ g0 := by rw [hg0.out]; exact Nat.le_refl _
  have q1 : w.heap.size ≤ g1 := by rw [hg1.out]; exact hb0.out.size
  have q01 : g0 ≠ g1 := by have := hg0.out; have := hg1.out; have := hs0.out; omega
  have hr0' := hr0.calm hb1
  clear hr0 hb0 hb1 hg0 hg1 hs0 hs1
  go_loopw [7, 2] (fun i x wr => ∃ k : Nat, k ≤ 256 ∧ i = .int .i64 k ∧ x = B (pw k) ∧ Row wr g1 69 (brr 256 (pwf k)) ∧ Row wr g0 69 (brr 256 (fun _ => 0)) ∧ Calm w wr) (fun i _ _ => 256 - (intOf i).toNat)
  case atStart => exact ⟨0, by omega, rfl, rfl, by rw [pwf_zero]; exact hr1, hr0', hb1'⟩
  case round =>
    obtain ⟨k, hk, rfl, rfl, hrow, hrow0, hcalm⟩ := hrel
    by_cases hlt : k < 256
    · have hcell : wr.cell? ⟨g1, k, none⟩ = some (B (pwf k k)) := by rw [hrow.cell, brr_get _ (by omega)]
      have hfr := hrow.free k
      go_wp2_with (go_at_call 36; refine (double_any _ _).mono ?_; rintro e w' ⟨rfl, rfl⟩)
      go_roundw
      case rel => exact ⟨k + 1, by omega, by go_num, rfl, by rw [← pwf_step k, ← brr_set]; exact hrow.put _ _, hrow0.far q01 _, hcalm.setCell q1 _⟩
      case measure => simp [intOf]; omega
    · obtain rfl : k = 256 := by omega
      rw [pwf_all] at hrow
      generalize pw 256 = p256
      go_wp2_with (first
        | (refine calm_alloc rfl 4 rfl 69 rfl _ hz ?_; intro g4 w4 hr4 hg4 hb4 hs4; have hc4 := hr4.cell 0; rw [brr_get _ (by omega)] at hc4; have hf4 := hr4.free 0; have q14 := neq_new hg4 hrow)
        | (go_at_call 37; refine (blended_any 0 _).mono ?_; rintro e w' ⟨rfl, rfl⟩)
        | (refine step_load rfl 20 rfl 69 _ rfl _ rfl (brr 256 pw) _ (Row.far (hrow.calm hb4) q14 _).all Try.underlying69 rfl (by rw [brr_len]; exact i25) ?_))
      have q4 : w.heap.size ≤ g4 := by rw [hg4.out]; exact hcalm.size
      have q04 : g0 ≠ g4 := by have := hg4.out; have := hrow0.lt; omega
      have hrow4 := (hrow.calm hb4).far (p := ⟨g4, 0, none⟩) q14 (B (sb 0))
      have hrow0' := (hrow0.calm hb4).far (p := ⟨g4, 0, none⟩) q04 (B (sb 0))
      have hcalm' := (hcalm.of hb4).setCell (p := ⟨g4, 0, none⟩) q4 (B (sb 0))
      have hb := hr4.put 0 (B (sb 0))
      rw [brr_set] at hb
      clear hrow hrow0 hcalm hb4 hg4 hs4 hr1 hr0' hb1' hc4 hf4
      go_loopw [21] (fun i wr => ∃ k : Nat, k ≤ 256 ∧ i = .int .i64 k ∧ Row wr g1 69 (brr 256 pw) ∧ Row wr g0 69 (brr 256 (fun _ => 0)) ∧ Calm w wr ∧ ∃ f, Row wr g4 69 (brr 256 f) ∧ Boxed k f) (fun i _ => 256 - (intOf i).toNat)
      case atStart => exact ⟨0, by omega, rfl, hrow4, hrow0', hcalm', _, hb, boxed_zero⟩
      case round =>
        clear hrow4 hrow0' hcalm' hb hr4
        obtain ⟨k, hk, rfl, hrow, hrow0, hcalm, f, hbox, hin⟩ := hrel
        by_cases hlt : k < 256
        · have hix := fun w => run_index_brr (P := Try.prog) w 69 5 256 pw k hlt Try.underlying69 Try.underlying5 (by kernel_rfl)
          have hcell : wr.cell? ⟨g1, 255 - k, none⟩ = some (B (pw (255 - k))) := by rw [hrow.cell, brr_get _ (by omega)]
          have hsub : (255 : Int) - k = ((255 - k : Nat) : Int) := by omega
          have hsw : IntKind.i64.wrap ((255 - k : Nat) : Int) = ((255 - k : Nat) : Int) := by rw [IntKind.wrap_i64]; omega
          have hn6 : (pw k).toNat < 256 := u8_lt _
          have hc4 : wr.cell? ⟨g4, (pw k).toNat, none⟩ = some (B (f (pw k).toNat)) := by rw [hbox.cell, brr_get _ hn6]
          have hf4 := hbox.free (pw k).toNat
          go_wp2_with (go_at_call 37; refine (blended_any _ _).mono ?_; rintro e w' ⟨rfl, rfl⟩)
          go_roundw
          case rel => exact ⟨k + 1, by omega, by go_num, hrow.far q14 _, hrow0.far q04 _, hcalm.setCell q4 _, _, by rw [← brr_set]; exact hbox.put _ _, boxed_step hlt hin⟩
          case measure => simp [intOf]; omega
        · obtain rfl : k = 256 := by omega
          rw [boxed_all hin] at hbox
          go_wp2_with (first
            | (refine step_load rfl 33 rfl 69 _ rfl _ rfl (brr 256 sbf) _ hbox.all Try.underlying69 rfl (by rw [brr_len]; exact i25) ?_)
            | (refine calm_store rfl 69 _ _ rfl g0 rfl _ (brr 256 (fun _ => 0)) (brr 256 sbf) rfl hrow0 (by rw [brr_len, brr_len]) (by rw [brr_len]; exact i25) (brr_one _ _) ?_; intro w6 hr6 hc6 hs6 hg6))
          refine bodyPost_ret (results_cell_row rfl _ _ g0 _ _ _ _ rfl hr6 Try.underlying69 rfl (by simpa [brr_len] using i25.out)) rfl ?_
          exact ⟨rfl, hc6.out w hcalm q0⟩
end Go.Proofs.Ytecojmafnonkiaa
