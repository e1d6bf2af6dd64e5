/- The program's box of an inverse: what the call leaves, for every byte; products of bytes as numbers. No conditions. -/
import Derived.Test.YtibnmhaipogleaaDoorBytes
import Derived.Test.YtibnmhaipogleaaDoorCalm
import Derived.BigRegion
import Derived.BigQuiet
import Derived.StillTailTactics
import Derived.Test.YtibnmhaipogleaaDoorAesK
set_option linter.unusedVariables false
namespace Go.Proofs.YtibnmhaipogleaaDoor
open Go.RowKit

/-- The box of an inverse, turn by turn. -/
def bl (y : UInt8) : Nat → UInt8
  | 0 => y ^^^ 99
  | n + 1 => bl y n ^^^ rl y (n + 1)
theorem bl_4 (y : UInt8) : bl y 4 = sb y := by
  have : Std.Associative (α := UInt8) (· ^^^ ·) := ⟨UInt8.xor_assoc⟩
  have : Std.Commutative (α := UInt8) (· ^^^ ·) := ⟨UInt8.xor_comm⟩
  simp only [bl, sb]
  ac_rfl

theorem blended_any (y : UInt8) (w : World) : Calls Tryd.prog 70 #[B y] w fun e w' => e = .returned (B (sb y)) ∧ w' = w := by
  go_enter Tryd.func70, Tryd.ntmps70
  go_wp2
  go_loopw [7, 3] (fun i x wr => ∃ n : Nat, n ≤ 4 ∧ i = .int .i64 n ∧ x = B (bl y n) ∧ wr = w) (fun i x _ => 4 - (intOf i).toNat)
  case atStart => exact ⟨0, by omega, rfl, rfl, rfl⟩
  case round =>
    obtain ⟨n, hn, rfl, rfl, rfl⟩ := hrel
    by_cases hlt : n < 4
    · go_wp2_with (go_at_call 77; refine (turn_any y (n + 1) (by omega) (by omega) _).mono ?_; rintro e w' ⟨rfl, rfl⟩)
      go_roundw
      case rel => exact ⟨n + 1, by omega, by go_num, rfl, trivial⟩
      case measure => simp [intOf]; omega
    · obtain rfl : n = 4 := by omega
      go_wp2
      go_ret
      exact ⟨by rw [bl_4]; rfl, rfl⟩

theorem xor_i64_nat (a b : Nat) (ha : a < 512) (hb : b < 512) : bits .xor .i64 (a : Int) (b : Int) = ((a ^^^ b : Nat) : Int) := by
  have hx : a ^^^ b < 2 ^ 9 := Nat.xor_lt_two_pow (by omega) (by omega)
  have e : ∀ c : Nat, c < 512 → (BitVec.ofInt 64 (c : Int)).toNat = c := by
    intro c hc
    rw [BitVec.ofInt_natCast, BitVec.toNat_ofNat]
    exact Nat.mod_eq_of_lt (by omega)
  show IntKind.i64.wrap ((BitVec.ofInt 64 (a : Int) ^^^ BitVec.ofInt 64 (b : Int)).toNat : Int) = _
  rw [BitVec.toNat_xor, e a ha, e b hb, IntKind.wrap_i64]
  omega
theorem bv_xor64 (x y : UInt8) : bits .xor .i64 (bv x) (bv y) = bv (x ^^^ y) := by
  have := u8_lt x
  have := u8_lt y
  unfold bv
  rw [xor_i64_nat _ _ (by omega) (by omega), UInt8.toNat_xor]
theorem bv_to64 (x : UInt8) : IntKind.i64.wrap (bv x) = bv x := by
  have := u8_lt x
  unfold bv
  rw [IntKind.wrap_i64]
  omega
theorem bv_w64 (x : UInt8) : wrap64 (bv x) = bv x := by
  have := bv_lo x
  have := bv_hi x
  unfold wrap64
  omega
attribute [go_sem] bv_w64
theorem bv_wrap2 (x : UInt8) : IntKind.i64.wrap (bv x * 2) = bv x * 2 := by
  have := u8_lt x
  unfold bv
  rw [IntKind.wrap_i64]
  omega
theorem bv_u8 (x : UInt8) : IntKind.u8.wrap (bv x) = bv x := by
  have := u8_lt x
  unfold bv
  rw [IntKind.wrap_u8']
  omega
theorem dbl_lo (x : UInt8) : x.toNat < 128 → x.toNat * 2 = (dbl x).toNat := by
  revert x
  exact each_byte (by decide +kernel)
theorem dbl_hi (x : UInt8) : 128 ≤ x.toNat → (x.toNat * 2) ^^^ 283 = (dbl x).toNat := by
  revert x
  exact each_byte (by decide +kernel)
theorem bv_dbl_lo (x : UInt8) (h : ¬ (256 : Int) ≤ bv x * 2) : bv x * 2 = bv (dbl x) := by
  have := dbl_lo x
  unfold bv at h ⊢
  omega
theorem bv_dbl_hi (x : UInt8) (h : (256 : Int) ≤ bv x * 2) : bits .xor .i64 (bv x * 2) 283 = bv (dbl x) := by
  have hx := u8_lt x
  have h2 := dbl_hi x
  unfold bv at h ⊢
  have e : ((x.toNat : Int) * 2) = ((x.toNat * 2 : Nat) : Int) := by omega
  have e' : (283 : Int) = ((283 : Nat) : Int) := rfl
  rw [e, e', xor_i64_nat _ _ (by omega) (by omega), h2 (by omega)]
theorem bv_bit (b : UInt8) (n : Nat) : bv (shr8 b n) % 2 = if b.toNat.testBit n then 1 else 0 := by
  have hb := u8_lt b
  unfold bv shr8
  rw [u8_toNat, Nat.mod_eq_of_lt (Nat.lt_of_le_of_lt (Nat.div_le_self _ _) hb), Nat.testBit_eq_decide_div_mod_eq]
  simp only [decide_eq_true_eq]
  split <;> omega
end Go.Proofs.YtibnmhaipogleaaDoor
/- The program's table of boxes: what the call leaves. No conditions. -/
set_option linter.unusedVariables false
namespace Go.Proofs.YtibnmhaipogleaaDoor
open Go.RowKit

/-- Every byte's box, by its place. -/
def sbf (j : Nat) : UInt8 := sbox (UInt8.ofNat j)
def pwf (k j : Nat) : UInt8 := if j < k then pw j else 0
theorem pwf_zero : pwf 0 = fun _ => 0 := by funext j; simp [pwf]
theorem pwf_step (k : Nat) : upd (pwf k) k (pw k) = pwf (k + 1) := by
  funext j
  unfold upd pwf
  by_cases h : j = k
  · subst h
    simp
  · rw [if_neg h]
    by_cases h2 : j < k
    · rw [if_pos h2, if_pos (by omega)]
    · rw [if_neg h2, if_neg (by omega)]
theorem pwf_all : brr 256 (pwf 256) = brr 256 pw := brr_congr fun j hj => by unfold pwf; rw [if_pos hj]
/-- The boxes of 0 and of the first powers lie there. -/
def Boxed (k : Nat) (f : Nat → UInt8) : Prop := ∀ x : UInt8, (x = 0 ∨ ∃ i, i < k ∧ pw i = x) → f x.toNat = sbox x
theorem boxed_zero : Boxed 0 (upd (fun _ => 0) 0 (sb 0)) := by
  rintro x (rfl | ⟨i, hi, _⟩)
  · show (if (0 : UInt8).toNat = 0 then sb 0 else 0) = sbox 0
    rw [if_pos (by rfl), sbox_def, inverse_zero]
  · omega
theorem boxed_step {k : Nat} {f : Nat → UInt8} (hk : k < 256) (h : Boxed k f) : Boxed (k + 1) (upd f (pw k).toNat (sb (pw (255 - k)))) := by
  intro x hx
  unfold upd
  by_cases e : x.toNat = (pw k).toNat
  · rw [if_pos e]
    have : x = pw k := UInt8.toNat_inj.1 e
    rw [this, sbox_def, inverse_pw k (by omega)]
  · rw [if_neg e]
    refine h x ?_
    rcases hx with hx | ⟨i, hi, hx⟩
    · exact .inl hx
    · refine .inr ⟨i, ?_, hx⟩
      rcases Nat.lt_or_ge i k with h | h
      · exact h
      · obtain rfl : i = k := by omega
        exact absurd (by rw [hx]) e
theorem boxed_all {f : Nat → UInt8} (h : Boxed 256 f) : brr 256 f = brr 256 sbf := brr_congr fun j hj => by
  have e : (UInt8.ofNat j).toNat = j := by rw [u8_toNat]; omega
  unfold sbf
  rw [← h (UInt8.ofNat j) (by
    rcases is_pw (UInt8.ofNat j) with h | ⟨i, hi, h⟩
    · exact .inl h
    · exact .inr ⟨i, by omega, h⟩), e]

theorem neq_new {w : World} {g g' : Nat} {t : TypeId} {cs : List Value} (hg : Hid (g' = w.heap.size)) (h : Row w g t cs) : g ≠ g' := by
  have := hg.out
  have := h.lt
  omega

set_option maxRecDepth 20000 in
theorem boxes_any (w : World) : Calls Tryd.prog 60 #[] w fun e w' => e = .returned (.agg (brr 256 sbf).toArray) ∧ Calm w w' := by
  have hz := Lib.hid (p := ∀ w : World, (zeroValue 105).run Tryd.prog w = .ok (.agg (brr 256 (fun _ => 0)).toArray) w) fun w => by kernel_rfl
  have i25 := Lib.hid (p := (Tryd.prog.info? 105).map (·.size) = some 256) (by kernel_rfl)
  go_enter Tryd.func60, Tryd.ntmps60
  go_wp2_with (first
    | (refine calm_alloc rfl 0 rfl 105 rfl _ hz ?_; intro g0 w0 hr0 hg0 hb0 hs0)
    | (refine calm_alloc rfl 1 rfl 105 rfl _ hz ?_; intro g1 w1 hr1 hg1 hb1 hs1))
  have hb1' := hb0.out.of hb1
  have q0 : w.heap.size ≤ g0 := by rw [hg0.out]; exact Nat.le_refl _
  have q1 : w.heap.size ≤ g1 := by rw [hg1.out]; exact hb0.out.size
  have q01 : g0 ≠ g1 := by have := hg0.out; have := hg1.out; have := hs0.out; omega
  have hr0' := hr0.calm hb1
  clear hr0 hb0 hb1 hg0 hg1 hs0 hs1
  go_loopw [7, 2] (fun i x wr => ∃ k : Nat, k ≤ 256 ∧ i = .int .i64 k ∧ x = B (pw k) ∧ Row wr g1 105 (brr 256 (pwf k)) ∧ Row wr g0 105 (brr 256 (fun _ => 0)) ∧ Calm w wr) (fun i _ _ => 256 - (intOf i).toNat)
  case atStart => exact ⟨0, by omega, rfl, rfl, by rw [pwf_zero]; exact hr1, hr0', hb1'⟩
  case round =>
    obtain ⟨k, hk, rfl, rfl, hrow, hrow0, hcalm⟩ := hrel
    by_cases hlt : k < 256
    · have hcell : wr.cell? ⟨g1, k, none⟩ = some (B (pwf k k)) := by rw [hrow.cell, brr_get _ (by omega)]
      have hfr := hrow.free k
      go_wp2_with (go_at_call 69; refine (double_any _ _).mono ?_; rintro e w' ⟨rfl, rfl⟩)
      go_roundw
      case rel => exact ⟨k + 1, by omega, by go_num, rfl, by rw [← pwf_step k, ← brr_set]; exact hrow.put _ _, hrow0.far q01 _, hcalm.setCell q1 _⟩
      case measure => simp [intOf]; omega
    · obtain rfl : k = 256 := by omega
      rw [pwf_all] at hrow
      generalize pw 256 = p256
      go_wp2_with (first
        | (refine calm_alloc rfl 4 rfl 105 rfl _ hz ?_; intro g4 w4 hr4 hg4 hb4 hs4; have hc4 := hr4.cell 0; rw [brr_get _ (by omega)] at hc4; have hf4 := hr4.free 0; have q14 := neq_new hg4 hrow)
        | (go_at_call 70; refine (blended_any 0 _).mono ?_; rintro e w' ⟨rfl, rfl⟩)
        | (refine step_load rfl 20 rfl 105 _ rfl _ rfl (brr 256 pw) _ (Row.far (hrow.calm hb4) q14 _).all Tryd.underlying105 rfl (by rw [brr_len]; exact i25) ?_))
      have q4 : w.heap.size ≤ g4 := by rw [hg4.out]; exact hcalm.size
      have q04 : g0 ≠ g4 := by have := hg4.out; have := hrow0.lt; omega
      have hrow4 := (hrow.calm hb4).far (p := ⟨g4, 0, none⟩) q14 (B (sb 0))
      have hrow0' := (hrow0.calm hb4).far (p := ⟨g4, 0, none⟩) q04 (B (sb 0))
      have hcalm' := (hcalm.of hb4).setCell (p := ⟨g4, 0, none⟩) q4 (B (sb 0))
      have hb := hr4.put 0 (B (sb 0))
      rw [brr_set] at hb
      clear hrow hrow0 hcalm hb4 hg4 hs4 hr1 hr0' hb1' hc4 hf4
      go_loopw [21] (fun i wr => ∃ k : Nat, k ≤ 256 ∧ i = .int .i64 k ∧ Row wr g1 105 (brr 256 pw) ∧ Row wr g0 105 (brr 256 (fun _ => 0)) ∧ Calm w wr ∧ ∃ f, Row wr g4 105 (brr 256 f) ∧ Boxed k f) (fun i _ => 256 - (intOf i).toNat)
      case atStart => exact ⟨0, by omega, rfl, hrow4, hrow0', hcalm', _, hb, boxed_zero⟩
      case round =>
        clear hrow4 hrow0' hcalm' hb hr4
        obtain ⟨k, hk, rfl, hrow, hrow0, hcalm, f, hbox, hin⟩ := hrel
        by_cases hlt : k < 256
        · have hix := fun w => run_index_brr (P := Tryd.prog) w 105 5 256 pw k hlt Tryd.underlying105 Tryd.underlying5 (by kernel_rfl)
          have hcell : wr.cell? ⟨g1, 255 - k, none⟩ = some (B (pw (255 - k))) := by rw [hrow.cell, brr_get _ (by omega)]
          have hsub : (255 : Int) - k = ((255 - k : Nat) : Int) := by omega
          have hsw : IntKind.i64.wrap ((255 - k : Nat) : Int) = ((255 - k : Nat) : Int) := by rw [IntKind.wrap_i64]; omega
          have hn6 : (pw k).toNat < 256 := u8_lt _
          have hc4 : wr.cell? ⟨g4, (pw k).toNat, none⟩ = some (B (f (pw k).toNat)) := by rw [hbox.cell, brr_get _ hn6]
          have hf4 := hbox.free (pw k).toNat
          go_wp2_with (go_at_call 70; refine (blended_any _ _).mono ?_; rintro e w' ⟨rfl, rfl⟩)
          go_roundw
          case rel => exact ⟨k + 1, by omega, by go_num, hrow.far q14 _, hrow0.far q04 _, hcalm.setCell q4 _, _, by rw [← brr_set]; exact hbox.put _ _, boxed_step hlt hin⟩
          case measure => simp [intOf]; omega
        · obtain rfl : k = 256 := by omega
          rw [boxed_all hin] at hbox
          go_wp2_with (first
            | (refine step_load rfl 33 rfl 105 _ rfl _ rfl (brr 256 sbf) _ hbox.all Tryd.underlying105 rfl (by rw [brr_len]; exact i25) ?_)
            | (refine calm_store rfl 105 _ _ rfl g0 rfl _ (brr 256 (fun _ => 0)) (brr 256 sbf) rfl hrow0 (by rw [brr_len, brr_len]) (by rw [brr_len]; exact i25) (brr_one _ _) ?_; intro w6 hr6 hc6 hs6 hg6))
          refine bodyPost_ret (results_cell_row rfl _ _ g0 _ _ _ _ rfl hr6 Tryd.underlying105 rfl (by simpa [brr_len] using i25.out)) rfl ?_
          exact ⟨rfl, hc6.out w hcalm q0⟩
end Go.Proofs.YtibnmhaipogleaaDoor
/- A cipher in memory, and the steps of one round: what each call leaves, for every block. Conditions: those named. -/
set_option linter.unusedVariables false
namespace Go.Proofs.YtibnmhaipogleaaDoor
open Go.RowKit

/-- A cipher's cells: the boxes, the rounds' keys. -/
def cph (K : Nat → UInt8) : List Value := brr 256 sbf ++ brr 240 K
theorem cph_len (K : Nat → UInt8) : (cph K).length = 496 := by simp [cph, brr_len]
theorem cph_one (K : Nat → UInt8) : ∀ u ∈ cph K, u.oneCell' = true := by
  intro u hu
  rcases List.mem_append.1 hu with h | h
  · exact brr_one _ _ u h
  · exact brr_one _ _ u h
theorem cph_box (K : Nat → UInt8) (x : UInt8) : (cph K)[x.toNat]? = some (B (sbox x)) := by
  have := u8_lt x
  unfold cph
  rw [List.getElem?_append_left (by rw [brr_len]; omega), brr_get _ (by omega)]
  unfold sbf
  rw [UInt8.ofNat_toNat]
theorem cph_key (K : Nat → UInt8) {m : Nat} (h : m < 240) : (cph K)[256 + m]? = some (B (K m)) := by
  unfold cph
  rw [List.getElem?_append_right (by rw [brr_len]; omega), brr_len, Nat.add_sub_cancel_left, brr_get _ h]
theorem cph_set (K : Nat → UInt8) (m : Nat) (v : UInt8) : (cph K).set (256 + m) (B v) = cph (upd K m v) := by
  unfold cph
  rw [List.set_append_right _ _ (by rw [brr_len]; omega), brr_len, Nat.add_sub_cancel_left, brr_set]
abbrev CipherAt (w : World) (g : Nat) (K : Nat → UInt8) : Prop := Row w g 110 (cph K)

set_option maxRecDepth 20000 in
theorem keyed_any (g : Nat) (K s : Nat → UInt8) (r : Nat) (hr : r ≤ 14) (w : World) (hC : CipherAt w g K) :
    Calls Tryd.prog 72 #[.pointer (some ⟨g, 0, none⟩), .agg (brr 16 s).toArray, .int .i64 r] w fun e w' => e = .returned (.agg (brr 16 (ak K r s)).toArray) ∧ Calm w w' := by
  have hz := Lib.hid (p := ∀ w : World, (zeroValue 112).run Tryd.prog w = .ok (.agg (brr 16 (fun _ => 0)).toArray) w) fun w => by kernel_rfl
  have i16 := Lib.hid (p := (Tryd.prog.info? 112).map (·.size) = some 16) (by kernel_rfl)
  go_enter Tryd.func72, Tryd.ntmps72
  go_wp2_with (first
    | (refine calm_box rfl 4 rfl 112 _ rfl (brr 16 s) rfl ?_; intro g1 w1 hr1 hg1 hb1 hs1)
    | (refine calm_alloc rfl 6 rfl 112 rfl _ hz ?_; intro g2 w2 hr2 hg2 hb2 hs2))
  have hcalm := hb1.out.of hb2
  have q1 : w.heap.size ≤ g1 := by rw [hg1.out]; exact Nat.le_refl _
  have q2 : w.heap.size ≤ g2 := by rw [hg2.out]; exact hb1.out.size
  have q12 : g2 ≠ g1 := (neq_new hg2 hr1).symm
  have qg1 : g ≠ g1 := by have := hC.lt; omega
  have hr1' := hr1.calm hb2
  have hC' := hC.calm hcalm
  clear hr1 hb1 hb2 hg1 hg2 hs1 hs2 hC
  go_loopw [8] (fun i wr => ∃ n : Nat, n ≤ 16 ∧ i = .int .i64 n ∧ Row wr g1 112 (brr 16 (upto n (ak K r s) s)) ∧ Row wr g2 112 (brr 16 (fun _ => 0)) ∧ CipherAt wr g K ∧ Calm w wr) (fun i _ => 16 - (intOf i).toNat)
  case atStart => exact ⟨0, by omega, rfl, by rw [upto_zero]; exact hr1', hr2, hC', hcalm⟩
  case round =>
    clear hr1' hr2 hC' hcalm
    obtain ⟨n, hn, rfl, hrow, hrow2, hC, hcalm⟩ := hrel
    by_cases hlt : n < 16
    · have c1 : wr.cell? ⟨g1, n, none⟩ = some (B (s n)) := by rw [hrow.cell, brr_get _ (by omega), upto_self]
      have f1 := hrow.free n
      have c2 : wr.cell? ⟨g, 256 + (4 * r + n / 4) * 4 + n % 4, none⟩ = some (B (K (16 * r + n))) := by rw [show 256 + (4 * r + n / 4) * 4 + n % 4 = 256 + (16 * r + n) by omega, hC.cell, cph_key _ (by omega)]
      go_wp2
      go_region
      go_wp2
      go_roundw
      case rel => exact ⟨n + 1, by omega, by go_num, by rw [← upto_step n, ← brr_set]; exact (hrow.drewN _).put _ _, (hrow2.drewN _).far q12 _, (hC.drewN _).far qg1 _, (hcalm.drewN _).setCell q1 _⟩
      case measure => simp [intOf]; omega
    · obtain rfl : n = 16 := by omega
      rw [upto_all] at hrow
      go_wp2_with (first
        | (refine step_load rfl 30 rfl 112 _ rfl _ rfl (brr 16 (ak K r s)) _ hrow.all Tryd.underlying112 rfl (by rw [brr_len]; exact i16) ?_)
        | (refine calm_store rfl 112 _ _ rfl g2 rfl _ (brr 16 (fun _ => 0)) (brr 16 (ak K r s)) rfl hrow2 (by rw [brr_len, brr_len]) (by rw [brr_len]; exact i16) (brr_one _ _) ?_; intro w6 hr6 hc6 hs6 hg6))
      refine bodyPost_ret (results_cell_row rfl _ _ g2 _ _ _ _ rfl hr6 Tryd.underlying112 rfl (by simpa [brr_len] using i16.out)) rfl ?_
      exact ⟨rfl, hc6.out w hcalm q2⟩

set_option maxRecDepth 20000 in
theorem aes_turned_any (g : Nat) (K s : Nat → UInt8) (w : World) (hC : CipherAt w g K) :
    Calls Tryd.prog 74 #[.pointer (some ⟨g, 0, none⟩), .agg (brr 16 s).toArray] w fun e w' => e = .returned (.agg (brr 16 (sr s)).toArray) ∧ Calm w w' := by
  have hz := Lib.hid (p := ∀ w : World, (zeroValue 112).run Tryd.prog w = .ok (.agg (brr 16 (fun _ => 0)).toArray) w) fun w => by kernel_rfl
  have i16 := Lib.hid (p := (Tryd.prog.info? 112).map (·.size) = some 16) (by kernel_rfl)
  go_enter Tryd.func74, Tryd.ntmps74
  go_wp2_with (first
    | (refine calm_box rfl 3 rfl 112 _ rfl (brr 16 s) rfl ?_; intro g1 w1 hr1 hg1 hb1 hs1)
    | (refine calm_alloc rfl 4 rfl 112 rfl _ hz ?_; intro g2 w2 hr2 hg2 hb2 hs2)
    | (refine calm_alloc rfl 5 rfl 112 rfl _ hz ?_; intro g3 w3 hr3 hg3 hb3 hs3))
  have hc2 := hb1.out.of hb2
  have hcalm := hc2.of hb3
  have q1 : w.heap.size ≤ g1 := by rw [hg1.out]; exact Nat.le_refl _
  have q2 : w.heap.size ≤ g2 := by rw [hg2.out]; exact hb1.out.size
  have q3 : w.heap.size ≤ g3 := by rw [hg3.out]; exact hc2.size
  have q13 : g1 ≠ g3 := neq_new hg3 (hr1.calm hb2)
  have q23 : g2 ≠ g3 := neq_new hg3 hr2
  have qg3 : g ≠ g3 := by have := hC.lt; omega
  have hr1' := (hr1.calm hb2).calm hb3
  have hr2' := hr2.calm hb3
  have hC' := hC.calm hcalm
  clear hr1 hr2 hb1 hb2 hb3 hg1 hg2 hg3 hs1 hs2 hs3 hC hc2
  go_loopw [8] (fun i wr => ∃ n : Nat, n ≤ 16 ∧ i = .int .i64 n ∧ Row wr g3 112 (brr 16 (upto n (sr s) fun _ => 0)) ∧ Row wr g1 112 (brr 16 s) ∧ Row wr g2 112 (brr 16 (fun _ => 0)) ∧ CipherAt wr g K ∧ Calm w wr) (fun i _ => 16 - (intOf i).toNat)
  case atStart => exact ⟨0, by omega, rfl, by rw [upto_zero]; exact hr3, hr1', hr2', hC', hcalm⟩
  case round =>
    clear hr1' hr2' hr3 hC' hcalm
    obtain ⟨n, hn, rfl, hrow, hrow1, hrow2, hC, hcalm⟩ := hrel
    by_cases hlt : n < 16
    · have c1 : wr.cell? ⟨g1, (n + 4 * (n % 4)) % 16, none⟩ = some (B (s ((n + 4 * (n % 4)) % 16))) := by rw [hrow1.cell, brr_get _ (by omega)]
      have c2 : wr.cell? ⟨g, (s ((n + 4 * (n % 4)) % 16)).toNat, none⟩ = some (B (sr s n)) := by rw [hC.cell, cph_box]; rfl
      have c3 : wr.cell? ⟨g3, n, none⟩ = some (B 0) := by rw [hrow.cell, brr_get _ (by omega), upto_self]
      have f3 := hrow.free n
      go_wp2
      go_region
      go_wp2
      go_roundw
      case rel => exact ⟨n + 1, by omega, by go_num, by rw [← upto_step n, ← brr_set]; exact (hrow.drewN _).put _ _, (hrow1.drewN _).far q13 _, (hrow2.drewN _).far q23 _, (hC.drewN _).far qg3 _, (hcalm.drewN _).setCell q3 _⟩
      case measure => simp [intOf]; omega
    · obtain rfl : n = 16 := by omega
      rw [upto_all] at hrow
      go_wp2_with (first
        | (refine step_load rfl 28 rfl 112 _ rfl _ rfl (brr 16 (sr s)) _ hrow.all Tryd.underlying112 rfl (by rw [brr_len]; exact i16) ?_)
        | (refine calm_store rfl 112 _ _ rfl g2 rfl _ (brr 16 (fun _ => 0)) (brr 16 (sr s)) rfl hrow2 (by rw [brr_len, brr_len]) (by rw [brr_len]; exact i16) (brr_one _ _) ?_; intro w6 hr6 hc6 hs6 hg6))
      refine bodyPost_ret (results_cell_row rfl _ _ g2 _ _ _ _ rfl hr6 Tryd.underlying112 rfl (by simpa [brr_len] using i16.out)) rfl ?_
      exact ⟨rfl, hc6.out w hcalm q2⟩

set_option maxRecDepth 20000 in
theorem mixed_any (s : Nat → UInt8) (w : World) :
    Calls Tryd.prog 73 #[.agg (brr 16 s).toArray] w fun e w' => e = .returned (.agg (brr 16 (mx s)).toArray) ∧ Calm w w' := by
  have hz := Lib.hid (p := ∀ w : World, (zeroValue 112).run Tryd.prog w = .ok (.agg (brr 16 (fun _ => 0)).toArray) w) fun w => by kernel_rfl
  have i16 := Lib.hid (p := (Tryd.prog.info? 112).map (·.size) = some 16) (by kernel_rfl)
  go_enter Tryd.func73, Tryd.ntmps73
  go_wp2_with (first
    | (refine calm_box rfl 1 rfl 112 _ rfl (brr 16 s) rfl ?_; intro g1 w1 hr1 hg1 hb1 hs1)
    | (refine calm_alloc rfl 2 rfl 112 rfl _ hz ?_; intro g2 w2 hr2 hg2 hb2 hs2)
    | (refine calm_alloc rfl 3 rfl 112 rfl _ hz ?_; intro g3 w3 hr3 hg3 hb3 hs3))
  have hc2 := hb1.out.of hb2
  have hcalm := hc2.of hb3
  have q2 : w.heap.size ≤ g2 := by rw [hg2.out]; exact hb1.out.size
  have q3 : w.heap.size ≤ g3 := by rw [hg3.out]; exact hc2.size
  have q13 : g1 ≠ g3 := neq_new hg3 (hr1.calm hb2)
  have q23 : g2 ≠ g3 := neq_new hg3 hr2
  have hr1' := (hr1.calm hb2).calm hb3
  have hr2' := hr2.calm hb3
  clear hr1 hr2 hb1 hb2 hb3 hg1 hg2 hg3 hs1 hs2 hs3 hc2
  go_loopw [8] (fun i wr => ∃ n : Nat, n ≤ 16 ∧ i = .int .i64 n ∧ Row wr g3 112 (brr 16 (upto n (mx s) fun _ => 0)) ∧ Row wr g1 112 (brr 16 s) ∧ Row wr g2 112 (brr 16 (fun _ => 0)) ∧ Calm w wr) (fun i _ => 16 - (intOf i).toNat)
  case atStart => exact ⟨0, by omega, rfl, by rw [upto_zero]; exact hr3, hr1', hr2', hcalm⟩
  case round =>
    clear hr1' hr2' hr3 hcalm
    obtain ⟨n, hn, rfl, hrow, hrow1, hrow2, hcalm⟩ := hrel
    by_cases hlt : n < 16
    · obtain ⟨f, hf⟩ : ∃ f : Nat, f = n - n % 4 := ⟨_, rfl⟩
      have hfi : (n : Int) - n % 4 = f := by omega
      have hf12 : f ≤ 12 := by omega
      have hf0 : (0 : Int) ≤ f := by omega
      have c0 : wr.cell? ⟨g1, f, none⟩ = some (B (s f)) := by rw [hrow1.cell, brr_get _ (by omega)]
      have c1 : wr.cell? ⟨g1, f + 1, none⟩ = some (B (s (f + 1))) := by rw [hrow1.cell, brr_get _ (by omega)]
      have c2 : wr.cell? ⟨g1, f + 2, none⟩ = some (B (s (f + 2))) := by rw [hrow1.cell, brr_get _ (by omega)]
      have c3 : wr.cell? ⟨g1, f + 3, none⟩ = some (B (s (f + 3))) := by rw [hrow1.cell, brr_get _ (by omega)]
      have cx : wr.cell? ⟨g1, f + (n + 1) % 4, none⟩ = some (B (s (f + (n + 1) % 4))) := by rw [hrow1.cell, brr_get _ (by omega)]
      have ci : wr.cell? ⟨g1, n, none⟩ = some (B (s n)) := by rw [hrow1.cell, brr_get _ (by omega)]
      have co : wr.cell? ⟨g3, n, none⟩ = some (B 0) := by rw [hrow.cell, brr_get _ (by omega), upto_self]
      have fo := hrow.free n
      have hF := Lib.hid hf
      clear hf
      go_wp2
      go_quiet (fail)
      go_wp2
      obtain ⟨wq, hwq⟩ : ∃ wq, wq = wr.drewN nq := ⟨_, rfl⟩
      rw [← hwq]
      have ciq : wq.cell? ⟨g1, n, none⟩ = some (B (s n)) := by rw [hwq]; exact ci
      have coq : wq.cell? ⟨g3, n, none⟩ = some (B 0) := by rw [hwq]; exact co
      have foq : wq.frozen? ⟨g3, n, none⟩ = false := by rw [hwq]; exact fo
      have hrow' : Row wq g3 112 (brr 16 (upto n (mx s) fun _ => 0)) := by rw [hwq]; exact hrow.drewN _
      have hrow1' : Row wq g1 112 (brr 16 s) := by rw [hwq]; exact hrow1.drewN _
      have hrow2' : Row wq g2 112 (brr 16 (fun _ => 0)) := by rw [hwq]; exact hrow2.drewN _
      have hcalm' : Calm w wq := by rw [hwq]; exact hcalm.drewN _
      clear hwq ci co fo hrow hrow1 hrow2 hcalm c0 c1 c2 c3 cx
      go_still_tail 14, (by kernel_rfl)
      still_call (double_any _ _)
      repeat still_step
      refine wpStill_nil ?_
      change wpList _ _ _ _ _ wq.drew
      have coz : wq.drew.cell? ⟨g3, n, none⟩ = some (B 0) := coq
      have foz : wq.drew.frozen? ⟨g3, n, none⟩ = false := foq
      have hrow'' := hrow'.drew
      have hrow1'' := hrow1'.drew
      have hrow2'' := hrow2'.drew
      have hcalm'' := hcalm'.drew
      clear hrow' hrow1' hrow2' hcalm' coq foq ciq
      generalize wq.drew = wz at *
      go_wp2
      have hmx : mx s n = (s n ^^^ (s f ^^^ s (f + 1) ^^^ s (f + 2) ^^^ s (f + 3))) ^^^ dbl (s n ^^^ s (f + (n + 1) % 4)) := by rw [hF.out]; rfl
      go_roundw
      case rel => exact ⟨n + 1, by omega, by go_num, by rw [← upto_step n, ← brr_set, hmx]; exact hrow''.put _ _, hrow1''.far q13 _, hrow2''.far q23 _, hcalm''.setCell q3 _⟩
      case measure => simp [intOf]; omega
    · obtain rfl : n = 16 := by omega
      rw [upto_all] at hrow
      go_wp2_with (first
        | (refine step_load rfl 55 rfl 112 _ rfl _ rfl (brr 16 (mx s)) _ hrow.all Tryd.underlying112 rfl (by rw [brr_len]; exact i16) ?_)
        | (refine calm_store rfl 112 _ _ rfl g2 rfl _ (brr 16 (fun _ => 0)) (brr 16 (mx s)) rfl hrow2 (by rw [brr_len, brr_len]) (by rw [brr_len]; exact i16) (brr_one _ _) ?_; intro w6 hr6 hc6 hs6 hg6))
      refine bodyPost_ret (results_cell_row rfl _ _ g2 _ _ _ _ rfl hr6 Tryd.underlying112 rfl (by simpa [brr_len] using i16.out)) rfl ?_
      exact ⟨rfl, hc6.out w hcalm q2⟩
end Go.Proofs.YtibnmhaipogleaaDoor
/- A block behind all rounds, by the program: what the call leaves, for every block. Conditions: those named. -/
set_option linter.unusedVariables false
namespace Go.Proofs.YtibnmhaipogleaaDoor
open Go.RowKit

theorem st_last (K s : Nat → UInt8) : ak K 14 (sr (st K s 13)) = enc K s := rfl

set_option maxRecDepth 20000 in
theorem encrypt_any (g : Nat) (K s : Nat → UInt8) (w : World) (hC : CipherAt w g K) :
    Calls Tryd.prog 63 #[.pointer (some ⟨g, 0, none⟩), .agg (brr 16 s).toArray] w fun e w' => e = .returned (.agg (brr 16 (enc K s)).toArray) ∧ Calm w w' := by
  have hz := Lib.hid (p := ∀ w : World, (zeroValue 112).run Tryd.prog w = .ok (.agg (brr 16 (fun _ => 0)).toArray) w) fun w => by kernel_rfl
  have i16 := Lib.hid (p := (Tryd.prog.info? 112).map (·.size) = some 16) (by kernel_rfl)
  go_enter Tryd.func63, Tryd.ntmps63
  go_wp2_with (first
    | (refine calm_box rfl 3 rfl 112 _ rfl (brr 16 s) rfl ?_; intro g1 w1 hr1 hg1 hb1 hs1)
    | (refine calm_alloc rfl 4 rfl 112 rfl _ hz ?_; intro g2 w2 hr2 hg2 hb2 hs2)
    | (refine step_load rfl 11 rfl 112 _ rfl _ rfl (brr 16 s) _ (hr1.calm hb2).all Tryd.underlying112 rfl (by rw [brr_len]; exact i16) ?_)
    | (go_at_call 72; refine (keyed_any g K s 0 (by omega) _ (hC.calm (hb1.out.of hb2))).mono ?_; rintro e w3 ⟨rfl, hc3⟩)
    | (refine calm_alloc rfl 5 rfl 112 rfl _ hz ?_; intro g4 w4 hr4 hg4 hb4 hs4)
    | (refine calm_store rfl 112 _ _ rfl g4 rfl _ (brr 16 (fun _ => 0)) (brr 16 (ak K 0 s)) rfl hr4 (by rw [brr_len, brr_len]) (by rw [brr_len]; exact i16) (brr_one _ _) ?_; intro w5 hr5 hc5 hs5 hg5))
  have hc2 := hb1.out.of hb2
  have hc34 := (hc2.trans hc3).of hb4
  have q2 : w.heap.size ≤ g2 := by rw [hg2.out]; exact hb1.out.size
  have q4 : w.heap.size ≤ g4 := by rw [hg4.out]; exact (hc2.trans hc3).size
  have q24 : g2 ≠ g4 := neq_new hg4 (hr2.calm hc3)
  have qg4 : g ≠ g4 := by have := hC.lt; omega
  have hcalm := hc5.out w hc34 q4
  have hr2' : Row w5 g2 112 (brr 16 fun _ => 0) := ((hr2.calm hc3).calm hb4).upon hg5.out q24
  have hC' := hC.calm hcalm
  clear hr1 hr2 hb1 hb2 hg1 hg2 hs1 hs2 hc2 hc3 hg4 hb4 hs4 hr4 hc5 hs5 hg5 hc34 hC
  go_loopw [6] (fun i wr => ∃ r : Nat, r ≤ 13 ∧ i = .int .i64 (r + 1 : Nat) ∧ Row wr g4 112 (brr 16 (st K s r)) ∧ Row wr g2 112 (brr 16 (fun _ => 0)) ∧ CipherAt wr g K ∧ Calm w wr) (fun i _ => 16 - (intOf i).toNat)
  case atStart => exact ⟨0, by omega, rfl, hr5, hr2', hC', hcalm⟩
  case round =>
    clear hr5 hr2' hC' hcalm
    obtain ⟨r, hr, rfl, hrow, hrow2, hC, hcalm⟩ := hrel
    by_cases hlt : r < 13
    · go_wp2_with (first
        | (refine step_load rfl 19 rfl 112 _ rfl _ rfl (brr 16 (st K s r)) _ hrow.all Tryd.underlying112 rfl (by rw [brr_len]; exact i16) ?_)
        | (go_at_call 74; refine (aes_turned_any g K _ _ hC).mono ?_; rintro e w6 ⟨rfl, hc6⟩)
        | (go_at_call 73; refine (mixed_any _ _).mono ?_; rintro e w7 ⟨rfl, hc7⟩)
        | (go_at_call 72; refine (keyed_any g K _ (r + 1) (by omega) _ (hC.calm (hc6.trans hc7))).mono ?_; rintro e w8 ⟨rfl, hc8⟩)
        | (refine calm_store rfl 112 _ _ rfl g4 rfl _ (brr 16 (st K s r)) (brr 16 (st K s (r + 1))) rfl (hrow.calm ((hc6.trans hc7).trans hc8)) (by rw [brr_len, brr_len]) (by rw [brr_len]; exact i16) (brr_one _ _) ?_; intro w9 hr9 hc9 hs9 hg9))
      have hcc := (hc6.trans hc7).trans hc8
      have hca := hcalm.trans hcc
      have hcn := hc9.out w hca q4
      go_roundw
      case rel => exact ⟨r + 1, by omega, by go_num, hr9, (hrow2.calm hcc).upon hg9.out q24, (hC.calm hcc).upon hg9.out qg4, hcn⟩
      case measure => simp [intOf]; omega
    · obtain rfl : r = 13 := by omega
      go_wp2_with (first
        | (refine step_load rfl 26 rfl 112 _ rfl _ rfl (brr 16 (st K s 13)) _ hrow.all Tryd.underlying112 rfl (by rw [brr_len]; exact i16) ?_)
        | (go_at_call 74; refine (aes_turned_any g K _ _ hC).mono ?_; rintro e w6 ⟨rfl, hc6⟩)
        | (go_at_call 72; refine (keyed_any g K _ 14 (by omega) _ (hC.calm hc6)).mono ?_; rintro e w8 ⟨rfl, hc8⟩)
        | (refine calm_store rfl 112 _ _ rfl g2 rfl _ (brr 16 (fun _ => 0)) (brr 16 (enc K s)) rfl (hrow2.calm (hc6.trans hc8)) (by rw [brr_len, brr_len]) (by rw [brr_len]; exact i16) (brr_one _ _) ?_; intro w9 hr9 hc9 hs9 hg9))
      refine bodyPost_ret (results_cell_row rfl _ _ g2 _ _ _ _ rfl hr9 Tryd.underlying112 rfl (by simpa [brr_len] using i16.out)) rfl ?_
      exact ⟨rfl, hc9.out w (hcalm.trans (hc6.trans hc8)) q2⟩
end Go.Proofs.YtibnmhaipogleaaDoor
/- A cipher made of a key: what each call leaves. Conditions: those named. -/
set_option linter.unusedVariables false
namespace Go.Proofs.YtibnmhaipogleaaDoor
open Go.RowKit

set_option maxRecDepth 20000 in
theorem boxed_any (g : Nat) (K f : Nat → UInt8) (w : World) (hC : CipherAt w g K) :
    Calls Tryd.prog 71 #[.pointer (some ⟨g, 0, none⟩), .agg (brr 4 f).toArray] w fun e w' => e = .returned (.agg (brr 4 (fun j => sbox (f j))).toArray) ∧ Calm w w' := by
  have hz := Lib.hid (p := ∀ w : World, (zeroValue 107).run Tryd.prog w = .ok (.agg (brr 4 (fun _ => 0)).toArray) w) fun w => by kernel_rfl
  have i4 := Lib.hid (p := (Tryd.prog.info? 107).map (·.size) = some 4) (by kernel_rfl)
  go_enter Tryd.func71, Tryd.ntmps71
  go_wp2_with (first
    | (refine calm_box rfl 3 rfl 107 _ rfl (brr 4 f) rfl ?_; intro g1 w1 hr1 hg1 hb1 hs1)
    | (refine calm_alloc rfl 4 rfl 107 rfl _ hz ?_; intro g2 w2 hr2 hg2 hb2 hs2)
    | (refine step_load rfl 7 rfl 107 _ rfl _ rfl (brr 4 f) _ (hr1.calm hb2).all Tryd.underlying107 rfl (by rw [brr_len]; exact i4) ?_))
  have hcalm := hb1.out.of hb2
  have q1 : w.heap.size ≤ g1 := by rw [hg1.out]; exact Nat.le_refl _
  have q2 : w.heap.size ≤ g2 := by rw [hg2.out]; exact hb1.out.size
  have q12 : g2 ≠ g1 := (neq_new hg2 hr1).symm
  have qg1 : g ≠ g1 := by have := hC.lt; omega
  have hr1' := hr1.calm hb2
  have hC' := hC.calm hcalm
  clear hr1 hb1 hb2 hg1 hg2 hs1 hs2 hC
  go_loopw [8] (fun i wr => ∃ n : Nat, n ≤ 4 ∧ i = .int .i64 n ∧ Row wr g1 107 (brr 4 (upto n (fun j => sbox (f j)) f)) ∧ Row wr g2 107 (brr 4 (fun _ => 0)) ∧ CipherAt wr g K ∧ Calm w wr) (fun i _ => 4 - (intOf i).toNat)
  case atStart => exact ⟨0, by omega, rfl, by rw [upto_zero]; exact hr1', hr2, hC', hcalm⟩
  case round =>
    clear hr1' hr2 hC' hcalm
    obtain ⟨n, hn, rfl, hrow, hrow2, hC, hcalm⟩ := hrel
    by_cases hlt : n < 4
    · have hix := fun w => run_index_brr (P := Tryd.prog) w 107 5 4 f n hlt Tryd.underlying107 Tryd.underlying5 (by kernel_rfl)
      have c1 : wr.cell? ⟨g1, n, none⟩ = some (B (f n)) := by rw [hrow.cell, brr_get _ (by omega), upto_self]
      have f1 := hrow.free n
      have c2 : wr.cell? ⟨g, (f n).toNat, none⟩ = some (B (sbox (f n))) := by rw [hC.cell, cph_box]
      go_wp2
      go_roundw
      case rel => exact ⟨n + 1, by omega, by go_num, by rw [← upto_step n, ← brr_set]; exact hrow.put _ _, hrow2.far q12 _, hC.far qg1 _, hcalm.setCell q1 _⟩
      case measure => simp [intOf]; omega
    · obtain rfl : n = 4 := by omega
      rw [upto_all] at hrow
      go_wp2_with (first
        | (refine step_load rfl 21 rfl 107 _ rfl _ rfl (brr 4 fun j => sbox (f j)) _ hrow.all Tryd.underlying107 rfl (by rw [brr_len]; exact i4) ?_)
        | (refine calm_store rfl 107 _ _ rfl g2 rfl _ (brr 4 (fun _ => 0)) (brr 4 fun j => sbox (f j)) rfl hrow2 (by rw [brr_len, brr_len]) (by rw [brr_len]; exact i4) (brr_one _ _) ?_; intro w6 hr6 hc6 hs6 hg6))
      refine bodyPost_ret (results_cell_row rfl _ _ g2 _ _ _ _ rfl hr6 Tryd.underlying107 rfl (by simpa [brr_len] using i4.out)) rfl ?_
      exact ⟨rfl, hc6.out w hcalm q2⟩

end Go.Proofs.YtibnmhaipogleaaDoor
