/- The walk of InodePacks. Conditions: those named. -/
import Derived.Test.YtpmldaoligmkaaaIj
import Derived.Test.YtpmldaoligmkaaaJd
set_option linter.unusedVariables false
set_option maxRecDepth 20000
namespace Go.Proofs.Ytpmldaoligmkaaa
open Go.RowKit

theorem rd_blk (v : Nat → Int) (h : mayB v = true) (hw : Wf v) (k : Nat) (hk : k < 27) : rd sz (blk sz v 27) k = v k := rd_nb sz v 27 k hk _ (May.fits h hw k hk).1 (May.fits h hw k hk).2
theorem mayB_congr {v u : Nat → Int} (h : ∀ k, k < 27 → v k = u k) : mayB v = mayB u := by
  unfold mayB slotB
  rw [h 0 (by omega), h 1 (by omega), h 4 (by omega), h 5 (by omega), h 6 (by omega), h 8 (by omega), h 26 (by omega)]
  have e : (List.range 16).all (fun j => decide (0 ≤ v (10 + j)) && decide (v (10 + j) ≤ 255)) = (List.range 16).all (fun j => decide (0 ≤ u (10 + j)) && decide (u (10 + j) ≤ 255)) := by
    rw [Bool.eq_iff_iff, List.all_eq_true, List.all_eq_true]
    constructor
    · intro h1 j hj
      rw [← h (10 + j) (by have := List.mem_range.1 hj; omega)]
      exact h1 j hj
    · intro h1 j hj
      rw [h (10 + j) (by have := List.mem_range.1 hj; omega)]
      exact h1 j hj
  rw [e]
theorem iOk_blk (v : Nat → Int) (h : mayB v = true) (hw : Wf v) : iOk (blk sz v 27) = true := by
  have hr := rd_blk v h hw
  unfold iOk
  rw [blk_len sz v 27 (by decide), mayB_congr hr, h]
  have e : blk sz (rd sz (blk sz v 27)) 27 = blk sz v 27 := by
    have := nb_congr sz 27 hr
    unfold blk at this ⊢
    rw [this]
  rw [decide_eq_true e]
  rfl
theorem rbytes_same (A B : Option Addr) (n c d : Nat) (l : List UInt8) (hn : l.length = n) (hn2 : n ≤ 1000) (w : World) (hA : Hol w A l) (hB : Hol w B l) : Calls Try.prog 12 #[.slice A n c, .slice B n d] w fun e w' => e = .returned (.bool true) ∧ Below w.heap.size w w' := by
  subst hn
  have h := rbytes_any A B c d l l w hA hB (by omega) (by omega)
  rwa [decide_eq_true rfl] at h
set_option maxHeartbeats 2000000 in
theorem ipacksW (v : Nat → Int) (hw : Wf v) (w : World) : Calls Try.prog 3 #[.agg (ncs v).toArray] w fun e w' => e = .returned (.bool true) ∧ Below w.heap.size w w' := by
  have i1 := Lib.hid (fun v => info_ncs v)
  have hz := Lib.hid zero_ino
  cases h : mayB v
  · have HP := Lib.hid (fun w => pack_not v h w)
    have HQ := Lib.hid (fun w => rpack_not v hw h w)
    have HBY := Lib.hid (fun w : World => rbytes_same none none 0 0 0 [] rfl (by omega) w (.inl rfl) (.inl rfl))
    clear h hw
    go_enter Try.func3, Try.ntmps3
    go_wp2_with (first
      | (refine step_box rfl 1 rfl 26 (.tmp 0) rfl (ncs v) rfl ?_; intro g2 w2 hr2 hg2 hb2 hs2
         have R2 := Lib.hid hr2
         have HB2 := Lib.hid hb2
         clear hr2 hb2 hg2 hs2)
      | (go_at_call 9; refine (awake_any _).mono ?_; rintro e w3 ⟨rfl, hb3⟩
         have R3 := Lib.hid (R2.out.kept hb3)
         have HB3 := Lib.hid (below_nxt hb3 HB2.out)
         clear hb3)
      | (refine step_load rfl 12 rfl 26 (.tmp 1) rfl g2 rfl (ncs v) _ R3.out.all Try.underlying26 rfl (i1.out _) ?_)
      | (go_at_call 10; refine (HP.out _).mono ?_; rintro e w4 ⟨rfl, hb4⟩
         have R4 := Lib.hid (R3.out.kept hb4)
         have HB4 := Lib.hid (below_nxt hb4 HB3.out)
         clear hb4)
      | (refine step_load rfl 17 rfl 26 (.tmp 1) rfl g2 rfl (ncs v) _ R4.out.all Try.underlying26 rfl (i1.out _) ?_)
      | (go_at_call 11; refine (HQ.out _).mono ?_; rintro e w5 ⟨rfl, hb5⟩
         have HB5 := Lib.hid (below_nxt hb5 HB4.out)
         clear hb5)
      | (go_at_call 12; refine (HBY.out _).mono ?_; rintro e w6 ⟨rfl, hb6⟩
         have HB6 := Lib.hid (below_nxt hb6 HB5.out)
         clear hb6))
    go_ret
    exact ⟨rfl, HB6.out⟩
  · have HP := Lib.hid (fun w => pack_ok v h hw w)
    have HQ := Lib.hid (fun w => rpack_ok v h hw w)
    have HOK := Lib.hid (iOk_blk v h hw)
    have HRD := Lib.hid (rd_blk v h hw)
    have HEQ := Lib.hid (p := ieqb (rd sz (blk sz v 27)) v = true) ((ieqb_iff _ _).2 (rd_blk v h hw))
    have HLN := Lib.hid (blk_len sz v 27 (by decide))
    obtain ⟨L, hL⟩ : ∃ L, blk sz v 27 = L := ⟨_, rfl⟩
    rw [hL] at HP HQ HOK HEQ HLN
    obtain ⟨u, hu⟩ : ∃ u, rd sz L = u := ⟨_, rfl⟩
    rw [hu] at HEQ
    have HIV := Lib.hid (p := iV L = .tuple #[.agg (ncs u).toArray, .int .i64 0]) (by rw [iV_ok HOK.out, hu])
    clear h hw hL hu HRD
    go_enter Try.func3, Try.ntmps3
    go_wp2_with (first
      | (refine step_box rfl 1 rfl 26 (.tmp 0) rfl (ncs v) rfl ?_; intro g2 w2 hr2 hg2 hb2 hs2
         have R2 := Lib.hid hr2
         have HB2 := Lib.hid hb2
         clear hr2 hb2 hg2 hs2)
      | (go_at_call 9; refine (awake_any _).mono ?_; rintro e w3 ⟨rfl, hb3⟩
         have R3 := Lib.hid (R2.out.kept hb3)
         have HB3 := Lib.hid (below_nxt hb3 HB2.out)
         clear hb3)
      | (refine step_load rfl 12 rfl 26 (.tmp 1) rfl g2 rfl (ncs v) _ R3.out.all Try.underlying26 rfl (i1.out _) ?_)
      | (go_at_call 10; refine (HP.out _).mono ?_; rintro e w4 ⟨A4, c4, rfl, ho4, hb4⟩
         have R4 := Lib.hid (R3.out.kept hb4.out)
         have HH4 := Lib.hid (Hol.own ho4.out)
         have HB4 := Lib.hid (below_nxt hb4.out HB3.out)
         clear hb4 ho4)
      | (refine step_load rfl 17 rfl 26 (.tmp 1) rfl g2 rfl (ncs v) _ R4.out.all Try.underlying26 rfl (i1.out _) ?_)
      | (go_at_call 11; refine (HQ.out _).mono ?_; rintro e w5 ⟨A5, c5, rfl, ho5, hb5⟩
         have R5 := Lib.hid (R4.out.kept hb5.out)
         have HH45 := Lib.hid (HH4.out.below hb5.out)
         have HH5 := Lib.hid (Hol.own ho5.out)
         have HB5 := Lib.hid (below_nxt hb5.out HB4.out)
         clear hb5 ho5)
      | (go_at_call 12; refine (rbytes_same A4 A5 256 c4 c5 L HLN.out (by omega) _ HH45.out HH5.out).mono ?_; rintro e w6 ⟨rfl, hb6⟩
         have R6 := Lib.hid (R5.out.kept hb6)
         have HH6 := Lib.hid (HH45.out.below hb6)
         have HB6 := Lib.hid (below_nxt hb6 HB5.out)
         clear hb6)
      | (go_at_call 13; refine (unpack_any A4 256 c4 L HLN.out (by omega) _ HH6.out).mono ?_; rw [HIV.out]; rintro e w7 ⟨rfl, hb7⟩
         have R7 := Lib.hid (R6.out.kept hb7)
         have HB7 := Lib.hid (below_nxt hb7 HB6.out)
         clear hb7)
      | (refine step_alloc rfl 7 rfl 26 rfl _ hz.out ?_; intro g8 w8 hr8 hg8 hb8 hs8
         have R8 := Lib.hid hr8
         have R78 := Lib.hid (R7.out.kept hb8)
         have Q8 := Lib.hid (p := w.heap.size ≤ g8 ∧ g2 < g8) (by rw [hg8.out]; exact ⟨HB7.out.size, R7.out.lt⟩)
         have HB8 := Lib.hid (below_nxt hb8 HB7.out)
         clear hr8 hb8 hg8 hs8)
      | (refine step_store rfl 26 (.tmp 7) (.tmp 35) rfl g8 (by rfl) _ (ncs ino0) (ncs u) (by rfl) R8.out rfl (i1.out _) (ncs_one _) ?_; intro w9 hr9 hg9 hs9
         have R9 := Lib.hid hr9
         have R79 := Lib.hid (R78.out.grown hg9 (fun e => by injection e with e; have := Q8.out; omega))
         have HB9 := Lib.hid (p := Below w.heap.size w w9) (HB8.out.grown hg9 HB8.out.size (fun q hq => by injection hq with hq; subst hq; exact Q8.out.1))
         clear hr9 hg9 hs9)
      | (refine step_load_g (by rfl) 40 rfl 26 (.tmp 7) rfl g8 rfl (ncs u) _ R9.out.all Try.underlying26 rfl (i1.out _) ?_)
      | (refine step_load_g (by rfl) 41 rfl 26 (.tmp 1) rfl g2 rfl (ncs v) _ R79.out.all Try.underlying26 rfl (i1.out _) ?_)
      | (refine step_eql (by rfl) 26 26 (.tmp 40) (.tmp 41) rfl (ncs u).toArray (ncs v).toArray (by rfl) (by rfl) ino_guard true (fun w => by rw [eq_ino 9997]; exact congrArg (fun b => Result.ok b w) HEQ.out) ?_))
    go_ret
    exact ⟨rfl, HB9.out⟩
end Go.Proofs.Ytpmldaoligmkaaa
