/- The walk of InodeUnpacks. Conditions: those named. -/
import Derived.Test.YtpmldaoligmkaaaIj
import Derived.Test.YtpmldaoligmkaaaJf
set_option linter.unusedVariables false
set_option maxRecDepth 20000
namespace Go.Proofs.Ytpmldaoligmkaaa
open Go.RowKit

theorem void_own (w : World) (e : TypeId) (k b : Nat) (hb : b ≤ w.heap.size) : (w.alloc (.cells #[] e)).ownsRow b e k (.slice (some ⟨w.heap.size, 0, none⟩) 0 0) 0 [] :=
  ⟨by simp, .inr ⟨w.heap.size, 0, #[], rfl, hb, heap_alloc_new w _, Nat.le_refl _, by decide, by simp, by simp⟩⟩
theorem below_al (w : World) (o : Obj) : Below w.heap.size w (w.alloc o) := (Below.refl _ _).alloc (Nat.le_refl _) _
theorem rbytes_eq (A B : Option Addr) (n c d : Nat) (l : List UInt8) (hn : l.length = n) (hn2 : n ≤ 65536) (w : World) (hA : Hol w A l) (hB : Hol w B l) : Calls Try.prog 12 #[.slice A n c, .slice B n d] w fun e w' => e = .returned (.bool true) ∧ Below w.heap.size w w' := by
  subst hn
  have h := rbytes_any A B c d l l w hA hB (by omega) (by omega)
  rwa [decide_eq_true rfl] at h
theorem may_ino0 : mayB ino0 = false := by decide
set_option maxHeartbeats 2000000 in
theorem iunpacksW (A : Option Addr) (n c : Nat) (l : List UInt8) (hn : l.length = n) (hcap : n ≤ c) (hc : c < 9223372036854775808) (w : World) (hA : Hol w A l) : Calls Try.prog 4 #[.slice A n c] w fun e w' => e = .returned (.bool true) ∧ Below w.heap.size w w' := by
  obtain ⟨i, U⟩ := u8_tab
  by_cases h16 : 65536 < n
  · have hni : (65536 : Int) < (n : Int) := by omega
    have hnt : (n : Int) ≤ 9223372036854775807 := by omega
    clear hn hcap hc hA h16
    go_enter Try.func4, Try.ntmps4
    go_wp2_with (go_at_call 9; refine (awake_any _).mono ?_; rintro e w2 ⟨rfl, hb2⟩; have HB2 := Lib.hid hb2; clear hb2)
    go_ret
    exact ⟨rfl, HB2.out⟩
  · have hni : ¬ (65536 : Int) < (n : Int) := by omega
    have i1 := Lib.hid (fun v => info_ncs v)
    have hz := Lib.hid zero_ino
    have HN := Lib.hid (p := l.length = n ∧ n ≤ 65536 ∧ n ≤ c ∧ c < 9223372036854775808) ⟨hn, by omega, hcap, hc⟩
    have HA := Lib.hid hA
    cases hk : iOk l
    · have HIV := Lib.hid (iV_bad hk)
      obtain ⟨u, hu⟩ : ∃ u, ino0 = u := ⟨_, rfl⟩
      have HZ := Lib.hid (p := ncs ino0 = ncs u) (by rw [hu])
      have HP := Lib.hid (fun w => pack_not ino0 may_ino0 w)
      rw [hu] at HIV HP
      clear hn hcap hc hA h16 hk hu
      go_enter Try.func4, Try.ntmps4
      go_wp2_with (first
        | (go_at_call 9; refine (awake_any _).mono ?_; rintro e w2 ⟨rfl, hb2⟩; have HB2 := Lib.hid hb2; clear hb2)
        | (at_builtin; refine wpList_app _ rfl (.tmp 15) (.tmp 16) _ rfl 5 i U w.heap.size _ 0 [] rfl (own_low (void_own w2 5 1 w2.heap.size (Nat.le_refl _)) HB2.out.size) A n c l rfl HN.out.1.symm ((HA.out.below HB2.out).below (below_al w2 _)) (by have := HN.out; omega) (by have := HB2.out.size; simp; omega) ?_
           intro v3 w3 ho3 hg3 hat3
           obtain ⟨A3, c3, rfl⟩ := own_sl ho3
           have HB3 := Lib.hid (p := Below w.heap.size w w3) ((HB2.out.alloc HB2.out.size _).grown hg3 (by have := HB2.out.size; simp; omega) (fun q hq => ((own_low (void_own w2 5 1 w2.heap.size (Nat.le_refl _)) HB2.out.size).lt q hq).1))
           have ho4 : w3.ownsRow w.heap.size 5 1 (.slice A3 (0 + n) c3) (0 + n) (bc l) := ho3
           rw [Nat.zero_add] at ho4
           have HO3 := Lib.hid (Hol.own ho4)
           rw [Nat.zero_add]
           clear ho3 hg3 hat3 ho4)
        | (go_at_call 13; refine (unpack_any A3 n c3 l HN.out.1 (by have := HN.out; omega) _ HO3.out).mono ?_; rw [HIV.out]; rintro e w4 ⟨rfl, hb4⟩
           have HO4 := Lib.hid (HO3.out.below hb4)
           have HB4 := Lib.hid (below_nxt hb4 HB3.out)
           clear hb4)
        | (refine step_alloc rfl 4 rfl 26 rfl _ hz.out ?_; intro g5 w5 hr5 hg5 hb5 hs5
           have R5 := Lib.hid hr5
           have Q5 := Lib.hid (p := w4.heap.size ≤ g5) (by rw [hg5.out]; exact Nat.le_refl _)
           have HB5 := Lib.hid hb5
           clear hr5 hg5 hb5 hs5)
        | (refine step_store rfl 26 (.tmp 4) (.tmp 21) rfl g5 (by rfl) _ (ncs ino0) (ncs u) (by rfl) R5.out rfl (i1.out _) (ncs_one _) ?_; intro w6 hr6 hg6 hs6
           have R6 := Lib.hid hr6
           have HB46 := Lib.hid (p := Below w4.heap.size w4 w6) (HB5.out.grown hg6 HB5.out.size (fun q hq => by injection hq with hq; subst hq; exact Q5.out))
           have HO6 := Lib.hid (HO4.out.below HB46.out)
           have HB6 := Lib.hid (below_nxt HB46.out HB4.out)
           clear hr6 hg6 hs6)
        | (go_at_call 14; refine (runpack_any A n c l HN.out.1 HN.out.2.2.1 HN.out.2.2.2 _ (HA.out.below HB6.out)).mono ?_; rw [HIV.out]; rintro e w7 ⟨rfl, hb7⟩
           have R7 := Lib.hid (R6.out.kept hb7)
           have HO7 := Lib.hid (HO6.out.below hb7)
           have HB7 := Lib.hid (below_nxt hb7 HB6.out)
           clear hb7)
        | (refine step_alloc rfl 6 rfl 26 rfl _ hz.out ?_; intro g8 w8 hr8 hg8 hb8 hs8
           have R8 := Lib.hid hr8
           have R78 := Lib.hid (R7.out.kept hb8)
           have Q8 := Lib.hid (p := w7.heap.size ≤ g8 ∧ g5 < g8) (by rw [hg8.out]; exact ⟨Nat.le_refl _, R7.out.lt⟩)
           have HB8 := Lib.hid hb8
           clear hr8 hg8 hb8 hs8)
        | (refine step_store rfl 26 (.tmp 6) (.tmp 26) rfl g8 (by rfl) _ (ncs ino0) (ncs u) (by rfl) R8.out rfl (i1.out _) (ncs_one _) ?_; intro w9 hr9 hg9 hs9
           have R9 := Lib.hid hr9
           have R79 := Lib.hid (R78.out.grown hg9 (fun e => by injection e with e; have := Q8.out; omega))
           have HB79 := Lib.hid (p := Below w7.heap.size w7 w9) (HB8.out.grown hg9 HB8.out.size (fun q hq => by injection hq with hq; subst hq; exact Q8.out.1))
           have HO9 := Lib.hid (HO7.out.below HB79.out)
           have HB9 := Lib.hid (below_nxt HB79.out HB7.out)
           clear hr9 hg9 hs9)
        | (refine step_load_g (by rfl) 32 rfl 26 (.tmp 4) rfl g5 rfl (ncs u) _ R79.out.all Try.underlying26 rfl (i1.out _) ?_)
        | (refine step_load_g (by rfl) 33 rfl 26 (.tmp 6) rfl g8 rfl (ncs u) _ R9.out.all Try.underlying26 rfl (i1.out _) ?_)
        | (refine step_neq (by rfl) 26 26 (.tmp 32) (.tmp 33) rfl (ncs u).toArray (ncs u).toArray (by rfl) (by rfl) ino_guard true (fun w => by rw [eq_ino 9997, ieqb_refl]) ?_; go_wp2_with fail)
        | (go_at_call 12; refine (rbytes_eq A3 A n c3 c l HN.out.1 HN.out.2.1 _ HO9.out (HA.out.below HB9.out)).mono ?_; rintro e w10 ⟨rfl, hb10⟩
           have R10 := Lib.hid (R79.out.kept hb10)
           have HB10 := Lib.hid (below_nxt hb10 HB9.out)
           clear hb10 HO9)
        | (refine step_load rfl 43 rfl 26 (.tmp 4) rfl g5 rfl (ncs u) _ R10.out.all Try.underlying26 rfl (i1.out _) ?_)
        | (go_at_call 10; refine (HP.out _).mono ?_; rintro e w11 ⟨rfl, hb11⟩
           have HB11 := Lib.hid (below_nxt hb11 HB10.out)
           clear hb11))
      go_ret
      exact ⟨rfl, HB11.out⟩
    · have HIV := Lib.hid (iV_ok hk)
      have hk2 : l.length = 256 ∧ mayB (rd sz l) = true ∧ blk sz (rd sz l) 27 = l := by
        unfold iOk at hk
        simp only [Bool.and_eq_true, decide_eq_true_eq] at hk
        exact ⟨hk.1, hk.2.1, hk.2.2⟩
      have HP := Lib.hid (fun w => pack_ok (rd sz l) hk2.2.1 (rd_wf l) w)
      rw [hk2.2.2] at HP
      obtain rfl : n = 256 := by rw [← hn]; exact hk2.1
      obtain ⟨u, hu⟩ : ∃ u, rd sz l = u := ⟨_, rfl⟩
      rw [hu] at HIV HP
      clear hn hcap hc hA h16 hk hu hk2
      go_enter Try.func4, Try.ntmps4
      go_wp2_with (first
        | (go_at_call 9; refine (awake_any _).mono ?_; rintro e w2 ⟨rfl, hb2⟩; have HB2 := Lib.hid hb2; clear hb2)
        | (at_builtin; refine wpList_app _ rfl (.tmp 15) (.tmp 16) _ rfl 5 i U w.heap.size _ 0 [] rfl (own_low (void_own w2 5 1 w2.heap.size (Nat.le_refl _)) HB2.out.size) A 256 c l rfl HN.out.1.symm ((HA.out.below HB2.out).below (below_al w2 _)) (by have := HN.out; omega) (by have := HB2.out.size; simp; omega) ?_
           intro v3 w3 ho3 hg3 hat3
           obtain ⟨A3, c3, rfl⟩ := own_sl ho3
           have HB3 := Lib.hid (p := Below w.heap.size w w3) ((HB2.out.alloc HB2.out.size _).grown hg3 (by have := HB2.out.size; simp; omega) (fun q hq => ((own_low (void_own w2 5 1 w2.heap.size (Nat.le_refl _)) HB2.out.size).lt q hq).1))
           have ho4 : w3.ownsRow w.heap.size 5 1 (.slice A3 (0 + 256) c3) (0 + 256) (bc l) := ho3
           have HO3 := Lib.hid (Hol.own ho4)
           clear ho3 hg3 hat3 ho4)
        | (go_at_call 13; refine (unpack_any A3 256 c3 l HN.out.1 (by have := HN.out; omega) _ HO3.out).mono ?_; rw [HIV.out]; rintro e w4 ⟨rfl, hb4⟩
           have HO4 := Lib.hid (HO3.out.below hb4)
           have HB4 := Lib.hid (below_nxt hb4 HB3.out)
           clear hb4)
        | (refine step_alloc rfl 4 rfl 26 rfl _ hz.out ?_; intro g5 w5 hr5 hg5 hb5 hs5
           have R5 := Lib.hid hr5
           have Q5 := Lib.hid (p := w4.heap.size ≤ g5) (by rw [hg5.out]; exact Nat.le_refl _)
           have HB5 := Lib.hid hb5
           clear hr5 hg5 hb5 hs5)
        | (refine step_store rfl 26 (.tmp 4) (.tmp 21) rfl g5 (by rfl) _ (ncs ino0) (ncs u) (by rfl) R5.out rfl (i1.out _) (ncs_one _) ?_; intro w6 hr6 hg6 hs6
           have R6 := Lib.hid hr6
           have HB46 := Lib.hid (p := Below w4.heap.size w4 w6) (HB5.out.grown hg6 HB5.out.size (fun q hq => by injection hq with hq; subst hq; exact Q5.out))
           have HO6 := Lib.hid (HO4.out.below HB46.out)
           have HB6 := Lib.hid (below_nxt HB46.out HB4.out)
           clear hr6 hg6 hs6)
        | (go_at_call 14; refine (runpack_any A 256 c l HN.out.1 HN.out.2.2.1 HN.out.2.2.2 _ (HA.out.below HB6.out)).mono ?_; rw [HIV.out]; rintro e w7 ⟨rfl, hb7⟩
           have R7 := Lib.hid (R6.out.kept hb7)
           have HO7 := Lib.hid (HO6.out.below hb7)
           have HB7 := Lib.hid (below_nxt hb7 HB6.out)
           clear hb7)
        | (refine step_alloc rfl 6 rfl 26 rfl _ hz.out ?_; intro g8 w8 hr8 hg8 hb8 hs8
           have R8 := Lib.hid hr8
           have R78 := Lib.hid (R7.out.kept hb8)
           have Q8 := Lib.hid (p := w7.heap.size ≤ g8 ∧ g5 < g8) (by rw [hg8.out]; exact ⟨Nat.le_refl _, R7.out.lt⟩)
           have HB8 := Lib.hid hb8
           clear hr8 hg8 hb8 hs8)
        | (refine step_store rfl 26 (.tmp 6) (.tmp 26) rfl g8 (by rfl) _ (ncs ino0) (ncs u) (by rfl) R8.out rfl (i1.out _) (ncs_one _) ?_; intro w9 hr9 hg9 hs9
           have R9 := Lib.hid hr9
           have R79 := Lib.hid (R78.out.grown hg9 (fun e => by injection e with e; have := Q8.out; omega))
           have HB79 := Lib.hid (p := Below w7.heap.size w7 w9) (HB8.out.grown hg9 HB8.out.size (fun q hq => by injection hq with hq; subst hq; exact Q8.out.1))
           have HO9 := Lib.hid (HO7.out.below HB79.out)
           have HB9 := Lib.hid (below_nxt HB79.out HB7.out)
           clear hr9 hg9 hs9)
        | (refine step_load_g (by rfl) 32 rfl 26 (.tmp 4) rfl g5 rfl (ncs u) _ R79.out.all Try.underlying26 rfl (i1.out _) ?_)
        | (refine step_load_g (by rfl) 33 rfl 26 (.tmp 6) rfl g8 rfl (ncs u) _ R9.out.all Try.underlying26 rfl (i1.out _) ?_)
        | (refine step_neq (by rfl) 26 26 (.tmp 32) (.tmp 33) rfl (ncs u).toArray (ncs u).toArray (by rfl) (by rfl) ino_guard true (fun w => by rw [eq_ino 9997, ieqb_refl]) ?_; go_wp2_with fail)
        | (go_at_call 12; refine (rbytes_eq A3 A 256 c3 c l HN.out.1 HN.out.2.1 _ HO9.out (HA.out.below HB9.out)).mono ?_; rintro e w10 ⟨rfl, hb10⟩
           have R10 := Lib.hid (R79.out.kept hb10)
           have HB10 := Lib.hid (below_nxt hb10 HB9.out)
           clear hb10 HO9)
        | (refine step_load rfl 43 rfl 26 (.tmp 4) rfl g5 rfl (ncs u) _ R10.out.all Try.underlying26 rfl (i1.out _) ?_)
        | (go_at_call 10; refine (HP.out _).mono ?_; rintro e w11 ⟨A11, c11, rfl, ho11, hb11⟩
           have HO11 := Lib.hid (Hol.own ho11.out)
           have HB11 := Lib.hid (below_nxt hb11.out HB10.out)
           clear hb11 ho11)
        | (go_at_call 12; refine (rbytes_eq A11 A 256 c11 c l HN.out.1 HN.out.2.1 _ HO11.out (HA.out.below HB11.out)).mono ?_; rintro e w12 ⟨rfl, hb12⟩
           have HB12 := Lib.hid (below_nxt hb12 HB11.out)
           clear hb12))
      go_ret
      exact ⟨rfl, HB12.out⟩
end Go.Proofs.Ytpmldaoligmkaaa
