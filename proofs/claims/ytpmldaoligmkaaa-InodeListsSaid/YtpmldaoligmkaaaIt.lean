/- The walk of InodeLists. Conditions: those named. -/
import Derived.Test.YtpmldaoligmkaaaIj
import Derived.Test.YtpmldaoligmkaaaJh
set_option linter.unusedVariables false
set_option maxRecDepth 20000
namespace Go.Proofs.Ytpmldaoligmkaaa
open Go.RowKit

theorem rbytes_l (A B : Option Addr) (n c d : Nat) (l : List UInt8) (hn : l.length = n) (hn2 : n ≤ 65536) (w : World) (hA : Hol w A l) (hB : Hol w B l) : Calls Try.prog 12 #[.slice A n c, .slice B n d] w fun e w' => e = .returned (.bool true) ∧ Below w.heap.size w w' := by
  subst hn
  have h := rbytes_any A B c d l l w hA hB (by omega) (by omega)
  rwa [decide_eq_true rfl] at h
theorem rd_lblk (f : Nat → Int) (h : slotB f 112 = true) (k : Nat) (hk : k < 112) : rd s2 (blk s2 f 112) k = f k :=
  rd_nb s2 f 112 k hk _ ((slotB_iff f 112).1 h k hk).1 (by have h2 := (slotB_iff f 112).1 h k hk; show (f k).toNat < 65536; omega)
theorem slotB_congr {f g : Nat → Int} {n : Nat} (h : ∀ k, k < n → f k = g k) : slotB f n = slotB g n := by
  rw [Bool.eq_iff_iff, slotB_iff, slotB_iff]
  constructor
  · intro h1 j hj
    rw [← h j hj]
    exact h1 j hj
  · intro h1 j hj
    rw [h j hj]
    exact h1 j hj
theorem lV_blk (f : Nat → Int) (h : slotB f 112 = true) : lV (blk s2 f 112) = .tuple #[.agg (inl 112 f).toArray, .int .i64 0] := by
  have hr := rd_lblk f h
  have hok : lOk (blk s2 f 112) = true := by
    unfold lOk
    rw [blk_len s2 f 112 (by decide), slotB_congr hr, h]
    have e : blk s2 (rd s2 (blk s2 f 112)) 112 = blk s2 f 112 := by
      have := nb_congr s2 112 hr
      unfold blk at this ⊢
      rw [this]
    rw [decide_eq_true e]
    rfl
  rw [lV_ok hok, inl_congr hr]
theorem eq_112 (f : Nat → Int) (w : World) : (Op.equalIn 10000 37 (.agg (inl 112 f).toArray) (.agg (inl 112 f).toArray)).run Try.prog w = .ok true w := by
  have h := eq_inl 9998 112 37 Try.underlying37 f f w
  have e : ((List.range 112).all fun j => f j == f j) = true := by
    rw [List.all_eq_true]
    intro j _
    exact beq_self_eq_true _
  rwa [e] at h
set_option maxHeartbeats 4000000 in
theorem ilistsW (f : Nat → Int) (A : Option Addr) (n c : Nat) (l : List UInt8) (hn : l.length = n) (hcap : n ≤ c) (hc : c < 9223372036854775808) (w : World) (hA : Hol w A l) : Calls Try.prog 5 #[.agg (inl 112 f).toArray, .slice A n c] w fun e w' => e = .returned (.bool true) ∧ Below w.heap.size w w' := by
  by_cases h16 : 65536 < n
  · have hni : (65536 : Int) < (n : Int) := by omega
    have hnt : (n : Int) ≤ 9223372036854775807 := by omega
    clear hn hcap hc hA h16
    go_enter Try.func5, Try.ntmps5
    go_wp2_with (first
      | (refine step_box rfl 2 rfl 37 (.tmp 0) rfl (inl 112 f) rfl ?_; intro g2 w1 hr1 hg1 hb1 hs1
         have R1 := Lib.hid hr1
         have HB1 := Lib.hid hb1
         clear hr1 hb1 hg1 hs1)
      | (go_at_call 9; refine (awake_any _).mono ?_; rintro e w2 ⟨rfl, hb2⟩
         have R2 := Lib.hid (R1.out.kept hb2)
         have HB2 := Lib.hid (below_nxt hb2 HB1.out)
         clear hb2))
    go_ret
    exact ⟨rfl, HB2.out⟩
  · have hni : ¬ (65536 : Int) < (n : Int) := by omega
    have i1 := Lib.hid (fun f => info_inl f)
    have hz := Lib.hid zero_112
    have HN := Lib.hid (p := l.length = n ∧ n ≤ 65536 ∧ n ≤ c ∧ c < 9223372036854775808) ⟨hn, by omega, hcap, hc⟩
    have HA := Lib.hid hA
    obtain ⟨u, e, hu⟩ : ∃ (u : Nat → Int) (e : Int), lV l = .tuple #[.agg (inl 112 u).toArray, .int .i64 e] := ⟨_, _, rfl⟩
    have HIV := Lib.hid hu
    clear hn hcap hc hA h16 hu
    cases h : slotB f 112
    · have HP := Lib.hid (fun w => packlist_not f h w)
      have HQ := Lib.hid (p := ∀ w e w', PLR f w w' e → e = .returned (.tuple #[.slice none 0 0, .int .i64 201])) (fun w e w' hp => by
        rcases hp with ⟨_, rfl⟩ | ⟨h2, _⟩
        · rfl
        · rw [h] at h2
          cases h2)
      clear h
      go_enter Try.func5, Try.ntmps5
      go_wp2_with (first
        | (refine step_box rfl 2 rfl 37 (.tmp 0) rfl (inl 112 f) rfl ?_; intro g2 w1 hr1 hg1 hb1 hs1
           have R1 := Lib.hid hr1
           have HB1 := Lib.hid hb1
           clear hr1 hb1 hg1 hs1)
        | (go_at_call 9; refine (awake_any _).mono ?_; rintro e w2 ⟨rfl, hb2⟩
           have R2 := Lib.hid (R1.out.kept hb2)
           have HB2 := Lib.hid (below_nxt hb2 HB1.out)
           clear hb2)
        | (refine step_load rfl 21 rfl 37 (.tmp 2) rfl g2 rfl (inl 112 f) _ R2.out.all Try.underlying37 rfl (i1.out _) ?_)
        | (go_at_call 15; refine (HP.out _).mono ?_; rintro e w3 ⟨rfl, hb3⟩
           have R3 := Lib.hid (R2.out.kept hb3)
           have HB3 := Lib.hid (below_nxt hb3 HB2.out)
           clear hb3)
        | (refine step_load rfl 26 rfl 37 (.tmp 2) rfl g2 rfl (inl 112 f) _ R3.out.all Try.underlying37 rfl (i1.out _) ?_)
        | (go_at_call 16; refine (rpacklist_any f _).mono ?_; rintro e w4 ⟨hp4, hb4⟩; obtain rfl := HQ.out _ _ _ hp4
           have R4 := Lib.hid (R3.out.kept hb4.out)
           have HB4 := Lib.hid (below_nxt hb4.out HB3.out)
           clear hb4 hp4)
        | (go_at_call 12; refine (rbytes_l none none 0 0 0 [] rfl (by omega) _ (.inl rfl) (.inl rfl)).mono ?_; rintro e w5 ⟨rfl, hb5⟩
           have HB9 := Lib.hid (below_nxt hb5 HB4.out)
           clear hb5)
        | (go_at_call 17; refine (unpacklist_any A n c l HN.out.1 (by have := HN.out; omega) _ (HA.out.below HB9.out)).mono ?_; rw [HIV.out]; rintro e w10 ⟨rfl, hb10⟩
           have HB10 := Lib.hid (below_nxt hb10 HB9.out)
           clear hb10)
        | (refine step_alloc rfl 11 rfl 37 rfl _ hz.out ?_; intro g11 w11 hr11 hg11 hb11 hs11
           have R11 := Lib.hid hr11
           have Q11 := Lib.hid (p := w.heap.size ≤ g11) (by rw [hg11.out]; exact HB10.out.size)
           have HB11 := Lib.hid (below_nxt hb11 HB10.out)
           clear hr11 hg11 hb11 hs11)
        | (refine step_store rfl 37 (.tmp 11) (.tmp 56) rfl g11 (by rfl) _ (inl 112 ino0) (inl 112 u) (by rfl) R11.out (by rw [inl_len, inl_len]) (i1.out _) (inl_one _ _) ?_; intro w12 hr12 hg12 hs12
           have R12 := Lib.hid hr12
           have HB12 := Lib.hid (p := Below w.heap.size w w12) (HB11.out.grown hg12 HB11.out.size (fun q hq => by injection hq with hq; subst hq; exact Q11.out))
           clear hr12 hg12 hs12)
        | (go_at_call 18; refine (runpacklist_any A n c l HN.out.1 HN.out.2.2.1 HN.out.2.2.2 _ (HA.out.below HB12.out)).mono ?_; rw [HIV.out]; rintro e w13 ⟨rfl, hb13⟩
           have R13 := Lib.hid (R12.out.kept hb13)
           have HB13 := Lib.hid (below_nxt hb13 HB12.out)
           clear hb13)
        | (refine step_alloc rfl 13 rfl 37 rfl _ hz.out ?_; intro g13 w14 hr14 hg14 hb14 hs14
           have R14 := Lib.hid hr14
           have R134 := Lib.hid (R13.out.kept hb14)
           have Q13 := Lib.hid (p := w.heap.size ≤ g13 ∧ g11 < g13) (by rw [hg14.out]; exact ⟨HB13.out.size, R13.out.lt⟩)
           have HB13b := Lib.hid (below_nxt hb14 HB13.out)
           clear hr14 hg14 hb14 hs14)
        | (refine step_store rfl 37 (.tmp 13) (.tmp 61) rfl g13 (by rfl) _ (inl 112 ino0) (inl 112 u) (by rfl) R14.out (by rw [inl_len, inl_len]) (i1.out _) (inl_one _ _) ?_; intro w15 hr15 hg15 hs15
           have R15 := Lib.hid hr15
           have R135 := Lib.hid (R134.out.grown hg15 (fun e => by injection e with e; have := Q13.out; omega))
           have HB14 := Lib.hid (p := Below w.heap.size w w15) (HB13b.out.grown hg15 HB13b.out.size (fun q hq => by injection hq with hq; subst hq; exact Q13.out.1))
           clear hr15 hg15 hs15)
        | (refine step_load_g (by rfl) 67 rfl 37 (.tmp 11) rfl g11 rfl (inl 112 u) _ R135.out.all Try.underlying37 rfl (i1.out _) ?_)
        | (refine step_load_g (by rfl) 68 rfl 37 (.tmp 13) rfl g13 rfl (inl 112 u) _ R15.out.all Try.underlying37 rfl (i1.out _) ?_)
        | (refine step_eql (by rfl) 37 37 (.tmp 67) (.tmp 68) rfl (inl 112 u).toArray (inl 112 u).toArray (by rfl) (by rfl) l112_guard true (fun w => eq_112 u w) ?_))
      go_ret
      exact ⟨rfl, HB14.out⟩
    · have HP := Lib.hid (fun w => packlist_ok f h w)
      have HLV := Lib.hid (lV_blk f h)
      have HLN := Lib.hid (blk_len s2 f 112 (by decide))
      obtain ⟨M, hM⟩ : ∃ M, blk s2 f 112 = M := ⟨_, rfl⟩
      have HQ := Lib.hid (p := ∀ w e w', PLR f w w' e → ∃ A c, e = .returned (.tuple #[.slice A 256 c, .int .i64 0]) ∧ Hol w' A M) (fun w e w' hp => by
        rcases hp with ⟨h2, _⟩ | ⟨_, A, c, rfl, ho⟩
        · rw [h] at h2
          cases h2
        · exact ⟨A, c, rfl, by rw [← hM]; exact Hol.own ho.out⟩)
      rw [hM] at HP HLV HLN
      clear h hM
      go_enter Try.func5, Try.ntmps5
      go_wp2_with (first
        | (refine step_box rfl 2 rfl 37 (.tmp 0) rfl (inl 112 f) rfl ?_; intro g2 w1 hr1 hg1 hb1 hs1
           have R1 := Lib.hid hr1
           have HB1 := Lib.hid hb1
           clear hr1 hb1 hg1 hs1)
        | (go_at_call 9; refine (awake_any _).mono ?_; rintro e w2 ⟨rfl, hb2⟩
           have R2 := Lib.hid (R1.out.kept hb2)
           have HB2 := Lib.hid (below_nxt hb2 HB1.out)
           clear hb2)
        | (refine step_load rfl 21 rfl 37 (.tmp 2) rfl g2 rfl (inl 112 f) _ R2.out.all Try.underlying37 rfl (i1.out _) ?_)
        | (go_at_call 15; refine (HP.out _).mono ?_; rintro e w3 ⟨A3, c3, rfl, ho3, hb3⟩
           have R3 := Lib.hid (R2.out.kept hb3.out)
           have HH3 := Lib.hid (Hol.own ho3.out)
           have HB3 := Lib.hid (below_nxt hb3.out HB2.out)
           clear hb3 ho3)
        | (refine step_load rfl 26 rfl 37 (.tmp 2) rfl g2 rfl (inl 112 f) _ R3.out.all Try.underlying37 rfl (i1.out _) ?_)
        | (go_at_call 16; refine (rpacklist_any f _).mono ?_; rintro e w4 ⟨hp4, hb4⟩; obtain ⟨A4, c4, rfl, hh4⟩ := HQ.out _ _ _ hp4
           have R4 := Lib.hid (R3.out.kept hb4.out)
           have HH34 := Lib.hid (HH3.out.below hb4.out)
           have HH4 := Lib.hid hh4
           have HB4 := Lib.hid (below_nxt hb4.out HB3.out)
           clear hb4 hp4 hh4)
        | (go_at_call 12; refine (rbytes_l A3 A4 256 c3 c4 M HLN.out (by omega) _ HH34.out HH4.out).mono ?_; rintro e w5 ⟨rfl, hb5⟩
           have R5 := Lib.hid (R4.out.kept hb5)
           have HH5 := Lib.hid (HH34.out.below hb5)
           have HB5 := Lib.hid (below_nxt hb5 HB4.out)
           clear hb5)
        | (go_at_call_of 17 (Value.slice A3 256 c3); refine (unpacklist_any A3 256 c3 M HLN.out (by omega) _ HH5.out).mono ?_; rw [HLV.out]; rintro e w6 ⟨rfl, hb6⟩
           have R6 := Lib.hid (R5.out.kept hb6)
           have HB6 := Lib.hid (below_nxt hb6 HB5.out)
           clear hb6)
        | (refine step_alloc rfl 9 rfl 37 rfl _ hz.out ?_; intro g7 w7 hr7 hg7 hb7 hs7
           have R7 := Lib.hid hr7
           have R67 := Lib.hid (R6.out.kept hb7)
           have Q7 := Lib.hid (p := w.heap.size ≤ g7 ∧ g2 < g7) (by rw [hg7.out]; exact ⟨HB6.out.size, R6.out.lt⟩)
           have HB7 := Lib.hid (below_nxt hb7 HB6.out)
           clear hr7 hg7 hb7 hs7)
        | (refine step_store rfl 37 (.tmp 9) (.tmp 44) rfl g7 (by rfl) _ (inl 112 ino0) (inl 112 f) (by rfl) R7.out (by rw [inl_len, inl_len]) (i1.out _) (inl_one _ _) ?_; intro w8 hr8 hg8 hs8
           have R8 := Lib.hid hr8
           have R68 := Lib.hid (R67.out.grown hg8 (fun e => by injection e with e; have := Q7.out; omega))
           have HB9 := Lib.hid (p := Below w.heap.size w w8) (HB7.out.grown hg8 HB7.out.size (fun q hq => by injection hq with hq; subst hq; exact Q7.out.1))
           clear hr8 hg8 hs8)
        | (refine step_load_g (by rfl) 49 rfl 37 (.tmp 9) rfl g7 rfl (inl 112 f) _ R8.out.all Try.underlying37 rfl (i1.out _) ?_)
        | (refine step_load_g (by rfl) 50 rfl 37 (.tmp 2) rfl g2 rfl (inl 112 f) _ R68.out.all Try.underlying37 rfl (i1.out _) ?_)
        | (refine step_neq (by rfl) 37 37 (.tmp 49) (.tmp 50) rfl (inl 112 f).toArray (inl 112 f).toArray (by rfl) (by rfl) l112_guard true (fun w => eq_112 f w) ?_)
        | (go_at_call 17; refine (unpacklist_any A n c l HN.out.1 (by have := HN.out; omega) _ (HA.out.below HB9.out)).mono ?_; rw [HIV.out]; rintro e w10 ⟨rfl, hb10⟩
           have HB10 := Lib.hid (below_nxt hb10 HB9.out)
           clear hb10)
        | (refine step_alloc rfl 11 rfl 37 rfl _ hz.out ?_; intro g11 w11 hr11 hg11 hb11 hs11
           have R11 := Lib.hid hr11
           have Q11 := Lib.hid (p := w.heap.size ≤ g11) (by rw [hg11.out]; exact HB10.out.size)
           have HB11 := Lib.hid (below_nxt hb11 HB10.out)
           clear hr11 hg11 hb11 hs11)
        | (refine step_store rfl 37 (.tmp 11) (.tmp 56) rfl g11 (by rfl) _ (inl 112 ino0) (inl 112 u) (by rfl) R11.out (by rw [inl_len, inl_len]) (i1.out _) (inl_one _ _) ?_; intro w12 hr12 hg12 hs12
           have R12 := Lib.hid hr12
           have HB12 := Lib.hid (p := Below w.heap.size w w12) (HB11.out.grown hg12 HB11.out.size (fun q hq => by injection hq with hq; subst hq; exact Q11.out))
           clear hr12 hg12 hs12)
        | (go_at_call 18; refine (runpacklist_any A n c l HN.out.1 HN.out.2.2.1 HN.out.2.2.2 _ (HA.out.below HB12.out)).mono ?_; rw [HIV.out]; rintro e w13 ⟨rfl, hb13⟩
           have R13 := Lib.hid (R12.out.kept hb13)
           have HB13 := Lib.hid (below_nxt hb13 HB12.out)
           clear hb13)
        | (refine step_alloc rfl 13 rfl 37 rfl _ hz.out ?_; intro g13 w14 hr14 hg14 hb14 hs14
           have R14 := Lib.hid hr14
           have R134 := Lib.hid (R13.out.kept hb14)
           have Q13 := Lib.hid (p := w.heap.size ≤ g13 ∧ g11 < g13) (by rw [hg14.out]; exact ⟨HB13.out.size, R13.out.lt⟩)
           have HB13b := Lib.hid (below_nxt hb14 HB13.out)
           clear hr14 hg14 hb14 hs14)
        | (refine step_store rfl 37 (.tmp 13) (.tmp 61) rfl g13 (by rfl) _ (inl 112 ino0) (inl 112 u) (by rfl) R14.out (by rw [inl_len, inl_len]) (i1.out _) (inl_one _ _) ?_; intro w15 hr15 hg15 hs15
           have R15 := Lib.hid hr15
           have R135 := Lib.hid (R134.out.grown hg15 (fun e => by injection e with e; have := Q13.out; omega))
           have HB14 := Lib.hid (p := Below w.heap.size w w15) (HB13b.out.grown hg15 HB13b.out.size (fun q hq => by injection hq with hq; subst hq; exact Q13.out.1))
           clear hr15 hg15 hs15)
        | (refine step_load_g (by rfl) 67 rfl 37 (.tmp 11) rfl g11 rfl (inl 112 u) _ R135.out.all Try.underlying37 rfl (i1.out _) ?_)
        | (refine step_load_g (by rfl) 68 rfl 37 (.tmp 13) rfl g13 rfl (inl 112 u) _ R15.out.all Try.underlying37 rfl (i1.out _) ?_)
        | (refine step_eql (by rfl) 37 37 (.tmp 67) (.tmp 68) rfl (inl 112 u).toArray (inl 112 u).toArray (by rfl) (by rfl) l112_guard true (fun w => eq_112 u w) ?_))
      go_ret
      exact ⟨rfl, HB14.out⟩
end Go.Proofs.Ytpmldaoligmkaaa
