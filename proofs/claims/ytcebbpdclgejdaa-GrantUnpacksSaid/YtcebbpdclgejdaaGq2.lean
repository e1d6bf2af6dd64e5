/- The walk of GrantUnpacks. Conditions: those named. -/
import Derived.Test.YtcebbpdclgejdaaGd
import Derived.Test.YtcebbpdclgejdaaGo
set_option linter.unusedVariables false
set_option maxRecDepth 20000
namespace Go.Proofs.Ytcebbpdclgejdaa
open Go.RowKit

theorem void_own (w : World) (e : TypeId) (k b : Nat) (hb : b ≤ w.heap.size) : (w.alloc (.cells #[] e)).ownsRow b e k (.slice (some ⟨w.heap.size, 0, none⟩) 0 0) 0 [] :=
  ⟨by simp, .inr ⟨w.heap.size, 0, #[], rfl, hb, heap_alloc_new w _, Nat.le_refl _, by decide, by simp, by simp⟩⟩
theorem below_al (w : World) (o : Obj) : Below w.heap.size w (w.alloc o) := (Below.refl _ _).alloc (Nat.le_refl _) _
theorem own_low {w : World} {b b' : Nat} {e : TypeId} {size n : Nat} {v : Value} {xs : List Value} (h : w.ownsRow b e size v n xs) (hb : b' ≤ b) : w.ownsRow b' e size v n xs := by
  refine ⟨h.1, ?_⟩
  rcases h.2 with h0 | ⟨g, cap, cur, h1, h2, h3⟩
  · exact .inl h0
  · exact .inr ⟨g, cap, cur, h1, Nat.le_trans hb h2, h3⟩
theorem rbytes_eq (A B : Option Addr) (n c d : Nat) (l : List UInt8) (hn : l.length = n) (hn2 : n ≤ 65536) (w : World) (hA : Hol w A l) (hB : Hol w B l) : Calls Try.prog 10 #[.slice A n c, .slice B n d] w fun e w' => e = .returned (.bool true) ∧ Below w.heap.size w w' := by
  subst hn
  have h := rbytes_any A B c d l l w hA hB (by omega) (by omega)
  rwa [decide_eq_true rfl] at h
set_option maxHeartbeats 2000000 in
theorem gunpacksW (A : Option Addr) (n c : Nat) (l : List UInt8) (hn : l.length = n) (hcap : n ≤ c) (hc : c < 9223372036854775808) (w : World) (hA : Hol w A l) : Calls Try.prog 4 #[.slice A n c] w fun e w' => e = .returned (.bool true) ∧ Below w.heap.size w w' := by
  obtain ⟨i, U⟩ := u8_tab
  by_cases h16 : 65536 < n
  · have hni : (65536 : Int) < (n : Int) := by omega
    have hnt : (n : Int) ≤ 9223372036854775807 := by omega
    clear hn hcap hc hA h16
    go_enter Try.func4, Try.ntmps4
    go_wp2_with (go_at_call 7; refine (gawake_any _).mono ?_; rintro e w2 ⟨rfl, hb2⟩; have HB2 := Lib.hid hb2; clear hb2)
    go_ret
    exact ⟨rfl, HB2.out⟩
  · have hni : ¬ (65536 : Int) < (n : Int) := by omega
    have i1 := Lib.hid (fun x : Sup => info_cs x)
    have hz := Lib.hid zero_sup
    have HN := Lib.hid (p := l.length = n ∧ n ≤ 65536 ∧ n ≤ c ∧ c < 9223372036854775808) ⟨hn, by omega, hcap, hc⟩
    have HA := Lib.hid hA
    by_cases hk : SOk l
    · obtain rfl : n = 256 := by rw [← hn]; exact hk.1
      have HGU := Lib.hid (fun (A3 : Option Addr) (c3 : Nat) (w : World) (h : Hol w A3 l) => gunpack_ok A3 c3 l hk w h)
      have HRU := Lib.hid (fun (w : World) (h : Hol w A l) => runpack_ok A c l hn hcap hc hk.2.1 hk.2.2 w h)
      have HP := Lib.hid (fun w => gpack_ok (sr l) hk.2.1 (srS_lt l) w)
      rw [hk.2.2] at HP
      obtain ⟨u, hu⟩ : ∃ u, sr l = u := ⟨_, rfl⟩
      rw [hu] at HGU HRU HP
      clear hn hcap hc hA h16 hk hu
      go_enter Try.func4, Try.ntmps4
      go_wp2_with (first
        | (go_at_call 7; refine (gawake_any _).mono ?_; rintro e w2 ⟨rfl, hb2⟩; have HB2 := Lib.hid hb2; clear hb2)
        | (at_builtin; refine wpList_app _ rfl (.tmp 15) (.tmp 16) _ rfl 5 i U w.heap.size _ 0 [] rfl (own_low (void_own w2 5 1 w2.heap.size (Nat.le_refl _)) HB2.out.size) A 256 c l rfl HN.out.1.symm ((HA.out.below HB2.out).below (below_al w2 _)) (by have := HN.out; omega) (by have := HB2.out.size; simp; omega) ?_
           intro v3 w3 ho3 hg3 hat3
           obtain ⟨A3, c3, rfl⟩ := own_sl ho3
           have HB3 := Lib.hid (p := Below w.heap.size w w3) ((HB2.out.alloc HB2.out.size _).grown hg3 (by have := HB2.out.size; simp; omega) (fun q hq => ((own_low (void_own w2 5 1 w2.heap.size (Nat.le_refl _)) HB2.out.size).lt q hq).1))
           have ho4 : w3.ownsRow w.heap.size 5 1 (.slice A3 (0 + 256) c3) (0 + 256) (bc l) := ho3
           have HO3 := Lib.hid (Hol.own ho4)
           clear ho3 hg3 hat3 ho4)
        | (go_at_call 11; refine (HGU.out A3 c3 _ HO3.out).mono ?_; rintro e w4 ⟨rfl, hb4⟩
           have HO4 := Lib.hid (HO3.out.below hb4)
           have HB4 := Lib.hid (below_nxt hb4 HB3.out)
           clear hb4)
        | (refine step_alloc rfl 4 rfl 27 rfl _ hz.out ?_; intro g5 w5 hr5 hg5 hb5 hs5
           have R5 := Lib.hid hr5
           have Q5 := Lib.hid (p := w4.heap.size ≤ g5) (by rw [hg5.out]; exact Nat.le_refl _)
           have HB5 := Lib.hid hb5
           clear hr5 hg5 hb5 hs5)
        | (refine step_store rfl 27 (.tmp 4) (.tmp 21) rfl g5 (by rfl) _ sup0.cs u.cs (by rfl) R5.out (by rw [Sup.cs_len, Sup.cs_len]) (i1.out _) (Sup.cs_one _) ?_; intro w6 hr6 hg6 hs6
           have R6 := Lib.hid hr6
           have HB46 := Lib.hid (p := Below w4.heap.size w4 w6) (HB5.out.grown hg6 HB5.out.size (fun q hq => by injection hq with hq; subst hq; exact Q5.out))
           have HO6 := Lib.hid (HO4.out.below HB46.out)
           have HB6 := Lib.hid (below_nxt HB46.out HB4.out)
           clear hr6 hg6 hs6)
        | (go_at_call 12; refine (HRU.out _ (HA.out.below HB6.out)).mono ?_; rintro e w7 ⟨rfl, hb7⟩
           have R7 := Lib.hid (R6.out.kept hb7)
           have HO7 := Lib.hid (HO6.out.below hb7)
           have HB7 := Lib.hid (below_nxt hb7 HB6.out)
           clear hb7)
        | (refine step_alloc rfl 6 rfl 27 rfl _ hz.out ?_; intro g8 w8 hr8 hg8 hb8 hs8
           have R8 := Lib.hid hr8
           have R78 := Lib.hid (R7.out.kept hb8)
           have Q8 := Lib.hid (p := w7.heap.size ≤ g8 ∧ g5 < g8) (by rw [hg8.out]; exact ⟨Nat.le_refl _, R7.out.lt⟩)
           have HB8 := Lib.hid hb8
           clear hr8 hg8 hb8 hs8)
        | (refine step_store rfl 27 (.tmp 6) (.tmp 26) rfl g8 (by rfl) _ sup0.cs u.cs (by rfl) R8.out (by rw [Sup.cs_len, Sup.cs_len]) (i1.out _) (Sup.cs_one _) ?_; intro w9 hr9 hg9 hs9
           have R9 := Lib.hid hr9
           have R79 := Lib.hid (R78.out.grown hg9 (fun e => by injection e with e; have := Q8.out; omega))
           have HB79 := Lib.hid (p := Below w7.heap.size w7 w9) (HB8.out.grown hg9 HB8.out.size (fun q hq => by injection hq with hq; subst hq; exact Q8.out.1))
           have HO9 := Lib.hid (HO7.out.below HB79.out)
           have HB9 := Lib.hid (below_nxt HB79.out HB7.out)
           clear hr9 hg9 hs9)
        | (refine step_load_g (by rfl) 32 rfl 27 (.tmp 4) rfl g5 rfl u.cs _ R79.out.all Try.underlying27 rfl (i1.out _) ?_)
        | (refine step_load_g (by rfl) 33 rfl 27 (.tmp 6) rfl g8 rfl u.cs _ R9.out.all Try.underlying27 rfl (i1.out _) ?_)
        | (refine step_neq (by rfl) 27 27 (.tmp 32) (.tmp 33) rfl u.cs.toArray u.cs.toArray (by rfl) (by rfl) sup_guard true (fun w => by rw [eq_sup 9997, Sup.eqb_refl]) ?_; go_wp2_with fail)
        | (go_at_call 10; refine (rbytes_eq A3 A 256 c3 c l HN.out.1 HN.out.2.1 _ HO9.out (HA.out.below HB9.out)).mono ?_; rintro e w10 ⟨rfl, hb10⟩
           have R10 := Lib.hid (R79.out.kept hb10)
           have HB10 := Lib.hid (below_nxt hb10 HB9.out)
           clear hb10 HO9)
        | (refine step_load rfl 45 rfl 27 (.tmp 4) rfl g5 rfl u.cs _ R10.out.all Try.underlying27 rfl (i1.out _) ?_)
        | (go_at_call 8; refine (HP.out _).mono ?_; rintro e w11 ⟨g11, c11, rfl, ho11, hb11⟩
           have HO11 := Lib.hid (Hol.own ho11.out)
           have HB11 := Lib.hid (below_nxt hb11.out HB10.out)
           clear hb11 ho11)
        | (go_at_call 10; refine (rbytes_eq (some ⟨g11, 0, none⟩) A 256 c11 c l HN.out.1 HN.out.2.1 _ HO11.out (HA.out.below HB11.out)).mono ?_; rintro e w12 ⟨rfl, hb12⟩
           have HB12 := Lib.hid (below_nxt hb12 HB11.out)
           clear hb12))
      go_ret
      exact ⟨rfl, HB12.out⟩
    · have HGU := Lib.hid (fun (A3 : Option Addr) (c3 : Nat) (w : World) (h : Hol w A3 l) => gunpack_not A3 n c3 l hn (by omega) hk w h)
      have HRU := Lib.hid (fun (w : World) (h : Hol w A l) => runpack_not A n c l hn hcap hc hk w h)
      obtain ⟨u, hu⟩ : ∃ u, sup0 = u := ⟨_, rfl⟩
      have HZ := Lib.hid (p := sup0.cs = u.cs) (by rw [hu])
      rw [hu] at HGU HRU
      clear hn hcap hc hA h16 hk hu
      go_enter Try.func4, Try.ntmps4
      go_wp2_with (first
        | (go_at_call 7; refine (gawake_any _).mono ?_; rintro e w2 ⟨rfl, hb2⟩; have HB2 := Lib.hid hb2; clear hb2)
        | (at_builtin; refine wpList_app _ rfl (.tmp 15) (.tmp 16) _ rfl 5 i U w.heap.size _ 0 [] rfl (own_low (void_own w2 5 1 w2.heap.size (Nat.le_refl _)) HB2.out.size) A n c l rfl HN.out.1.symm ((HA.out.below HB2.out).below (below_al w2 _)) (by have := HN.out; omega) (by have := HB2.out.size; simp; omega) ?_
           intro v3 w3 ho3 hg3 hat3
           obtain ⟨A3, c3, rfl⟩ := own_sl ho3
           have HB3 := Lib.hid (p := Below w.heap.size w w3) ((HB2.out.alloc HB2.out.size _).grown hg3 (by have := HB2.out.size; simp; omega) (fun q hq => ((own_low (void_own w2 5 1 w2.heap.size (Nat.le_refl _)) HB2.out.size).lt q hq).1))
           have ho4 : w3.ownsRow w.heap.size 5 1 (.slice A3 (0 + n) c3) (0 + n) (bc l) := ho3
           rw [Nat.zero_add] at ho4
           have HO3 := Lib.hid (Hol.own ho4)
           rw [Nat.zero_add]
           clear ho3 hg3 hat3 ho4)
        | (go_at_call 11; refine (HGU.out A3 c3 _ HO3.out).mono ?_; rintro e w4 ⟨rfl, hb4⟩
           have HO4 := Lib.hid (HO3.out.below hb4)
           have HB4 := Lib.hid (below_nxt hb4 HB3.out)
           clear hb4)
        | (refine step_alloc rfl 4 rfl 27 rfl _ hz.out ?_; intro g5 w5 hr5 hg5 hb5 hs5
           have R5 := Lib.hid hr5
           have Q5 := Lib.hid (p := w4.heap.size ≤ g5) (by rw [hg5.out]; exact Nat.le_refl _)
           have HB5 := Lib.hid hb5
           clear hr5 hg5 hb5 hs5)
        | (refine step_store rfl 27 (.tmp 4) (.tmp 21) rfl g5 (by rfl) _ sup0.cs u.cs (by rfl) R5.out (by rw [Sup.cs_len, Sup.cs_len]) (i1.out _) (Sup.cs_one _) ?_; intro w6 hr6 hg6 hs6
           have R6 := Lib.hid hr6
           have HB46 := Lib.hid (p := Below w4.heap.size w4 w6) (HB5.out.grown hg6 HB5.out.size (fun q hq => by injection hq with hq; subst hq; exact Q5.out))
           have HO6 := Lib.hid (HO4.out.below HB46.out)
           have HB6 := Lib.hid (below_nxt HB46.out HB4.out)
           clear hr6 hg6 hs6)
        | (go_at_call 12; refine (HRU.out _ (HA.out.below HB6.out)).mono ?_; rintro e w7 ⟨rfl, hb7⟩
           have R7 := Lib.hid (R6.out.kept hb7)
           have HO7 := Lib.hid (HO6.out.below hb7)
           have HB7 := Lib.hid (below_nxt hb7 HB6.out)
           clear hb7)
        | (refine step_alloc rfl 6 rfl 27 rfl _ hz.out ?_; intro g8 w8 hr8 hg8 hb8 hs8
           have R8 := Lib.hid hr8
           have R78 := Lib.hid (R7.out.kept hb8)
           have Q8 := Lib.hid (p := w7.heap.size ≤ g8 ∧ g5 < g8) (by rw [hg8.out]; exact ⟨Nat.le_refl _, R7.out.lt⟩)
           have HB8 := Lib.hid hb8
           clear hr8 hg8 hb8 hs8)
        | (refine step_store rfl 27 (.tmp 6) (.tmp 26) rfl g8 (by rfl) _ sup0.cs u.cs (by rfl) R8.out (by rw [Sup.cs_len, Sup.cs_len]) (i1.out _) (Sup.cs_one _) ?_; intro w9 hr9 hg9 hs9
           have R9 := Lib.hid hr9
           have R79 := Lib.hid (R78.out.grown hg9 (fun e => by injection e with e; have := Q8.out; omega))
           have HB79 := Lib.hid (p := Below w7.heap.size w7 w9) (HB8.out.grown hg9 HB8.out.size (fun q hq => by injection hq with hq; subst hq; exact Q8.out.1))
           have HO9 := Lib.hid (HO7.out.below HB79.out)
           have HB9 := Lib.hid (below_nxt HB79.out HB7.out)
           clear hr9 hg9 hs9)
        | (refine step_load_g (by rfl) 32 rfl 27 (.tmp 4) rfl g5 rfl u.cs _ R79.out.all Try.underlying27 rfl (i1.out _) ?_)
        | (refine step_load_g (by rfl) 33 rfl 27 (.tmp 6) rfl g8 rfl u.cs _ R9.out.all Try.underlying27 rfl (i1.out _) ?_)
        | (refine step_neq (by rfl) 27 27 (.tmp 32) (.tmp 33) rfl u.cs.toArray u.cs.toArray (by rfl) (by rfl) sup_guard true (fun w => by rw [eq_sup 9997, Sup.eqb_refl]) ?_; go_wp2_with fail)
        | (go_at_call 10; refine (rbytes_eq A3 A n c3 c l HN.out.1 HN.out.2.1 _ HO9.out (HA.out.below HB9.out)).mono ?_; rintro e w10 ⟨rfl, hb10⟩
           have R10 := Lib.hid (R79.out.kept hb10)
           have HB10 := Lib.hid (below_nxt hb10 HB9.out)
           clear hb10 HO9))
      go_ret
      exact ⟨rfl, HB10.out⟩
end Go.Proofs.Ytcebbpdclgejdaa
