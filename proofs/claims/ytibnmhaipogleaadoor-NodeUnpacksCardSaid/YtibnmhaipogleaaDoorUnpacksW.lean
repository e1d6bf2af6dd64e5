/- Every block is four records, or none; what is read packs as it was: the walk. No conditions. -/
import Derived.Test.YtibnmhaipogleaaDoorRUnpW
import Derived.Test.YtibnmhaipogleaaDoorPacksW
set_option linter.unusedVariables false
set_option maxRecDepth 20000
namespace Go.Proofs.YtibnmhaipogleaaDoor.nodeUnpacks
open Go.RowKit

theorem eq_recs (R : Nat → RecV) (w : World) : (Op.equalIn 10000 27 (.agg (recsC R).toArray) (.agg (recsC R).toArray)).run Tryd.prog w = .ok true w := by
  have h := run_equalIn_parts (P := Tryd.prog) w 9999 27 26 4 35 Tryd.underlying27 info_rec (recsC R).toArray (recsC R).toArray (fun i => .agg (R i).cs.toArray) (fun i => .agg (R i).cs.toArray) (fun i => (R i).eqb (R i))
    (fun i hi w => by rw [part_str w Tryd.underlying26 info_rec, recsC_extract R i hi]) (fun i hi w => by rw [part_str w Tryd.underlying26 info_rec, recsC_extract R i hi]) (fun i hi w => eq_rec 9996 (R i) (R i) w)
  rw [h]
  congr 1
  simp [RecV.eqb_refl]
theorem runpack_short (A : Option Addr) (n c : Nat) (hn : n ≠ 256) (w : World) : Calls Tryd.prog 15 #[.slice A n c] w fun e w' => e = .returned (.tuple #[.agg (recsC fun _ => rec0).toArray, .int .i64 210]) ∧ Below w.heap.size w w' := by
  have hn' : ((n : Int) != 256) = true := by simp; omega
  have hz := Lib.hid zero_recs
  obtain ⟨C0, hC0⟩ : ∃ C0, C0 = recsC fun _ => rec0 := ⟨_, rfl⟩
  rw [← hC0] at hz
  rw [← hC0]
  have i0 := Lib.hid (p := (Tryd.prog.info? 27).map (·.size) = some C0.length) (by rw [hC0, recsC_len]; exact info_recs)
  have one0 := Lib.hid (p := ∀ v ∈ C0, v.oneCell' = true) (by rw [hC0]; exact recsC_one _)
  clear hn hC0
  go_enter Tryd.func15, Tryd.ntmps15
  go_wp2_with (first
    | (refine step_alloc rfl 2 rfl 27 rfl _ hz ?_; intro g2 w2 hr2 hg2 hb2 hs2)
    | (refine step_alloc rfl 4 rfl 27 rfl _ hz ?_; intro g4 w4 hr4 hg4 hb4 hs4)
    | (refine step_alloc rfl 5 rfl 27 rfl _ hz ?_; intro g5 w5 hr5 hg5 hb5 hs5
       have HU := Lib.hid (p := RU w w5 g2 g4 g5 C0 C0) ⟨(hr2.kept hb4).kept hb5, hr4.kept hb5, hr5, ⟨by have := hr2.lt; have := hg4.out; omega, by have := hr4.lt; have := hg5.out; omega⟩, by rw [hg2.out]; exact Nat.le_refl _, (hb2.trans (hb4.mono hb2.size)).trans (hb5.mono (Nat.le_trans hb2.size hb4.size))⟩
       clear hr2 hg2 hb2 hs2 hr4 hg4 hb4 hs4 hr5 hg5 hb5 hs5)
    | (refine step_load rfl 13 rfl 27 (.tmp 4) rfl g4 rfl C0 _ HU.out.r4.all Tryd.underlying27 rfl i0.out ?_)
    | (refine step_store rfl 27 (.tmp 2) (.tmp 13) rfl g2 (by rfl) _ C0 C0 (by rfl) HU.out.r2 rfl i0.out one0.out ?_; intro w9 hr9 hg9 hs9))
  refine bodyPost_ret (results_row_tmp rfl _ _ g2 _ _ _ _ rfl hr9 Tryd.underlying27 rfl (by simpa using i0.out)) rfl ?_
  exact ⟨rfl, HU.out.b.grown hg9 HU.out.b.size (fun q hq => by injection hq with hq; subst hq; exact HU.out.q)⟩
/-- What both sides answer of bytes. -/
theorem both (A : Option Addr) (n c : Nat) (l : List UInt8) (hn : n = l.length) (hc : n ≤ c) (hc2 : c ≤ 9223372036854775807) : ∃ (R : Nat → RecV) (z : Int),
    (∀ (w : World) (A' : Option Addr) (c' : Nat), Hol w A' l → Calls Tryd.prog 14 #[.slice A' n c'] w fun e w' => e = .returned (.tuple #[.agg (recsC R).toArray, .int .i64 z]) ∧ Below w.heap.size w w') ∧
    (∀ w : World, Hol w A l → Calls Tryd.prog 15 #[.slice A n c] w fun e w' => e = .returned (.tuple #[.agg (recsC R).toArray, .int .i64 z]) ∧ Below w.heap.size w w') ∧
    (z = 210 ∨ z = 0 ∧ (∀ k, k < 4 → (R k).Ok) ∧ (∀ k, k < 4 → (R k).may = true) ∧ lst 256 (pk R) = l) := by
  subst hn
  by_cases h : l.length = 256
  · refine ⟨if unOk l = true then unR l else fun _ => rec0, if unOk l = true then 0 else 210, fun w A' c' hA => ?_, fun w hA => ?_, ?_⟩
    · rw [h]
      exact unpack_any A' c' l h w hA
    · rw [h]
      obtain ⟨ga, oa, rfl, _⟩ := hA.some_ (by omega)
      exact runpack_any ga oa c l h (by omega) hc2 w hA
    · cases hu : unOk l
      · exact .inl (by rw [if_neg (by decide)])
      · refine .inr ⟨by rw [if_pos rfl], fun k hk => ?_, fun k hk => ?_, ?_⟩
        · rw [if_pos rfl]; exact unR_ok l k
        · rw [if_pos rfl]; exact unOk_may hu k hk
        · rw [if_pos rfl]; exact unOk_eq hu
  · exact ⟨fun _ => rec0, 210, fun w A' c' hA => unpack_short A' l.length c' h w, fun w hA => runpack_short A l.length c h w, .inl rfl⟩
set_option maxHeartbeats 2000000 in
theorem walk (A : Option Addr) (n c : Nat) (l : List UInt8) {w : World} (hI : InB w A n c l) : Calls Tryd.prog 4 #[.slice A n c] w fun e w' => e = .returned (.bool true) ∧ Below w.heap.size w w' := by
  obtain ⟨i, U⟩ := u8_tab
  by_cases hlong : 65536 < n
  · have hli : (65536 : Int) < (n : Int) := by omega
    clear hI hlong
    go_enter Tryd.func4, Tryd.ntmps4
    go_wp2_with (go_at_call 10; refine (awake_any _).mono ?_; rintro e2 w2 ⟨rfl, hb2⟩)
    go_ret
    exact ⟨rfl, hb2⟩
  · have hli : ¬ (65536 : Int) < (n : Int) := by omega
    have hcm : c ≤ 9223372036854775807 := by have h9 := hI.max_; unfold maxLen at h9; omega
    obtain ⟨R, z, hp, hq, hcase⟩ := both A n c l hI.len_ hI.cap_ hcm
    have hzc := z
    have i140 := Lib.hid (p := (Tryd.prog.info? 27).map (·.size) = some (recsC R).length) (by rw [recsC_len]; exact info_recs)
    have hz := Lib.hid zero_recs
    have l00 := Lib.hid (p := (recsC fun _ => rec0).length = 140) (recsC_len _)
    obtain ⟨C0, hC0⟩ : ∃ C0, C0 = recsC fun _ => rec0 := ⟨_, rfl⟩
    rw [← hC0] at hz l00
    obtain ⟨C1, hC1⟩ : ∃ C1, C1 = recsC R := ⟨_, rfl⟩
    have HEQ := Lib.hid (fun w => eq_recs R w)
    have l1 := Lib.hid (p := C1.length = 140) (by rw [hC1, recsC_len])
    have one1 := Lib.hid (p := ∀ v ∈ C1, v.oneCell' = true) (by rw [hC1]; exact recsC_one _)
    rw [← hC1] at hp hq i140 HEQ
    have HP := Lib.hid hp
    have HQ := Lib.hid hq
    have HN := Lib.hid hI.len_
    have HA := Lib.hid hI.hol
    have HL := Lib.hid (p := n ≤ 65536) (by omega)
    have HC1 := Lib.hid hC1
    have HO := Lib.hid (p := ∀ W : World, (W.alloc (.cells #[] 5)).ownsRow W.heap.size 5 1 (.slice (some ⟨W.heap.size, 0, none⟩) 0 0) 0 []) (fun W => World.ownsRow_made W #[] 0 (Nat.le_refl _) (by decide) rfl)
    clear hp hq hI hlong hcm hC0 hC1 hzc
    rcases hcase with rfl | ⟨rfl, hR, hmay, hpk⟩
    · go_enter Tryd.func4, Tryd.ntmps4
      go_wp2_with (first
        | (go_at_call 10; refine (awake_any _).mono ?_; rintro e2 w2 ⟨rfl, hb2⟩; have HB2 := Lib.hid hb2; clear hb2)
        | (at_builtin; refine wpList_app _ rfl (.tmp 15) (.tmp 16) _ rfl 5 i U w2.heap.size _ 0 [] rfl (HO.out w2) A n c l rfl HN.out (HA.out.below (HB2.out.trans ((below_of_grown (World.grownBy_alloc w2 _ none)).mono HB2.out.size))) (by have := HL.out; omega) (by simp) ?_
           intro v3 w3 ho3 hg3 hat3
           obtain ⟨A3, c3, rfl⟩ := own_sl ho3
           have HB23 := Lib.hid (p := Below w2.heap.size w2 w3) ((below_of_grown (World.grownBy_alloc w2 _ none)).grown hg3 (by simp) (fun q hq => ((HO.out w2).lt q hq).1))
           have HB3 := Lib.hid (HB2.out.trans (HB23.out.mono HB2.out.size))
           have HH3 := Lib.hid (p := Hol w3 A3 l) (Hol.own (by simpa using ho3))
           clear ho3 hg3 hat3)
        | (go_at_call 14; refine (HP.out _ A3 c3 HH3.out).mono ?_; rintro e4 w4 ⟨rfl, hb4⟩
           have HB4 := Lib.hid (HB3.out.trans (hb4.mono HB3.out.size))
           have HH4 := Lib.hid (HH3.out.below hb4)
           clear hb4)
        | (refine step_alloc rfl 4 rfl 27 rfl _ hz ?_; intro g5 w5 hr5 hg5 hb5 hs5)
        | (refine step_store rfl 27 (.tmp 4) (.tmp 21) rfl g5 (by rfl) _ C0 C1 (by rfl) hr5 (by rw [l00.out, l1.out]) i140.out one1.out ?_; intro w6 hr6 hg6 hs6
           have HB46 := Lib.hid (p := Below w4.heap.size w4 w6) (hb5.grown hg6 hb5.size (fun q hq => by injection hq with hq; subst hq; rw [hg5.out]; exact Nat.le_refl _))
           have HB6 := Lib.hid (HB4.out.trans (HB46.out.mono HB4.out.size))
           have HH6 := Lib.hid (HH4.out.below HB46.out)
           have HR6 := Lib.hid hr6
           clear hr5 hg5 hb5 hs5 hr6 hg6 hs6)
        | (go_at_call 15; refine (HQ.out _ (HA.out.below HB6.out)).mono ?_; rintro e7 w7 ⟨rfl, hb7⟩
           have HB7 := Lib.hid (HB6.out.trans (hb7.mono HB6.out.size))
           have HH7 := Lib.hid (HH6.out.below hb7)
           have HR7 := Lib.hid (HR6.out.kept hb7)
           clear hb7)
        | (refine step_alloc rfl 6 rfl 27 rfl _ hz ?_; intro g8 w8 hr8 hg8 hb8 hs8)
        | (refine step_store rfl 27 (.tmp 6) (.tmp 26) rfl g8 (by rfl) _ C0 C1 (by rfl) hr8 (by rw [l00.out, l1.out]) i140.out one1.out ?_; intro w9 hr9 hg9 hs9
           have HB79 := Lib.hid (p := Below w7.heap.size w7 w9) (hb8.grown hg9 hb8.size (fun q hq => by injection hq with hq; subst hq; rw [hg8.out]; exact Nat.le_refl _))
           have HB9 := Lib.hid (HB7.out.trans (HB79.out.mono HB7.out.size))
           have HH9 := Lib.hid (HH7.out.below HB79.out)
           have HR59 := Lib.hid (HR7.out.kept HB79.out)
           have HR89 := Lib.hid hr9
           clear hr8 hg8 hb8 hs8 hr9 hg9 hs9)
        | (refine step_load_g (by rfl) 32 rfl 27 (.tmp 4) rfl g5 rfl C1 _ HR59.out.all Tryd.underlying27 rfl i140.out ?_)
        | (refine step_load_g (by rfl) 33 rfl 27 (.tmp 6) rfl g8 rfl C1 _ HR89.out.all Tryd.underlying27 rfl i140.out ?_)
        | (refine step_neq (by rfl) 27 27 (.tmp 32) (.tmp 33) rfl C1.toArray C1.toArray rfl rfl recs_guard true HEQ.out ?_)
        | (go_at_call_of 13 (Value.slice A3 n c3); refine (bytes_call A3 A c3 c n n l l HN.out HN.out _ HH9.out (HA.out.below HB9.out) (by have h1 := HL.out; have h2 := HN.out; omega) (by have h1 := HL.out; have h2 := HN.out; omega)).mono ?_; rintro e10 w10 ⟨rfl, hb10⟩; rw [decide_eq_true (rfl : l = l)]
           have HB10 := Lib.hid (HB9.out.trans (hb10.mono HB9.out.size))
           have HR510 := Lib.hid (HR59.out.kept hb10)
           clear hb10))
      go_ret
      exact ⟨rfl, HB10.out⟩
    · have HPk := Lib.hid (fun w => pack_ok R hR hmay w)
      rw [← HC1.out] at HPk
      have HPK := Lib.hid hpk
      clear hR hmay hpk
      go_enter Tryd.func4, Tryd.ntmps4
      go_wp2_with (first
        | (go_at_call 10; refine (awake_any _).mono ?_; rintro e2 w2 ⟨rfl, hb2⟩; have HB2 := Lib.hid hb2; clear hb2)
        | (at_builtin; refine wpList_app _ rfl (.tmp 15) (.tmp 16) _ rfl 5 i U w2.heap.size _ 0 [] rfl (HO.out w2) A n c l rfl HN.out (HA.out.below (HB2.out.trans ((below_of_grown (World.grownBy_alloc w2 _ none)).mono HB2.out.size))) (by have := HL.out; omega) (by simp) ?_
           intro v3 w3 ho3 hg3 hat3
           obtain ⟨A3, c3, rfl⟩ := own_sl ho3
           have HB23 := Lib.hid (p := Below w2.heap.size w2 w3) ((below_of_grown (World.grownBy_alloc w2 _ none)).grown hg3 (by simp) (fun q hq => ((HO.out w2).lt q hq).1))
           have HB3 := Lib.hid (HB2.out.trans (HB23.out.mono HB2.out.size))
           have HH3 := Lib.hid (p := Hol w3 A3 l) (Hol.own (by simpa using ho3))
           clear ho3 hg3 hat3)
        | (go_at_call 14; refine (HP.out _ A3 c3 HH3.out).mono ?_; rintro e4 w4 ⟨rfl, hb4⟩
           have HB4 := Lib.hid (HB3.out.trans (hb4.mono HB3.out.size))
           have HH4 := Lib.hid (HH3.out.below hb4)
           clear hb4)
        | (refine step_alloc rfl 4 rfl 27 rfl _ hz ?_; intro g5 w5 hr5 hg5 hb5 hs5)
        | (refine step_store rfl 27 (.tmp 4) (.tmp 21) rfl g5 (by rfl) _ C0 C1 (by rfl) hr5 (by rw [l00.out, l1.out]) i140.out one1.out ?_; intro w6 hr6 hg6 hs6
           have HB46 := Lib.hid (p := Below w4.heap.size w4 w6) (hb5.grown hg6 hb5.size (fun q hq => by injection hq with hq; subst hq; rw [hg5.out]; exact Nat.le_refl _))
           have HB6 := Lib.hid (HB4.out.trans (HB46.out.mono HB4.out.size))
           have HH6 := Lib.hid (HH4.out.below HB46.out)
           have HR6 := Lib.hid hr6
           clear hr5 hg5 hb5 hs5 hr6 hg6 hs6)
        | (go_at_call 15; refine (HQ.out _ (HA.out.below HB6.out)).mono ?_; rintro e7 w7 ⟨rfl, hb7⟩
           have HB7 := Lib.hid (HB6.out.trans (hb7.mono HB6.out.size))
           have HH7 := Lib.hid (HH6.out.below hb7)
           have HR7 := Lib.hid (HR6.out.kept hb7)
           clear hb7)
        | (refine step_alloc rfl 6 rfl 27 rfl _ hz ?_; intro g8 w8 hr8 hg8 hb8 hs8)
        | (refine step_store rfl 27 (.tmp 6) (.tmp 26) rfl g8 (by rfl) _ C0 C1 (by rfl) hr8 (by rw [l00.out, l1.out]) i140.out one1.out ?_; intro w9 hr9 hg9 hs9
           have HB79 := Lib.hid (p := Below w7.heap.size w7 w9) (hb8.grown hg9 hb8.size (fun q hq => by injection hq with hq; subst hq; rw [hg8.out]; exact Nat.le_refl _))
           have HB9 := Lib.hid (HB7.out.trans (HB79.out.mono HB7.out.size))
           have HH9 := Lib.hid (HH7.out.below HB79.out)
           have HR59 := Lib.hid (HR7.out.kept HB79.out)
           have HR89 := Lib.hid hr9
           clear hr8 hg8 hb8 hs8 hr9 hg9 hs9)
        | (refine step_load_g (by rfl) 32 rfl 27 (.tmp 4) rfl g5 rfl C1 _ HR59.out.all Tryd.underlying27 rfl i140.out ?_)
        | (refine step_load_g (by rfl) 33 rfl 27 (.tmp 6) rfl g8 rfl C1 _ HR89.out.all Tryd.underlying27 rfl i140.out ?_)
        | (refine step_neq (by rfl) 27 27 (.tmp 32) (.tmp 33) rfl C1.toArray C1.toArray rfl rfl recs_guard true HEQ.out ?_)
        | (go_at_call_of 13 (Value.slice A3 n c3); refine (bytes_call A3 A c3 c n n l l HN.out HN.out _ HH9.out (HA.out.below HB9.out) (by have h1 := HL.out; have h2 := HN.out; omega) (by have h1 := HL.out; have h2 := HN.out; omega)).mono ?_; rintro e10 w10 ⟨rfl, hb10⟩; rw [decide_eq_true (rfl : l = l)]
           have HB10 := Lib.hid (HB9.out.trans (hb10.mono HB9.out.size))
           have HR510 := Lib.hid (HR59.out.kept hb10)
           clear hb10)
        | (refine step_load rfl 45 rfl 27 (.tmp 4) rfl g5 rfl C1 _ HR510.out.all Tryd.underlying27 rfl i140.out ?_)
        | (go_at_call 11; refine (HPk.out _).mono ?_; rintro e11 w11 ⟨g11, rfl, hr11, _, hb11⟩
           have HB11 := Lib.hid (HB10.out.trans (hb11.out.mono HB10.out.size))
           have HH11 := Lib.hid hr11.out.hol
           rw [HPK.out] at HH11
           have L256 := Lib.hid (p := 256 = l.length) (by rw [← HPK.out, lst_len])
           clear hb11 hr11)
        | (go_at_call 13; refine (bytes_call _ A 256 c 256 n l l L256.out HN.out _ HH11.out (HA.out.below HB11.out) (by have h1 := HL.out; have h2 := HN.out; omega) (by have h1 := HL.out; have h2 := HN.out; omega)).mono ?_; rintro e12 w12 ⟨rfl, hb12⟩; rw [decide_eq_true (rfl : l = l)]
           have HB12 := Lib.hid (HB11.out.trans (hb12.mono HB11.out.size))
           clear hb12))
      go_ret
      exact ⟨rfl, HB12.out⟩
end Go.Proofs.YtibnmhaipogleaaDoor.nodeUnpacks
