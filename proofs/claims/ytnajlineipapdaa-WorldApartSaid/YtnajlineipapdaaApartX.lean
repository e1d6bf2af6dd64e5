/- The law WorldApart, walked: what is done to one block changes no other. Conditions: those on how the argument lies. -/
import Derived.Test.YtnajlineipapdaaApartW
import Derived.Deep.RegionWith
set_option linter.unusedVariables false
namespace Go.Proofs.Ytnajlineipapdaa
open Go.RowKit

set_option maxRecDepth 20000 in
set_option maxHeartbeats 4000000 in
theorem apart_any (A1 : Option Addr) (c1 : Nat) (ds : List DoV) (hl1 : ds.length ≤ 9223372036854775807) (hS1 : ShortD ds) (w : World) (hD1 : InDo w A1 ds.length c1 ds) :
    Calls Try.prog 7 #[.slice A1 ds.length c1] w fun e w' => e = .returned (.bool true) ∧ Below w.heap.size w w' := by
  have HL1 := Lib.hid hl1
  have HS1 := Lib.hid hS1
  have HD1 := Lib.hid hD1
  clear hl1 hS1 hD1
  go_enter Try.func7, Try.ntmps7
  go_wp2_with (go_at_call 8; refine (awake_any _).mono ?_; rintro e1 w1 ⟨rfl, hb1⟩; have HB1 := Lib.hid hb1; clear hb1)
  refine (fewd_any A1 c1 ds HL1.out HS1.out _ (HD1.out.below HB1.out)).mono ?_
  rintro e2 w2 ⟨b, rfl, hb2, hF1⟩
  have HB2 := Lib.hid (below_nxt hb2 HB1.out)
  clear hb2
  cases b with
  | false =>
    clear hF1
    go_wp2
    go_ret
    exact ⟨rfl, HB2.out⟩
  | true =>
  have HF1 := Lib.hid (hF1 rfl)
  clear hF1
  go_wp2_with (first
    | (go_at_call 10; refine (new_in 4 (by omega) (by omega) _).mono ?_; rintro e4 w4 ⟨g, F0, x0, rfl, hx0, hD4, hb4⟩
       have HD4 := Lib.hid hD4
       have HB4 := Lib.hid (below_nxt hb4 HB2.out)
       have HX0 := Lib.hid hx0
       clear hD4 hb4 hx0)
    | (go_at_call 31; refine (whole_own _ 1 1 [3] rfl (by simp) _ (hol_three w4)).mono ?_; rintro e5 w5 ⟨x5, rfl, HX5, HO5, HB5⟩
       have HB45 := Lib.hid (p := Below w4.heap.size w4 w5) (below_nxt HB5.out ((Below.refl _ _).alloc (Nat.le_refl _) _))
       have HB05 := Lib.hid (below_nxt HB45.out HB4.out))
    | (go_at_call 18; refine ((HD4.out.kept HB45.out).write 3 (by rw [List.length_replicate]; omega) x5.A _ x5.c x5.l rfl (by rw [HX5.out, pad_len]) HO5.out.hol (by simp) (by simp)).mono ?_; rintro e6 w6 ⟨x6, rfl, HX6, F6, HD6, HC6, HWi6⟩
       have HB6 := Lib.hid (p := Below w.heap.size w w6) (HB05.out.trans (HC6.out.below HB05.out.size (fun q hq => Nat.le_trans HB2.out.size (HD4.out.lt q hq).1))))
    | (go_at_call 20; refine (HD6.out.barrier (by simp) (by simp)).mono ?_; rintro e7 w7 ⟨rfl, F7, HD7, HC7, HWi7⟩
       have HB7 := Lib.hid (p := Below w.heap.size w w7) (HB6.out.trans (HC7.out.below HB6.out.size (fun q hq => Nat.le_trans HB2.out.size (HD6.out.lt q hq).1)))))
  have HBS := Lib.hid (p := w.heap.size ≤ w2.heap.size) HB2.out.size
  have HF7 := Lib.hid (p := Fine (syncK (fun _ => true) ([] ++ [(3, x6)]) (List.replicate 4 x0) ([] ++ [(3, x6)]).length) [] ([] ++ [((2 : Int), ((3 : Nat) : Int), x6)] ++ [((3 : Int), (0 : Int), noBV)]) 0 2)
    ⟨by rw [syncK_len, List.length_replicate], by
      show (((List.replicate 4 x0).set 3 x6).getD 3 noBV).l = _
      exact HX6.out.trans HX5.out, fun p hp => (by cases hp), Nat.le_refl _, Nat.le_refl _⟩
  go_loopw [5] (fun x wr => ∃ (k : Nat) (F : List Nat) (ss : List BV) (rs : List (Nat × BV)) (E : Nat → List BV) (ts : List (Int × Int × BV)), k ≤ ds.length ∧ k ≤ 60 ∧ x = .int .i64 (k : Int) ∧
    Hid (PD w2.heap.size wr g F ss rs E ts) ∧ Hid (Fine ss rs ts k (2 + 2 * k)) ∧ Hid (Below w.heap.size w wr)) (fun x _ => 60 - (intOf x).toNat)
  case atStart => exact ⟨0, F7, _, _, _, _, by omega, by omega, rfl, HD7, HF7, HB7⟩
  case round =>
    clear HD4 HB4 HB45 HB05 HD6 HB6 HC6 HWi6 HD7 HB7 HC7 HWi7 HF7 HX6 HX5 HO5 HB5 HX0
    obtain ⟨k, F, ss, rs, E, ts, hk, hk2, rfl, HD, HN, HB⟩ := hrel
    have hkw : IntKind.i64.wrap ((k : Int) + 1) = (k : Int) + 1 := by rw [IntKind.wrap_i64]; omega
    by_cases hgo : k < ds.length ∧ k < 60
    · have h1i : (k : Int) < (ds.length : Int) := by omega
      have h2i : (k : Int) < 60 := by omega
      have hk0 : (0 : Int) ≤ (k : Int) := by omega
      obtain ⟨d, hd⟩ : ∃ d, ds[k]? = some d := ⟨_, List.getElem?_eq_getElem hgo.1⟩
      obtain ⟨⟨gd, od, rfl, hc⟩, hda⟩ := (HD1.out.below HB.out).at_ k d hd
      have hrg : wr.rangeAt gd (od + k * 9) (dc d) := fun j v hv => hc j v hv
      have HRG := Lib.hid hrg
      have HDL := Lib.hid (HF1.out k d (by omega) hd)
      have HDK := Lib.hid hd
      have HDA := Lib.hid hda
      have HGO := Lib.hid hgo
      have hz := Lib.hid dz_zero
      obtain ⟨K, hK⟩ : ∃ K, d.k = K := ⟨_, rfl⟩
      obtain ⟨Z, hZ⟩ : ∃ Z, d.a = Z := ⟨_, rfl⟩
      obtain ⟨T, hT⟩ : ∃ T, d.ta = T := ⟨_, rfl⟩
      clear hd hc hda hgo hk hk2 hrg
      by_cases k2 : K = 2
      · subst k2
        go_wp2_with (first
          | (refine wpList_load_mid rfl 37 _ rfl gd (od + k * 9) rfl (dc d) _ HRG.out Try.underlying37 rfl info_do ?_)
          | (refine step_alloc rfl 6 rfl 37 rfl dz hz.out ?_; intro g5 w5 hr5 hg5 hb5 hs5
             have HB5 := Lib.hid hb5
             have HG5 := Lib.hid hg5
             clear hg5 hb5 hs5)
          | (refine step_store rfl 37 _ _ rfl g5 rfl _ _ (dc d) rfl hr5 rfl info_do (dc_one d) ?_; intro w6 hr6 hg6 hs6
             have hb6 : Below wr.heap.size wr w6 := HB5.out.grown hg6 HB5.out.size (fun q hq => by injection hq with hq; rw [← hq, HG5.out]; exact Nat.le_refl _)
             have HD6 := Lib.hid (HD.out.kept hb6)
             have HB6 := Lib.hid (below_nxt hb6 HB.out)
             have HR6 := Lib.hid hr6
             have q0 := hr6.cell 0
             have q1 := hr6.cell 1
             have q2 := hr6.cell 2
             have q3 := hr6.cell 3
             have q4 := hr6.cell 4
             have q5 := hr6.cell 5
             have q6 := hr6.cell 6
             have q7 := hr6.cell 7
             have q8 := hr6.cell 8
             simp [dc] at q0 q1 q2 q3 q4 q5 q6 q7 q8
             rw [hK] at q0
             rw [hZ] at q1
             rw [hT] at q6
             clear hr5 hr6 hg6 hs6 hb6)
          | (go_at_call 20; refine (barrier_safe HD6.out HN.out (by have := HGO.out; omega) (by have := HGO.out; omega)).mono ?_; rintro e8 wz ⟨rfl, Fz, ssz, rsz, Ez, tsz, HDz, HFn, HCz, HWz⟩
             have HFz := Lib.hid (HFn.out.wider (m' := k + 1) (t' := 3 + 2 * k) (by omega) (by omega))
             have HBz := Lib.hid (p := Below w.heap.size w wz) (HB6.out.trans (HCz.out.below HB6.out.size (fun q hq => Nat.le_trans HBS.out (HD6.out.lt q hq).1))))
          | (go_at_call 13; refine (HDz.out.read 3 (by rw [HFz.out.len]; omega) (by have := HFz.out.few; have := HGO.out; omega) (by have := HFz.out.touched; have := HGO.out; omega)).mono ?_; rintro e9 w9 ⟨⟨x9, rfl, HX9, HO9⟩, F9, HD9, HC9, HWi9⟩
             have HB9 := Lib.hid (p := Below w.heap.size w w9) (HBz.out.trans (HC9.out.below HBz.out.size (fun q hq => Nat.le_trans HBS.out (HDz.out.lt q hq).1)))
             have HF9 := Lib.hid (fun y => (HFz.out.read y).wider (m' := k + 1) (t' := 2 + 2 * (k + 1)) (Nat.le_refl _) (by omega)))
          | (go_at_call 31; refine (whole_own _ 1 1 [3] rfl (by simp) _ (hol_three w9)).mono ?_; rintro e10 w10 ⟨y10, rfl, HY10, HO10, HB10⟩
             have HB910 := Lib.hid (p := Below w9.heap.size w9 w10) (below_nxt HB10.out ((Below.refl _ _).alloc (Nat.le_refl _) _)))
          | (go_at_call 16; refine (rbytes_any x9.A y10.A x9.c y10.c x9.l y10.l _ (HO9.out.below HB910.out).hol HO10.out.hol (HO9.out.len_max) (HO10.out.len_max)).mono ?_; rintro e11 w11 ⟨rfl, hb11⟩; rw [decide_eq_true (show x9.l = y10.l by rw [HX9.out, HFz.out.now, HY10.out])]
             have HB11 := Lib.hid (below_nxt hb11 HB910.out)
             clear hb11))
        go_roundw
        case rel => exact ⟨k + 1, F9, _, _, _, _, by have := HGO.out; omega, by have := HGO.out; omega, by go_num, Lib.hid (HD9.out.kept HB11.out), Lib.hid (HF9.out _), Lib.hid (below_nxt HB11.out HB9.out)⟩
        case measure => have := HGO.out; simp [intOf]; omega
      by_cases k3 : K = 3
      · subst k3
        go_wp2_with (first
          | (refine wpList_load_mid rfl 37 _ rfl gd (od + k * 9) rfl (dc d) _ HRG.out Try.underlying37 rfl info_do ?_)
          | (refine step_alloc rfl 6 rfl 37 rfl dz hz.out ?_; intro g5 w5 hr5 hg5 hb5 hs5
             have HB5 := Lib.hid hb5
             have HG5 := Lib.hid hg5
             clear hg5 hb5 hs5)
          | (refine step_store rfl 37 _ _ rfl g5 rfl _ _ (dc d) rfl hr5 rfl info_do (dc_one d) ?_; intro w6 hr6 hg6 hs6
             have hb6 : Below wr.heap.size wr w6 := HB5.out.grown hg6 HB5.out.size (fun q hq => by injection hq with hq; rw [← hq, HG5.out]; exact Nat.le_refl _)
             have HD6 := Lib.hid (HD.out.kept hb6)
             have HB6 := Lib.hid (below_nxt hb6 HB.out)
             have HR6 := Lib.hid hr6
             have q0 := hr6.cell 0
             have q1 := hr6.cell 1
             have q2 := hr6.cell 2
             have q3 := hr6.cell 3
             have q4 := hr6.cell 4
             have q5 := hr6.cell 5
             have q6 := hr6.cell 6
             have q7 := hr6.cell 7
             have q8 := hr6.cell 8
             simp [dc] at q0 q1 q2 q3 q4 q5 q6 q7 q8
             rw [hK] at q0
             rw [hZ] at q1
             rw [hT] at q6
             clear hr5 hr6 hg6 hs6 hb6)
          | (go_at_call 22; refine (crash_safe HD6.out HN.out (by have := HGO.out; omega) d.KA _ d.kc d.kl rfl ((HD1.out.below HB6.out).at_ k d HDK.out).2.k (fun g0 o e hne hq => by have h3 := holV_lt (HD1.out.at_ k d HDK.out).2.k g0 o e hne; have h4 := (HD.out.lt g0 hq).1; have h5 := HBS.out; omega)).mono ?_; rintro e8 wz ⟨rfl, Fz, ssz, rsz, Ez, tsz, HDz, HFn, HCz, HWz⟩
             have HFz := Lib.hid (HFn.out.wider (m' := k + 1) (t' := 3 + 2 * k) (by omega) (by omega))
             have HBz := Lib.hid (p := Below w.heap.size w wz) (HB6.out.trans (HCz.out.below HB6.out.size (fun q hq => Nat.le_trans HBS.out (HD6.out.lt q hq).1))))
          | (go_at_call 13; refine (HDz.out.read 3 (by rw [HFz.out.len]; omega) (by have := HFz.out.few; have := HGO.out; omega) (by have := HFz.out.touched; have := HGO.out; omega)).mono ?_; rintro e9 w9 ⟨⟨x9, rfl, HX9, HO9⟩, F9, HD9, HC9, HWi9⟩
             have HB9 := Lib.hid (p := Below w.heap.size w w9) (HBz.out.trans (HC9.out.below HBz.out.size (fun q hq => Nat.le_trans HBS.out (HDz.out.lt q hq).1)))
             have HF9 := Lib.hid (fun y => (HFz.out.read y).wider (m' := k + 1) (t' := 2 + 2 * (k + 1)) (Nat.le_refl _) (by omega)))
          | (go_at_call 31; refine (whole_own _ 1 1 [3] rfl (by simp) _ (hol_three w9)).mono ?_; rintro e10 w10 ⟨y10, rfl, HY10, HO10, HB10⟩
             have HB910 := Lib.hid (p := Below w9.heap.size w9 w10) (below_nxt HB10.out ((Below.refl _ _).alloc (Nat.le_refl _) _)))
          | (go_at_call 16; refine (rbytes_any x9.A y10.A x9.c y10.c x9.l y10.l _ (HO9.out.below HB910.out).hol HO10.out.hol (HO9.out.len_max) (HO10.out.len_max)).mono ?_; rintro e11 w11 ⟨rfl, hb11⟩; rw [decide_eq_true (show x9.l = y10.l by rw [HX9.out, HFz.out.now, HY10.out])]
             have HB11 := Lib.hid (below_nxt hb11 HB910.out)
             clear hb11))
        go_roundw
        case rel => exact ⟨k + 1, F9, _, _, _, _, by have := HGO.out; omega, by have := HGO.out; omega, by go_num, Lib.hid (HD9.out.kept HB11.out), Lib.hid (HF9.out _), Lib.hid (below_nxt HB11.out HB9.out)⟩
        case measure => have := HGO.out; simp [intOf]; omega
      by_cases k4 : K = 4
      · subst k4
        by_cases t3 : T = 3
        · subst t3
          go_wp2_with (first
            | (refine wpList_load_mid rfl 37 _ rfl gd (od + k * 9) rfl (dc d) _ HRG.out Try.underlying37 rfl info_do ?_)
            | (refine step_alloc rfl 6 rfl 37 rfl dz hz.out ?_; intro g5 w5 hr5 hg5 hb5 hs5
               have HB5 := Lib.hid hb5
               have HG5 := Lib.hid hg5
               clear hg5 hb5 hs5)
            | (refine step_store rfl 37 _ _ rfl g5 rfl _ _ (dc d) rfl hr5 rfl info_do (dc_one d) ?_; intro w6 hr6 hg6 hs6
               have hb6 : Below wr.heap.size wr w6 := HB5.out.grown hg6 HB5.out.size (fun q hq => by injection hq with hq; rw [← hq, HG5.out]; exact Nat.le_refl _)
               have HD6 := Lib.hid (HD.out.kept hb6)
               have HB6 := Lib.hid (below_nxt hb6 HB.out)
               have HR6 := Lib.hid hr6
               have q0 := hr6.cell 0
               have q1 := hr6.cell 1
               have q2 := hr6.cell 2
               have q3 := hr6.cell 3
               have q4 := hr6.cell 4
               have q5 := hr6.cell 5
               have q6 := hr6.cell 6
               have q7 := hr6.cell 7
               have q8 := hr6.cell 8
               simp [dc] at q0 q1 q2 q3 q4 q5 q6 q7 q8
               rw [hK] at q0
               rw [hZ] at q1
               rw [hT] at q6
               have HDz := HD6
               have HBz := HB6
               have HFz := Lib.hid (HN.out.wider (m' := k + 1) (t' := 3 + 2 * k) (by omega) (by omega))
               clear hr5 hr6 hg6 hs6 hb6)
            | (go_at_call 13; refine (HDz.out.read 3 (by rw [HFz.out.len]; omega) (by have := HFz.out.few; have := HGO.out; omega) (by have := HFz.out.touched; have := HGO.out; omega)).mono ?_; rintro e9 w9 ⟨⟨x9, rfl, HX9, HO9⟩, F9, HD9, HC9, HWi9⟩
               have HB9 := Lib.hid (p := Below w.heap.size w w9) (HBz.out.trans (HC9.out.below HBz.out.size (fun q hq => Nat.le_trans HBS.out (HDz.out.lt q hq).1)))
               have HF9 := Lib.hid (fun y => (HFz.out.read y).wider (m' := k + 1) (t' := 2 + 2 * (k + 1)) (Nat.le_refl _) (by omega)))
            | (go_at_call 31; refine (whole_own _ 1 1 [3] rfl (by simp) _ (hol_three w9)).mono ?_; rintro e10 w10 ⟨y10, rfl, HY10, HO10, HB10⟩
               have HB910 := Lib.hid (p := Below w9.heap.size w9 w10) (below_nxt HB10.out ((Below.refl _ _).alloc (Nat.le_refl _) _)))
            | (go_at_call 16; refine (rbytes_any x9.A y10.A x9.c y10.c x9.l y10.l _ (HO9.out.below HB910.out).hol HO10.out.hol (HO9.out.len_max) (HO10.out.len_max)).mono ?_; rintro e11 w11 ⟨rfl, hb11⟩; rw [decide_eq_true (show x9.l = y10.l by rw [HX9.out, HFz.out.now, HY10.out])]
               have HB11 := Lib.hid (below_nxt hb11 HB910.out)
               clear hb11))
          go_roundw
          case rel => exact ⟨k + 1, F9, _, _, _, _, by have := HGO.out; omega, by have := HGO.out; omega, by go_num, Lib.hid (HD9.out.kept HB11.out), Lib.hid (HF9.out _), Lib.hid (below_nxt HB11.out HB9.out)⟩
          case measure => have := HGO.out; simp [intOf]; omega
        · have HT3 := Lib.hid t3
          have t3b : (T != 3) = true := by rw [bne_iff_ne]; exact t3
          clear t3
          go_wp2_with (first
            | (refine wpList_load_mid rfl 37 _ rfl gd (od + k * 9) rfl (dc d) _ HRG.out Try.underlying37 rfl info_do ?_)
            | (refine step_alloc rfl 6 rfl 37 rfl dz hz.out ?_; intro g5 w5 hr5 hg5 hb5 hs5
               have HB5 := Lib.hid hb5
               have HG5 := Lib.hid hg5
               clear hg5 hb5 hs5)
            | (refine step_store rfl 37 _ _ rfl g5 rfl _ _ (dc d) rfl hr5 rfl info_do (dc_one d) ?_; intro w6 hr6 hg6 hs6
               have hb6 : Below wr.heap.size wr w6 := HB5.out.grown hg6 HB5.out.size (fun q hq => by injection hq with hq; rw [← hq, HG5.out]; exact Nat.le_refl _)
               have HD6 := Lib.hid (HD.out.kept hb6)
               have HB6 := Lib.hid (below_nxt hb6 HB.out)
               have HR6 := Lib.hid hr6
               have q0 := hr6.cell 0
               have q1 := hr6.cell 1
               have q2 := hr6.cell 2
               have q3 := hr6.cell 3
               have q4 := hr6.cell 4
               have q5 := hr6.cell 5
               have q6 := hr6.cell 6
               have q7 := hr6.cell 7
               have q8 := hr6.cell 8
               simp [dc] at q0 q1 q2 q3 q4 q5 q6 q7 q8
               rw [hK] at q0
               rw [hZ] at q1
               rw [hT] at q6
               clear hr5 hr6 hg6 hs6 hb6)
            | (go_at_call 24; refine (tamper_safe HD6.out HN.out (by have := HGO.out; omega) (by have := HGO.out; omega) d.tk T d.tn HT3.out (lit_max ((HD1.out.at_ k d HDK.out).2.w5)) d.TA _ d.tcap d.tl rfl ((HD1.out.below HB6.out).at_ k d HDK.out).2.t).mono ?_; rintro e8 wz ⟨v8, rfl, Fz, ssz, rsz, Ez, tsz, HDz, HFn, HCz, HWz⟩
               have HFz := Lib.hid (HFn.out.wider (m' := k + 1) (t' := 3 + 2 * k) (by omega) (by omega))
               have HBz := Lib.hid (p := Below w.heap.size w wz) (HB6.out.trans (HCz.out.below HB6.out.size (fun q hq => Nat.le_trans HBS.out (HD6.out.lt q hq).1))))
            | (go_at_call 13; refine (HDz.out.read 3 (by rw [HFz.out.len]; omega) (by have := HFz.out.few; have := HGO.out; omega) (by have := HFz.out.touched; have := HGO.out; omega)).mono ?_; rintro e9 w9 ⟨⟨x9, rfl, HX9, HO9⟩, F9, HD9, HC9, HWi9⟩
               have HB9 := Lib.hid (p := Below w.heap.size w w9) (HBz.out.trans (HC9.out.below HBz.out.size (fun q hq => Nat.le_trans HBS.out (HDz.out.lt q hq).1)))
               have HF9 := Lib.hid (fun y => (HFz.out.read y).wider (m' := k + 1) (t' := 2 + 2 * (k + 1)) (Nat.le_refl _) (by omega)))
            | (go_at_call 31; refine (whole_own _ 1 1 [3] rfl (by simp) _ (hol_three w9)).mono ?_; rintro e10 w10 ⟨y10, rfl, HY10, HO10, HB10⟩
               have HB910 := Lib.hid (p := Below w9.heap.size w9 w10) (below_nxt HB10.out ((Below.refl _ _).alloc (Nat.le_refl _) _)))
            | (go_at_call 16; refine (rbytes_any x9.A y10.A x9.c y10.c x9.l y10.l _ (HO9.out.below HB910.out).hol HO10.out.hol (HO9.out.len_max) (HO10.out.len_max)).mono ?_; rintro e11 w11 ⟨rfl, hb11⟩; rw [decide_eq_true (show x9.l = y10.l by rw [HX9.out, HFz.out.now, HY10.out])]
               have HB11 := Lib.hid (below_nxt hb11 HB910.out)
               clear hb11))
          go_roundw
          case rel => exact ⟨k + 1, F9, _, _, _, _, by have := HGO.out; omega, by have := HGO.out; omega, by go_num, Lib.hid (HD9.out.kept HB11.out), Lib.hid (HF9.out _), Lib.hid (below_nxt HB11.out HB9.out)⟩
          case measure => have := HGO.out; simp [intOf]; omega
      by_cases k1 : K = 1
      · subst k1
        by_cases z3 : Z = 3
        · subst z3
          go_wp2_with (first
            | (refine wpList_load_mid rfl 37 _ rfl gd (od + k * 9) rfl (dc d) _ HRG.out Try.underlying37 rfl info_do ?_)
            | (refine step_alloc rfl 6 rfl 37 rfl dz hz.out ?_; intro g5 w5 hr5 hg5 hb5 hs5
               have HB5 := Lib.hid hb5
               have HG5 := Lib.hid hg5
               clear hg5 hb5 hs5)
            | (refine step_store rfl 37 _ _ rfl g5 rfl _ _ (dc d) rfl hr5 rfl info_do (dc_one d) ?_; intro w6 hr6 hg6 hs6
               have hb6 : Below wr.heap.size wr w6 := HB5.out.grown hg6 HB5.out.size (fun q hq => by injection hq with hq; rw [← hq, HG5.out]; exact Nat.le_refl _)
               have HD6 := Lib.hid (HD.out.kept hb6)
               have HB6 := Lib.hid (below_nxt hb6 HB.out)
               have HR6 := Lib.hid hr6
               have q0 := hr6.cell 0
               have q1 := hr6.cell 1
               have q2 := hr6.cell 2
               have q3 := hr6.cell 3
               have q4 := hr6.cell 4
               have q5 := hr6.cell 5
               have q6 := hr6.cell 6
               have q7 := hr6.cell 7
               have q8 := hr6.cell 8
               simp [dc] at q0 q1 q2 q3 q4 q5 q6 q7 q8
               rw [hK] at q0
               rw [hZ] at q1
               rw [hT] at q6
               have HDz := HD6
               have HBz := HB6
               have HFz := Lib.hid (HN.out.wider (m' := k + 1) (t' := 3 + 2 * k) (by omega) (by omega))
               clear hr5 hr6 hg6 hs6 hb6)
            | (go_at_call 13; refine (HDz.out.read 3 (by rw [HFz.out.len]; omega) (by have := HFz.out.few; have := HGO.out; omega) (by have := HFz.out.touched; have := HGO.out; omega)).mono ?_; rintro e9 w9 ⟨⟨x9, rfl, HX9, HO9⟩, F9, HD9, HC9, HWi9⟩
               have HB9 := Lib.hid (p := Below w.heap.size w w9) (HBz.out.trans (HC9.out.below HBz.out.size (fun q hq => Nat.le_trans HBS.out (HDz.out.lt q hq).1)))
               have HF9 := Lib.hid (fun y => (HFz.out.read y).wider (m' := k + 1) (t' := 2 + 2 * (k + 1)) (Nat.le_refl _) (by omega)))
            | (go_at_call 31; refine (whole_own _ 1 1 [3] rfl (by simp) _ (hol_three w9)).mono ?_; rintro e10 w10 ⟨y10, rfl, HY10, HO10, HB10⟩
               have HB910 := Lib.hid (p := Below w9.heap.size w9 w10) (below_nxt HB10.out ((Below.refl _ _).alloc (Nat.le_refl _) _)))
            | (go_at_call 16; refine (rbytes_any x9.A y10.A x9.c y10.c x9.l y10.l _ (HO9.out.below HB910.out).hol HO10.out.hol (HO9.out.len_max) (HO10.out.len_max)).mono ?_; rintro e11 w11 ⟨rfl, hb11⟩; rw [decide_eq_true (show x9.l = y10.l by rw [HX9.out, HFz.out.now, HY10.out])]
               have HB11 := Lib.hid (below_nxt hb11 HB910.out)
               clear hb11))
          go_roundw
          case rel => exact ⟨k + 1, F9, _, _, _, _, by have := HGO.out; omega, by have := HGO.out; omega, by go_num, Lib.hid (HD9.out.kept HB11.out), Lib.hid (HF9.out _), Lib.hid (below_nxt HB11.out HB9.out)⟩
          case measure => have := HGO.out; simp [intOf]; omega
        · have HZ3 := Lib.hid z3
          have z3b : (Z != 3) = true := by rw [bne_iff_ne]; exact z3
          clear z3
          go_wp2_with (first
            | (refine wpList_load_mid rfl 37 _ rfl gd (od + k * 9) rfl (dc d) _ HRG.out Try.underlying37 rfl info_do ?_)
            | (refine step_alloc rfl 6 rfl 37 rfl dz hz.out ?_; intro g5 w5 hr5 hg5 hb5 hs5
               have HB5 := Lib.hid hb5
               have HG5 := Lib.hid hg5
               clear hg5 hb5 hs5)
            | (refine step_store rfl 37 _ _ rfl g5 rfl _ _ (dc d) rfl hr5 rfl info_do (dc_one d) ?_; intro w6 hr6 hg6 hs6
               have hb6 : Below wr.heap.size wr w6 := HB5.out.grown hg6 HB5.out.size (fun q hq => by injection hq with hq; rw [← hq, HG5.out]; exact Nat.le_refl _)
               have HD6 := Lib.hid (HD.out.kept hb6)
               have HB6 := Lib.hid (below_nxt hb6 HB.out)
               have HR6 := Lib.hid hr6
               have q0 := hr6.cell 0
               have q1 := hr6.cell 1
               have q2 := hr6.cell 2
               have q3 := hr6.cell 3
               have q4 := hr6.cell 4
               have q5 := hr6.cell 5
               have q6 := hr6.cell 6
               have q7 := hr6.cell 7
               have q8 := hr6.cell 8
               simp [dc] at q0 q1 q2 q3 q4 q5 q6 q7 q8
               rw [hK] at q0
               rw [hZ] at q1
               rw [hT] at q6
               clear hr5 hr6 hg6 hs6 hb6))
          go_region_with (first
            | (go_at_call 17; refine (dobytes_at d 1 Z T _ (((HD1.out.below HB6.out).at_ k d HDK.out).2.b.below (below_drw w6)) (by have := HDL.out.1; omega)).mono ?_; rintro e7 w7 ⟨y7, rfl, HY7, HYH, hb7⟩
               have HB7 := Lib.hid (below_nxt hb7.out (below_drw w6))
               have HD7 := Lib.hid (HD6.out.kept HB7.out)
               have HB07 := Lib.hid (below_nxt HB7.out HB6.out)
               have q17 : w7.cell? ⟨g5, 1, none⟩ = some (.int .i64 Z) := (HB7.out.cell (p := ⟨g5, 1, none⟩) HR6.out.lt).trans q1
               clear hb7)
            | (go_at_call 18; refine (write_safe HD7.out HN.out (by have := HGO.out; omega) (by have := HGO.out; omega) Z HZ3.out y7.A _ y7.c y7.l rfl HYH.out).mono ?_; rintro e8 wz ⟨v8, rfl, Fz, ssz, rsz, Ez, tsz, HDz, HFn, HCz, HWz⟩
               have HFz := Lib.hid (HFn.out.wider (m' := k + 1) (t' := 3 + 2 * k) (by omega) (by omega))
               have HBz := Lib.hid (p := Below w.heap.size w wz) (HB07.out.trans (HCz.out.below HB07.out.size (fun q hq => Nat.le_trans HBS.out (HD7.out.lt q hq).1)))))
          all_goals
            go_wp2_with (first
              | (go_at_call 13; refine (HDz.out.read 3 (by rw [HFz.out.len]; omega) (by have := HFz.out.few; have := HGO.out; omega) (by have := HFz.out.touched; have := HGO.out; omega)).mono ?_; rintro e9 w9 ⟨⟨x9, rfl, HX9, HO9⟩, F9, HD9, HC9, HWi9⟩
                 have HB9 := Lib.hid (p := Below w.heap.size w w9) (HBz.out.trans (HC9.out.below HBz.out.size (fun q hq => Nat.le_trans HBS.out (HDz.out.lt q hq).1)))
                 have HF9 := Lib.hid (fun y => (HFz.out.read y).wider (m' := k + 1) (t' := 2 + 2 * (k + 1)) (Nat.le_refl _) (by omega)))
              | (go_at_call 31; refine (whole_own _ 1 1 [3] rfl (by simp) _ (hol_three w9)).mono ?_; rintro e10 w10 ⟨y10, rfl, HY10, HO10, HB10⟩
                 have HB910 := Lib.hid (p := Below w9.heap.size w9 w10) (below_nxt HB10.out ((Below.refl _ _).alloc (Nat.le_refl _) _)))
              | (go_at_call 16; refine (rbytes_any x9.A y10.A x9.c y10.c x9.l y10.l _ (HO9.out.below HB910.out).hol HO10.out.hol (HO9.out.len_max) (HO10.out.len_max)).mono ?_; rintro e11 w11 ⟨rfl, hb11⟩; rw [decide_eq_true (show x9.l = y10.l by rw [HX9.out, HFz.out.now, HY10.out])]
                 have HB11 := Lib.hid (below_nxt hb11 HB910.out)
                 clear hb11))
            go_roundw
            case rel => exact ⟨k + 1, F9, _, _, _, _, by have := HGO.out; omega, by have := HGO.out; omega, by go_num, Lib.hid (HD9.out.kept HB11.out), Lib.hid (HF9.out _), Lib.hid (below_nxt HB11.out HB9.out)⟩
            case measure => have := HGO.out; simp [intOf]; omega
      · have b1 : (K == 1) = false := beq_false_of_ne k1
        have b2 : (K == 2) = false := beq_false_of_ne k2
        have b3 : (K == 3) = false := beq_false_of_ne k3
        have b4 : (K == 4) = false := beq_false_of_ne k4
        clear k1 k2 k3 k4
        go_wp2_with (first
          | (refine wpList_load_mid rfl 37 _ rfl gd (od + k * 9) rfl (dc d) _ HRG.out Try.underlying37 rfl info_do ?_)
          | (refine step_alloc rfl 6 rfl 37 rfl dz hz.out ?_; intro g5 w5 hr5 hg5 hb5 hs5
             have HB5 := Lib.hid hb5
             have HG5 := Lib.hid hg5
             clear hg5 hb5 hs5)
          | (refine step_store rfl 37 _ _ rfl g5 rfl _ _ (dc d) rfl hr5 rfl info_do (dc_one d) ?_; intro w6 hr6 hg6 hs6
             have hb6 : Below wr.heap.size wr w6 := HB5.out.grown hg6 HB5.out.size (fun q hq => by injection hq with hq; rw [← hq, HG5.out]; exact Nat.le_refl _)
             have HD6 := Lib.hid (HD.out.kept hb6)
             have HB6 := Lib.hid (below_nxt hb6 HB.out)
             have HR6 := Lib.hid hr6
             have q0 := hr6.cell 0
             have q1 := hr6.cell 1
             have q2 := hr6.cell 2
             have q3 := hr6.cell 3
             have q4 := hr6.cell 4
             have q5 := hr6.cell 5
             have q6 := hr6.cell 6
             have q7 := hr6.cell 7
             have q8 := hr6.cell 8
             simp [dc] at q0 q1 q2 q3 q4 q5 q6 q7 q8
             rw [hK] at q0
             rw [hZ] at q1
             rw [hT] at q6
             have HDz := HD6
             have HBz := HB6
             have HFz := Lib.hid (HN.out.wider (m' := k + 1) (t' := 3 + 2 * k) (by omega) (by omega))
             clear hr5 hr6 hg6 hs6 hb6)
          | (go_at_call 13; refine (HDz.out.read 3 (by rw [HFz.out.len]; omega) (by have := HFz.out.few; have := HGO.out; omega) (by have := HFz.out.touched; have := HGO.out; omega)).mono ?_; rintro e9 w9 ⟨⟨x9, rfl, HX9, HO9⟩, F9, HD9, HC9, HWi9⟩
             have HB9 := Lib.hid (p := Below w.heap.size w w9) (HBz.out.trans (HC9.out.below HBz.out.size (fun q hq => Nat.le_trans HBS.out (HDz.out.lt q hq).1)))
             have HF9 := Lib.hid (fun y => (HFz.out.read y).wider (m' := k + 1) (t' := 2 + 2 * (k + 1)) (Nat.le_refl _) (by omega)))
          | (go_at_call 31; refine (whole_own _ 1 1 [3] rfl (by simp) _ (hol_three w9)).mono ?_; rintro e10 w10 ⟨y10, rfl, HY10, HO10, HB10⟩
             have HB910 := Lib.hid (p := Below w9.heap.size w9 w10) (below_nxt HB10.out ((Below.refl _ _).alloc (Nat.le_refl _) _)))
          | (go_at_call 16; refine (rbytes_any x9.A y10.A x9.c y10.c x9.l y10.l _ (HO9.out.below HB910.out).hol HO10.out.hol (HO9.out.len_max) (HO10.out.len_max)).mono ?_; rintro e11 w11 ⟨rfl, hb11⟩; rw [decide_eq_true (show x9.l = y10.l by rw [HX9.out, HFz.out.now, HY10.out])]
             have HB11 := Lib.hid (below_nxt hb11 HB910.out)
             clear hb11))
        go_roundw
        case rel => exact ⟨k + 1, F9, _, _, _, _, by have := HGO.out; omega, by have := HGO.out; omega, by go_num, Lib.hid (HD9.out.kept HB11.out), Lib.hid (HF9.out _), Lib.hid (below_nxt HB11.out HB9.out)⟩
        case measure => have := HGO.out; simp [intOf]; omega
    · rcases (by omega : ¬ k < ds.length ∨ k < ds.length ∧ ¬ k < 60) with h1 | ⟨h1, h2⟩
      all_goals
        first
          | (have h1i : ¬ (k : Int) < (ds.length : Int) := by omega)
          | (have h1i : (k : Int) < (ds.length : Int) := by omega
             have h2i : ¬ (k : Int) < 60 := by omega)
        clear hgo hk hk2
        try clear h1
        try clear h2
        go_wp2
        go_ret
        exact ⟨rfl, HB.out⟩
end Go.Proofs.Ytnajlineipapdaa
