/- The law WorldKeeps, walked: what was synced is read behind every crash. Conditions: those on how the arguments lie. -/
import Derived.Test.YtnajlineipapdaaKeepP
import Derived.Test.YtnajlineipapdaaRBy
set_option linter.unusedVariables false
namespace Go.Proofs.Ytnajlineipapdaa
open Go.RowKit

set_option maxRecDepth 20000 in
set_option maxHeartbeats 2000000 in
theorem keeps_any (A1 A2 A3 : Option Addr) (c1 c2 c3 : Nat) (ds1 ds2 : List DoV) (kl : List Bool) (hl1 : ds1.length ≤ 9223372036854775807) (hl2 : ds2.length ≤ 9223372036854775807) (hl3 : kl.length ≤ 9223372036854775807) (hS1 : ShortD ds1) (hS2 : ShortD ds2) (w : World)
    (hD1 : InDo w A1 ds1.length c1 ds1) (hD2 : InDo w A2 ds2.length c2 ds2) (hK : HolV w A3 (kl.map Value.bool)) :
    Calls Try.prog 4 #[.slice A1 ds1.length c1, .slice A2 ds2.length c2, .slice A3 kl.length c3] w fun e w' => e = .returned (.bool true) ∧ Below w.heap.size w w' := by
  have HL1 := Lib.hid hl1
  have HL2 := Lib.hid hl2
  have HL3 := Lib.hid hl3
  have HS1 := Lib.hid hS1
  have HS2 := Lib.hid hS2
  have HD1 := Lib.hid hD1
  have HD2 := Lib.hid hD2
  have HK := Lib.hid hK
  have HKB := Lib.hid (p := ∀ g0 o, A3 = some ⟨g0, o, none⟩ → kl.map Value.bool ≠ [] → g0 < w.heap.size) (fun g0 o e hne => by
    rcases hK with h | ⟨g1, o1, e1, hc⟩
    · exact absurd h hne
    · rw [e] at e1
      injection e1 with e1
      injection e1 with e1 e2
      subst e1
      cases hkl : kl.map Value.bool with
      | nil => exact absurd hkl hne
      | cons v t => exact World.block_lt_of_cell? w _ (hc 0 v (by rw [hkl]; rfl)))
  clear hl1 hl2 hl3 hS1 hS2 hD1 hD2 hK
  go_enter Try.func4, Try.ntmps4
  go_wp2_with (go_at_call 8; refine (awake_any _).mono ?_; rintro e1 w1 ⟨rfl, hb1⟩; have HB1 := Lib.hid hb1; clear hb1)
  refine (fewd_any A1 c1 ds1 HL1.out HS1.out _ (HD1.out.below HB1.out)).mono ?_
  rintro e2 w2 ⟨b, rfl, hb2, hF1⟩
  have HB2 := Lib.hid (below_nxt hb2 HB1.out)
  clear hb2
  cases b with
  | false =>
    clear hF1
    go_wp2
    go_ret
    exact ⟨rfl, HB2.out⟩
  | true =>
  have HF1 := Lib.hid (hF1 rfl)
  clear hF1
  go_wp2_with fail
  refine (fewd_any A2 c2 ds2 HL2.out HS2.out _ (HD2.out.below HB2.out)).mono ?_
  rintro e3 w3 ⟨b, rfl, hb3, hF2⟩
  have HB3 := Lib.hid (below_nxt hb3 HB2.out)
  clear hb3
  cases b with
  | false =>
    clear hF2
    go_wp2
    go_ret
    exact ⟨rfl, HB3.out⟩
  | true =>
  have HF2 := Lib.hid (hF2 rfl)
  clear hF2
  by_cases hbig : (1000 : Int) < (kl.length : Int)
  · go_wp2
    go_ret
    exact ⟨rfl, HB3.out⟩
  have HBG := Lib.hid (p := kl.length ≤ 1000) (by omega)
  go_wp2_with (first
    | (go_at_call 10; refine (new_in 8 (by omega) (by omega) _).mono ?_; rintro e4 w4 ⟨g, F0, x0, rfl, hx0, hD4, hb4⟩
       have HD4 := Lib.hid hD4
       have HB4 := Lib.hid (below_nxt hb4 HB3.out)
       have HX0 := Lib.hid hx0
       clear hD4 hb4 hx0)
    | (refine step_make_nos rfl _ _ rfl 8 rfl rfl (by omega) ?_; intro gw w5 hr5 hg5 hb5 hs5
       have HD5 := Lib.hid (HD4.out.kept hb5)
       have HB5 := Lib.hid (below_nxt hb5 HB4.out)
       have HW5 := Lib.hid (want_made (m := 8) hr5 (F := F0) (fun hx => by have h1 := HD4.out.lt _ hx; have h2 := hg5.out; omega) (B := w.heap.size) (by rw [hg5.out]; exact HB4.out.size))
       clear hr5 hg5 hb5 hs5))
  have HA5 := Lib.hid (p := Agree 8 (nowV (List.replicate 8 x0) []) (List.replicate 8 noBV)) (fun a ha => by
    rw [nowV_nil, List.getD_eq_getElem?_getD, List.getD_eq_getElem?_getD, List.getElem?_replicate, List.getElem?_replicate, if_pos ha, if_pos ha]
    exact HX0.out)
  have HBS := Lib.hid (p := w.heap.size ≤ w3.heap.size) HB3.out.size
  go_loopw [10] (fun x wr => ∃ (k : Nat) (F : List Nat) (rs : List (Nat × BV)) (E : Nat → List BV) (ts : List (Int × Int × BV)) (wv : List BV), k ≤ ds1.length ∧ k ≤ 60 ∧ x = .int .i64 (k : Int) ∧
    Hid (PD w3.heap.size wr g F (List.replicate 8 x0) rs E ts) ∧ Hid (rs.length = k ∧ ts.length = k ∧ ∀ p ∈ rs, p.1 < 8) ∧ Hid (WantAt w.heap.size wr gw 8 F wv) ∧ Hid (Agree 8 (nowV (List.replicate 8 x0) rs) wv) ∧ Hid (Below w.heap.size w wr)) (fun x _ => 60 - (intOf x).toNat)
  case atStart => exact ⟨0, F0, [], _, [], _, by omega, by omega, rfl, HD5, Lib.hid ⟨rfl, rfl, fun p hp => by cases hp⟩, HW5, HA5, HB5⟩
  case round =>
    clear HD4 HB4 HD5 HB5 HW5 HA5
    obtain ⟨k, F, rs, E, ts, wv, hk, hk2, rfl, HD, HN, HW, HA, HB⟩ := hrel
    have hkw : IntKind.i64.wrap ((k : Int) + 1) = (k : Int) + 1 := by rw [IntKind.wrap_i64]; omega
    by_cases hgo : k < ds1.length ∧ k < 60
    · have h1i : (k : Int) < (ds1.length : Int) := by omega
      have h2i : (k : Int) < 60 := by omega
      have hk0 : (0 : Int) ≤ (k : Int) := by omega
      obtain ⟨d, hd⟩ : ∃ d, ds1[k]? = some d := ⟨_, List.getElem?_eq_getElem hgo.1⟩
      obtain ⟨⟨gd, od, rfl, hc⟩, hda⟩ := (HD1.out.below HB.out).at_ k d hd
      have d1 := hc 1 _ rfl
      have d2 := hc 2 _ rfl
      have hdl := (HF1.out k d (by omega) hd).1
      obtain ⟨a, ha8, hand⟩ := and_seven d.a
      have HDL := Lib.hid hdl
      have HDK := Lib.hid hd
      have HDA := Lib.hid hda
      have HA8 := Lib.hid ha8
      have HGO := Lib.hid hgo
      have ha0 : (0 : Int) ≤ (a : Int) := by omega
      have ha1 : (a : Int) < 8 := by omega
      have ham : (a : Int) % 8 = (a : Int) := by omega
      have hatm : Int.tmod (a : Int) 8 = (a : Int) := by rw [Int.tmod_eq_emod_of_nonneg ha0]; exact ham
      have HGD := Lib.hid (World.block_lt_of_cell? _ _ d2)
      clear hd hc hdl hda ha8 hgo hk hk2
      go_wp2_with (first
        | (go_at_call 31; refine (whole_own d.A _ d.c d.l rfl (by have := HDL.out; omega) wr HDA.out.b).mono ?_; rintro e6 w6 ⟨x6, rfl, HX6, HO6, HB6⟩)
        | (go_at_call 18; refine ((HD.out.kept HB6.out).write a (by rw [List.length_replicate]; exact HA8.out) x6.A _ x6.c x6.l rfl (by rw [HX6.out, pad_len]) HO6.out.hol (by have := HN.out.1; have := HGO.out; omega) (by have := HN.out.2.1; have := HGO.out; omega)).mono ?_; rintro e7 w7 ⟨x7, rfl, HX7, F7, HD7, HC7, HWi7⟩
           have HB7 := Lib.hid (p := Below w.heap.size w w7) ((below_nxt HB6.out HB.out).trans (HC7.out.below (Nat.le_trans HB.out.size HB6.out.size) (fun q hq => Nat.le_trans HBS.out (HD.out.lt q hq).1)))
           have HW7 := Lib.hid ((HW.out.kept HB6.out).turn HC7.out (HD.out.kept HB6.out).noBytes HWi7.out)
           obtain ⟨⟨gd2, od2, e0, hc2⟩, _⟩ := (HD1.out.below HB7.out).at_ k d HDK.out
           simp only [Option.some.injEq, Addr.mk.injEq] at e0
           obtain ⟨rfl, rfl, _⟩ := e0
           have d27 := hc2 2 _ rfl
           clear hc2)
        | (go_at_call 31; refine (whole_own d.A _ d.c d.l rfl (by have := HDL.out; omega) w7 ((HD1.out.below HB7.out).at_ k d HDK.out).2.b).mono ?_; rintro e8 w8 ⟨y8, rfl, HY8, HO8, HB8⟩
           have HB9 := Lib.hid (below_nxt HB8.out HB7.out)
           have HW8 := Lib.hid (HW7.out.kept HB8.out)
           have cg := HW8.out.cell HA8.out
           have fg := HW8.out.row.free a
           unfold bvv at cg
           have hP := HW8.out.put a y8 (World.ownsRow.mono HO8.out HB7.out.size)
           have hne7 : ∀ q ∈ F7, q ≠ gw := fun q hq e => HW7.out.out (e ▸ hq)
           have HP := Lib.hid hP
           have HDP := Lib.hid (p := PD w3.heap.size (w8.setCell ⟨gw, a, none⟩ (bvv y8)) g F7 _ _ _ _) ((HD7.out.kept HB8.out).chg (G := [gw]) ((Chg.refl _ _).setCell (p := ⟨gw, a, none⟩) (.inl (by simp)) _) (fun q hq hq7 => by simp at hq; exact hne7 q hq7 hq) (fun q hq cs fr => by simp at hq; subst hq; exact (NotT.row HW8.out.row (by decide)).no cs fr))
           have HBP := Lib.hid (HB9.out.setCell (p := ⟨gw, a, none⟩) HW8.out.lo (bvv y8))
           have HAP := Lib.hid (HA.out.wrote HW.out.len HA8.out (HX7.out.trans HX6.out) HY8.out)
           unfold bvv at HP HDP HBP
           clear hP hne7))
      go_roundw
      case rel => exact ⟨k + 1, F7, _, _, _, _, by have := HGO.out; omega, by have := HGO.out; omega, by go_num, HDP, Lib.hid ⟨by rw [List.length_append, HN.out.1]; rfl, by rw [List.length_append, HN.out.2.1]; rfl, fun q hq => by
        rcases List.mem_append.1 hq with hq | hq
        · exact HN.out.2.2 q hq
        · simp at hq
          subst hq
          exact HA8.out⟩, HP, HAP, HBP⟩
      case measure => have := HGO.out; simp [intOf]; omega
    · rcases (by omega : ¬ k < ds1.length ∨ k < ds1.length ∧ ¬ k < 60) with h1 | ⟨h1, h2⟩
      all_goals
        first
          | (have h1i : ¬ (k : Int) < (ds1.length : Int) := by omega)
          | (have h1i : (k : Int) < (ds1.length : Int) := by omega
             have h2i : ¬ (k : Int) < 60 := by omega)
        have HK60 := Lib.hid (p := k ≤ 60) hk2
        clear hgo hk hk2
        try clear h1
        try clear h2
        go_wp2_with (go_at_call 20; refine (HD.out.barrier (by have := HN.out.1; have := HK60.out; omega) (by have := HN.out.2.1; have := HK60.out; omega)).mono ?_; rintro e6 w6 ⟨rfl, F6, HD6, HC6, HWi6⟩
                     have HB6 := Lib.hid (p := Below w.heap.size w w6) (HB.out.trans (HC6.out.below HB.out.size (fun q hq => Nat.le_trans HBS.out (HD.out.lt q hq).1)))
                     have HW6 := Lib.hid (HW.out.turn HC6.out HD.out.noBytes HWi6.out)
                     have HA6 := Lib.hid (HA.out.synced (by rw [List.length_replicate]) (fun p hp => by rw [List.length_replicate]; exact HN.out.2.2 p hp))
                     have HT6 := Lib.hid (p := (ts ++ [((3 : Int), (0 : Int), noBV)]).length ≤ 61) (by rw [List.length_append]; have := HN.out.2.1; have := HK60.out; simp; omega)
                     have HSL := Lib.hid (p := (syncK (fun _ => true) rs (List.replicate 8 x0) rs.length).length = 8) (by rw [syncK_len, List.length_replicate]))
        clear HD HN HW HA HB HK60 hkw
        generalize syncK (fun _ => true) rs (List.replicate 8 x0) rs.length = S1 at HD6 HA6 HSL
        generalize ts ++ [((3 : Int), (0 : Int), noBV)] = ts6 at HD6 HT6
        go_loopw [12] (fun x wr => ∃ (k : Nat) (F : List Nat) (rs : List (Nat × BV)) (E : Nat → List BV) (ts : List (Int × Int × BV)) (wv : List BV), k ≤ ds2.length ∧ k ≤ 60 ∧ x = .int .i64 (k : Int) ∧
          Hid (PD w3.heap.size wr g F S1 rs E ts) ∧ Hid (rs.length = k ∧ ts.length ≤ 61 + k) ∧ Hid (WantAt w.heap.size wr gw 8 F wv) ∧ Hid (Agree 8 (fun a => (syncK (fun i => kl.getD i false) rs S1 rs.length).getD a noBV) wv) ∧ Hid (Below w.heap.size w wr)) (fun x _ => 60 - (intOf x).toNat)
        case atStart => exact ⟨0, F6, [], _, ts6, _, by omega, by omega, rfl, HD6, Lib.hid ⟨rfl, HT6.out⟩, HW6, HA6, HB6⟩
        case round =>
          clear HD6 HB6 HT6 HW6 HA6
          obtain ⟨k, F, rs, E, ts, wv, hk, hk2, rfl, HD, HN, HW, HA, HB⟩ := hrel
          have hkw : IntKind.i64.wrap ((k : Int) + 1) = (k : Int) + 1 := by rw [IntKind.wrap_i64]; omega
          by_cases hgo : k < ds2.length ∧ k < 60
          · have h1i : (k : Int) < (ds2.length : Int) := by omega
            have h2i : (k : Int) < 60 := by omega
            have hk0 : (0 : Int) ≤ (k : Int) := by omega
            obtain ⟨d, hd⟩ : ∃ d, ds2[k]? = some d := ⟨_, List.getElem?_eq_getElem hgo.1⟩
            obtain ⟨⟨gd, od, rfl, hc⟩, hda⟩ := (HD2.out.below HB.out).at_ k d hd
            have d1 := hc 1 _ rfl
            have d2 := hc 2 _ rfl
            have hdl := (HF2.out k d (by omega) hd).1
            obtain ⟨a, ha8, hand⟩ := and_seven d.a
            have HDL := Lib.hid hdl
            have HDK := Lib.hid hd
            have HDA := Lib.hid hda
            have HA8 := Lib.hid ha8
            have HGO := Lib.hid hgo
            have ha0 : (0 : Int) ≤ (a : Int) := by omega
            have ha1 : (a : Int) < 8 := by omega
            have ham : (a : Int) % 8 = (a : Int) := by omega
            have hatm : Int.tmod (a : Int) 8 = (a : Int) := by rw [Int.tmod_eq_emod_of_nonneg ha0]; exact ham
            clear hd hc hdl hda ha8 hgo hk hk2
            by_cases hkl : k < kl.length
            · have hkli : (k : Int) < (kl.length : Int) := by omega
              obtain ⟨t, htk⟩ : ∃ t, kl[k]? = some t := ⟨_, List.getElem?_eq_getElem hkl⟩
              have htv : (kl.map Value.bool)[k]? = some (.bool t) := by rw [List.getElem?_map, htk]; rfl
              obtain ⟨gk, ok, rfl, _, _⟩ := HK.out.at_ htv
              have HKT := Lib.hid htv
              have hkd : kl.getD k false = t := by rw [List.getD_eq_getElem?_getD, htk]; rfl
              cases t with
              | true =>
                have HKK := Lib.hid hkd
                clear htk htv hkd hkl
                go_wp2_with (first
                  | (go_at_call 31; refine (whole_own d.A _ d.c d.l rfl (by have := HDL.out; omega) wr HDA.out.b).mono ?_; rintro e6 w6 ⟨x6, rfl, HX6, HO6, HB6⟩)
                  | (go_at_call 18; refine ((HD.out.kept HB6.out).write a (by rw [HSL.out]; exact HA8.out) x6.A _ x6.c x6.l rfl (by rw [HX6.out, pad_len]) HO6.out.hol (by have := HN.out.1; have := HGO.out; omega) (by have := HN.out.2; have := HGO.out; omega)).mono ?_; rintro e7 w7 ⟨x7, rfl, HX7, F7, HD7, HC7, HWi7⟩
                     have HB7 := Lib.hid (p := Below w.heap.size w w7) ((below_nxt HB6.out HB.out).trans (HC7.out.below (Nat.le_trans HB.out.size HB6.out.size) (fun q hq => Nat.le_trans HBS.out (HD.out.lt q hq).1)))
                     have HW7 := Lib.hid ((HW.out.kept HB6.out).turn HC7.out (HD.out.kept HB6.out).noBytes HWi7.out)
                     obtain ⟨⟨gd2, od2, e0, hc2⟩, _⟩ := (HD2.out.below HB7.out).at_ k d HDK.out
                     simp only [Option.some.injEq, Addr.mk.injEq] at e0
                     obtain ⟨rfl, rfl, _⟩ := e0
                     have d27 := hc2 2 _ rfl
                     obtain ⟨gk2, ok2, e0, _, ck⟩ := (HK.out.below HB7.out).at_ HKT.out
                     simp only [Option.some.injEq, Addr.mk.injEq] at e0
                     obtain ⟨rfl, rfl, _⟩ := e0
                     clear hc2)
                  | (go_at_call 31; refine (whole_own d.A _ d.c d.l rfl (by have := HDL.out; omega) w7 ((HD2.out.below HB7.out).at_ k d HDK.out).2.b).mono ?_; rintro e8 w8 ⟨y8, rfl, HY8, HO8, HB8⟩
                     have HB9 := Lib.hid (below_nxt HB8.out HB7.out)
                     have HW8 := Lib.hid (HW7.out.kept HB8.out)
                     have cg := HW8.out.cell HA8.out
                     have fg := HW8.out.row.free a
                     unfold bvv at cg
                     have hP := HW8.out.put a y8 (World.ownsRow.mono HO8.out HB7.out.size)
                     have hne7 : ∀ q ∈ F7, q ≠ gw := fun q hq e => HW7.out.out (e ▸ hq)
                     have HP := Lib.hid hP
                     have HDP := Lib.hid (p := PD w3.heap.size (w8.setCell ⟨gw, a, none⟩ (bvv y8)) g F7 _ _ _ _) ((HD7.out.kept HB8.out).chg (G := [gw]) ((Chg.refl _ _).setCell (p := ⟨gw, a, none⟩) (.inl (by simp)) _) (fun q hq hq7 => by simp at hq; exact hne7 q hq7 hq) (fun q hq cs fr => by simp at hq; subst hq; exact (NotT.row HW8.out.row (by decide)).no cs fr))
                     have HBP := Lib.hid (HB9.out.setCell (p := ⟨gw, a, none⟩) HW8.out.lo (bvv y8))
                     have HAP := Lib.hid (HA.out.keeps HSL.out HW.out.len HA8.out (HX7.out.trans HX6.out) HY8.out (by rw [HN.out.1]; exact HKK.out))
                     unfold bvv at HP HDP HBP
                     clear hP hne7)
)
                go_roundw
                case rel => exact ⟨k + 1, F7, _, _, _, _, by have := HGO.out; omega, by have := HGO.out; omega, by go_num, HDP, Lib.hid ⟨by rw [List.length_append, HN.out.1]; rfl, by rw [List.length_append]; have := HN.out.2; simp; omega⟩, HP, HAP, HBP⟩
                case measure => have := HGO.out; simp [intOf]; omega
              | false =>
                have HKK := Lib.hid hkd
                clear htk htv hkd hkl
                go_wp2_with (first
                  | (go_at_call 31; refine (whole_own d.A _ d.c d.l rfl (by have := HDL.out; omega) wr HDA.out.b).mono ?_; rintro e6 w6 ⟨x6, rfl, HX6, HO6, HB6⟩)
                  | (go_at_call 18; refine ((HD.out.kept HB6.out).write a (by rw [HSL.out]; exact HA8.out) x6.A _ x6.c x6.l rfl (by rw [HX6.out, pad_len]) HO6.out.hol (by have := HN.out.1; have := HGO.out; omega) (by have := HN.out.2; have := HGO.out; omega)).mono ?_; rintro e7 w7 ⟨x7, rfl, HX7, F7, HD7, HC7, HWi7⟩
                     have HB7 := Lib.hid (p := Below w.heap.size w w7) ((below_nxt HB6.out HB.out).trans (HC7.out.below (Nat.le_trans HB.out.size HB6.out.size) (fun q hq => Nat.le_trans HBS.out (HD.out.lt q hq).1)))
                     have HW7 := Lib.hid ((HW.out.kept HB6.out).turn HC7.out (HD.out.kept HB6.out).noBytes HWi7.out)
                     obtain ⟨⟨gd2, od2, e0, hc2⟩, _⟩ := (HD2.out.below HB7.out).at_ k d HDK.out
                     simp only [Option.some.injEq, Addr.mk.injEq] at e0
                     obtain ⟨rfl, rfl, _⟩ := e0
                     have d27 := hc2 2 _ rfl
                     obtain ⟨gk2, ok2, e0, _, ck⟩ := (HK.out.below HB7.out).at_ HKT.out
                     simp only [Option.some.injEq, Addr.mk.injEq] at e0
                     obtain ⟨rfl, rfl, _⟩ := e0
                     clear hc2)
)
                go_roundw
                case rel => exact ⟨k + 1, F7, _, _, _, _, by have := HGO.out; omega, by have := HGO.out; omega, by go_num, HD7, Lib.hid ⟨by rw [List.length_append, HN.out.1]; rfl, by rw [List.length_append]; have := HN.out.2; simp; omega⟩, HW7, Lib.hid (HA.out.loses (by rw [HN.out.1]; exact HKK.out)), HB7⟩
                case measure => have := HGO.out; simp [intOf]; omega
            · have hkli : ¬ (k : Int) < (kl.length : Int) := by omega
              have HKK := Lib.hid (p := kl.getD k false = false) (by rw [List.getD_eq_getElem?_getD, List.getElem?_eq_none (by omega)]; rfl)
              clear hkl
              go_wp2_with (first
                | (go_at_call 31; refine (whole_own d.A _ d.c d.l rfl (by have := HDL.out; omega) wr HDA.out.b).mono ?_; rintro e6 w6 ⟨x6, rfl, HX6, HO6, HB6⟩)
                | (go_at_call 18; refine ((HD.out.kept HB6.out).write a (by rw [HSL.out]; exact HA8.out) x6.A _ x6.c x6.l rfl (by rw [HX6.out, pad_len]) HO6.out.hol (by have := HN.out.1; have := HGO.out; omega) (by have := HN.out.2; have := HGO.out; omega)).mono ?_; rintro e7 w7 ⟨x7, rfl, HX7, F7, HD7, HC7, HWi7⟩
                   have HB7 := Lib.hid (p := Below w.heap.size w w7) ((below_nxt HB6.out HB.out).trans (HC7.out.below (Nat.le_trans HB.out.size HB6.out.size) (fun q hq => Nat.le_trans HBS.out (HD.out.lt q hq).1)))
                   have HW7 := Lib.hid ((HW.out.kept HB6.out).turn HC7.out (HD.out.kept HB6.out).noBytes HWi7.out)
                   obtain ⟨⟨gd2, od2, e0, hc2⟩, _⟩ := (HD2.out.below HB7.out).at_ k d HDK.out
                   simp only [Option.some.injEq, Addr.mk.injEq] at e0
                   obtain ⟨rfl, rfl, _⟩ := e0
                   have d27 := hc2 2 _ rfl
                   skip
                   clear hc2)
)
              go_roundw
              case rel => exact ⟨k + 1, F7, _, _, _, _, by have := HGO.out; omega, by have := HGO.out; omega, by go_num, HD7, Lib.hid ⟨by rw [List.length_append, HN.out.1]; rfl, by rw [List.length_append]; have := HN.out.2; simp; omega⟩, HW7, Lib.hid (HA.out.loses (by rw [HN.out.1]; exact HKK.out)), HB7⟩
              case measure => have := HGO.out; simp [intOf]; omega
          · rcases (by omega : ¬ k < ds2.length ∨ k < ds2.length ∧ ¬ k < 60) with h1 | ⟨h1, h2⟩
            all_goals
              first
                | (have h1i : ¬ (k : Int) < (ds2.length : Int) := by omega)
                | (have h1i : (k : Int) < (ds2.length : Int) := by omega
                   have h2i : ¬ (k : Int) < 60 := by omega)
              have HK60 := Lib.hid (p := k ≤ 60) hk2
              clear hgo hk hk2
              try clear h1
              try clear h2
              go_wp2_with (first
                | (go_at_call 22; refine (HD.out.crash (by have := HN.out.1; have := HK60.out; omega) A3 _ c3 kl rfl (HK.out.below HB.out) (fun g0 o e hne hq => by have h3 := HKB.out g0 o e hne; have h4 := (HD.out.lt g0 hq).1; have h5 := HBS.out; omega)).mono ?_; rintro e6 w6 ⟨rfl, F6, HD6, HC6, HWi6⟩
                   have HB6 := Lib.hid (p := Below w.heap.size w w6) (HB.out.trans (HC6.out.below HB.out.size (fun q hq => Nat.le_trans HBS.out (HD.out.lt q hq).1)))
                   have HW6 := Lib.hid (HW.out.turn HC6.out HD.out.noBytes HWi6.out)
                   have HSL6 := Lib.hid (p := (syncK (fun i => kl.getD i false) rs S1 rs.length).length = 8) (by rw [syncK_len]; exact HSL.out))
                | (go_at_call 26; refine HD6.out.waiting.mono ?_; rintro e7 w7 ⟨rfl, hw7⟩; obtain rfl := hw7.symm)
                | (go_at_call 22; refine (HD6.out.crash (by simp) none 0 0 [] rfl (.inl rfl) (fun g0 o e hne hq => by cases e)).mono ?_; rintro e8 w8 ⟨rfl, F8, HD8, HC8, HWi8⟩
                   have HB8 := Lib.hid (p := Below w.heap.size w w8) (HB6.out.trans (HC8.out.below HB6.out.size (fun q hq => Nat.le_trans HBS.out (HD6.out.lt q hq).1)))
                   have HW8 := Lib.hid (HW6.out.turn HC8.out HD6.out.noBytes HWi8.out)
                   have HT8 := Lib.hid (p := ts.length ≤ 121) (by have := HN.out.2; have := HK60.out; omega)))
              simp only [syncK, List.length_nil] at HD8
              clear HD HN HW HB HK60 hkw HD6 HB6 HW6 HC6 HWi6 HC8 HWi8
              generalize syncK (fun i => kl.getD i false) rs S1 rs.length = S2 at HD8 HA HSL6
              go_loopw [14] (fun x wr => ∃ (k : Nat) (F : List Nat) (ts : List (Int × Int × BV)), k ≤ 8 ∧ x = .int .i64 (k : Int) ∧ Hid (PD w3.heap.size wr g F S2 [] E ts) ∧ Hid (ts.length ≤ 121 + k) ∧ Hid (WantAt w.heap.size wr gw 8 F wv) ∧ Hid (Below w.heap.size w wr)) (fun x _ => 8 - (intOf x).toNat)
              case atStart => exact ⟨0, F8, ts, by omega, rfl, HD8, HT8, HW8, HB8⟩
              case round =>
                clear HD8 HT8 HW8 HB8
                obtain ⟨k, F, ts, hk, rfl, HD, HT, HW, HB⟩ := hrel
                have hkw : IntKind.i64.wrap ((k : Int) + 1) = (k : Int) + 1 := by rw [IntKind.wrap_i64]; omega
                by_cases hgo : k < 8
                · have h1i : (k : Int) < 8 := by omega
                  have hk0 : (0 : Int) ≤ (k : Int) := by omega
                  have HGO := Lib.hid hgo
                  obtain ⟨wk, hwk⟩ : ∃ wk, wv.getD k noBV = wk := ⟨_, rfl⟩
                  have HWK := Lib.hid hwk
                  have HAK := Lib.hid (p := (nowV S2 [] k).l = pad wk.l) (by rw [nowV_nil, ← hwk]; exact HA.out k hgo)
                  clear hgo hk hwk
                  go_wp2_with (first
                    | (go_at_call 13; refine (HD.out.read k (by rw [HSL6.out]; exact HGO.out) (by simp) (by have := HT.out; have := HGO.out; omega)).mono ?_; rintro e6 w6 ⟨⟨x6, rfl, HX6, HO6⟩, F6, HD6, HC6, HWi6⟩
                       have HB6 := Lib.hid (p := Below w.heap.size w w6) (HB.out.trans (HC6.out.below HB.out.size (fun q hq => Nat.le_trans HBS.out (HD.out.lt q hq).1)))
                       have HW6 := Lib.hid (HW.out.turn HC6.out HD.out.noBytes HWi6.out)
                       have cg := HW6.out.cell HGO.out
                       rw [HWK.out] at cg
                       unfold bvv at cg
                       have HM6 := Lib.hid (p := Own8 w.heap.size w6 wk) (by rw [← HWK.out]; exact HW6.out.mem HGO.out))
                    | (go_at_call 31; refine (whole_own wk.A _ wk.c wk.l rfl (HM6.out.len_max) _ HM6.out.hol).mono ?_; rintro e7 w7 ⟨y7, rfl, HY7, HO7, HB7⟩)
                    | (go_at_call 16; refine (rbytes_any x6.A y7.A x6.c y7.c x6.l y7.l _ (HO6.out.below HB7.out).hol HO7.out.hol (HO6.out.len_max) (HO7.out.len_max)).mono ?_; rintro e8 w8 ⟨rfl, hb8⟩; rw [decide_eq_true (show x6.l = y7.l by rw [HX6.out, HAK.out, HY7.out])]
                       have HB8 := Lib.hid (below_nxt hb8 HB7.out)
                       clear hb8))
                  go_roundw
                  case rel => exact ⟨k + 1, F6, _, by have := HGO.out; omega, by go_num, Lib.hid (HD6.out.kept HB8.out), Lib.hid (by rw [List.length_append]; have := HT.out; simp; omega), Lib.hid (HW6.out.kept HB8.out), Lib.hid (below_nxt HB8.out HB6.out)⟩
                  case measure => have := HGO.out; simp [intOf]; omega
                · have h1i : ¬ (k : Int) < 8 := by omega
                  go_wp2
                  go_ret
                  exact ⟨rfl, HB.out⟩
end Go.Proofs.Ytnajlineipapdaa
