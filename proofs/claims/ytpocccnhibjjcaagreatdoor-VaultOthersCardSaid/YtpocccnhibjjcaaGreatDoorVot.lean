/- The walk of VaultOthers. Conditions: the tables lie there; no list of a step is longer than 2^47. -/
import Derived.Test.YtpocccnhibjjcaaGreatDoorVop
import Derived.Test.YtpocccnhibjjcaaGreatDoorMgApp
set_option linter.unusedVariables false
set_option maxRecDepth 20000
namespace Go.Proofs.YtpocccnhibjjcaaGreatDoor
open Go.RowKit

set_option maxHeartbeats 40000000 in
theorem othersW (A1 : Option Addr) (c1 : Nat) (ds1 : List V9.DoV) (A2 : Option Addr) (c2 : Nat) (ds2 : List V9.DoV) (z : Nat) (hz : z < 256) (hl1 : ds1.length ≤ 9223372036854775807) (hl2 : ds2.length ≤ 9223372036854775807) (hS1 : V9.ShortD ds1) (hS2 : V9.ShortD ds2) (w : World) (hT : Tabs w ∧ S8.Tab w) (hD1 : V9.InDo w A1 ds1.length c1 ds1) (hD2 : V9.InDo w A2 ds2.length c2 ds2) :
    Calls Tryz.prog 6 #[.slice A1 ds1.length c1, .slice A2 ds2.length c2, .int .u8 (z : Int)] w fun e w' => e = .returned (.bool true) ∧ Below w.heap.size w w' := by
  have HT := Lib.hid hT
  have HD1 := Lib.hid hD1
  have HD2 := Lib.hid hD2
  have HL1 := Lib.hid hl1
  have HL2 := Lib.hid hl2
  have HS1 := Lib.hid hS1
  have HS2 := Lib.hid hS2
  obtain ⟨a, ha⟩ : ∃ a, z % 16 = a := ⟨_, rfl⟩
  have HA16 := Lib.hid (p := a < 4 ^ 2) (by show a < 16; omega)
  have hza : (z : Int) % 16 = (a : Int) := by omega
  have hz0 : (0 : Int) ≤ (z : Int) := by omega
  have hzt : Int.tmod (z : Int) 16 = (a : Int) := by rw [Int.tmod_eq_emod_of_nonneg hz0]; exact hza
  have hzw : IntKind.i64.wrap (z : Int) = (z : Int) := by rw [IntKind.wrap_i64]; omega
  clear hT hl1 hl2 hS1 hS2 hD1 hD2 ha hz
  go_enter Tryz.func6, Tryz.ntmps6
  go_wp2_with (go_at_call 7; refine (awake9_any w HT.out).mono ?_; rintro e1 w1 ⟨rfl, hb1⟩; have HB1 := Lib.hid hb1; clear hb1)
  refine (V9.fewd_any A1 c1 ds1 HL1.out HS1.out _ (HD1.out.below HB1.out)).mono ?_
  rintro e2 w2 ⟨b, rfl, hb2, hF1⟩
  have HB2 := Lib.hid (below_nxt hb2 HB1.out)
  clear hb2
  cases b with
  | false =>
    clear hF1
    go_wp2
    go_ret
    exact ⟨rfl, HB2.out⟩
  | true =>
  have HF1 := Lib.hid (hF1 rfl)
  clear hF1
  go_wp2_with fail
  refine (V9.fewd_any A2 c2 ds2 HL2.out HS2.out _ (HD2.out.below HB2.out)).mono ?_
  rintro e3 w3 ⟨b, rfl, hb3, hF2⟩
  have HB3 := Lib.hid (below_nxt hb3 HB2.out)
  clear hb3
  cases b with
  | false =>
    clear hF2
    go_wp2
    go_ret
    exact ⟨rfl, HB3.out⟩
  | true =>
  have HF2 := Lib.hid (hF2 rfl)
  clear hF2
  go_wp2_with (first
    | go_skip
    | go_big_skip
    | (go_at_call 28
       refine (mv_start 2 (by decide) (by decide) none 0 [] (by decide) w3 (hol_nil w3) ⟨HT.out.1.below HB3.out, HT.out.2.below HB3.out HT.out.2.lt⟩).mono ?_
       rintro e4 w4 ⟨gH, g, G4, L, rfl, HM4, HG4, HB4⟩
       have HA4 := Lib.hid (p := At0 w w4 G4) ⟨below_nxt HB4.out HB3.out, fun j hj => Nat.le_trans HB3.out.size (HG4.out j hj)⟩)
    | (go_at_call 29
       refine (mv_mount HM4.out (by decide) (by decide)).mono ?_
       rintro e5 w5 ⟨rfl, G5, HS5, HC5, HW5⟩
       have HA5 := Lib.hid (HA4.out.step HC5.out HW5.out)))
  have HP5 := Lib.hid (p := SV w5 gH g G5 2 L (201 + 0) 0 1 (fun _ => []) (PK (fun _ => []) (fun _ => []))) (HS5.out.imp fun X _ hx => ⟨by rw [hx.2]; rfl, fun i => by unfold isK; simp⟩)
  clear HM4 HG4 HB4 HA4 HS5 HC5 HW5
  go_loopw [8] (fun y wr => ∃ (k : Nat) (d : Nat → List UInt8) (G : List Nat), k ≤ ds1.length ∧ k ≤ 30 ∧ y = .int .i64 (k : Int) ∧ Hid (SV wr gH g G 2 L (201 + k) 0 1 (fun _ => []) (PK d (fun _ => []))) ∧ Hid (At0 w wr G)) (fun y _ => 30 - (intOf y).toNat)
  case atStart => exact ⟨0, _, G5, by omega, by omega, rfl, HP5, HA5⟩
  case round =>
    clear HP5 HA5
    obtain ⟨k, d, G, hk, hk2, rfl, HSV, HA⟩ := hrel
    have hkw : IntKind.i64.wrap ((k : Int) + 1) = (k : Int) + 1 := by rw [IntKind.wrap_i64]; omega
    by_cases hgo : k < ds1.length ∧ k < 30
    · have h1i : (k : Int) < (ds1.length : Int) := by omega
      have h2i : (k : Int) < 30 := by omega
      have hk0 : (0 : Int) ≤ (k : Int) := by omega
      obtain ⟨dd, hd⟩ : ∃ dd, ds1[k]? = some dd := ⟨_, List.getElem?_eq_getElem hgo.1⟩
      obtain ⟨⟨gi, oi, rfl, hc⟩, hda⟩ := (HD1.out.below HA.out.1).at_ k dd hd
      have hdl := (HF1.out k dd (by omega) hd).1
      obtain ⟨m, hm16, hand⟩ := and_fif dd.a
      have HDL := Lib.hid hdl
      have HDK := Lib.hid hd
      have HDA := Lib.hid hda
      have HM16 := Lib.hid (p := m < 4 ^ 2) hm16
      have hm0 : (0 : Int) ≤ (m : Int) := by omega
      have hm1 : (m : Int) < 16 := by omega
      have hmm : (m : Int) % 16 = (m : Int) := by omega
      have hmt : Int.tmod (m : Int) 16 = (m : Int) := by rw [Int.tmod_eq_emod_of_nonneg hm0]; exact hmm
      have HCD := Lib.hid (p := wr.cell? ⟨gi, oi + k * 8 + 1, none⟩ = some (.int .i64 dd.a) ∧ wr.cell? ⟨gi, oi + k * 8 + 2, none⟩ = some (.slice dd.A dd.l.length dd.c)) ⟨hc 1 _ rfl, hc 2 _ rfl⟩
      have HGO := Lib.hid hgo
      have HCV := Lib.hid (SV.cell HSV.out)
      clear hd hc hdl hda hk hk2 hm16 hgo
      go_wp2
      refine wp_region_held_drew (S := fun w' => w'.cell? ⟨gH, 4, none⟩ = some (.pointer (some ⟨g, 0, none⟩)) ∧ w'.cell? ⟨gi, oi + k * 8 + 1, none⟩ = some (.int .i64 dd.a) ∧ w'.cell? ⟨gi, oi + k * 8 + 2, none⟩ = some (.slice dd.A dd.l.length dd.c)) (by kernel_rfl) ⟨HCV.out, HCD.out⟩ (fun hHeld => ?_)
      refine wpAnyH_take (i := 0) (oi := ⟨some 44, .move (.tmp 7), _, _, _, _⟩) (v := .pointer (some ⟨gH, 0, none⟩)) rfl (by kernel_rfl) (by kernel_rfl) (by kernel_rfl) (fun _ _ _ h => h) (.inl ⟨by rfl, fun w hSw => by go_simp⟩) (by assumption) ?_
      simp only [Act.put, List.setIfInBounds_toArray, List.set_cons_zero, List.set_cons_succ]
      refine wpAnyH_take (i := 1) (oi := ⟨some 45, .nilCheck (.tmp 44), _, _, _, _⟩) (v := .pointer (some ⟨gH, 0, none⟩)) rfl (by kernel_rfl) (by kernel_rfl) (by kernel_rfl) (fun _ _ _ h => h) (.inl ⟨by rfl, fun w hSw => by go_simp⟩) (by assumption) ?_
      simp only [Act.put, List.setIfInBounds_toArray, List.set_cons_zero, List.set_cons_succ]
      refine wpAnyH_take (i := 2) (oi := ⟨some 46, .fieldAddr 64 (.tmp 45) 4, _, _, _, _⟩) (v := .pointer (some ⟨gH, 4, none⟩)) rfl (by kernel_rfl) (by kernel_rfl) (by kernel_rfl) (fun _ _ _ h => h) (.inl ⟨by rfl, fun w hSw => by go_simp⟩) (by assumption) ?_
      simp only [Act.put, List.setIfInBounds_toArray, List.set_cons_zero, List.set_cons_succ]
      refine wpAnyH_take (i := 3) (oi := ⟨some 47, .load 27 (.tmp 46), _, _, _, _⟩) (v := .pointer (some ⟨g, 0, none⟩)) rfl (by kernel_rfl) (by kernel_rfl) (by kernel_rfl) (fun _ _ _ h => h) (.inl ⟨by rfl, fun w hSw => by have z := hSw.1; go_simp⟩) (by assumption) ?_
      simp only [Act.put, List.setIfInBounds_toArray, List.set_cons_zero, List.set_cons_succ]
      refine wpAnyH_take (i := 4) (oi := ⟨some 48, .move (.tmp 0), _, _, _, _⟩) (v := .slice (some ⟨gi, oi, none⟩) ds1.length c1) rfl (by kernel_rfl) (by kernel_rfl) (by kernel_rfl) (fun _ _ _ h => h) (.inl ⟨by rfl, fun w hSw => by go_simp⟩) (by assumption) ?_
      simp only [Act.put, List.setIfInBounds_toArray, List.set_cons_zero, List.set_cons_succ]
      refine wpAnyH_take (i := 5) (oi := ⟨some 49, .move (.tmp 8), _, _, _, _⟩) (v := .int .i64 (k : Int)) rfl (by kernel_rfl) (by kernel_rfl) (by kernel_rfl) (fun _ _ _ h => h) (.inl ⟨by rfl, fun w hSw => by go_simp⟩) (by assumption) ?_
      simp only [Act.put, List.setIfInBounds_toArray, List.set_cons_zero, List.set_cons_succ]
      refine wpAnyH_take (i := 6) (oi := ⟨some 50, .indexAddr 49 (.tmp 48) (.tmp 49), _, _, _, _⟩) (v := .pointer (some ⟨gi, oi + k * 8, none⟩)) rfl (by kernel_rfl) (by kernel_rfl) (by kernel_rfl) (fun _ _ _ h => h) (.inl ⟨by rfl, fun w hSw => by go_simp⟩) (by assumption) ?_
      simp only [Act.put, List.setIfInBounds_toArray, List.set_cons_zero, List.set_cons_succ]
      refine wpAnyH_take (i := 7) (oi := ⟨some 51, .fieldAddr 60 (.tmp 50) 1, _, _, _, _⟩) (v := .pointer (some ⟨gi, oi + k * 8 + 1, none⟩)) rfl (by kernel_rfl) (by kernel_rfl) (by kernel_rfl) (fun _ _ _ h => h) (.inl ⟨by rfl, fun w hSw => by go_simp⟩) (by assumption) ?_
      simp only [Act.put, List.setIfInBounds_toArray, List.set_cons_zero, List.set_cons_succ]
      refine wpAnyH_take (i := 8) (oi := ⟨some 52, .load 3 (.tmp 51), _, _, _, _⟩) (v := .int .i64 dd.a) rfl (by kernel_rfl) (by kernel_rfl) (by kernel_rfl) (fun _ _ _ h => h) (.inl ⟨by rfl, fun w hSw => by have z := hSw.2.1; go_simp⟩) (by assumption) ?_
      simp only [Act.put, List.setIfInBounds_toArray, List.set_cons_zero, List.set_cons_succ]
      refine wpAnyH_take (i := 9) (oi := ⟨some 53, .binOp .and 3 (.tmp 52) (.const (.int .i64 15)) 3, _, _, _, _⟩) (v := .int .i64 (m : Int)) rfl (by kernel_rfl) (by kernel_rfl) (by kernel_rfl) (fun _ _ _ h => h) (.inl ⟨by rfl, fun w hSw => by go_simp⟩) (by assumption) ?_
      simp only [Act.put, List.setIfInBounds_toArray, List.set_cons_zero, List.set_cons_succ]
      refine wpAnyH_take (i := 10) (oi := ⟨some 54, .binOp .rem 3 (.tmp 53) (.const (.int .i64 16)) 3, _, _, _, _⟩) (v := .int .i64 (m : Int)) rfl (by kernel_rfl) (by kernel_rfl) (by kernel_rfl) (fun _ _ _ h => h) (.inl ⟨by rfl, fun w hSw => by go_simp⟩) (by assumption) ?_
      simp only [Act.put, List.setIfInBounds_toArray, List.set_cons_zero, List.set_cons_succ]
      refine wpAnyH_take (i := 11) (oi := ⟨some 55, .move (.tmp 0), _, _, _, _⟩) (v := .slice (some ⟨gi, oi, none⟩) ds1.length c1) rfl (by kernel_rfl) (by kernel_rfl) (by kernel_rfl) (fun _ _ _ h => h) (.inl ⟨by rfl, fun w hSw => by go_simp⟩) (by assumption) ?_
      simp only [Act.put, List.setIfInBounds_toArray, List.set_cons_zero, List.set_cons_succ]
      refine wpAnyH_take (i := 12) (oi := ⟨some 56, .move (.tmp 8), _, _, _, _⟩) (v := .int .i64 (k : Int)) rfl (by kernel_rfl) (by kernel_rfl) (by kernel_rfl) (fun _ _ _ h => h) (.inl ⟨by rfl, fun w hSw => by go_simp⟩) (by assumption) ?_
      simp only [Act.put, List.setIfInBounds_toArray, List.set_cons_zero, List.set_cons_succ]
      refine wpAnyH_take (i := 13) (oi := ⟨some 57, .indexAddr 49 (.tmp 55) (.tmp 56), _, _, _, _⟩) (v := .pointer (some ⟨gi, oi + k * 8, none⟩)) rfl (by kernel_rfl) (by kernel_rfl) (by kernel_rfl) (fun _ _ _ h => h) (.inl ⟨by rfl, fun w hSw => by go_simp⟩) (by assumption) ?_
      simp only [Act.put, List.setIfInBounds_toArray, List.set_cons_zero, List.set_cons_succ]
      refine wpAnyH_take (i := 14) (oi := ⟨some 58, .fieldAddr 60 (.tmp 57) 2, _, _, _, _⟩) (v := .pointer (some ⟨gi, oi + k * 8 + 2, none⟩)) rfl (by kernel_rfl) (by kernel_rfl) (by kernel_rfl) (fun _ _ _ h => h) (.inl ⟨by rfl, fun w hSw => by go_simp⟩) (by assumption) ?_
      simp only [Act.put, List.setIfInBounds_toArray, List.set_cons_zero, List.set_cons_succ]
      refine wpAnyH_take (i := 15) (oi := ⟨some 59, .load 35 (.tmp 58), _, _, _, _⟩) (v := .slice dd.A dd.l.length dd.c) rfl (by kernel_rfl) (by kernel_rfl) (by kernel_rfl) (fun _ _ _ h => h) (.inl ⟨by rfl, fun w hSw => by have z := hSw.2.2; go_simp⟩) (by assumption) ?_
      simp only [Act.put, List.setIfInBounds_toArray, List.set_cons_zero, List.set_cons_succ]
      refine wpAnyH_ready (rs := [16]) (by kernel_rfl) (by simp) ?_
      refine AllReadyH.cons (o := ⟨some 60, .call ⟨.value (.func 30), #[.tmp 59], _⟩, _, _, _, _⟩) rfl (fun K hK => ?_) AllReadyH.nil
      go_simp
      refine (whole_any dd.A dd.c dd.l (by have := HDL.out; omega) _ (HDA.out.below (below_drawN wr)).b).mono ?_
      rintro e6 w6 ⟨gw, rfl, hrw, hgw, hbw⟩
      have hbw6 := below_nxt hbw (below_drawN wr)
      have HRW := Lib.hid hrw
      have HS6 := Lib.hid (SV.below HSV.out hbw6)
      have HA6 := Lib.hid (HA.out.below hbw6)
      have hS6 : w6.cell? ⟨gH, 4, none⟩ = some (.pointer (some ⟨g, 0, none⟩)) ∧ w6.cell? ⟨gi, oi + k * 8 + 1, none⟩ = some (.int .i64 dd.a) ∧ w6.cell? ⟨gi, oi + k * 8 + 2, none⟩ = some (.slice dd.A dd.l.length dd.c) := ⟨SV.cell HS6.out, (hbw6.cell (World.block_lt_of_cell? _ _ HCD.out.1)).trans HCD.out.1, (hbw6.cell (World.block_lt_of_cell? _ _ HCD.out.2)).trans HCD.out.2⟩
      clear hrw hgw hbw hbw6
      refine hK.out _ _ hS6 (fun _hH6 => ?_)
      clear hK K
      refine wpAnyH_ready (rs := [17]) (by kernel_rfl) (by simp) ?_
      refine AllReadyH.cons (o := ⟨some 61, .call ⟨.value (.func 18), #[.tmp 47, .tmp 54, .tmp 60], _⟩, _, _, _, _⟩) rfl (fun K hK => ?_) AllReadyH.nil
      go_simp
      obtain ⟨x, hxA, hxc, hxl, hxO⟩ : ∃ x : BV, x.A = some ⟨gw, 0, none⟩ ∧ x.c = 256 ∧ x.l = lst 256 (wh dd.l) ∧ Own8 0 w6 x := ⟨⟨some ⟨gw, 0, none⟩, 256, lst 256 (wh dd.l)⟩, rfl, rfl, rfl, own_brr HRW.out (Nat.zero_le _)⟩
      have hput := sv_put HS6.out m HM16.out x 0 hxO (.inl (by rw [hxl]; exact lst_len _ _)) (by have := HGO.out; omega)
      rw [hxA, hxc, hxl, lst_len] at hput
      refine hput.mono ?_
      rintro e7 w7 ⟨rfl, G7, HS7, HC7, HW7⟩
      have HA7 := Lib.hid (HA6.out.step HC7.out HW7.out)
      have HP7 := Lib.hid (PK.put HS7.out)
      have hD7 := HD1.out.below HA7.out.1
      obtain ⟨⟨gi7, oi7, e7, hc7⟩, _⟩ := hD7.at_ k dd HDK.out
      simp only [Option.some.injEq, Addr.mk.injEq] at e7
      obtain ⟨rfl, rfl, _⟩ := e7
      have hS7 : w7.cell? ⟨gH, 4, none⟩ = some (.pointer (some ⟨g, 0, none⟩)) ∧ w7.cell? ⟨gi, oi + k * 8 + 1, none⟩ = some (.int .i64 dd.a) ∧ w7.cell? ⟨gi, oi + k * 8 + 2, none⟩ = some (.slice dd.A dd.l.length dd.c) := ⟨SV.cell HP7.out, hc7 1 _ rfl, hc7 2 _ rfl⟩
      clear hput hxA hxc hxl hxO hc7 hD7
      refine hK.out _ _ hS7 (fun _hH7 => ?_)
      clear hK K
      refine wpAnyH_done (by kernel_rfl) ?_ _
      go_wp2
      go_roundw
      case rel => exact ⟨k + 1, _, G7, by have := HGO.out; omega, by have := HGO.out; omega, by go_num, Lib.hid (HP7.out.mono (by omega) (Nat.le_refl _)), HA7⟩
      case measure => have := HGO.out; simp [intOf]; omega
    · rcases (by omega : ¬ k < ds1.length ∨ k < ds1.length ∧ ¬ k < 30) with h1 | ⟨h1, h2⟩
      all_goals
        first
          | (have h1i : ¬ (k : Int) < (ds1.length : Int) := by omega)
          | (have h1i : (k : Int) < (ds1.length : Int) := by omega
             have h2i : ¬ (k : Int) < 30 := by omega)
        have HK30 := Lib.hid (p := k ≤ 30) hk2
        have HCV := SV.cell HSV.out
        have HGET := Lib.hid (sv_get HSV.out a HA16.out (d a) (fun X hX => ⟨hX.2 a, by rw [hX.1]⟩))
        clear hgo hk hk2
        try clear h1
        try clear h2
        go_wp2_with (first
          | (go_at_call 15; refine HGET.out.mono ?_; rintro eg wg ⟨gg, rfl, hrow, hgg, hbg⟩
             have HSG := Lib.hid (SV.below HSV.out hbg.out)
             have HAG := Lib.hid (At0.below HA.out hbg.out)
             have HOG := Lib.hid (p := Own1 wg G 5 gg (brr 256 (wh (d a)))) ⟨hrow.out, fun hx => by have h1 := SV.lt HSV.out _ hx; have h2 := hgg.out; omega⟩
             clear hrow hgg hbg)
          | (go_at_call 31; refine (sv_commit2 HSG.out (by decide) (by have := HK30.out; omega)).mono ?_
             rintro e8 w8 ⟨rfl, G8, HS8, HC8, HW8⟩
             have HA8 := Lib.hid (HAG.out.step HC8.out HW8.out)
             have HO8 := Lib.hid (HOG.out.step HC8.out HW8.out)))
        obtain ⟨l, hl⟩ : ∃ l, d a = l := ⟨_, rfl⟩
        rw [hl] at HO8
        obtain ⟨E8, hE8, hS8⟩ := HS8.out
        have HP8 := Lib.hid (hS8.mono (Q' := 9231 + 9001 * 0) (by have := HK30.out; omega) (Nat.le_refl _))
        have HE8 := Lib.hid (p := E8 ≤ 2 + 0) hE8
        have HL8 := Lib.hid hl
        clear hl hE8 hS8 HS8 HC8 HW8 HSG HAG HOG HSV HA HCV HGET
        go_loopw [12] (fun y wr => ∃ (k : Nat) (d c : Nat → List UInt8) (E : Nat) (G : List Nat), k ≤ ds2.length ∧ k ≤ 30 ∧ y = .int .i64 (k : Int) ∧ Hid (SV wr gH g G 2 L (9231 + 9001 * k) 0 E c (PK d c)) ∧ Hid (E ≤ 2 + k) ∧ Hid (d a = l) ∧ Hid (At0 w wr G) ∧ Hid (Own1 wr G 5 gg (brr 256 (wh l)))) (fun y _ => 30 - (intOf y).toNat)
        case atStart => exact ⟨0, _, _, E8, G8, by omega, by omega, rfl, HP8, HE8, HL8, HA8, HO8⟩
        case round =>
          clear HP8 HE8 HL8 HA8 HO8
          obtain ⟨k, d, c, E, G, hk, hk2, rfl, HSV, HEK, HLK, HA, HO⟩ := hrel
          have hkw : IntKind.i64.wrap ((k : Int) + 1) = (k : Int) + 1 := by rw [IntKind.wrap_i64]; omega
          by_cases hgo : k < ds2.length ∧ k < 30
          · have h1i : (k : Int) < (ds2.length : Int) := by omega
            have h2i : (k : Int) < 30 := by omega
            have hk0 : (0 : Int) ≤ (k : Int) := by omega
            obtain ⟨dd, hd⟩ : ∃ dd, ds2[k]? = some dd := ⟨_, List.getElem?_eq_getElem hgo.1⟩
            obtain ⟨⟨gi, oi, rfl, hc⟩, hda⟩ := (HD2.out.below HA.out.1).at_ k dd hd
            have hdl := (HF2.out k dd (by omega) hd).1
            obtain ⟨m, hm16, hand⟩ := and_fif dd.a
            have HDL := Lib.hid hdl
            have HDK := Lib.hid hd
            have HDA := Lib.hid hda
            have HM16 := Lib.hid (p := m < 4 ^ 2) hm16
            have hm0 : (0 : Int) ≤ (m : Int) := by omega
            have hm1 : (m : Int) < 16 := by omega
            have hmm : (m : Int) % 16 = (m : Int) := by omega
            have hmt : Int.tmod (m : Int) 16 = (m : Int) := by rw [Int.tmod_eq_emod_of_nonneg hm0]; exact hmm
            have d0 : wr.cell? ⟨gi, oi + k * 8, none⟩ = some (.int .i64 dd.k) := hc 0 _ rfl
            have d1 : wr.cell? ⟨gi, oi + k * 8 + 1, none⟩ = some (.int .i64 dd.a) := hc 1 _ rfl
            have HCD := Lib.hid (p := wr.cell? ⟨gi, oi + k * 8 + 1, none⟩ = some (.int .i64 dd.a) ∧ wr.cell? ⟨gi, oi + k * 8 + 2, none⟩ = some (.slice dd.A dd.l.length dd.c)) ⟨hc 1 _ rfl, hc 2 _ rfl⟩
            have HGO := Lib.hid hgo
            have HCV := Lib.hid (SV.cell HSV.out)
            clear hd hc hdl hda hk hk2 hm16 hgo
            by_cases hma : m = a
            · have hmb : ((m : Int) != (a : Int)) = false := by simp; omega
              have HS7 := Lib.hid (HSV.out.mono (Q' := 9231 + 9001 * k + 1) (by omega) (Nat.le_refl _))
              have HL7 := HLK
              have HO7 := HO
              have HA7 := HA
              clear hma HSV HLK
              by_cases h7 : dd.k = 7
              · have h7b : (dd.k == 7) = true := by simpa using h7
                clear h7
                go_wp2_with (first
                  | go_skip
                  | go_big_skip
                  | (go_at_call 31; refine (sv_commit2 HS7.out (by have := HEK.out; have := HGO.out; omega) (by have := HGO.out; omega)).mono ?_
                     rintro e9 w9 ⟨rfl, G9, HS9, HC9, HW9⟩
                     have HA9 := Lib.hid (HA7.out.step HC9.out HW9.out)
                     have HO9 := Lib.hid (HO7.out.step HC9.out HW9.out)))
                obtain ⟨E9, hE9, hS9⟩ := HS9.out
                have HP9 := Lib.hid (hS9.mono (Q' := 9231 + 9001 * (k + 1)) (by omega) (Nat.le_refl _))
                have HE9 := Lib.hid (p := E9 ≤ 2 + (k + 1)) (by have := HEK.out; omega)
                clear hE9 hS9
                go_roundw
                case rel => exact ⟨k + 1, _, _, E9, G9, by have := HGO.out; omega, by have := HGO.out; omega, by go_num, HP9, HE9, HL7, HA9, HO9⟩
                case measure => have := HGO.out; simp [intOf]; omega
              · have h7b : (dd.k == 7) = false := by simpa using h7
                clear h7
                go_wp2_with (first
                  | go_skip
                  | go_big_skip)
                have HP9 := Lib.hid (HS7.out.mono (Q' := 9231 + 9001 * (k + 1)) (by omega) (Nat.le_refl _))
                have HE9 := Lib.hid (p := E ≤ 2 + (k + 1)) (by have := HEK.out; omega)
                go_roundw
                case rel => exact ⟨k + 1, _, _, E, _, by have := HGO.out; omega, by have := HGO.out; omega, by go_num, HP9, HE9, HL7, HA7, HO7⟩
                case measure => have := HGO.out; simp [intOf]; omega
            · have hmb : ((m : Int) != (a : Int)) = true := by simp; omega
              have HMA := Lib.hid hma
              clear hma
              go_wp2
              refine wp_region_held_drew (S := fun w' => w'.cell? ⟨gH, 4, none⟩ = some (.pointer (some ⟨g, 0, none⟩)) ∧ w'.cell? ⟨gi, oi + k * 8 + 1, none⟩ = some (.int .i64 dd.a) ∧ w'.cell? ⟨gi, oi + k * 8 + 2, none⟩ = some (.slice dd.A dd.l.length dd.c)) (by kernel_rfl) ⟨HCV.out, HCD.out⟩ (fun hHeld => ?_)
              refine wpAnyH_take (i := 0) (oi := ⟨some 101, .move (.tmp 7), _, _, _, _⟩) (v := .pointer (some ⟨gH, 0, none⟩)) rfl (by kernel_rfl) (by kernel_rfl) (by kernel_rfl) (fun _ _ _ h => h) (.inl ⟨by rfl, fun w hSw => by go_simp⟩) (by assumption) ?_
              simp only [Act.put, List.setIfInBounds_toArray, List.set_cons_zero, List.set_cons_succ]
              refine wpAnyH_take (i := 1) (oi := ⟨some 102, .nilCheck (.tmp 101), _, _, _, _⟩) (v := .pointer (some ⟨gH, 0, none⟩)) rfl (by kernel_rfl) (by kernel_rfl) (by kernel_rfl) (fun _ _ _ h => h) (.inl ⟨by rfl, fun w hSw => by go_simp⟩) (by assumption) ?_
              simp only [Act.put, List.setIfInBounds_toArray, List.set_cons_zero, List.set_cons_succ]
              refine wpAnyH_take (i := 2) (oi := ⟨some 103, .fieldAddr 64 (.tmp 102) 4, _, _, _, _⟩) (v := .pointer (some ⟨gH, 4, none⟩)) rfl (by kernel_rfl) (by kernel_rfl) (by kernel_rfl) (fun _ _ _ h => h) (.inl ⟨by rfl, fun w hSw => by go_simp⟩) (by assumption) ?_
              simp only [Act.put, List.setIfInBounds_toArray, List.set_cons_zero, List.set_cons_succ]
              refine wpAnyH_take (i := 3) (oi := ⟨some 104, .load 27 (.tmp 103), _, _, _, _⟩) (v := .pointer (some ⟨g, 0, none⟩)) rfl (by kernel_rfl) (by kernel_rfl) (by kernel_rfl) (fun _ _ _ h => h) (.inl ⟨by rfl, fun w hSw => by have z := hSw.1; go_simp⟩) (by assumption) ?_
              simp only [Act.put, List.setIfInBounds_toArray, List.set_cons_zero, List.set_cons_succ]
              refine wpAnyH_take (i := 4) (oi := ⟨some 105, .move (.tmp 13), _, _, _, _⟩) (v := .int .i64 (m : Int)) rfl (by kernel_rfl) (by kernel_rfl) (by kernel_rfl) (fun _ _ _ h => h) (.inl ⟨by rfl, fun w hSw => by go_simp⟩) (by assumption) ?_
              simp only [Act.put, List.setIfInBounds_toArray, List.set_cons_zero, List.set_cons_succ]
              refine wpAnyH_take (i := 5) (oi := ⟨some 106, .move (.tmp 1), _, _, _, _⟩) (v := .slice (some ⟨gi, oi, none⟩) ds2.length c2) rfl (by kernel_rfl) (by kernel_rfl) (by kernel_rfl) (fun _ _ _ h => h) (.inl ⟨by rfl, fun w hSw => by go_simp⟩) (by assumption) ?_
              simp only [Act.put, List.setIfInBounds_toArray, List.set_cons_zero, List.set_cons_succ]
              refine wpAnyH_take (i := 6) (oi := ⟨some 107, .move (.tmp 12), _, _, _, _⟩) (v := .int .i64 (k : Int)) rfl (by kernel_rfl) (by kernel_rfl) (by kernel_rfl) (fun _ _ _ h => h) (.inl ⟨by rfl, fun w hSw => by go_simp⟩) (by assumption) ?_
              simp only [Act.put, List.setIfInBounds_toArray, List.set_cons_zero, List.set_cons_succ]
              refine wpAnyH_take (i := 7) (oi := ⟨some 108, .indexAddr 49 (.tmp 106) (.tmp 107), _, _, _, _⟩) (v := .pointer (some ⟨gi, oi + k * 8, none⟩)) rfl (by kernel_rfl) (by kernel_rfl) (by kernel_rfl) (fun _ _ _ h => h) (.inl ⟨by rfl, fun w hSw => by go_simp⟩) (by assumption) ?_
              simp only [Act.put, List.setIfInBounds_toArray, List.set_cons_zero, List.set_cons_succ]
              refine wpAnyH_take (i := 8) (oi := ⟨some 109, .fieldAddr 60 (.tmp 108) 2, _, _, _, _⟩) (v := .pointer (some ⟨gi, oi + k * 8 + 2, none⟩)) rfl (by kernel_rfl) (by kernel_rfl) (by kernel_rfl) (fun _ _ _ h => h) (.inl ⟨by rfl, fun w hSw => by go_simp⟩) (by assumption) ?_
              simp only [Act.put, List.setIfInBounds_toArray, List.set_cons_zero, List.set_cons_succ]
              refine wpAnyH_take (i := 9) (oi := ⟨some 110, .load 35 (.tmp 109), _, _, _, _⟩) (v := .slice dd.A dd.l.length dd.c) rfl (by kernel_rfl) (by kernel_rfl) (by kernel_rfl) (fun _ _ _ h => h) (.inl ⟨by rfl, fun w hSw => by have z := hSw.2.2; go_simp⟩) (by assumption) ?_
              simp only [Act.put, List.setIfInBounds_toArray, List.set_cons_zero, List.set_cons_succ]
              refine wpAnyH_ready (rs := [10]) (by kernel_rfl) (by simp) ?_
              refine AllReadyH.cons (o := ⟨some 111, .call ⟨.value (.func 30), #[.tmp 110], _⟩, _, _, _, _⟩) rfl (fun K hK => ?_) AllReadyH.nil
              go_simp
              refine (whole_any dd.A dd.c dd.l (by have := HDL.out; omega) _ (HDA.out.below (below_drawN wr)).b).mono ?_
              rintro e6 w6 ⟨gw, rfl, hrw, hgw, hbw⟩
              have hbw6 := below_nxt hbw (below_drawN wr)
              have HRW := Lib.hid hrw
              have HS6 := Lib.hid (SV.below HSV.out hbw6)
              have HA6 := Lib.hid (HA.out.below hbw6)
              have HO6 := Lib.hid (HO.out.below hbw6)
              have hS6 : w6.cell? ⟨gH, 4, none⟩ = some (.pointer (some ⟨g, 0, none⟩)) ∧ w6.cell? ⟨gi, oi + k * 8 + 1, none⟩ = some (.int .i64 dd.a) ∧ w6.cell? ⟨gi, oi + k * 8 + 2, none⟩ = some (.slice dd.A dd.l.length dd.c) := ⟨SV.cell HS6.out, (hbw6.cell (World.block_lt_of_cell? _ _ HCD.out.1)).trans HCD.out.1, (hbw6.cell (World.block_lt_of_cell? _ _ HCD.out.2)).trans HCD.out.2⟩
              clear hrw hgw hbw hbw6
              refine hK.out _ _ hS6 (fun _hH6 => ?_)
              clear hK K
              refine wpAnyH_ready (rs := [11]) (by kernel_rfl) (by simp) ?_
              refine AllReadyH.cons (o := ⟨some 112, .call ⟨.value (.func 18), #[.tmp 104, .tmp 105, .tmp 111], _⟩, _, _, _, _⟩) rfl (fun K hK => ?_) AllReadyH.nil
              go_simp
              obtain ⟨x, hxA, hxc, hxl, hxO⟩ : ∃ x : BV, x.A = some ⟨gw, 0, none⟩ ∧ x.c = 256 ∧ x.l = lst 256 (wh dd.l) ∧ Own8 0 w6 x := ⟨⟨some ⟨gw, 0, none⟩, 256, lst 256 (wh dd.l)⟩, rfl, rfl, rfl, own_brr HRW.out (Nat.zero_le _)⟩
              have hput := sv_put HS6.out m HM16.out x 0 hxO (.inl (by rw [hxl]; exact lst_len _ _)) (by have := HGO.out; omega)
              rw [hxA, hxc, hxl, lst_len] at hput
              refine hput.mono ?_
              rintro e7 w7 ⟨rfl, G7, HS7, HC7, HW7⟩
              have HA7 := Lib.hid (HA6.out.step HC7.out HW7.out)
              have HP7 := Lib.hid (PK.put HS7.out)
              have HO7 := Lib.hid (HO6.out.step HC7.out HW7.out)
              have hD7 := HD2.out.below HA7.out.1
              obtain ⟨⟨gi7, oi7, e7, hc7⟩, _⟩ := hD7.at_ k dd HDK.out
              simp only [Option.some.injEq, Addr.mk.injEq] at e7
              obtain ⟨rfl, rfl, _⟩ := e7
              have hS7 : w7.cell? ⟨gH, 4, none⟩ = some (.pointer (some ⟨g, 0, none⟩)) ∧ w7.cell? ⟨gi, oi + k * 8 + 1, none⟩ = some (.int .i64 dd.a) ∧ w7.cell? ⟨gi, oi + k * 8 + 2, none⟩ = some (.slice dd.A dd.l.length dd.c) := ⟨SV.cell HP7.out, hc7 1 _ rfl, hc7 2 _ rfl⟩
              clear hput hxA hxc hxl hxO hc7 hD7
              refine hK.out _ _ hS7 (fun _hH7 => ?_)
              clear hK K
              refine wpAnyH_done (by kernel_rfl) ?_ _
              have HL7 := Lib.hid (p := setL d m (lst 256 (wh dd.l)) a = l) (by rw [setL_other _ _ (fun e => HMA.out e.symm)]; exact HLK.out)
              replace HS7 := Lib.hid (HP7.out.mono (Q' := 9231 + 9001 * k + 1) (by omega) (Nat.le_refl _))
              have d0' : w7.cell? ⟨gi, oi + k * 8, none⟩ = some (.int .i64 dd.k) := (HD2.out.below HA7.out.1).cell0 HDK.out
              have HA := HA7
              clear d0 d1 HSV HLK HO
              clear HA
              by_cases h7 : dd.k = 7
              · have h7b : (dd.k == 7) = true := by simpa using h7
                clear h7
                go_wp2_with (first
                  | go_skip
                  | go_big_skip
                  | (go_at_call 31; refine (sv_commit2 HS7.out (by have := HEK.out; have := HGO.out; omega) (by have := HGO.out; omega)).mono ?_
                     rintro e9 w9 ⟨rfl, G9, HS9, HC9, HW9⟩
                     have HA9 := Lib.hid (HA7.out.step HC9.out HW9.out)
                     have HO9 := Lib.hid (HO7.out.step HC9.out HW9.out)))
                obtain ⟨E9, hE9, hS9⟩ := HS9.out
                have HP9 := Lib.hid (hS9.mono (Q' := 9231 + 9001 * (k + 1)) (by omega) (Nat.le_refl _))
                have HE9 := Lib.hid (p := E9 ≤ 2 + (k + 1)) (by have := HEK.out; omega)
                clear hE9 hS9
                go_roundw
                case rel => exact ⟨k + 1, _, _, E9, G9, by have := HGO.out; omega, by have := HGO.out; omega, by go_num, HP9, HE9, HL7, HA9, HO9⟩
                case measure => have := HGO.out; simp [intOf]; omega
              · have h7b : (dd.k == 7) = false := by simpa using h7
                clear h7
                go_wp2_with (first
                  | go_skip
                  | go_big_skip)
                have HP9 := Lib.hid (HS7.out.mono (Q' := 9231 + 9001 * (k + 1)) (by omega) (Nat.le_refl _))
                have HE9 := Lib.hid (p := E ≤ 2 + (k + 1)) (by have := HEK.out; omega)
                go_roundw
                case rel => exact ⟨k + 1, _, _, E, _, by have := HGO.out; omega, by have := HGO.out; omega, by go_num, HP9, HE9, HL7, HA7, HO7⟩
                case measure => have := HGO.out; simp [intOf]; omega
          · rcases (by omega : ¬ k < ds2.length ∨ k < ds2.length ∧ ¬ k < 30) with h1 | ⟨h1, h2⟩
            all_goals
              first
                | (have h1i : ¬ (k : Int) < (ds2.length : Int) := by omega)
                | (have h1i : (k : Int) < (ds2.length : Int) := by omega
                   have h2i : ¬ (k : Int) < 30 := by omega)
              have HK3 := Lib.hid (p := k ≤ 30) hk2
              have HCV := SV.cell HSV.out
              have HGET := Lib.hid (sv_get HSV.out a HA16.out l (fun X hX => ⟨hX.2 a, by rw [hX.1]; exact HLK.out⟩))
              clear hgo hk hk2
              try clear h1
              try clear h2
              have HEQ := Lib.hid (p := E ≤ 40 ∧ 9231 + 9001 * k ≤ 300000) (by have := HEK.out; have := HK3.out; omega)
              obtain ⟨Q, hQ⟩ : ∃ Q, 9231 + 9001 * k = Q := ⟨_, rfl⟩
              rw [hQ] at HSV HEQ
              clear hQ HK3 HEK
              go_wp2_with (first
                | go_skip
                | go_big_skip
                | (go_at_call 15; refine HGET.out.mono ?_; rintro e10 w10 ⟨g10, rfl, hrow, hgg, hbg⟩
                   have HS10 := Lib.hid (SV.below HSV.out hbg.out)
                   have HA10 := Lib.hid (At0.below HA.out hbg.out)
                   have HO10 := Lib.hid (Own1.below HO.out hbg.out)
                   have HR10 := hrow
                   clear hgg hbg HGET HSV HA HO)
                | (go_at_call 33; refine (bytes_same _ _ (wh l) _ HR10.out HO10.out.1).mono ?_; rintro e11 w11 ⟨rfl, hbg⟩
                   have HS11 := Lib.hid (SV.below HS10.out hbg)
                   have HA11 := Lib.hid (At0.below HA10.out hbg)
                   have HO11 := Lib.hid (Own1.below HO10.out hbg)
                   clear hbg HR10 HS10 HA10 HO10)
                | (go_at_call 31; refine (sv_commit2 HS11.out (by have := HEQ.out; omega) (by have := HEQ.out; omega)).mono ?_
                   rintro e12 w12 ⟨rfl, G12, hs12, HC12, HW12⟩
                   have HA12 := Lib.hid (HA11.out.step HC12.out HW12.out)
                   have HO12 := Lib.hid (HO11.out.step HC12.out HW12.out)
                   obtain ⟨E12, hE12, hS12⟩ := hs12.out
                   have HS12 := Lib.hid hS12
                   have HE12 := Lib.hid hE12
                   clear hs12 hE12 hS12 HC12 HW12 HS11 HA11 HO11)
                | (go_at_call 32; refine (sv_crash HS12.out (by have := HEQ.out; omega) none 0 [] (holV_nil _) (fun g0 o e => by cases e)).mono ?_
                   rintro e13 w13 ⟨rfl, g2, G13, HM13, HC13, HW13⟩
                   have HA13 := Lib.hid (HA12.out.step HC13.out HW13.out)
                   have HO13 := Lib.hid (HO12.out.step HC13.out HW13.out)
                   clear HC13 HW13 HS12 HA12 HO12)
                | (go_at_call 29; refine (mv_mount HM13.out (by have := HEQ.out; have := HE12.out; omega) (by have := HEQ.out; omega)).mono ?_
                   rintro e14 w14 ⟨rfl, G14, HS14, HC14, HW14⟩
                   have HA14 := Lib.hid (HA13.out.step HC14.out HW14.out)
                   have HO14 := Lib.hid (HO13.out.step HC14.out HW14.out)
                   have cv14 := SV.cell HS14.out
                   clear HC14 HW14 HM13 HA13 HO13)
                | (go_at_call 17; refine (sv_fetch HS14.out a HA16.out (by have := HEQ.out; omega)).mono ?_
                   rintro e15 w15 ⟨rfl, G15, HS15, HC15, HW15⟩
                   have HA15 := Lib.hid (HA14.out.step HC15.out HW15.out)
                   have HO15 := Lib.hid (HO14.out.step HC15.out HW15.out)
                   have cv15 := SV.cell HS15.out
                   clear HC15 HW15 HS14 HA14 HO14 cv14)
                | (go_at_call 15
                   refine (sv_get HS15.out a HA16.out l (fun X hX => by
                     obtain ⟨X0, h0, h1, h2⟩ := hX
                     refine ⟨h2, ?_⟩
                     rw [h1, h0.2]
                     exact HLK.out)).mono ?_
                   rintro e16 w16 ⟨g16, rfl, hrow, hgg, hbg⟩
                   have HA16' := Lib.hid (At0.below HA15.out hbg.out)
                   have HO16 := Lib.hid (Own1.below HO15.out hbg.out)
                   have HR16 := hrow
                   clear hgg hbg HS15 HA15 HO15 cv15)
                | (go_at_call 33; refine (bytes_same _ _ (wh l) _ HR16.out HO16.out.1).mono ?_; rintro e17 w17 ⟨rfl, hbg⟩
                   have HA17 := Lib.hid (At0.below HA16'.out hbg)
                   clear hbg HR16))
              go_ret
              exact ⟨rfl, HA17.out.1⟩
end Go.Proofs.YtpocccnhibjjcaaGreatDoor
