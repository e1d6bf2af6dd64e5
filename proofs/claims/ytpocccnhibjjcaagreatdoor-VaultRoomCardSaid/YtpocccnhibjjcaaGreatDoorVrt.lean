/- The walk of VaultRoom. Conditions: the tables lie there; no list of a step is longer than 2^47. -/
import Derived.Test.YtpocccnhibjjcaaGreatDoorVfl
import Derived.Test.YtpocccnhibjjcaaGreatDoorMgApp
set_option linter.unusedVariables false
set_option maxRecDepth 20000
namespace Go.Proofs.YtpocccnhibjjcaaGreatDoor
open Go.RowKit

set_option maxHeartbeats 40000000 in
theorem roomW (z : Nat) (hz : z < 256) (A1 : Option Addr) (c1 : Nat) (ds1 : List V9.DoV) (A2 : Option Addr) (c2 : Nat) (l2 : List UInt8) (hl1 : ds1.length ≤ 9223372036854775807) (hl2 : l2.length ≤ 9223372036854775807) (hS1 : V9.ShortD ds1) (w : World) (hT : Tabs w ∧ S8.Tab w) (hD1 : V9.InDo w A1 ds1.length c1 ds1) (hA2 : Hol w A2 l2) :
    Calls Tryz.prog 5 #[.int .u8 (z : Int), .slice A1 ds1.length c1, .slice A2 l2.length c2] w fun e w' => e = .returned (.bool true) ∧ Below w.heap.size w w' := by
  have HT := Lib.hid hT
  have HD1 := Lib.hid hD1
  have HL1 := Lib.hid hl1
  have HS1 := Lib.hid hS1
  have HA2 := Lib.hid hA2
  obtain ⟨t, ht⟩ : ∃ t, z % 3 = t := ⟨_, rfl⟩
  obtain ⟨n, hn⟩ : ∃ n, 1 + t = n := ⟨_, rfl⟩
  have HN13 := Lib.hid (p := 1 ≤ n ∧ n ≤ 3) (by omega)
  have hz0 : (0 : Int) ≤ (z : Int) := by omega
  have ht1 : (z : Int) % 3 = (t : Int) := by omega
  have ht2 : Int.tmod (z : Int) 3 = (t : Int) := by rw [Int.tmod_eq_emod_of_nonneg hz0]; exact ht1
  have ht3 : IntKind.u8.wrap (t : Int) = (t : Int) := by rw [IntKind.wrap_u8]; omega
  have ht4 : IntKind.i64.wrap (t : Int) = (t : Int) := by rw [IntKind.wrap_i64]; omega
  have ht5 : IntKind.i64.wrap (1 + (t : Int)) = (n : Int) := by rw [IntKind.wrap_i64]; omega
  have ht6 : 1 + (t : Int) = (n : Int) := by omega
  have HSL := Lib.hid (fun w => P7.rslots_any (n : Int) w)
  have HAL := Lib.hid (fun w => P7.rall_any (n : Int) w)
  obtain ⟨NS, hNS⟩ : ∃ NS, P7.sl (n : Int) = NS := ⟨_, rfl⟩
  obtain ⟨al, hal⟩ : ∃ al, P7.al (P7.lv (n : Int)) = al := ⟨_, rfl⟩
  rw [hNS] at HSL
  rw [hal] at HAL
  have hpl : (plcs n).length = NS + al.length ∧ NS = 4 ^ n ∧ NS ≤ 64 ∧ al.length ≤ 21 := by
    have e := plcs_pw HN13.out.1 HN13.out.2
    rw [← hal, ← hNS, P7.sl_of HN13.out.1 (by omega), P7.lv_of HN13.out.1 (by omega), P7.al_len]
    exact ⟨by omega, rfl, e.2.1, e.2.2⟩
  obtain ⟨NP, hNP⟩ : ∃ NP, (plcs n).length = NP := ⟨_, rfl⟩
  rw [hNP] at hpl
  have HPL := Lib.hid hpl
  have HNP := Lib.hid hNP
  have hNS0 : (0 : Int) < (NS : Int) := by
    have := Nat.pow_pos (n := n) (show 0 < 4 by decide)
    omega
  have hNSz : ((NS : Int) == 0) = false := by simp; omega
  have hNSn : ¬ NS = 0 := by omega
  have hw1 : IntKind.i64.wrap ((NS : Int) + (al.length : Int)) = (NP : Int) := by rw [IntKind.wrap_i64]; omega
  have hw2 : IntKind.i64.wrap ((NP : Int) + 2) = ((NP + 2 : Nat) : Int) := by rw [IntKind.wrap_i64]; omega
  obtain ⟨NT, hNT⟩ : ∃ NT, NP + 2 = NT := ⟨_, rfl⟩
  rw [hNT] at hw2
  have HNT := Lib.hid hNT
  clear hT hl1 hS1 hD1 hA2 hz ht hn hNS hal hpl hNP hNT
  go_enter Tryz.func5, Tryz.ntmps5
  go_wp2_with (go_at_call 7; refine (awake9_any w HT.out).mono ?_; rintro e1 w1 ⟨rfl, hb1⟩; have HB1 := Lib.hid hb1; clear hb1)
  refine (V9.fewd_any A1 c1 ds1 HL1.out HS1.out _ (HD1.out.below HB1.out)).mono ?_
  rintro e2 w2 ⟨b', rfl, hb2', hF1⟩
  have HB2 := Lib.hid (below_nxt hb2' HB1.out)
  clear hb2'
  cases b' with
  | false =>
    clear hF1
    go_wp2
    go_ret
    exact ⟨rfl, HB2.out⟩
  | true =>
  have HF1 := Lib.hid (hF1 rfl)
  clear hF1
  by_cases hbig : (300 : Int) < (l2.length : Int)
  · go_wp2
    go_ret
    exact ⟨rfl, HB2.out⟩
  have HBG := Lib.hid (p := l2.length ≤ 300) (by omega)
  go_wp2_with (first
    | go_skip
    | go_big_skip
    | (go_at_call 28
       refine (mv_start n HN13.out.1 HN13.out.2 A2 c2 l2 HBG.out w2 (HA2.out.below HB2.out) ⟨HT.out.1.below HB2.out, HT.out.2.below HB2.out HT.out.2.lt⟩).mono ?_
       rintro e5 w5 ⟨gH, g, G5, L, rfl, HM5, HG5, HB5⟩
       have HA5 := Lib.hid (p := At0 w w5 G5) ⟨below_nxt HB5.out HB2.out, fun j hj => Nat.le_trans HB2.out.size (HG5.out j hj)⟩)
    | (go_at_call 29
       refine (mv_mount HM5.out (by decide) (by decide)).mono ?_
       rintro e6 w6 ⟨rfl, G6, HS6, HC6, HW6⟩
       have HA6 := Lib.hid (HA5.out.step HC6.out HW6.out)
       have HP6 := Lib.hid (p := SV w6 gH g G6 n L (201 + 9001 * 0) 0 1 (fun _ => []) (fun X => ovC X.C (fun _ => []) = fun _ => [])) (HS6.out.imp fun X _ hx => ov_clear hx.2)
       clear HM5 HG5 HB5 HA5 HS6 HC6 HW6)
    | (go_at_call 11; refine (HSL.out _).mono ?_; rintro e7 w7 ⟨rfl, rfl⟩))
  have HE6 := Lib.hid (p := 1 ≤ 1 + 0) (by omega)
  clear hbig
  go_loopw [10] (fun y wr => ∃ (k E : Nat) (d c : Nat → List UInt8) (G : List Nat), k ≤ ds1.length ∧ k ≤ 30 ∧ y = .int .i64 (k : Int) ∧ Hid (SV wr gH g G n L (201 + 9001 * k) 0 E c (fun X => ovC X.C c = d)) ∧ Hid (E ≤ 1 + k) ∧ Hid (At0 w wr G)) (fun y _ => 30 - (intOf y).toNat)
  case atStart => exact ⟨0, 1, _, _, G6, by omega, by omega, rfl, HP6, HE6, HA6⟩
  case round =>
    clear HP6 HE6 HA6
    obtain ⟨k, E, d, c, G, hk, hk2, rfl, HSV, HEK, HA⟩ := hrel
    have hkw : IntKind.i64.wrap ((k : Int) + 1) = (k : Int) + 1 := by rw [IntKind.wrap_i64]; omega
    by_cases hgo : k < ds1.length ∧ k < 30
    · have h1i : (k : Int) < (ds1.length : Int) := by omega
      have h2i : (k : Int) < 30 := by omega
      have hk0 : (0 : Int) ≤ (k : Int) := by omega
      obtain ⟨dd, hd⟩ : ∃ dd, ds1[k]? = some dd := ⟨_, List.getElem?_eq_getElem hgo.1⟩
      obtain ⟨⟨gi, oi, rfl, hc⟩, hda⟩ := (HD1.out.below HA.out.1).at_ k dd hd
      have hdl := (HF1.out k dd (by omega) hd).1
      obtain ⟨m, hm16, hand⟩ := and_ff dd.a
      obtain ⟨m', hm'⟩ : ∃ m', m % NS = m' := ⟨_, rfl⟩
      have HDL := Lib.hid hdl
      have HDK := Lib.hid hd
      have HDA := Lib.hid hda
      have HM16 := Lib.hid (p := m' < 4 ^ n) (by rw [← HPL.out.2.1, ← hm']; exact Nat.mod_lt _ (by omega))
      have hm0 : (0 : Int) ≤ (m : Int) := by omega
      have hmm : (m : Int) % (NS : Int) = (m' : Int) := by rw [← hm']; exact (Int.natCast_emod m NS).symm
      have hmt : Int.tmod (m : Int) (NS : Int) = (m' : Int) := by rw [Int.tmod_eq_emod_of_nonneg hm0]; exact hmm
      have HCD := Lib.hid (p := wr.cell? ⟨gi, oi + k * 8 + 1, none⟩ = some (.int .i64 dd.a) ∧ wr.cell? ⟨gi, oi + k * 8 + 2, none⟩ = some (.slice dd.A dd.l.length dd.c)) ⟨hc 1 _ rfl, hc 2 _ rfl⟩
      have HGO := Lib.hid hgo
      have HCV := Lib.hid (SV.cell HSV.out)
      clear hd hc hdl hda hk hk2 hm16 hgo hm'
      go_wp2
      refine wp_region_held_drew (S := fun w' => w'.cell? ⟨gH, 4, none⟩ = some (.pointer (some ⟨g, 0, none⟩)) ∧ w'.cell? ⟨gi, oi + k * 8 + 1, none⟩ = some (.int .i64 dd.a) ∧ w'.cell? ⟨gi, oi + k * 8 + 2, none⟩ = some (.slice dd.A dd.l.length dd.c)) (by kernel_rfl) ⟨HCV.out, HCD.out⟩ (fun hHeld => ?_)
      refine wpAnyH_take (i := 0) (oi := ⟨some 52, .move (.tmp 8), _, _, _, _⟩) (v := .pointer (some ⟨gH, 0, none⟩)) rfl (by kernel_rfl) (by kernel_rfl) (by kernel_rfl) (fun _ _ _ h => h) (.inl ⟨by rfl, fun w hSw => by go_simp⟩) (by assumption) ?_
      simp only [Act.put, List.setIfInBounds_toArray, List.set_cons_zero, List.set_cons_succ]
      refine wpAnyH_take (i := 1) (oi := ⟨some 53, .nilCheck (.tmp 52), _, _, _, _⟩) (v := .pointer (some ⟨gH, 0, none⟩)) rfl (by kernel_rfl) (by kernel_rfl) (by kernel_rfl) (fun _ _ _ h => h) (.inl ⟨by rfl, fun w hSw => by go_simp⟩) (by assumption) ?_
      simp only [Act.put, List.setIfInBounds_toArray, List.set_cons_zero, List.set_cons_succ]
      refine wpAnyH_take (i := 2) (oi := ⟨some 54, .fieldAddr 64 (.tmp 53) 4, _, _, _, _⟩) (v := .pointer (some ⟨gH, 4, none⟩)) rfl (by kernel_rfl) (by kernel_rfl) (by kernel_rfl) (fun _ _ _ h => h) (.inl ⟨by rfl, fun w hSw => by go_simp⟩) (by assumption) ?_
      simp only [Act.put, List.setIfInBounds_toArray, List.set_cons_zero, List.set_cons_succ]
      refine wpAnyH_take (i := 3) (oi := ⟨some 55, .load 27 (.tmp 54), _, _, _, _⟩) (v := .pointer (some ⟨g, 0, none⟩)) rfl (by kernel_rfl) (by kernel_rfl) (by kernel_rfl) (fun _ _ _ h => h) (.inl ⟨by rfl, fun w hSw => by have z := hSw.1; go_simp⟩) (by assumption) ?_
      simp only [Act.put, List.setIfInBounds_toArray, List.set_cons_zero, List.set_cons_succ]
      refine wpAnyH_take (i := 4) (oi := ⟨some 56, .move (.tmp 1), _, _, _, _⟩) (v := .slice (some ⟨gi, oi, none⟩) ds1.length c1) rfl (by kernel_rfl) (by kernel_rfl) (by kernel_rfl) (fun _ _ _ h => h) (.inl ⟨by rfl, fun w hSw => by go_simp⟩) (by assumption) ?_
      simp only [Act.put, List.setIfInBounds_toArray, List.set_cons_zero, List.set_cons_succ]
      refine wpAnyH_take (i := 5) (oi := ⟨some 57, .move (.tmp 10), _, _, _, _⟩) (v := .int .i64 (k : Int)) rfl (by kernel_rfl) (by kernel_rfl) (by kernel_rfl) (fun _ _ _ h => h) (.inl ⟨by rfl, fun w hSw => by go_simp⟩) (by assumption) ?_
      simp only [Act.put, List.setIfInBounds_toArray, List.set_cons_zero, List.set_cons_succ]
      refine wpAnyH_take (i := 6) (oi := ⟨some 58, .indexAddr 49 (.tmp 56) (.tmp 57), _, _, _, _⟩) (v := .pointer (some ⟨gi, oi + k * 8, none⟩)) rfl (by kernel_rfl) (by kernel_rfl) (by kernel_rfl) (fun _ _ _ h => h) (.inl ⟨by rfl, fun w hSw => by go_simp⟩) (by assumption) ?_
      simp only [Act.put, List.setIfInBounds_toArray, List.set_cons_zero, List.set_cons_succ]
      refine wpAnyH_take (i := 7) (oi := ⟨some 59, .fieldAddr 60 (.tmp 58) 1, _, _, _, _⟩) (v := .pointer (some ⟨gi, oi + k * 8 + 1, none⟩)) rfl (by kernel_rfl) (by kernel_rfl) (by kernel_rfl) (fun _ _ _ h => h) (.inl ⟨by rfl, fun w hSw => by go_simp⟩) (by assumption) ?_
      simp only [Act.put, List.setIfInBounds_toArray, List.set_cons_zero, List.set_cons_succ]
      refine wpAnyH_take (i := 8) (oi := ⟨some 60, .load 3 (.tmp 59), _, _, _, _⟩) (v := .int .i64 dd.a) rfl (by kernel_rfl) (by kernel_rfl) (by kernel_rfl) (fun _ _ _ h => h) (.inl ⟨by rfl, fun w hSw => by have z := hSw.2.1; go_simp⟩) (by assumption) ?_
      simp only [Act.put, List.setIfInBounds_toArray, List.set_cons_zero, List.set_cons_succ]
      refine wpAnyH_take (i := 9) (oi := ⟨some 61, .binOp .and 3 (.tmp 60) (.const (.int .i64 255)) 3, _, _, _, _⟩) (v := .int .i64 (m : Int)) rfl (by kernel_rfl) (by kernel_rfl) (by kernel_rfl) (fun _ _ _ h => h) (.inl ⟨by rfl, fun w hSw => by go_simp⟩) (by assumption) ?_
      simp only [Act.put, List.setIfInBounds_toArray, List.set_cons_zero, List.set_cons_succ]
      refine wpAnyH_take (i := 10) (oi := ⟨some 62, .move (.tmp 9), _, _, _, _⟩) (v := .int .i64 (NS : Int)) rfl (by kernel_rfl) (by kernel_rfl) (by kernel_rfl) (fun _ _ _ h => h) (.inl ⟨by rfl, fun w hSw => by go_simp⟩) (by assumption) ?_
      simp only [Act.put, List.setIfInBounds_toArray, List.set_cons_zero, List.set_cons_succ]
      refine wpAnyH_take (i := 11) (oi := ⟨some 63, .binOp .rem 3 (.tmp 61) (.tmp 62) 3, _, _, _, _⟩) (v := .int .i64 (m' : Int)) rfl (by kernel_rfl) (by kernel_rfl) (by kernel_rfl) (fun _ _ _ h => h) (.inl ⟨by rfl, fun w hSw => by go_simp⟩) (by assumption) ?_
      simp only [Act.put, List.setIfInBounds_toArray, List.set_cons_zero, List.set_cons_succ]
      refine wpAnyH_take (i := 12) (oi := ⟨some 64, .move (.tmp 1), _, _, _, _⟩) (v := .slice (some ⟨gi, oi, none⟩) ds1.length c1) rfl (by kernel_rfl) (by kernel_rfl) (by kernel_rfl) (fun _ _ _ h => h) (.inl ⟨by rfl, fun w hSw => by go_simp⟩) (by assumption) ?_
      simp only [Act.put, List.setIfInBounds_toArray, List.set_cons_zero, List.set_cons_succ]
      refine wpAnyH_take (i := 13) (oi := ⟨some 65, .move (.tmp 10), _, _, _, _⟩) (v := .int .i64 (k : Int)) rfl (by kernel_rfl) (by kernel_rfl) (by kernel_rfl) (fun _ _ _ h => h) (.inl ⟨by rfl, fun w hSw => by go_simp⟩) (by assumption) ?_
      simp only [Act.put, List.setIfInBounds_toArray, List.set_cons_zero, List.set_cons_succ]
      refine wpAnyH_take (i := 14) (oi := ⟨some 66, .indexAddr 49 (.tmp 64) (.tmp 65), _, _, _, _⟩) (v := .pointer (some ⟨gi, oi + k * 8, none⟩)) rfl (by kernel_rfl) (by kernel_rfl) (by kernel_rfl) (fun _ _ _ h => h) (.inl ⟨by rfl, fun w hSw => by go_simp⟩) (by assumption) ?_
      simp only [Act.put, List.setIfInBounds_toArray, List.set_cons_zero, List.set_cons_succ]
      refine wpAnyH_take (i := 15) (oi := ⟨some 67, .fieldAddr 60 (.tmp 66) 2, _, _, _, _⟩) (v := .pointer (some ⟨gi, oi + k * 8 + 2, none⟩)) rfl (by kernel_rfl) (by kernel_rfl) (by kernel_rfl) (fun _ _ _ h => h) (.inl ⟨by rfl, fun w hSw => by go_simp⟩) (by assumption) ?_
      simp only [Act.put, List.setIfInBounds_toArray, List.set_cons_zero, List.set_cons_succ]
      refine wpAnyH_take (i := 16) (oi := ⟨some 68, .load 35 (.tmp 67), _, _, _, _⟩) (v := .slice dd.A dd.l.length dd.c) rfl (by kernel_rfl) (by kernel_rfl) (by kernel_rfl) (fun _ _ _ h => h) (.inl ⟨by rfl, fun w hSw => by have z := hSw.2.2; go_simp⟩) (by assumption) ?_
      simp only [Act.put, List.setIfInBounds_toArray, List.set_cons_zero, List.set_cons_succ]
      refine wpAnyH_ready (rs := [17]) (by kernel_rfl) (by simp) ?_
      refine AllReadyH.cons (o := ⟨some 69, .call ⟨.value (.func 30), #[.tmp 68], _⟩, _, _, _, _⟩) rfl (fun K hK => ?_) AllReadyH.nil
      go_simp
      refine (whole_any dd.A dd.c dd.l (by have := HDL.out; omega) _ (HDA.out.below (below_drawN wr)).b).mono ?_
      rintro e6 w6 ⟨gw, rfl, hrw, hgw, hbw⟩
      have hbw6 := below_nxt hbw (below_drawN wr)
      have HRW := Lib.hid hrw
      have HS6 := Lib.hid (SV.below HSV.out hbw6)
      have HA6 := Lib.hid (HA.out.below hbw6)
      have hS6 : w6.cell? ⟨gH, 4, none⟩ = some (.pointer (some ⟨g, 0, none⟩)) ∧ w6.cell? ⟨gi, oi + k * 8 + 1, none⟩ = some (.int .i64 dd.a) ∧ w6.cell? ⟨gi, oi + k * 8 + 2, none⟩ = some (.slice dd.A dd.l.length dd.c) := ⟨SV.cell HS6.out, (hbw6.cell (World.block_lt_of_cell? _ _ HCD.out.1)).trans HCD.out.1, (hbw6.cell (World.block_lt_of_cell? _ _ HCD.out.2)).trans HCD.out.2⟩
      clear hrw hgw hbw hbw6
      refine hK.out _ _ hS6 (fun _hH6 => ?_)
      clear hK K
      refine wpAnyH_ready (rs := [18]) (by kernel_rfl) (by simp) ?_
      refine AllReadyH.cons (o := ⟨some 70, .call ⟨.value (.func 18), #[.tmp 55, .tmp 63, .tmp 69], _⟩, _, _, _, _⟩) rfl (fun K hK => ?_) AllReadyH.nil
      go_simp
      obtain ⟨x, hxA, hxc, hxl, hxO⟩ : ∃ x : BV, x.A = some ⟨gw, 0, none⟩ ∧ x.c = 256 ∧ x.l = lst 256 (wh dd.l) ∧ Own8 0 w6 x := ⟨⟨some ⟨gw, 0, none⟩, 256, lst 256 (wh dd.l)⟩, rfl, rfl, rfl, own_brr HRW.out (Nat.zero_le _)⟩
      have hput := sv_put HS6.out m' HM16.out x 0 hxO (.inl (by rw [hxl]; exact lst_len _ _)) (by have := HGO.out; omega)
      rw [hxA, hxc, hxl, lst_len] at hput
      refine hput.mono ?_
      rintro e7 w7 ⟨rfl, G7, HS7, HC7, HW7⟩
      have HA7 := Lib.hid (HA6.out.step HC7.out HW7.out)
      have HP7 := Lib.hid (p := SV w7 gH g G7 n L (201 + 9001 * k + 1) 0 E c (fun X => ovC X.C c = setL d m' (lst 256 (wh dd.l)))) (HS7.out.imp fun X' _ h => by obtain ⟨X, h0, h1, _⟩ := h; rw [h1, h0])
      have hD7 := HD1.out.below HA7.out.1
      obtain ⟨⟨gi7, oi7, e7, hc7⟩, _⟩ := hD7.at_ k dd HDK.out
      simp only [Option.some.injEq, Addr.mk.injEq] at e7
      obtain ⟨rfl, rfl, _⟩ := e7
      have hS7 : w7.cell? ⟨gH, 4, none⟩ = some (.pointer (some ⟨g, 0, none⟩)) ∧ w7.cell? ⟨gi, oi + k * 8 + 1, none⟩ = some (.int .i64 dd.a) ∧ w7.cell? ⟨gi, oi + k * 8 + 2, none⟩ = some (.slice dd.A dd.l.length dd.c) := ⟨SV.cell HP7.out, hc7 1 _ rfl, hc7 2 _ rfl⟩
      have d0 : w7.cell? ⟨gi, oi + k * 8, none⟩ = some (.int .i64 dd.k) := hc7 0 _ rfl
      clear hput hxA hxc hxl hxO hc7 hD7
      refine hK.out _ _ hS7 (fun _hH7 => ?_)
      clear hK K
      refine wpAnyH_done (by kernel_rfl) ?_ _
      by_cases h7 : dd.k = 7
      · have h7b : (dd.k == 7) = true := by simpa using h7
        clear h7
        go_wp2_with (first
          | go_skip
          | go_big_skip
          | (go_at_call 31; refine (sv_commit1 HP7.out (by have := HEK.out; have := HGO.out; omega) (by have := HGO.out; omega)).mono ?_
             rintro e9 w9 ⟨rfl, G9, HS9, HC9, HW9⟩
             have HA9 := Lib.hid (HA7.out.step HC9.out HW9.out)))
        obtain ⟨E9, hE9, hS9⟩ := HS9.out
        have HP9 := Lib.hid ((hS9.mono (Q' := 201 + 9001 * (k + 1)) (by omega) (Nat.le_refl _)).imp fun X _ h => ov_clear (d := setL d m' (lst 256 (wh dd.l))) h)
        have HE9 := Lib.hid (p := E9 ≤ 1 + (k + 1)) (by have := HEK.out; omega)
        clear hE9 hS9
        go_roundw
        case rel => exact ⟨k + 1, E9, _, _, G9, by have := HGO.out; omega, by have := HGO.out; omega, by go_num, HP9, HE9, HA9⟩
        case measure => have := HGO.out; simp [intOf]; omega
      · have h7b : (dd.k == 7) = false := by simpa using h7
        clear h7
        go_wp2_with (first
          | go_skip
          | go_big_skip)
        have HP9 := Lib.hid (HP7.out.mono (Q' := 201 + 9001 * (k + 1)) (by omega) (Nat.le_refl _))
        have HE9 := Lib.hid (p := E ≤ 1 + (k + 1)) (by have := HEK.out; omega)
        go_roundw
        case rel => exact ⟨k + 1, E, _, _, G7, by have := HGO.out; omega, by have := HGO.out; omega, by go_num, HP9, HE9, HA7⟩
        case measure => have := HGO.out; simp [intOf]; omega
    · rcases (by omega : ¬ k < ds1.length ∨ k < ds1.length ∧ ¬ k < 30) with h1 | ⟨h1, h2⟩
      all_goals
        first
          | (have h1i : ¬ (k : Int) < (ds1.length : Int) := by omega)
          | (have h1i : (k : Int) < (ds1.length : Int) := by omega
             have h2i : ¬ (k : Int) < 30 := by omega)
        have HK30 := Lib.hid (p := k ≤ 30) hk2
        clear hgo hk hk2
        try clear h1
        try clear h2
        go_wp2_with (go_at_call 31; refine (sv_commit1 HSV.out (by have := HEK.out; have := HK30.out; omega) (by have := HK30.out; omega)).mono ?_
                     rintro e9 w9 ⟨rfl, G9, HS9, HC9, HW9⟩
                     have HA9 := Lib.hid (HA.out.step HC9.out HW9.out))
        obtain ⟨E9, hE9, hS9⟩ := HS9.out
        have HP9 := Lib.hid (hS9.mono (Q' := 280000 + 8000 * 0) (by have := HK30.out; omega) (Nat.le_refl _))
        have HE9 := Lib.hid (p := E9 ≤ 40 + 0) (by have := HEK.out; have := HK30.out; omega)
        have HF9 := Lib.hid (p := 0 ≠ 0 → ∀ i, i < 4 ^ n → d i ≠ []) (fun h => absurd rfl h)
        clear hE9 hS9 HS9 HC9 HW9 HSV HA HEK HK30
        go_loopw [11] (fun y wr => ∃ (r E : Nat) (c : Nat → List UInt8) (G : List Nat), r ≤ 2 ∧ y = .int .i64 (r : Int) ∧ Hid (SV wr gH g G n L (280000 + 8000 * r) 0 E c (fun X => X.C = fun _ => none)) ∧ Hid (E ≤ 40 + r) ∧ Hid (r ≠ 0 → ∀ i, i < 4 ^ n → c i ≠ []) ∧ Hid (At0 w wr G)) (fun y _ => 2 - (intOf y).toNat)
        case atStart => exact ⟨0, E9, d, G9, by omega, rfl, HP9, HE9, HF9, HA9⟩
        case round =>
          clear HP9 HE9 HF9 HA9
          obtain ⟨r, E, c, G, hr, rfl, HSV, HER, HFU, HA⟩ := hrel
          have hrw : IntKind.i64.wrap ((r : Int) + 1) = (r : Int) + 1 := by rw [IntKind.wrap_i64]; omega
          by_cases hr2 : r < 2
          · have hri : (r : Int) < 2 := by omega
            have HR2 := Lib.hid hr2
            have hrb : IntKind.u8.wrap (r : Int) = (r : Int) := by rw [IntKind.wrap_u8]; omega
            have HP0 := Lib.hid (p := SV wr gH g G n L (280000 + 8000 * r + 0) 0 E c (fun X => ovC X.C c = c ∧ ∀ i, i < 0 → (X.C i).isSome = true)) (HSV.out.imp fun X _ h => ⟨ov_clear h, fun i hi => by omega⟩)
            have HD0 := Lib.hid (p := ∀ i, i < 0 → c i ≠ []) (fun i hi => by omega)
            clear hr hr2 HFU HSV
            go_wp2
            go_loopw [12] (fun y wr => ∃ (s : Nat) (d : Nat → List UInt8) (G : List Nat), s ≤ NS ∧ y = .int .i64 (s : Int) ∧ Hid (SV wr gH g G n L (280000 + 8000 * r + s) 0 E c (fun X => ovC X.C c = d ∧ ∀ i, i < s → (X.C i).isSome = true)) ∧ Hid (∀ i, i < s → d i ≠ []) ∧ Hid (At0 w wr G)) (fun y _ => 64 - (intOf y).toNat)
            case atStart => exact ⟨0, c, G, by omega, rfl, HP0, HD0, HA⟩
            case round =>
              clear HP0 HD0 HA
              obtain ⟨s, d, G, hs, rfl, HSV, HDN, HA⟩ := hrel
              have hsw : IntKind.i64.wrap ((s : Int) + 1) = (s : Int) + 1 := by rw [IntKind.wrap_i64]; have := HPL.out; omega
              by_cases hsN : s < NS
              · have hsi : (s : Int) < (NS : Int) := by omega
                have HSN := Lib.hid (p := s < 4 ^ n) (by rw [← HPL.out.2.1]; exact hsN)
                have HS64 := Lib.hid (p := s < 64 ∧ s < NS) (by have := HPL.out; omega)
                have hsb : IntKind.u8.wrap (s : Int) = (s : Int) := by rw [IntKind.wrap_u8]; have := HPL.out; omega
                have HCV := Lib.hid (SV.cell HSV.out)
                clear hs hsN
                go_wp2
                refine wp_region_held_drew (S := fun w' => w'.cell? ⟨gH, 4, none⟩ = some (.pointer (some ⟨g, 0, none⟩))) (by kernel_rfl) HCV.out (fun hHeld => ?_)
                refine wpAnyH_take (i := 0) (oi := ⟨some 94, .move (.tmp 8), _, _, _, _⟩) (v := .pointer (some ⟨gH, 0, none⟩)) rfl (by kernel_rfl) (by kernel_rfl) (by kernel_rfl) (fun _ _ _ h => h) (.inl ⟨by rfl, fun w hSw => by go_simp⟩) (by assumption) ?_
                simp only [Act.put, List.setIfInBounds_toArray, List.set_cons_zero, List.set_cons_succ]
                refine wpAnyH_take (i := 1) (oi := ⟨some 95, .nilCheck (.tmp 94), _, _, _, _⟩) (v := .pointer (some ⟨gH, 0, none⟩)) rfl (by kernel_rfl) (by kernel_rfl) (by kernel_rfl) (fun _ _ _ h => h) (.inl ⟨by rfl, fun w hSw => by go_simp⟩) (by assumption) ?_
                simp only [Act.put, List.setIfInBounds_toArray, List.set_cons_zero, List.set_cons_succ]
                refine wpAnyH_take (i := 2) (oi := ⟨some 96, .fieldAddr 64 (.tmp 95) 4, _, _, _, _⟩) (v := .pointer (some ⟨gH, 4, none⟩)) rfl (by kernel_rfl) (by kernel_rfl) (by kernel_rfl) (fun _ _ _ h => h) (.inl ⟨by rfl, fun w hSw => by go_simp⟩) (by assumption) ?_
                simp only [Act.put, List.setIfInBounds_toArray, List.set_cons_zero, List.set_cons_succ]
                refine wpAnyH_take (i := 3) (oi := ⟨some 97, .load 27 (.tmp 96), _, _, _, _⟩) (v := .pointer (some ⟨g, 0, none⟩)) rfl (by kernel_rfl) (by kernel_rfl) (by kernel_rfl) (fun _ _ _ h => h) (.inl ⟨by rfl, fun w hSw => by have z := hSw; go_simp⟩) (by assumption) ?_
                simp only [Act.put, List.setIfInBounds_toArray, List.set_cons_zero, List.set_cons_succ]
                refine wpAnyH_take (i := 4) (oi := ⟨some 98, .move (.tmp 12), _, _, _, _⟩) (v := .int .i64 (s : Int)) rfl (by kernel_rfl) (by kernel_rfl) (by kernel_rfl) (fun _ _ _ h => h) (.inl ⟨by rfl, fun w hSw => by go_simp⟩) (by assumption) ?_
                simp only [Act.put, List.setIfInBounds_toArray, List.set_cons_zero, List.set_cons_succ]
                refine wpAnyH_take (i := 5) (oi := ⟨some 99, .move (.tmp 12), _, _, _, _⟩) (v := .int .i64 (s : Int)) rfl (by kernel_rfl) (by kernel_rfl) (by kernel_rfl) (fun _ _ _ h => h) (.inl ⟨by rfl, fun w hSw => by go_simp⟩) (by assumption) ?_
                simp only [Act.put, List.setIfInBounds_toArray, List.set_cons_zero, List.set_cons_succ]
                refine wpAnyH_take (i := 6) (oi := ⟨some 100, .convert 3 5 (.tmp 99), _, _, _, _⟩) (v := .int .u8 (s : Int)) rfl (by kernel_rfl) (by kernel_rfl) (by kernel_rfl) (fun _ _ _ h => h) (.inl ⟨by rfl, fun w hSw => by go_simp⟩) (by assumption) ?_
                simp only [Act.put, List.setIfInBounds_toArray, List.set_cons_zero, List.set_cons_succ]
                refine wpAnyH_take (i := 7) (oi := ⟨some 101, .move (.tmp 11), _, _, _, _⟩) (v := .int .i64 (r : Int)) rfl (by kernel_rfl) (by kernel_rfl) (by kernel_rfl) (fun _ _ _ h => h) (.inl ⟨by rfl, fun w hSw => by go_simp⟩) (by assumption) ?_
                simp only [Act.put, List.setIfInBounds_toArray, List.set_cons_zero, List.set_cons_succ]
                refine wpAnyH_take (i := 8) (oi := ⟨some 102, .convert 3 5 (.tmp 101), _, _, _, _⟩) (v := .int .u8 (r : Int)) rfl (by kernel_rfl) (by kernel_rfl) (by kernel_rfl) (fun _ _ _ h => h) (.inl ⟨by rfl, fun w hSw => by go_simp⟩) (by assumption) ?_
                simp only [Act.put, List.setIfInBounds_toArray, List.set_cons_zero, List.set_cons_succ]
                refine wpAnyH_ready (rs := [9]) (by kernel_rfl) (by simp) ?_
                refine AllReadyH.cons (o := ⟨some 103, .buildSlice 35 2 #[(0, .tmp 100), (1, .tmp 102)], _, _, _, _⟩) rfl (fun K hK => ?_) AllReadyH.nil
                rw [if_pos (by rfl)]
                refine k_bs2 _ _ rfl s r (by have := HS64.out; omega) (by have := HR2.out; omega) (by rfl) (by rfl) ?_
                intro g4 w4 hh4 hb4
                have hb4' := below_nxt hb4 (below_drawN wr)
                have HH4 := Lib.hid hh4
                have HS4 := Lib.hid (SV.below HSV.out hb4')
                have HA4 := Lib.hid (HA.out.below hb4')
                have hS4 : w4.cell? ⟨gH, 4, none⟩ = some (.pointer (some ⟨g, 0, none⟩)) := SV.cell HS4.out
                clear hh4 hb4 hb4'
                refine hK.out _ _ hS4 (fun _hH4 => ?_)
                clear hK K
                refine wpAnyH_ready (rs := [10]) (by kernel_rfl) (by simp) ?_
                refine AllReadyH.cons (o := ⟨some 104, .call ⟨.value (.func 30), #[.tmp 103], _⟩, _, _, _, _⟩) rfl (fun K hK => ?_) AllReadyH.nil
                go_simp
                refine (whole_any (some ⟨g4, 0, none⟩) 2 [UInt8.ofNat s, UInt8.ofNat r] (by show 2 ≤ 9223372036854775807; omega) _ HH4.out).mono ?_
                rintro e6 w6 ⟨gw, rfl, hrw6, hgw, hbw⟩
                have HRW := Lib.hid hrw6
                have HS6 := Lib.hid (SV.below HS4.out hbw)
                have HA6 := Lib.hid (HA4.out.below hbw)
                have hS6 : w6.cell? ⟨gH, 4, none⟩ = some (.pointer (some ⟨g, 0, none⟩)) := SV.cell HS6.out
                obtain ⟨fw, hfw⟩ : ∃ fw, wh [UInt8.ofNat s, UInt8.ofNat r] = fw := ⟨_, rfl⟩
                rw [hfw] at HRW
                clear hrw6 hgw hbw hfw
                refine hK.out _ _ hS6 (fun _hH6 => ?_)
                clear hK K
                refine wpAnyH_ready (rs := [11]) (by kernel_rfl) (by simp) ?_
                refine AllReadyH.cons (o := ⟨some 105, .call ⟨.value (.func 18), #[.tmp 97, .tmp 98, .tmp 104], _⟩, _, _, _, _⟩) rfl (fun K hK => ?_) AllReadyH.nil
                go_simp
                obtain ⟨x, hxA, hxc, hxl, hxO⟩ : ∃ x : BV, x.A = some ⟨gw, 0, none⟩ ∧ x.c = 256 ∧ x.l = lst 256 fw ∧ Own8 0 w6 x := ⟨⟨some ⟨gw, 0, none⟩, 256, lst 256 fw⟩, rfl, rfl, rfl, own_brr HRW.out (Nat.zero_le _)⟩
                have hput := sv_put HS6.out s HSN.out x 0 hxO (.inl (by rw [hxl]; exact lst_len _ _)) (by have := HS64.out; have := HR2.out; omega)
                rw [hxA, hxc, hxl, lst_len] at hput
                refine hput.mono ?_
                rintro e7 w7 ⟨rfl, G7, HS7, HC7, HW7⟩
                have HA7 := Lib.hid (HA6.out.step HC7.out HW7.out)
                have HP7 := Lib.hid (p := SV w7 gH g G7 n L (280000 + 8000 * r + (s + 1)) 0 E c (fun X => ovC X.C c = setL d s (lst 256 fw) ∧ ∀ i, i < s + 1 → (X.C i).isSome = true)) (HS7.out.imp fun X' _ h => by
                  obtain ⟨X, h0, h1, h2, h3, _⟩ := h
                  refine ⟨by rw [h1, h0.1], fun i hi => ?_⟩
                  by_cases e : i = s
                  · rw [e]
                    exact h2
                  · exact h3 i (h0.2 i (by omega)))
                have HD7 := Lib.hid (p := ∀ i, i < s + 1 → setL d s (lst 256 fw) i ≠ []) (fun i hi => by
                  by_cases e : i = s
                  · rw [e, setL_same]
                    intro e2
                    have := congrArg List.length e2
                    rw [lst_len] at this
                    cases this
                  · rw [setL_other _ _ e]
                    exact HDN.out i (by omega))
                have hS7 : w7.cell? ⟨gH, 4, none⟩ = some (.pointer (some ⟨g, 0, none⟩)) := SV.cell HP7.out
                clear hput hxA hxc hxl hxO
                refine hK.out _ _ hS7 (fun _hH7 => ?_)
                clear hK K
                refine wpAnyH_take (i := 12) (oi := ⟨some 106, .binOp .neq 24 (.tmp 105) (.const (.int .i64 0)) 24, _, _, _, _⟩) (v := .bool false) rfl (by kernel_rfl) (by kernel_rfl) (by kernel_rfl) (fun _ _ _ h => h) (.inl ⟨by rfl, fun w hSw => by go_simp⟩) (by assumption) ?_
                simp only [Act.put, List.setIfInBounds_toArray, List.set_cons_zero, List.set_cons_succ]
                refine wpAnyH_done (by kernel_rfl) ?_ _
                go_wp2
                go_roundw
                case rel => exact ⟨s + 1, _, G7, by have := HS64.out; omega, by go_num, HP7, HD7, HA7⟩
                case measure => have := HS64.out; simp [intOf]; omega
              · have hsN' : s = NS := by omega
                have hsi : ¬ (s : Int) < (NS : Int) := by omega
                have HS4 := Lib.hid (p := s = 4 ^ n) (by rw [hsN']; exact HPL.out.2.1)
                have HQ0 := Lib.hid (p := 280000 + 8000 * r + s ≤ 280000 + 8000 * r + 64 + 90 * 1) (by have := HPL.out; omega)
                have cv := SV.cell HSV.out
                clear hs hsN hsN'
                go_wp2_with (go_at_call 21
                             refine (sv_begin_full HSV.out (fun X hX => ⟨hX.1, fun i hi => hX.2 i (by rw [HS4.out]; exact hi)⟩) (by have := HER.out; have := HR2.out; omega)).mono ?_
                             rintro e20 w20 ⟨rfl, G20, HQV, HC20, HW20⟩
                             have HA20 := Lib.hid (HA.out.step HC20.out HW20.out)
                             have HQ20 := Lib.hid (p := QV w20 gH g G20 n L (280000 + 8000 * r + s) 0 E d NT) (by have z := HQV.out; rw [HNP.out, HNT.out] at z; exact z)
                             have HDD := Lib.hid (p := ∀ i, i < 4 ^ n → d i ≠ []) (by rw [← HS4.out]; exact HDN.out)
                             clear HC20 HW20 HSV HA cv HQV)
                have HI0 := Lib.hid (p := 1 + NT = NT + 1 ∧ 1 ≤ 1) ⟨by omega, by omega⟩
                go_loopw [13] (fun y wr => ∃ (i k Q : Nat) (G : List Nat), y = .int .i64 (i : Int) ∧ Hid (i + k = NT + 1 ∧ 1 ≤ i) ∧ Hid (Q ≤ 280000 + 8000 * r + 64 + 90 * i) ∧ Hid (QV wr gH g G n L Q 0 E d k) ∧ Hid (At0 w wr G)) (fun y _ => 100 - (intOf y).toNat)
                case atStart => exact ⟨1, NT, _, G20, rfl, HI0, HQ0, HQ20, HA20⟩
                case round =>
                  clear HI0 HQ0 HQ20 HA20
                  obtain ⟨i, k, Q, G, rfl, HIK, HQI, HQV, HA⟩ := hrel
                  have HKP := Lib.hid (QV.pos HQV.out)
                  have HB := Lib.hid (p := i ≤ NT ∧ k ≤ NT ∧ NT ≤ 87) (by have h1 := HIK.out; have h2 := HKP.out; have h3 := HPL.out; have h4 := HNT.out; omega)
                  have hiw : IntKind.i64.wrap ((i : Int) + 1) = (i : Int) + 1 := by rw [IntKind.wrap_i64]; have := HB.out; omega
                  have hgt : ¬ (NT : Int) < (i : Int) := by have := HB.out; omega
                  have cv := QV.cell HQV.out
                  go_wp2_with fail
                  refine (qv_push HQV.out HDD.out (by have := HB.out; omega) (by have := HER.out; have := HR2.out; omega) (by have := HQI.out; have := HB.out; have := HR2.out; omega)).mono ?_
                  rintro e21 w21 ⟨rb, rfl, G21, hP21, HC21, HW21⟩
                  have HA21 := Lib.hid (HA.out.step HC21.out HW21.out)
                  have hp := hP21.out
                  clear cv HC21 HW21 HQV HA hP21
                  rcases hp with ⟨rfl, hk2, hq⟩ | ⟨rfl, hk1, hq⟩
                  · have HQ21 := Lib.hid hq
                    have HK2 := Lib.hid hk2
                    clear hq hk2
                    go_wp2_with (first
                      | go_skip
                      | go_big_skip
                      | (go_at_call 34; refine (HAL.out _).mono ?_; rintro e22 w22 ⟨A22, c22, rfl, hO22, hb22⟩
                         have HQ22 := Lib.hid (QV.below HQ21.out hb22)
                         have HA22 := Lib.hid (HA21.out.below hb22)
                         clear hO22 hb22))
                    have HI22 := Lib.hid (p := (i + 1) + (k - 1) = NT + 1 ∧ 1 ≤ i + 1) (by have h1 := HIK.out; have h2 := HK2.out; omega)
                    have HQI2 := Lib.hid (p := Q + 90 ≤ 280000 + 8000 * r + 64 + 90 * (i + 1)) (by have := HQI.out; omega)
                    go_roundw
                    case rel => exact ⟨i + 1, k - 1, _, G21, by go_num, HI22, HQI2, HQ22, HA22⟩
                    case measure => have := HB.out; simp [intOf]; omega
                  · have HQ21 := Lib.hid hq
                    have hin : ((i : Int) != (NT : Int)) = false := by have h1 := HIK.out; simp; omega
                    clear hq
                    go_wp2_with (first
                      | go_skip
                      | go_big_skip
                      | (go_at_call 34; refine (HAL.out _).mono ?_; rintro e22 w22 ⟨A22, c22, rfl, hO22, hb22⟩
                         have HQ22 := Lib.hid (SV.below HQ21.out hb22)
                         have HA22 := Lib.hid (HA21.out.below hb22)
                         clear hO22 hb22 HQ21)
                      | (go_at_call 34; refine (HAL.out _).mono ?_; rintro e23 w23 ⟨A23, c23, rfl, hO23, hb23⟩
                         have HQ23 := Lib.hid (SV.below HQ22.out hb23)
                         have HA23 := Lib.hid (HA22.out.below hb23)
                         clear hO23 hb23))
                    have HP23 := Lib.hid (HQ23.out.mono (Q' := 280000 + 8000 * (r + 1)) (by have := HQI.out; have := HB.out; omega) (Nat.le_refl _))
                    have HE23 := Lib.hid (p := E + 1 ≤ 40 + (r + 1)) (by have := HER.out; omega)
                    have HF23 := Lib.hid (p := r + 1 ≠ 0 → ∀ i, i < 4 ^ n → d i ≠ []) (fun _ => HDD.out)
                    go_roundw
                    case rel => exact ⟨r + 1, E + 1, d, G21, by have := HR2.out; omega, by go_num, HP23, HE23, HF23, HA23⟩
                    case measure => have := HR2.out; simp [intOf]; omega
          · obtain rfl : r = 2 := by omega
            have hri : ¬ ((2 : Nat) : Int) < 2 := by omega
            have HSD := Lib.hid (SV.below HSV.out (below_drawN wr))
            have HAD := Lib.hid (At0.below HA.out (below_drawN wr))
            obtain ⟨gd, FR, NB, hFN, hcd, HFR, HBL⟩ := sv_room HSD.out (HFU.out (by omega))
            have hFN' := hFN.out
            rw [HNP.out] at hFN'
            have hb1 : IntKind.i64.wrap ((NB : Int) - (NS : Int)) = ((NB - NS : Nat) : Int) := by rw [IntKind.wrap_i64]; have := HPL.out; omega
            have hb2 : IntKind.i64.wrap (((NB - NS : Nat) : Int) - (al.length : Int)) = (FR : Int) := by rw [IntKind.wrap_i64]; have := HPL.out; omega
            obtain ⟨N1, hN1⟩ : ∃ N1, NB - NS = N1 := ⟨_, rfl⟩
            rw [hN1] at hb1 hb2
            have HCD := Lib.hid hcd
            have HCV := Lib.hid (SV.cell HSD.out)
            clear hr hr2 HFU HSV HA hFN hFN' hN1 hcd
            go_wp2
            refine wp_region_held_drew (S := fun w' => w'.cell? ⟨gH, 4, none⟩ = some (.pointer (some ⟨g, 0, none⟩)) ∧ w'.cell? ⟨gH, 1, none⟩ = some (.pointer (some ⟨gd, 0, none⟩))) (by kernel_rfl) ⟨HCV.out, HCD.out⟩ (fun hHeld => ?_)
            refine wpAnyH_take (i := 0) (oi := ⟨some 144, .move (.tmp 8), _, _, _, _⟩) (v := .pointer (some ⟨gH, 0, none⟩)) rfl (by kernel_rfl) (by kernel_rfl) (by kernel_rfl) (fun _ _ _ h => h) (.inl ⟨by rfl, fun w hSw => by go_simp⟩) (by assumption) ?_
            simp only [Act.put, List.setIfInBounds_toArray, List.set_cons_zero, List.set_cons_succ]
            refine wpAnyH_take (i := 1) (oi := ⟨some 145, .nilCheck (.tmp 144), _, _, _, _⟩) (v := .pointer (some ⟨gH, 0, none⟩)) rfl (by kernel_rfl) (by kernel_rfl) (by kernel_rfl) (fun _ _ _ h => h) (.inl ⟨by rfl, fun w hSw => by go_simp⟩) (by assumption) ?_
            simp only [Act.put, List.setIfInBounds_toArray, List.set_cons_zero, List.set_cons_succ]
            refine wpAnyH_take (i := 2) (oi := ⟨some 146, .fieldAddr 64 (.tmp 145) 4, _, _, _, _⟩) (v := .pointer (some ⟨gH, 4, none⟩)) rfl (by kernel_rfl) (by kernel_rfl) (by kernel_rfl) (fun _ _ _ h => h) (.inl ⟨by rfl, fun w hSw => by go_simp⟩) (by assumption) ?_
            simp only [Act.put, List.setIfInBounds_toArray, List.set_cons_zero, List.set_cons_succ]
            refine wpAnyH_take (i := 3) (oi := ⟨some 147, .load 27 (.tmp 146), _, _, _, _⟩) (v := .pointer (some ⟨g, 0, none⟩)) rfl (by kernel_rfl) (by kernel_rfl) (by kernel_rfl) (fun _ _ _ h => h) (.inl ⟨by rfl, fun w hSw => by have z := hSw.1; go_simp⟩) (by assumption) ?_
            simp only [Act.put, List.setIfInBounds_toArray, List.set_cons_zero, List.set_cons_succ]
            refine wpAnyH_take (i := 5) (oi := ⟨some 149, .move (.tmp 8), _, _, _, _⟩) (v := .pointer (some ⟨gH, 0, none⟩)) rfl (by kernel_rfl) (by kernel_rfl) (by kernel_rfl) (fun _ _ _ h => h) (.inl ⟨by rfl, fun w hSw => by go_simp⟩) (by assumption) ?_
            simp only [Act.put, List.setIfInBounds_toArray, List.set_cons_zero, List.set_cons_succ]
            refine wpAnyH_take (i := 6) (oi := ⟨some 150, .nilCheck (.tmp 149), _, _, _, _⟩) (v := .pointer (some ⟨gH, 0, none⟩)) rfl (by kernel_rfl) (by kernel_rfl) (by kernel_rfl) (fun _ _ _ h => h) (.inl ⟨by rfl, fun w hSw => by go_simp⟩) (by assumption) ?_
            simp only [Act.put, List.setIfInBounds_toArray, List.set_cons_zero, List.set_cons_succ]
            refine wpAnyH_take (i := 7) (oi := ⟨some 151, .fieldAddr 64 (.tmp 150) 1, _, _, _, _⟩) (v := .pointer (some ⟨gH, 1, none⟩)) rfl (by kernel_rfl) (by kernel_rfl) (by kernel_rfl) (fun _ _ _ h => h) (.inl ⟨by rfl, fun w hSw => by go_simp⟩) (by assumption) ?_
            simp only [Act.put, List.setIfInBounds_toArray, List.set_cons_zero, List.set_cons_succ]
            refine wpAnyH_take (i := 8) (oi := ⟨some 152, .load 23 (.tmp 151), _, _, _, _⟩) (v := .pointer (some ⟨gd, 0, none⟩)) rfl (by kernel_rfl) (by kernel_rfl) (by kernel_rfl) (fun _ _ _ h => h) (.inl ⟨by rfl, fun w hSw => by have z := hSw.2; go_simp⟩) (by assumption) ?_
            simp only [Act.put, List.setIfInBounds_toArray, List.set_cons_zero, List.set_cons_succ]
            refine wpAnyH_take (i := 10) (oi := ⟨some 154, .move (.tmp 9), _, _, _, _⟩) (v := .int .i64 (NS : Int)) rfl (by kernel_rfl) (by kernel_rfl) (by kernel_rfl) (fun _ _ _ h => h) (.inl ⟨by rfl, fun w hSw => by go_simp⟩) (by assumption) ?_
            simp only [Act.put, List.setIfInBounds_toArray, List.set_cons_zero, List.set_cons_succ]
            refine wpAnyH_take (i := 12) (oi := ⟨some 156, .move (.tmp 7), _, _, _, _⟩) (v := .int .i64 (n : Int)) rfl (by kernel_rfl) (by kernel_rfl) (by kernel_rfl) (fun _ _ _ h => h) (.inl ⟨by rfl, fun w hSw => by go_simp⟩) (by assumption) ?_
            simp only [Act.put, List.setIfInBounds_toArray, List.set_cons_zero, List.set_cons_succ]
            refine wpAnyH_ready (rs := [4]) (by kernel_rfl) (by simp) ?_
            refine AllReadyH.cons (o := ⟨some 148, .call ⟨.value (.func 25), #[.tmp 147], _⟩, _, _, _, _⟩) rfl (fun K hK => ?_) AllReadyH.nil
            go_simp
            refine HFR.out.mono ?_
            rintro e30 w30 ⟨rfl, rfl⟩
            refine hK.out _ _ ⟨HCV.out, HCD.out⟩ (fun _hH30 => ?_)
            clear hK K
            refine wpAnyH_ready (rs := [9]) (by kernel_rfl) (by simp) ?_
            refine AllReadyH.cons (o := ⟨some 153, .call ⟨.value (.func 35), #[.tmp 152], _⟩, _, _, _, _⟩) rfl (fun K hK => ?_) AllReadyH.nil
            go_simp
            refine HBL.out.mono ?_
            rintro e31 w31 ⟨rfl, hw31⟩
            subst hw31
            refine hK.out _ _ ⟨HCV.out, HCD.out⟩ (fun _hH31 => ?_)
            clear hK K
            refine wpAnyH_take (i := 11) (oi := ⟨some 155, .binOp .sub 3 (.tmp 153) (.tmp 154) 3, _, _, _, _⟩) (v := .int .i64 (N1 : Int)) rfl (by kernel_rfl) (by kernel_rfl) (by kernel_rfl) (fun _ _ _ h => h) (.inl ⟨by rfl, fun w hSw => by go_simp⟩) (by assumption) ?_
            simp only [Act.put, List.setIfInBounds_toArray, List.set_cons_zero, List.set_cons_succ]
            refine wpAnyH_ready (rs := [13]) (by kernel_rfl) (by simp) ?_
            refine AllReadyH.cons (o := ⟨some 157, .call ⟨.value (.func 34), #[.tmp 156], _⟩, _, _, _, _⟩) rfl (fun K hK => ?_) AllReadyH.nil
            go_simp
            refine (HAL.out _).mono ?_
            rintro e32 w32 ⟨A32, c32, rfl, hO32, hb32⟩
            have HA32 := Lib.hid (HAD.out.below hb32)
            have hS32 : w32.cell? ⟨gH, 4, none⟩ = some (.pointer (some ⟨g, 0, none⟩)) ∧ w32.cell? ⟨gH, 1, none⟩ = some (.pointer (some ⟨gd, 0, none⟩)) := ⟨(hb32.cell (World.block_lt_of_cell? _ _ HCV.out)).trans HCV.out, (hb32.cell (World.block_lt_of_cell? _ _ HCD.out)).trans HCD.out⟩
            clear hO32 hb32
            refine hK.out _ _ hS32 (fun _hH32 => ?_)
            clear hK K
            refine wpAnyH_take (i := 14) (oi := ⟨some 158, .call ⟨.builtin .len, #[.tmp 157], #[68]⟩, _, _, _, _⟩) (v := .int .i64 (al.length : Int)) rfl (by kernel_rfl) (by kernel_rfl) (by kernel_rfl) (fun _ _ _ h => h) (.inl ⟨by rfl, fun w hSw => by go_simp⟩) (by assumption) ?_
            simp only [Act.put, List.setIfInBounds_toArray, List.set_cons_zero, List.set_cons_succ]
            refine wpAnyH_take (i := 15) (oi := ⟨some 159, .binOp .sub 3 (.tmp 155) (.tmp 158) 3, _, _, _, _⟩) (v := .int .i64 (FR : Int)) rfl (by kernel_rfl) (by kernel_rfl) (by kernel_rfl) (fun _ _ _ h => h) (.inl ⟨by rfl, fun w hSw => by go_simp⟩) (by assumption) ?_
            simp only [Act.put, List.setIfInBounds_toArray, List.set_cons_zero, List.set_cons_succ]
            refine wpAnyH_take (i := 16) (oi := ⟨some 160, .binOp .eql 3 (.tmp 148) (.tmp 159) 3, _, _, _, _⟩) (v := .bool true) rfl (by kernel_rfl) (by kernel_rfl) (by kernel_rfl) (fun _ _ _ h => h) (.inl ⟨by rfl, fun w hSw => by go_simp⟩) (by assumption) ?_
            simp only [Act.put, List.setIfInBounds_toArray, List.set_cons_zero, List.set_cons_succ]
            refine wpAnyH_take (i := 17) (oi := ⟨some 6, .assign (.tmp 160), _, _, _, _⟩) (v := .bool true) rfl (by kernel_rfl) (by kernel_rfl) (by kernel_rfl) (fun _ _ _ h => h) (.inl ⟨by rfl, fun w hSw => by go_simp⟩) (by assumption) ?_
            simp only [Act.put, List.setIfInBounds_toArray, List.set_cons_zero, List.set_cons_succ]
            refine wpAnyH_done (by kernel_rfl) ?_ _
            go_wp2
            go_ret
            exact ⟨rfl, HA32.out.1⟩
end Go.Proofs.YtpocccnhibjjcaaGreatDoor
