/- The walk of VaultLasts. Conditions: the tables lie there; no list of a step is longer than 2^47. -/
import Derived.Test.YtpocccnhibjjcaaGreatDoorVrw
import Derived.Test.YtpocccnhibjjcaaGreatDoorMgApp
set_option linter.unusedVariables false
set_option maxRecDepth 20000
namespace Go.Proofs.YtpocccnhibjjcaaGreatDoor
open Go.RowKit

set_option maxHeartbeats 40000000 in
theorem lastsW (A1 : Option Addr) (c1 : Nat) (ds1 : List V9.DoV) (A2 : Option Addr) (c2 : Nat) (ds2 : List V9.DoV) (m0 : Nat) (hm0 : m0 < 256) (KA : Option Addr) (kc : Nat) (kl : List Bool) (hl1 : ds1.length ≤ 9223372036854775807) (hl2 : ds2.length ≤ 9223372036854775807) (hl3 : kl.length ≤ 9223372036854775807) (hS1 : V9.ShortD ds1) (hS2 : V9.ShortD ds2) (w : World) (hT : Tabs w ∧ S8.Tab w) (hD1 : V9.InDo w A1 ds1.length c1 ds1) (hD2 : V9.InDo w A2 ds2.length c2 ds2) (hK : HolV w KA (kl.map Value.bool)) :
    Calls Tryz.prog 4 #[.slice A1 ds1.length c1, .slice A2 ds2.length c2, .agg #[.int .u8 (m0 : Int), .slice KA kl.length kc]] w fun e w' => e = .returned (.bool true) ∧ Below w.heap.size w w' := by
  have HT := Lib.hid hT
  have HD1 := Lib.hid hD1
  have HD2 := Lib.hid hD2
  have HL1 := Lib.hid hl1
  have HL2 := Lib.hid hl2
  have HS1 := Lib.hid hS1
  have HS2 := Lib.hid hS2
  have HK := Lib.hid hK
  have HKN := Lib.hid (p := ∀ g0 o, KA = some ⟨g0, o, none⟩ → kl.map Value.bool ≠ [] → g0 < w.heap.size) (fun g0 o e hne => by
    rcases hK with h | ⟨g1, o1, e1, hc⟩
    · exact absurd h hne
    · rw [e] at e1
      injection e1 with e1
      injection e1 with e1 e2
      subst e1
      cases hkl : kl.map Value.bool with
      | nil => exact absurd hkl hne
      | cons v t => exact World.block_lt_of_cell? w _ (hc 0 v (by rw [hkl]; rfl)))
  obtain ⟨a, ha⟩ : ∃ a, m0 % 40 = a := ⟨_, rfl⟩
  obtain ⟨b, hb⟩ : ∃ b, m0 % 3 = b := ⟨_, rfl⟩
  have HAB := Lib.hid (p := a < 40 ∧ b < 3) (by omega)
  have ha1 : (m0 : Int) % 40 = (a : Int) := by omega
  have hb1 : (m0 : Int) % 3 = (b : Int) := by omega
  have hz0 : (0 : Int) ≤ (m0 : Int) := by omega
  have ha2 : Int.tmod (m0 : Int) 40 = (a : Int) := by rw [Int.tmod_eq_emod_of_nonneg hz0]; exact ha1
  have hb2 : Int.tmod (m0 : Int) 3 = (b : Int) := by rw [Int.tmod_eq_emod_of_nonneg hz0]; exact hb1
  have ha3 : IntKind.u8.wrap (a : Int) = (a : Int) := by rw [IntKind.wrap_u8]; omega
  have hb3 : IntKind.u8.wrap (b : Int) = (b : Int) := by rw [IntKind.wrap_u8]; omega
  have ha4 : IntKind.i64.wrap (a : Int) = (a : Int) := by rw [IntKind.wrap_i64]; omega
  have hb4 : IntKind.i64.wrap (b : Int) = (b : Int) := by rw [IntKind.wrap_i64]; omega
  clear hT hl1 hl2 hl3 hS1 hS2 hD1 hD2 hK ha hb hm0
  go_enter Tryz.func4, Tryz.ntmps4
  go_wp2_with (first
    | (refine step_box rfl 5 rfl 52 (.tmp 2) rfl [.int .u8 (m0 : Int), .slice KA kl.length kc] rfl ?_; intro gc w0 hr0 hg0 hb0 hs0
       have HB0 := Lib.hid hb0
       have HR0 := Lib.hid hr0
       clear hr0 hg0 hb0 hs0)
    | (go_at_call 7; refine (awake9_any w0 ⟨HT.out.1.below HB0.out, HT.out.2.below HB0.out HT.out.2.lt⟩).mono ?_; rintro e1 w1 ⟨rfl, hb1⟩
       have HB1 := Lib.hid (below_nxt hb1 HB0.out)
       have c50 : w1.cell? ⟨gc, 0, none⟩ = some (.int .u8 (m0 : Int)) := ((HR0.out.kept hb1).cell 0).trans rfl
       have c51 : w1.cell? ⟨gc, 1, none⟩ = some (.slice KA kl.length kc) := ((HR0.out.kept hb1).cell 1).trans rfl
       clear hb1 HR0 HB0))
  clear c50 c51
  refine (V9.fewd_any A1 c1 ds1 HL1.out HS1.out _ (HD1.out.below HB1.out)).mono ?_
  rintro e2 w2 ⟨b', rfl, hb2', hF1⟩
  have HB2 := Lib.hid (below_nxt hb2' HB1.out)
  clear hb2'
  cases b' with
  | false =>
    clear hF1
    go_wp2
    go_ret
    exact ⟨rfl, HB2.out⟩
  | true =>
  have HF1 := Lib.hid (hF1 rfl)
  clear hF1
  go_wp2_with fail
  refine (V9.fewd_any A2 c2 ds2 HL2.out HS2.out _ (HD2.out.below HB2.out)).mono ?_
  rintro e3 w3 ⟨b', rfl, hb3', hF2⟩
  have HB3 := Lib.hid (below_nxt hb3' HB2.out)
  clear hb3'
  cases b' with
  | false =>
    clear hF2
    go_wp2
    go_ret
    exact ⟨rfl, HB3.out⟩
  | true =>
  have HF2 := Lib.hid (hF2 rfl)
  clear hF2
  by_cases hbig : (1000 : Int) < (kl.length : Int)
  · go_wp2
    go_ret
    exact ⟨rfl, HB3.out⟩
  go_wp2_with (first
    | go_skip
    | go_big_skip
    | (refine wpList_bs9 rfl rfl ?_; intro g4 w4 hh4 hb4'
       have HH4 := Lib.hid hh4
       have HB4 := Lib.hid (below_nxt hb4' HB3.out)
       clear hh4 hb4')
    | (go_at_call 28
       refine (mv_start 2 (by decide) (by decide) (some ⟨g4, 0, none⟩) 1 [9] (by decide) w4 HH4.out ⟨HT.out.1.below HB4.out, HT.out.2.below HB4.out HT.out.2.lt⟩).mono ?_
       rintro e5 w5 ⟨gH, g, G5, L, rfl, HM5, HG5, HB5⟩
       have HA5 := Lib.hid (p := At0 w w5 G5) ⟨below_nxt HB5.out HB4.out, fun j hj => Nat.le_trans HB4.out.size (HG5.out j hj)⟩)
    | (go_at_call 29
       refine (mv_mount HM5.out (by decide) (by decide)).mono ?_
       rintro e6 w6 ⟨rfl, G6, HS6, HC6, HW6⟩
       have HA6 := Lib.hid (HA5.out.step HC6.out HW6.out)
       have HP6 := Lib.hid (p := SV w6 gH g G6 2 L (201 + 0) 0 1 (fun _ => []) (PF (elD fun _ => none) (fun _ => []) false)) (HS6.out.imp fun X _ hx => ⟨⟨by rw [hx.2]; rfl, fun i => by unfold isK; simp⟩, fun a => by rw [hx.2]⟩)
       clear HM5 HG5 HB5 HA5 HS6 HC6 HW6)
    | (refine step_make_nos rfl _ _ rfl 16 rfl rfl (by omega) ?_; intro go w7 hr7 hg7 hb7' hs7
       have HR7 := Lib.hid (p := Row w7 go 35 (elR fun _ => none)) (by rw [elR_nil]; exact hr7)
       have HP7 := Lib.hid (HP6.out.beside hb7' (r := go) (by rw [hg7.out]; exact Nat.le_refl _) hr7.lt)
       have HA7 := Lib.hid (HA6.out.below hb7')
       have HGO := Lib.hid (p := w.heap.size ≤ go) (by rw [hg7.out]; exact HA6.out.1.size)
       have HE7 := Lib.hid (p := ElAll w7 G6 fun _ => none) (fun i g f e => by cases e)
       clear hr7 hg7 hb7' hs7 HP6 HA6))
  clear hbig
  go_loopw [11] (fun y wr => ∃ (k : Nat) (e : Nat → Option (Nat × (Nat → UInt8))) (f : Bool) (G : List Nat), k ≤ ds1.length ∧ k ≤ 30 ∧ y = .int .i64 (k : Int) ∧ Hid (SVr wr gH g G 2 L (201 + k) 0 1 (fun _ => []) (PF (elD e) (fun _ => []) f) go) ∧ Hid (At0 w wr G) ∧ Hid (Row wr go 35 (elR e)) ∧ Hid (ElAll wr G e)) (fun y _ => 30 - (intOf y).toNat)
  case atStart => exact ⟨0, _, _, G6, by omega, by omega, rfl, HP7, HA7, HR7, HE7⟩
  case round =>
    clear HP7 HA7 HR7 HE7
    obtain ⟨k, e, f, G, hk, hk2, rfl, HSV, HA, HR, HE⟩ := hrel
    have hkw : IntKind.i64.wrap ((k : Int) + 1) = (k : Int) + 1 := by rw [IntKind.wrap_i64]; omega
    by_cases hgo : k < ds1.length ∧ k < 30
    · have h1i : (k : Int) < (ds1.length : Int) := by omega
      have h2i : (k : Int) < 30 := by omega
      have hk0 : (0 : Int) ≤ (k : Int) := by omega
      obtain ⟨dd, hd⟩ : ∃ dd, ds1[k]? = some dd := ⟨_, List.getElem?_eq_getElem hgo.1⟩
      obtain ⟨⟨gi, oi, rfl, hc⟩, hda⟩ := (HD1.out.below HA.out.1).at_ k dd hd
      have hdl := (HF1.out k dd (by omega) hd).1
      obtain ⟨m, hm16, hand⟩ := and_fif dd.a
      have HDL := Lib.hid hdl
      have HDA := Lib.hid hda
      have HM16 := Lib.hid (p := m < 4 ^ 2) hm16
      have hm0 : (0 : Int) ≤ (m : Int) := by omega
      have hm1 : (m : Int) < 16 := by omega
      have hmm : (m : Int) % 16 = (m : Int) := by omega
      have hmt : Int.tmod (m : Int) 16 = (m : Int) := by rw [Int.tmod_eq_emod_of_nonneg hm0]; exact hmm
      have d1 : wr.cell? ⟨gi, oi + k * 8 + 1, none⟩ = some (.int .i64 dd.a) := hc 1 _ rfl
      have d2 : wr.cell? ⟨gi, oi + k * 8 + 2, none⟩ = some (.slice dd.A dd.l.length dd.c) := hc 2 _ rfl
      have HGOK := Lib.hid hgo
      clear hd hc hdl hda hk hk2 hm16 hgo
      go_wp2_with (go_at_call 30; refine (whole_any dd.A dd.c dd.l (by have := HDL.out; omega) _ HDA.out.b).mono ?_; rintro e6 w6 ⟨gw, rfl, hrw, hgw, hbw⟩
                   have HS6 := Lib.hid (SVr.below HSV.out hbw)
                   have HA6 := Lib.hid (HA.out.below hbw)
                   have HR6 := Lib.hid (HR.out.kept hbw)
                   have HE6 := Lib.hid (HE.out.below hbw)
                   have HO6 := Lib.hid (p := Own1 w6 G 5 gw (brr 256 (wh dd.l))) ⟨hrw, fun hx => by have h1 := HSV.out.sv.lt _ hx; omega⟩
                   obtain ⟨V, hV⟩ : ∃ V, elV (e m) = V := ⟨_, rfl⟩
                   have c6 : w6.cell? ⟨go, m, none⟩ = some V := by rw [HR6.out.cell, elR_get e HM16.out, hV]
                   have f6 := HR6.out.free m
                   clear hrw hgw hbw hV d1 d2)
      have HS7 := Lib.hid (HS6.out.set HR6.out (by decide) (by decide) m (.slice (some ⟨gw, 0, none⟩) 256 256))
      have HR7 := Lib.hid (HR6.out.put m (.slice (some ⟨gw, 0, none⟩) 256 256))
      have HE7 := Lib.hid ((HE6.out.far HR6.out (by decide) m (.slice (some ⟨gw, 0, none⟩) 256 256)).put m (HO6.out.far HR6.out (by decide) m (.slice (some ⟨gw, 0, none⟩) 256 256)))
      have HA7 := Lib.hid (p := At0 w (w6.setCell ⟨go, m, none⟩ (.slice (some ⟨gw, 0, none⟩) 256 256)) G) ⟨HA6.out.1.setCell (show w.heap.size ≤ go from HGO.out) _, HA6.out.2⟩
      have HC7 := Lib.hid (p := (w6.setCell ⟨go, m, none⟩ (.slice (some ⟨gw, 0, none⟩) 256 256)).cell? ⟨go, m, none⟩ = some (.slice (some ⟨gw, 0, none⟩) 256 256)) (by rw [HR7.out.cell, List.getElem?_set, if_pos rfl, if_pos (by rw [elR_len]; have := HM16.out; omega)])
      rw [elR_set e m gw (wh dd.l) HM16.out] at HR7
      obtain ⟨w7, hw7⟩ : ∃ w7, w6.setCell ⟨go, m, none⟩ (.slice (some ⟨gw, 0, none⟩) 256 256) = w7 := ⟨_, rfl⟩
      rw [hw7] at HS7 HR7 HE7 HA7 HC7  ⊢
      have HCV := Lib.hid (SVr.cell HS7.out)
      have HRW7 := Lib.hid (p := Row w7 gw 5 (brr 256 (wh dd.l))) (HE7.out m gw (wh dd.l) (by unfold elUp; rw [if_pos rfl])).1
      clear c6 f6 hw7 HS6 HR6 HE6 HO6 HA6
      refine wp_region_held_drew (S := fun w' => w'.cell? ⟨gH, 4, none⟩ = some (.pointer (some ⟨g, 0, none⟩)) ∧ w'.cell? ⟨go, m, none⟩ = some (.slice (some ⟨gw, 0, none⟩) 256 256)) (by kernel_rfl) ⟨HCV.out, HC7.out⟩ (fun hHeld => ?_)
      refine wpAnyH_take (i := 0) (oi := ⟨some 79, .move (.tmp 9), _, _, _, _⟩) (v := .pointer (some ⟨gH, 0, none⟩)) rfl (by kernel_rfl) (by kernel_rfl) (by kernel_rfl) (fun _ _ _ h => h) (.inl ⟨by rfl, fun w hSw => by go_simp⟩) (by assumption) ?_
      simp only [Act.put, List.setIfInBounds_toArray, List.set_cons_zero, List.set_cons_succ]
      refine wpAnyH_take (i := 1) (oi := ⟨some 80, .nilCheck (.tmp 79), _, _, _, _⟩) (v := .pointer (some ⟨gH, 0, none⟩)) rfl (by kernel_rfl) (by kernel_rfl) (by kernel_rfl) (fun _ _ _ h => h) (.inl ⟨by rfl, fun w hSw => by go_simp⟩) (by assumption) ?_
      simp only [Act.put, List.setIfInBounds_toArray, List.set_cons_zero, List.set_cons_succ]
      refine wpAnyH_take (i := 2) (oi := ⟨some 81, .fieldAddr 64 (.tmp 80) 4, _, _, _, _⟩) (v := .pointer (some ⟨gH, 4, none⟩)) rfl (by kernel_rfl) (by kernel_rfl) (by kernel_rfl) (fun _ _ _ h => h) (.inl ⟨by rfl, fun w hSw => by go_simp⟩) (by assumption) ?_
      simp only [Act.put, List.setIfInBounds_toArray, List.set_cons_zero, List.set_cons_succ]
      refine wpAnyH_take (i := 3) (oi := ⟨some 82, .load 27 (.tmp 81), _, _, _, _⟩) (v := .pointer (some ⟨g, 0, none⟩)) rfl (by kernel_rfl) (by kernel_rfl) (by kernel_rfl) (fun _ _ _ h => h) (.inl ⟨by rfl, fun w hSw => by have z := hSw.1; go_simp⟩) (by assumption) ?_
      simp only [Act.put, List.setIfInBounds_toArray, List.set_cons_zero, List.set_cons_succ]
      refine wpAnyH_take (i := 4) (oi := ⟨some 83, .move (.tmp 12), _, _, _, _⟩) (v := .int .i64 (m : Int)) rfl (by kernel_rfl) (by kernel_rfl) (by kernel_rfl) (fun _ _ _ h => h) (.inl ⟨by rfl, fun w hSw => by go_simp⟩) (by assumption) ?_
      simp only [Act.put, List.setIfInBounds_toArray, List.set_cons_zero, List.set_cons_succ]
      refine wpAnyH_take (i := 5) (oi := ⟨some 84, .move (.tmp 10), _, _, _, _⟩) (v := .slice (some ⟨go, 0, none⟩) 16 16) rfl (by kernel_rfl) (by kernel_rfl) (by kernel_rfl) (fun _ _ _ h => h) (.inl ⟨by rfl, fun w hSw => by go_simp⟩) (by assumption) ?_
      simp only [Act.put, List.setIfInBounds_toArray, List.set_cons_zero, List.set_cons_succ]
      refine wpAnyH_take (i := 6) (oi := ⟨some 85, .move (.tmp 12), _, _, _, _⟩) (v := .int .i64 (m : Int)) rfl (by kernel_rfl) (by kernel_rfl) (by kernel_rfl) (fun _ _ _ h => h) (.inl ⟨by rfl, fun w hSw => by go_simp⟩) (by assumption) ?_
      simp only [Act.put, List.setIfInBounds_toArray, List.set_cons_zero, List.set_cons_succ]
      refine wpAnyH_take (i := 7) (oi := ⟨some 86, .indexAddr 56 (.tmp 84) (.tmp 85), _, _, _, _⟩) (v := .pointer (some ⟨go, m, none⟩)) rfl (by kernel_rfl) (by kernel_rfl) (by kernel_rfl) (fun _ _ _ h => h) (.inl ⟨by rfl, fun w hSw => by go_simp⟩) (by assumption) ?_
      simp only [Act.put, List.setIfInBounds_toArray, List.set_cons_zero, List.set_cons_succ]
      refine wpAnyH_take (i := 8) (oi := ⟨some 87, .load 35 (.tmp 86), _, _, _, _⟩) (v := .slice (some ⟨gw, 0, none⟩) 256 256) rfl (by kernel_rfl) (by kernel_rfl) (by kernel_rfl) (fun _ _ _ h => h) (.inl ⟨by rfl, fun w hSw => by have z := hSw.2; go_simp⟩) (by assumption) ?_
      simp only [Act.put, List.setIfInBounds_toArray, List.set_cons_zero, List.set_cons_succ]
      refine wpAnyH_ready (rs := [9]) (by kernel_rfl) (by simp) ?_
      refine AllReadyH.cons (o := ⟨some 88, .call ⟨.value (.func 18), #[.tmp 82, .tmp 83, .tmp 87], _⟩, _, _, _, _⟩) rfl (fun K hK => ?_) AllReadyH.nil
      go_simp
      obtain ⟨x, hxA, hxc, hxl, hxO⟩ : ∃ x : BV, x.A = some ⟨gw, 0, none⟩ ∧ x.c = 256 ∧ x.l = lst 256 (wh dd.l) ∧ Own8 0 w7.drew x := ⟨⟨some ⟨gw, 0, none⟩, 256, lst 256 (wh dd.l)⟩, rfl, rfl, rfl, own_brr (HRW7.out.kept (below_drawN w7)) (Nat.zero_le _)⟩
      have hput := svr_put (HS7.out.below (below_drawN w7)) m HM16.out x 0 hxO (.inl (by rw [hxl]; exact lst_len _ _)) (by have := HGOK.out; omega)
      rw [hxA, hxc, hxl, lst_len, ← elD_up e m gw (wh dd.l)] at hput
      refine hput.mono ?_
      rintro e8 w8 ⟨rfl, G8, HS8, HC8, HW8⟩
      have HA8 := Lib.hid ((HA7.out.below (below_drawN w7)).step HC8.out HW8.out)
      have HR8 := Lib.hid (HC8.out.row (HR7.out.kept (below_drawN w7)) (HS7.out.nin))
      have HE8 := Lib.hid ((HE7.out.below (below_drawN w7)).step HC8.out HW8.out)
      have hS8 : w8.cell? ⟨gH, 4, none⟩ = some (.pointer (some ⟨g, 0, none⟩)) ∧ w8.cell? ⟨go, m, none⟩ = some (.slice (some ⟨gw, 0, none⟩) 256 256) := ⟨SVr.cell HS8.out, by rw [HR8.out.cell, elR_get _ HM16.out]; unfold elUp; rw [if_pos rfl]; rfl⟩
      clear hput hxA hxc hxl hxO
      refine hK.out _ _ hS8 (fun _hH8 => ?_)
      clear hK K
      refine wpAnyH_take (i := 10) (oi := ⟨some 89, .binOp .neq 24 (.tmp 88) (.const (.int .i64 0)) 24, _, _, _, _⟩) (v := .bool false) rfl (by kernel_rfl) (by kernel_rfl) (by kernel_rfl) (fun _ _ _ h => h) (.inl ⟨by rfl, fun w hSw => by go_simp⟩) (by assumption) ?_
      simp only [Act.put, List.setIfInBounds_toArray, List.set_cons_zero, List.set_cons_succ]
      refine wpAnyH_done (by kernel_rfl) ?_ _
      go_wp2
      go_roundw
      case rel => exact ⟨k + 1, _, true, G8, by have := HGOK.out; omega, by have := HGOK.out; omega, by go_num, Lib.hid (HS8.out.mono (by omega) (Nat.le_refl _)), HA8, HR8, HE8⟩
      case measure => have := HGOK.out; simp [intOf]; omega
    · rcases (by omega : ¬ k < ds1.length ∨ k < ds1.length ∧ ¬ k < 30) with h1 | ⟨h1, h2⟩
      all_goals
        first
          | (have h1i : ¬ (k : Int) < (ds1.length : Int) := by omega)
          | (have h1i : (k : Int) < (ds1.length : Int) := by omega
             have h2i : ¬ (k : Int) < 30 := by omega)
        have HK30 := Lib.hid (p := k ≤ 30) hk2
        clear hgo hk hk2
        try clear h1
        try clear h2
        go_wp2_with (first
          | (go_at_call 31; refine (sv_commit3 HSV.out.sv (by decide) (by have := HK30.out; omega)).mono ?_
             rintro e9 w9 ⟨rfl, G9, HS9, HC9, HW9⟩
             have HA9 := Lib.hid (HA.out.step HC9.out HW9.out)
             have HO9 := Lib.hid (Own1.step ⟨HR.out, HSV.out.nin⟩ HC9.out HW9.out)
             have HE9 := Lib.hid (HE.out.step HC9.out HW9.out))
          | (refine wpList_bs0 rfl rfl ?_; intro v10 w10 hown10 hv10 hb10
             have HOW := Lib.hid hown10
             have HVB := Lib.hid hv10.out
             have HB10 := Lib.hid hb10
             clear hown10 hv10 hb10)
          | (at_builtin; (refine wp_join rfl _ _ rfl rec_sl w9.heap.size v10 0 [] rfl HOW.out (some ⟨go, 0, none⟩) 16 16 (elR e) rfl (by rw [elR_len]) (.inr ⟨_, rfl, fun j u hu => by rw [Addr.add_lit, Nat.zero_add, (HO9.out.below HB10.out).1.cell]; exact hu⟩) (elR_one e) (by omega) HB10.out.size ?_)
             intro v11 w11 hown11 hg11 hat11
             obtain ⟨gn, capn, tl, rfl, hbn, hcn, hrn⟩ := own_tail (e := e) hown11
             have hb11 : Below w9.heap.size w9 w11 := HB10.out.grown hg11 HB10.out.size (fun q hq => by have h0 := HVB.out.symm.trans hq; injection h0 with h0; omega)
             have HB11 := Lib.hid hb11
             have HRN := Lib.hid hrn
             have HCN := Lib.hid hcn
             have HBN := Lib.hid hbn
             clear hown11 hg11 hat11 hbn hcn hrn hb11))
        obtain ⟨E2, hE2, hS9⟩ := HS9.out
        have HP2 := Lib.hid ((hS9.mono (Q' := 9231 + 0) (by have := HK30.out; omega) (Nat.le_refl _)).beside HB11.out HBN.out HRN.out.lt)
        have HE2 := Lib.hid (p := E2 ≤ 2) hE2
        have HA2 := Lib.hid (HA9.out.below HB11.out)
        have HO2 := Lib.hid (HO9.out.below HB11.out)
        have HEO2 := Lib.hid (HE9.out.below HB11.out)
        have HGN := Lib.hid (p := w.heap.size ≤ gn ∧ go ≠ gn) ⟨Nat.le_trans HA9.out.1.size HBN.out, fun e' => by have h1 := HO9.out.1.lt; have h2 := HBN.out; omega⟩
        clear hE2 hS9 HS9 HC9 HW9 HA9 HO9 HE9 HOW HVB HB10 HB11 HBN HSV HA HR HE HK30
        go_loopw [14] (fun y wr => ∃ (k : Nat) (en : Nat → Option (Nat × (Nat → UInt8))) (f : Bool) (G : List Nat), k ≤ ds2.length ∧ k ≤ 30 ∧ y = .int .i64 (k : Int) ∧ Hid (SVr wr gH g G 2 L (9231 + k) 0 E2 (elD e) (PF (elD en) (elD e) f) gn) ∧ Hid (At0 w wr G) ∧ Hid (Row wr gn 35 (elR en ++ tl)) ∧ Hid (ElAll wr G en) ∧ Hid (Own1 wr G 35 go (elR e)) ∧ Hid (ElAll wr G e)) (fun y _ => 30 - (intOf y).toNat)
        case atStart => exact ⟨0, _, _, G9, by omega, by omega, rfl, HP2, HA2, HRN, HEO2, HO2, HEO2⟩
        case round =>
          clear HP2 HA2 HRN HEO2 HO2
          obtain ⟨k, en, f, G, hk, hk2, rfl, HSV, HA, HR, HE, HO, HEO⟩ := hrel
          have hkw : IntKind.i64.wrap ((k : Int) + 1) = (k : Int) + 1 := by rw [IntKind.wrap_i64]; omega
          by_cases hgo : k < ds2.length ∧ k < 30
          · have h1i : (k : Int) < (ds2.length : Int) := by omega
            have h2i : (k : Int) < 30 := by omega
            have hk0 : (0 : Int) ≤ (k : Int) := by omega
            obtain ⟨dd, hd⟩ : ∃ dd, ds2[k]? = some dd := ⟨_, List.getElem?_eq_getElem hgo.1⟩
            obtain ⟨⟨gi, oi, rfl, hc⟩, hda⟩ := (HD2.out.below HA.out.1).at_ k dd hd
            have hdl := (HF2.out k dd (by omega) hd).1
            obtain ⟨m, hm16, hand⟩ := and_fif dd.a
            have HDL := Lib.hid hdl
            have HDA := Lib.hid hda
            have HM16 := Lib.hid (p := m < 4 ^ 2) hm16
            have hm0 : (0 : Int) ≤ (m : Int) := by omega
            have hm1 : (m : Int) < 16 := by omega
            have hmm : (m : Int) % 16 = (m : Int) := by omega
            have hmt : Int.tmod (m : Int) 16 = (m : Int) := by rw [Int.tmod_eq_emod_of_nonneg hm0]; exact hmm
            have d1 : wr.cell? ⟨gi, oi + k * 8 + 1, none⟩ = some (.int .i64 dd.a) := hc 1 _ rfl
            have d2 : wr.cell? ⟨gi, oi + k * 8 + 2, none⟩ = some (.slice dd.A dd.l.length dd.c) := hc 2 _ rfl
            have HGOK := Lib.hid hgo
            clear hd hc hdl hda hk hk2 hm16 hgo
            go_wp2_with (go_at_call 30; refine (whole_any dd.A dd.c dd.l (by have := HDL.out; omega) _ HDA.out.b).mono ?_; rintro e6 w6 ⟨gw, rfl, hrw, hgw, hbw⟩
                         have HS6 := Lib.hid (SVr.below HSV.out hbw)
                         have HA6 := Lib.hid (HA.out.below hbw)
                         have HR6 := Lib.hid (HR.out.kept hbw)
                         have HE6 := Lib.hid (HE.out.below hbw)
                         have HO6 := Lib.hid (p := Own1 w6 G 5 gw (brr 256 (wh dd.l))) ⟨hrw, fun hx => by have h1 := HSV.out.sv.lt _ hx; omega⟩
                         obtain ⟨V, hV⟩ : ∃ V, elV (en m) = V := ⟨_, rfl⟩
                         have c6 : w6.cell? ⟨gn, m, none⟩ = some V := by rw [HR6.out.cell, elT_get en tl HM16.out, hV]
                         have f6 := HR6.out.free m
                         have HOB6 := Lib.hid (HO.out.below hbw)
                         have HEO6 := Lib.hid (HEO.out.below hbw)
                         clear hrw hgw hbw hV d1 d2)
            have HS7 := Lib.hid (HS6.out.set HR6.out (by decide) (by decide) m (.slice (some ⟨gw, 0, none⟩) 256 256))
            have HR7 := Lib.hid (HR6.out.put m (.slice (some ⟨gw, 0, none⟩) 256 256))
            have HE7 := Lib.hid ((HE6.out.far HR6.out (by decide) m (.slice (some ⟨gw, 0, none⟩) 256 256)).put m (HO6.out.far HR6.out (by decide) m (.slice (some ⟨gw, 0, none⟩) 256 256)))
            have HA7 := Lib.hid (p := At0 w (w6.setCell ⟨gn, m, none⟩ (.slice (some ⟨gw, 0, none⟩) 256 256)) G) ⟨HA6.out.1.setCell (show w.heap.size ≤ gn from HGN.out.1) _, HA6.out.2⟩
            have HOB7 := Lib.hid (p := Own1 (w6.setCell ⟨gn, m, none⟩ (.slice (some ⟨gw, 0, none⟩) 256 256)) G 35 go (elR e)) ⟨HOB6.out.1.far (p := ⟨gn, m, none⟩) HGN.out.2 _, HOB6.out.2⟩
            have HEO7 := Lib.hid (HEO6.out.far HR6.out (by decide) m (.slice (some ⟨gw, 0, none⟩) 256 256))
            have HC7 := Lib.hid (p := (w6.setCell ⟨gn, m, none⟩ (.slice (some ⟨gw, 0, none⟩) 256 256)).cell? ⟨gn, m, none⟩ = some (.slice (some ⟨gw, 0, none⟩) 256 256)) (by rw [HR7.out.cell, List.getElem?_set, if_pos rfl, if_pos (by rw [List.length_append, elR_len]; have := HM16.out; omega)])
            rw [elT_set en tl m gw (wh dd.l) HM16.out] at HR7
            obtain ⟨w7, hw7⟩ : ∃ w7, w6.setCell ⟨gn, m, none⟩ (.slice (some ⟨gw, 0, none⟩) 256 256) = w7 := ⟨_, rfl⟩
            rw [hw7] at HS7 HR7 HE7 HA7 HC7 HOB7 HEO7 ⊢
            have HCV := Lib.hid (SVr.cell HS7.out)
            have HRW7 := Lib.hid (p := Row w7 gw 5 (brr 256 (wh dd.l))) (HE7.out m gw (wh dd.l) (by unfold elUp; rw [if_pos rfl])).1
            clear c6 f6 hw7 HS6 HR6 HE6 HO6 HA6
            refine wp_region_held_drew (S := fun w' => w'.cell? ⟨gH, 4, none⟩ = some (.pointer (some ⟨g, 0, none⟩)) ∧ w'.cell? ⟨gn, m, none⟩ = some (.slice (some ⟨gw, 0, none⟩) 256 256)) (by kernel_rfl) ⟨HCV.out, HC7.out⟩ (fun hHeld => ?_)
            refine wpAnyH_take (i := 0) (oi := ⟨some 122, .move (.tmp 9), _, _, _, _⟩) (v := .pointer (some ⟨gH, 0, none⟩)) rfl (by kernel_rfl) (by kernel_rfl) (by kernel_rfl) (fun _ _ _ h => h) (.inl ⟨by rfl, fun w hSw => by go_simp⟩) (by assumption) ?_
            simp only [Act.put, List.setIfInBounds_toArray, List.set_cons_zero, List.set_cons_succ]
            refine wpAnyH_take (i := 1) (oi := ⟨some 123, .nilCheck (.tmp 122), _, _, _, _⟩) (v := .pointer (some ⟨gH, 0, none⟩)) rfl (by kernel_rfl) (by kernel_rfl) (by kernel_rfl) (fun _ _ _ h => h) (.inl ⟨by rfl, fun w hSw => by go_simp⟩) (by assumption) ?_
            simp only [Act.put, List.setIfInBounds_toArray, List.set_cons_zero, List.set_cons_succ]
            refine wpAnyH_take (i := 2) (oi := ⟨some 124, .fieldAddr 64 (.tmp 123) 4, _, _, _, _⟩) (v := .pointer (some ⟨gH, 4, none⟩)) rfl (by kernel_rfl) (by kernel_rfl) (by kernel_rfl) (fun _ _ _ h => h) (.inl ⟨by rfl, fun w hSw => by go_simp⟩) (by assumption) ?_
            simp only [Act.put, List.setIfInBounds_toArray, List.set_cons_zero, List.set_cons_succ]
            refine wpAnyH_take (i := 3) (oi := ⟨some 125, .load 27 (.tmp 124), _, _, _, _⟩) (v := .pointer (some ⟨g, 0, none⟩)) rfl (by kernel_rfl) (by kernel_rfl) (by kernel_rfl) (fun _ _ _ h => h) (.inl ⟨by rfl, fun w hSw => by have z := hSw.1; go_simp⟩) (by assumption) ?_
            simp only [Act.put, List.setIfInBounds_toArray, List.set_cons_zero, List.set_cons_succ]
            refine wpAnyH_take (i := 4) (oi := ⟨some 126, .move (.tmp 15), _, _, _, _⟩) (v := .int .i64 (m : Int)) rfl (by kernel_rfl) (by kernel_rfl) (by kernel_rfl) (fun _ _ _ h => h) (.inl ⟨by rfl, fun w hSw => by go_simp⟩) (by assumption) ?_
            simp only [Act.put, List.setIfInBounds_toArray, List.set_cons_zero, List.set_cons_succ]
            refine wpAnyH_take (i := 5) (oi := ⟨some 127, .move (.tmp 13), _, _, _, _⟩) (v := .slice (some ⟨gn, 0, none⟩) 16 capn) rfl (by kernel_rfl) (by kernel_rfl) (by kernel_rfl) (fun _ _ _ h => h) (.inl ⟨by rfl, fun w hSw => by go_simp⟩) (by assumption) ?_
            simp only [Act.put, List.setIfInBounds_toArray, List.set_cons_zero, List.set_cons_succ]
            refine wpAnyH_take (i := 6) (oi := ⟨some 128, .move (.tmp 15), _, _, _, _⟩) (v := .int .i64 (m : Int)) rfl (by kernel_rfl) (by kernel_rfl) (by kernel_rfl) (fun _ _ _ h => h) (.inl ⟨by rfl, fun w hSw => by go_simp⟩) (by assumption) ?_
            simp only [Act.put, List.setIfInBounds_toArray, List.set_cons_zero, List.set_cons_succ]
            refine wpAnyH_take (i := 7) (oi := ⟨some 129, .indexAddr 56 (.tmp 127) (.tmp 128), _, _, _, _⟩) (v := .pointer (some ⟨gn, m, none⟩)) rfl (by kernel_rfl) (by kernel_rfl) (by kernel_rfl) (fun _ _ _ h => h) (.inl ⟨by rfl, fun w hSw => by go_simp⟩) (by assumption) ?_
            simp only [Act.put, List.setIfInBounds_toArray, List.set_cons_zero, List.set_cons_succ]
            refine wpAnyH_take (i := 8) (oi := ⟨some 130, .load 35 (.tmp 129), _, _, _, _⟩) (v := .slice (some ⟨gw, 0, none⟩) 256 256) rfl (by kernel_rfl) (by kernel_rfl) (by kernel_rfl) (fun _ _ _ h => h) (.inl ⟨by rfl, fun w hSw => by have z := hSw.2; go_simp⟩) (by assumption) ?_
            simp only [Act.put, List.setIfInBounds_toArray, List.set_cons_zero, List.set_cons_succ]
            refine wpAnyH_ready (rs := [9]) (by kernel_rfl) (by simp) ?_
            refine AllReadyH.cons (o := ⟨some 131, .call ⟨.value (.func 18), #[.tmp 125, .tmp 126, .tmp 130], _⟩, _, _, _, _⟩) rfl (fun K hK => ?_) AllReadyH.nil
            go_simp
            obtain ⟨x, hxA, hxc, hxl, hxO⟩ : ∃ x : BV, x.A = some ⟨gw, 0, none⟩ ∧ x.c = 256 ∧ x.l = lst 256 (wh dd.l) ∧ Own8 0 w7.drew x := ⟨⟨some ⟨gw, 0, none⟩, 256, lst 256 (wh dd.l)⟩, rfl, rfl, rfl, own_brr (HRW7.out.kept (below_drawN w7)) (Nat.zero_le _)⟩
            have hput := svr_put (HS7.out.below (below_drawN w7)) m HM16.out x 0 hxO (.inl (by rw [hxl]; exact lst_len _ _)) (by have := HGOK.out; omega)
            rw [hxA, hxc, hxl, lst_len, ← elD_up en m gw (wh dd.l)] at hput
            refine hput.mono ?_
            rintro e8 w8 ⟨rfl, G8, HS8, HC8, HW8⟩
            have HA8 := Lib.hid ((HA7.out.below (below_drawN w7)).step HC8.out HW8.out)
            have HR8 := Lib.hid (HC8.out.row (HR7.out.kept (below_drawN w7)) (HS7.out.nin))
            have HE8 := Lib.hid ((HE7.out.below (below_drawN w7)).step HC8.out HW8.out)
            have HOB8 := Lib.hid ((HOB7.out.below (below_drawN w7)).step HC8.out HW8.out)
            have HEO8 := Lib.hid ((HEO7.out.below (below_drawN w7)).step HC8.out HW8.out)
            have hS8 : w8.cell? ⟨gH, 4, none⟩ = some (.pointer (some ⟨g, 0, none⟩)) ∧ w8.cell? ⟨gn, m, none⟩ = some (.slice (some ⟨gw, 0, none⟩) 256 256) := ⟨SVr.cell HS8.out, by rw [HR8.out.cell, elT_get _ tl HM16.out]; unfold elUp; rw [if_pos rfl]; rfl⟩
            clear hput hxA hxc hxl hxO
            refine hK.out _ _ hS8 (fun _hH8 => ?_)
            clear hK K
            refine wpAnyH_take (i := 10) (oi := ⟨some 132, .binOp .neq 24 (.tmp 131) (.const (.int .i64 0)) 24, _, _, _, _⟩) (v := .bool false) rfl (by kernel_rfl) (by kernel_rfl) (by kernel_rfl) (fun _ _ _ h => h) (.inl ⟨by rfl, fun w hSw => by go_simp⟩) (by assumption) ?_
            simp only [Act.put, List.setIfInBounds_toArray, List.set_cons_zero, List.set_cons_succ]
            refine wpAnyH_done (by kernel_rfl) ?_ _
            go_wp2
            go_roundw
            case rel => exact ⟨k + 1, _, true, G8, by have := HGOK.out; omega, by have := HGOK.out; omega, by go_num, Lib.hid (HS8.out.mono (by omega) (Nat.le_refl _)), HA8, HR8, HE8, HOB8, HEO8⟩
            case measure => have := HGOK.out; simp [intOf]; omega
          · rcases (by omega : ¬ k < ds2.length ∨ k < ds2.length ∧ ¬ k < 30) with h1 | ⟨h1, h2⟩
            all_goals
              first
                | (have h1i : ¬ (k : Int) < (ds2.length : Int) := by omega)
                | (have h1i : (k : Int) < (ds2.length : Int) := by omega
                   have h2i : ¬ (k : Int) < 30 := by omega)
              have HK3 := Lib.hid (p := k ≤ 30) hk2
              have cv := SVr.cell HSV.out
              clear hgo hk hk2
              try clear h1
              try clear h2
              go_wp2_with (go_at_call 21; refine (sv_begin_any HSV.out.sv (by have := HE2.out; omega)).mono ?_
                           rintro e20 w20 ⟨r20, rfl, G20, HPS, HC20, HW20⟩
                           have HA20 := Lib.hid (HA.out.step HC20.out HW20.out)
                           have HON := Lib.hid (Own1.step ⟨HR.out, HSV.out.nin⟩ HC20.out HW20.out)
                           have HEN := Lib.hid (HE.out.step HC20.out HW20.out)
                           have HOO := Lib.hid (HO.out.step HC20.out HW20.out)
                           have HEE := Lib.hid (HEO.out.step HC20.out HW20.out)
                           clear HC20 HW20 HSV HA HR HE HO HEO cv)
              have HQ0 := Lib.hid (p := 9231 + k ≤ 9300 + 90 * 0 ∧ E2 ≤ 2 + 0) (by have := HK3.out; have := HE2.out; omega)
              go_loopw [16, 17] (fun wv y wr => ∃ (j Q E : Nat) (G : List Nat) (dn : Bool), j ≤ a ∧ y = .int .i64 (j : Int) ∧ wv = wantV go gn capn dn ∧ Hid (Q ≤ 9300 + 90 * j ∧ E ≤ 2 + j) ∧ Hid (PS3 wr gH g G 2 L Q E (elD e) (elD en) dn) ∧ Hid (At0 w wr G) ∧ Hid (Own1 wr G 35 go (elR e)) ∧ Hid (ElAll wr G e) ∧ Hid (Own1 wr G 35 gn (elR en ++ tl)) ∧ Hid (ElAll wr G en)) (fun _ y _ => 40 - (intOf y).toNat)
              case atStart => exact ⟨0, _, E2, G20, false, by omega, rfl, rfl, HQ0, HPS, HA20, HOO, HEE, HON, HEN⟩
              case round =>
                clear HQ0 HPS HA20 HOO HEE HON HEN
                obtain ⟨j, Q, E, G, dn, hja, rfl, rfl, HQE, HPS, HA, HOO, HEE, HON, HEN⟩ := hrel
                have hjw : IntKind.i64.wrap ((j : Int) + 1) = (j : Int) + 1 := by rw [IntKind.wrap_i64]; have := HAB.out; omega
                by_cases hj : j < a
                · have hji : (j : Int) < (a : Int) := by omega
                  have HJ := Lib.hid hj
                  have cv := PS3.cell HPS.out
                  clear hj hja
                  go_wp2_with fail
                  refine (ps3_push HPS.out (by have := HQE.out; have := HJ.out; have := HAB.out; omega) (by have := HQE.out; have := HJ.out; have := HAB.out; omega)).mono ?_
                  rintro e21 w21 ⟨r, z, dn', E', rfl, hE', hcase, G21, HP21, HC21, HW21⟩
                  have HA21 := Lib.hid (HA.out.step HC21.out HW21.out)
                  have HON21 := Lib.hid (HON.out.step HC21.out HW21.out)
                  have HEN21 := Lib.hid (HEN.out.step HC21.out HW21.out)
                  have HOO21 := Lib.hid (HOO.out.step HC21.out HW21.out)
                  have HEE21 := Lib.hid (HEE.out.step HC21.out HW21.out)
                  have HQ21 := Lib.hid (p := Q + 90 ≤ 9300 + 90 * (j + 1) ∧ E' ≤ 2 + (j + 1)) (by have := HQE.out; have := hE'.out; omega)
                  have hcs := hcase.out
                  clear cv HC21 HW21 HPS HA HON HEN HOO HEE hcase
                  rcases hcs with ⟨rfl, rfl, rfl, rfl⟩ | ⟨hz, rfl, rfl, _⟩ | ⟨hz, rfl, _⟩
                  · go_wp2
                    go_roundw
                    case rel => exact ⟨j + 1, _, E', G21, true, by have := HJ.out; omega, by go_num, rfl, HQ21, HP21, HA21, HOO21, HEE21, HON21, HEN21⟩
                    case measure => have := HJ.out; have := HAB.out; simp [intOf]; omega
                  · go_wp2_with (first
                      | go_skip
                      | go_big_skip)
                    go_roundw
                    case rel => exact ⟨j + 1, _, E', G21, _, by have := HJ.out; omega, by go_num, rfl, HQ21, HP21, HA21, HOO21, HEE21, HON21, HEN21⟩
                    case measure => have := HJ.out; have := HAB.out; simp [intOf]; omega
                  · go_wp2_with (first
                      | go_skip
                      | go_big_skip)
                    go_roundw
                    case rel => exact ⟨j + 1, _, E', G21, _, by have := HJ.out; omega, by go_num, rfl, HQ21, HP21, HA21, HOO21, HEE21, HON21, HEN21⟩
                    case measure => have := HJ.out; have := HAB.out; simp [intOf]; omega
                · obtain ⟨rw_, cw, ew, tw, hw, HOW, HEW, HCS⟩ := want_row HPS.out HOO.out HON.out HEE.out HEN.out
                  rw [hw]
                  have hji : ¬ (j : Int) < (a : Int) := by omega
                  have HQ3 := Lib.hid (p := Q ≤ 13000 + 4 * 0 ∧ 0 ≤ 20000 * 0 ∧ E ≤ 50 + 0) (by have := HQE.out; have := HAB.out; omega)
                  clear hj hja hw HPS HOO HEE HON HEN HQE
                  have HQM := Lib.hid (p := 1 ≤ 0 → MV wr gH g G 2 L Q 0 E (elD ew)) (fun h => by omega)
                  go_wp2
                  go_loopw [20] (fun y wr => ∃ (j Q M E g : Nat) (G : List Nat), j ≤ 3 ∧ y = .int .i64 (j : Int) ∧ Hid (Q ≤ 13000 + 4 * j ∧ M ≤ 20000 * j ∧ E ≤ 50 + j) ∧ Hid (CS wr gH g G 2 L Q M E (elD ew)) ∧ Hid (1 ≤ j → MV wr gH g G 2 L Q M E (elD ew)) ∧ Hid (At0 w wr G) ∧ Hid (Own1 wr G 35 rw_ (elR ew ++ tw)) ∧ Hid (ElAll wr G ew)) (fun y _ => 4 - (intOf y).toNat)
                  case atStart => exact ⟨0, _, 0, E, g, G, by omega, rfl, HQ3, HCS, HQM, HA, HOW, HEW⟩
                  case round =>
                    clear HQ3 HCS HQM HA HOW HEW
                    obtain ⟨j, Q, M, E, g, G, hj3, rfl, HQE, HCS, HMV, HA, HOW, HEW⟩ := hrel
                    have hjw : IntKind.i64.wrap ((j : Int) + 1) = (j : Int) + 1 := by rw [IntKind.wrap_i64]; omega
                    by_cases hj : j ≤ b
                    · have hji : (j : Int) ≤ (b : Int) := by omega
                      have HJ := Lib.hid (p := j ≤ 2) (by have := HAB.out; omega)
                      clear hj hj3 HMV
                      go_wp2_with (first
                        | (go_at_call 32
                           refine (cs_crash HCS.out (by have := HQE.out; have := HJ.out; omega) KA kc kl (HK.out.below HA.out.1) (fun g0 o e hne hx => by have h1 := HKN.out g0 o e hne; have h2 := HA.out.2 g0 hx; omega)).mono ?_
                           rintro e31 w31 ⟨rfl, g31, E31, hE31, G31, HM31, HC31, HW31⟩
                           have HE31 := Lib.hid hE31
                           have HA31 := Lib.hid (HA.out.step HC31.out HW31.out)
                           have HO31 := Lib.hid (HOW.out.step HC31.out HW31.out)
                           have HEW31 := Lib.hid (HEW.out.step HC31.out HW31.out)
                           have cm31 := MV.cell HM31.out
                           clear hE31 HC31 HW31 HCS HA HOW HEW)
                        | (go_at_call 13
                           refine (mv_step HM31.out (by have := HQE.out; have := HJ.out; have := HE31.out; omega) (by have := HQE.out; have := HJ.out; omega)).mono ?_
                           rintro e32 w32 ⟨r32, rfl, G32, HM32, HC32, HW32⟩
                           have HA32 := Lib.hid (HA31.out.step HC32.out HW32.out)
                           have HO32 := Lib.hid (HO31.out.step HC32.out HW32.out)
                           have HEW32 := Lib.hid (HEW31.out.step HC32.out HW32.out)
                           have cm32 := MV.cell HM32.out
                           clear HC32 HW32 HM31 HA31 HO31 HEW31 cm31)
                        | (go_at_call 13
                           refine (mv_step HM32.out (by have := HQE.out; have := HJ.out; have := HE31.out; omega) (by have := HQE.out; have := HJ.out; omega)).mono ?_
                           rintro e33 w33 ⟨r33, rfl, G33, HM33, HC33, HW33⟩
                           have HA33 := Lib.hid (HA32.out.step HC33.out HW33.out)
                           have HO33 := Lib.hid (HO32.out.step HC33.out HW33.out)
                           have HEW33 := Lib.hid (HEW32.out.step HC33.out HW33.out)
                           clear HC33 HW33 HM32 HA32 HO32 HEW32 cm32))
                      have HQ33 := Lib.hid (p := Q + 2 + 2 ≤ 13000 + 4 * (j + 1) ∧ M + Q ≤ 20000 * (j + 1) ∧ E31 ≤ 50 + (j + 1)) (by have := HQE.out; have := HJ.out; have := HE31.out; omega)
                      go_roundw
                      case rel => exact ⟨j + 1, _, _, E31, g31, G33, by have := HJ.out; omega, by go_num, HQ33, Lib.hid (.inr (.inr HM33.out)), Lib.hid (fun _ => HM33.out), HA33, HO33, HEW33⟩
                      case measure => have := HJ.out; simp [intOf]; omega
                    · have hji : ¬ (j : Int) ≤ (b : Int) := by omega
                      have HM := Lib.hid (HMV.out (by omega))
                      have HQ4 := Lib.hid (p := Q ≤ 13100 ∧ M ≤ 60000 ∧ E ≤ 60) (by have := HQE.out; omega)
                      clear hj hj3 HMV HCS HQE
                      go_wp2_with (go_at_call 29
                                   refine (mv_mount HM.out (by have := HQ4.out; omega) (by have := HQ4.out; omega)).mono ?_
                                   rintro e40 w40 ⟨rfl, G40, HS40, HC40, HW40⟩
                                   have HA40 := Lib.hid (HA.out.step HC40.out HW40.out)
                                   have HO40 := Lib.hid (HOW.out.step HC40.out HW40.out)
                                   have HEW40 := Lib.hid (HEW.out.step HC40.out HW40.out)
                                   have HP40 := Lib.hid (p := SV w40 gH g G40 2 L (Q + 200) M E (elD ew) (fun X => X.C = fun _ => none)) (HS40.out.imp fun _ _ h => h.2)
                                   clear HC40 HW40 HM HA HOW HEW HS40)
                      have HQ5 := Lib.hid (p := Q + 200 ≤ 14000 + 2 * 0) (by have := HQ4.out; omega)
                      go_loopw [21] (fun y wr => ∃ (i Q : Nat) (G : List Nat), i ≤ 16 ∧ y = .int .i64 (i : Int) ∧ Hid (Q ≤ 14000 + 2 * i) ∧ Hid (SV wr gH g G 2 L Q M E (elD ew) (fun X => X.C = fun _ => none)) ∧ Hid (At0 w wr G) ∧ Hid (Own1 wr G 35 rw_ (elR ew ++ tw)) ∧ Hid (ElAll wr G ew)) (fun y _ => 16 - (intOf y).toNat)
                      case atStart => exact ⟨0, _, G40, by omega, rfl, HQ5, HP40, HA40, HO40, HEW40⟩
                      case round =>
                        clear HQ5 HP40 HA40 HO40 HEW40
                        obtain ⟨i, Q, G, hi, rfl, HQI, HSV, HA, HOW, HEW⟩ := hrel
                        have hiw : IntKind.i64.wrap ((i : Int) + 1) = (i : Int) + 1 := by rw [IntKind.wrap_i64]; omega
                        by_cases h16 : i < 16
                        · have hii : (i : Int) < 16 := by omega
                          have hi0 : (0 : Int) ≤ (i : Int) := by omega
                          have HI := Lib.hid (p := i < 4 ^ 2) h16
                          obtain ⟨V, hV⟩ : ∃ V, elV (ew i) = V := ⟨_, rfl⟩
                          have HWH := Lib.hid (p := ∀ w', (∀ g f, ew i = some (g, f) → Row w' g 5 (brr 256 f)) → Calls Tryz.prog 30 #[V] w' (Fresh w' 256 (wh (elD ew i)))) (fun w' h => by rw [← hV]; exact whole_el (ew i) w' h)
                          have HVC := Lib.hid (p := (elR ew ++ tw)[i]? = some V) (by rw [elT_get ew tw h16, hV])
                          have cv := SV.cell HSV.out
                          clear h16 hi hV
                          go_wp2_with (first
                            | go_skip
                            | go_big_skip
                            | (go_at_call 17; refine (sv_fetch HSV.out i HI.out (by have := HQI.out; have := HI.out; omega)).mono ?_
                               rintro e41 w41 ⟨rfl, G41, HS41, HC41, HW41⟩
                               have HA41 := Lib.hid (HA.out.step HC41.out HW41.out)
                               have HO41 := Lib.hid (HOW.out.step HC41.out HW41.out)
                               have HEW41 := Lib.hid (HEW.out.step HC41.out HW41.out)
                               have HP41 := Lib.hid (p := SV w41 gH g G41 2 L (Q + 2) M E (elD ew) (fun X => (X.C = fun _ => none) ∧ isK X (elD ew) i = true)) (HS41.out.imp fun X _ h => by obtain ⟨X0, h0, h1, h2⟩ := h; exact ⟨h1.trans h0, h2⟩)
                               have cv41 := SV.cell HP41.out
                               clear HC41 HW41 HS41 HSV HA HOW HEW cv)
                            | (go_at_call 15
                               refine (sv_get HP41.out i HI.out (elD ew i) (fun X hX => ⟨hX.2, by rw [hX.1]; rfl⟩)).mono ?_
                               rintro e42 w42 ⟨g42, rfl, hrow, hgg, hbg⟩
                               have HP42 := Lib.hid (SV.below HP41.out hbg.out)
                               have HA42 := Lib.hid (At0.below HA41.out hbg.out)
                               have HO42 := Lib.hid (Own1.below HO41.out hbg.out)
                               have HEW42 := Lib.hid (ElAll.below HEW41.out hbg.out)
                               have cw42 : w42.cell? ⟨rw_, i, none⟩ = some V := by rw [HO42.out.1.cell, HVC.out]
                               clear hgg hbg HP41 HA41 HO41 HEW41 cv41)
                            | (go_at_call 30
                               refine (HWH.out _ (fun g f e => (HEW42.out i g f e).1)).mono ?_
                               rintro e43 w43 ⟨g43, rfl, hr43, hg43, hb43⟩
                               have HR43 := Lib.hid hr43
                               have HR42 := Lib.hid (hrow.out.kept hb43)
                               have HP43 := Lib.hid (SV.below HP42.out hb43)
                               have HA43 := Lib.hid (At0.below HA42.out hb43)
                               have HO43 := Lib.hid (Own1.below HO42.out hb43)
                               have HEW43 := Lib.hid (ElAll.below HEW42.out hb43)
                               clear hr43 hg43 hb43 hrow HP42 HA42 HO42 HEW42 cw42)
                            | (go_at_call 33
                               refine (bytes_same _ _ (wh (elD ew i)) _ HR42.out HR43.out).mono ?_
                               rintro e44 w44 ⟨rfl, hb44⟩
                               have HP44 := Lib.hid (SV.below HP43.out hb44)
                               have HA44 := Lib.hid (At0.below HA43.out hb44)
                               have HO44 := Lib.hid (Own1.below HO43.out hb44)
                               have HEW44 := Lib.hid (ElAll.below HEW43.out hb44)
                               clear hb44 HR42 HR43 HP43 HA43 HO43 HEW43))
                          have HQ6 := Lib.hid (p := Q + 2 ≤ 14000 + 2 * (i + 1)) (by have := HQI.out; omega)
                          go_roundw
                          case rel => exact ⟨i + 1, _, G41, by have := HI.out; omega, by go_num, HQ6, Lib.hid (HP44.out.imp fun _ _ h => h.1), HA44, HO44, HEW44⟩
                          case measure => have h := HI.out; have h2 : (4 : Nat) ^ 2 = 16 := rfl; simp [intOf]; omega
                        · obtain rfl : i = 16 := by omega
                          clear h16
                          go_wp2
                          go_ret
                          exact ⟨rfl, HA.out.1⟩
end Go.Proofs.YtpocccnhibjjcaaGreatDoor
