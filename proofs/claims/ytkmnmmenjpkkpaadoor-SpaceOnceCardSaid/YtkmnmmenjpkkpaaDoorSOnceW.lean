/- What is taken isn't told again till it is free again: the walk. Condition: the library's table lies there. -/
import Derived.Test.YtkmnmmenjpkkpaaDoorSo
import Derived.Deep.CutRange
import Derived.Deep.RegionHeld3
set_option linter.unusedVariables false
namespace Go.Proofs.YtkmnmmenjpkkpaaDoor.spaceOnce
open Go.RowKit

set_option maxRecDepth 20000 in
set_option maxHeartbeats 2000000 in
theorem walk (W : World) (z : Int) (hw : (Lit.int .u8 z).wf = true) (A : Option Addr) (len cap : Nat) (ds : List (Int × Int)) (hds : InP W A len cap ds) (hT : Tab W) :
    Calls Tryd.prog 4 #[.int .u8 z, .slice A len cap] W fun e w' => e = .returned (.bool true) ∧ Below W.heap.size W w' := by
  obtain ⟨b, rfl, hb⟩ := u8_num hw
  obtain ⟨N, hN⟩ : ∃ N, 1 + b = N := ⟨_, rfl⟩
  have hc : IntKind.i64.wrap (b : Int) = (b : Int) := by rw [IntKind.wrap_i64]; omega
  have hc2 : wrap64 (b : Int) = (b : Int) := by unfold wrap64; omega
  have hN1 : IntKind.i64.wrap (1 + (b : Int)) = (N : Int) := by rw [IntKind.wrap_i64]; omega
  have hN2 : wrap64 (1 + (b : Int)) = (N : Int) := by unfold wrap64; omega
  have H := Lib.hid (p := 1 ≤ N ∧ N ≤ 256) (by omega)
  have HT := Lib.hid hT
  have HDS := Lib.hid hds
  have hlen9 : (len : Int) ≤ 9223372036854775807 := by have h1 := hds.cap_; have h2 := hds.max_; unfold maxLen at h2; omega
  have HBI := Lib.hid (p := (Tryd.prog.info? 4).map (fun i => (i.zero, i.size, i.bytes)) = some (some (.bool false), 1, 1)) (by kernel_rfl)
  clear hT hw hb hN hds
  go_enter Tryd.func4, Tryd.ntmps4
  go_wp2_with (first
    | (go_at_call 8; refine (awake_any _ HT.out).mono ?_; rintro e w1 ⟨rfl, hb1⟩; have HB1 := Lib.hid hb1; clear hb1)
    | (go_at_call 9; refine (own_new H.out.1 (by have := H.out.2; omega) _ (HT.out.below HB1.out HT.out.lt)).mono ?_; rintro e w2 ⟨g, rfl, h2⟩; have H2 := Lib.hid (h2.base HB1.out); clear h2)
    | (refine step_mk rfl _ _ 39 4 (.bool false) 1 Tryd.underlying39 HBI.out (by decide) rfl rfl N rfl rfl (by have := H.out.2; omega) ?_; intro gh w3 hr3 hg3 hb3 hs3
       have H3 := Lib.hid (H2.out.kept hb3); have HH3 := Lib.hid hr3; have HG3 := Lib.hid hg3.out; have HW3 := Lib.hid (show g < w2.heap.size from H2.out.sp.lt); clear hr3 hb3 hs3 hg3)
    | (refine step_mk rfl _ _ 39 4 (.bool false) 1 Tryd.underlying39 HBI.out (by decide) rfl rfl N rfl rfl (by have := H.out.2; omega) ?_; intro gb w4 hr4 hg4 hb4 hs4
       have H4 := Lib.hid (H3.out.kept hb4); have HH4 := Lib.hid (HH3.out.kept hb4); have HB4 := Lib.hid hr4; have HG4 := Lib.hid hg4.out; have HW4 := Lib.hid (show gh < w3.heap.size from HH3.out.lt); clear hr4 hb4 hs4 hg4))
  have HNE := Lib.hid (p := g ≠ gh ∧ g ≠ gb ∧ gh ≠ gb ∧ W.heap.size ≤ gh ∧ W.heap.size ≤ gb) (by
    have h1 := HG3.out; have h2 := HW3.out; have h3 := HG4.out; have h4 := HW4.out; have h5 := H2.out.below.size; have h6 := H3.out.below.size
    exact ⟨by omega, by omega, by omega, by omega, by omega⟩)
  have HI4 : Hid (Own W w4 g N s0) := H4
  have HH5 : Hid (Row w4 gh 4 (fv N (hB s0))) := Lib.hid (by rw [fv_congr (g := fun _ => Value.bool false) (fun j _ => hB_free rfl)]; exact HH4.out)
  have HB5 : Hid (Row w4 gb 4 (fv N (bB s0))) := Lib.hid (by rw [fv_congr (g := fun _ => Value.bool false) (fun j _ => bB_not (by unfold s0; omega))]; exact HB4.out)
  clear H2 H3 H4 HH3 HH4 HB4 HG3 HG4 HW3 HW4 HB1
  go_loopw [10] (fun i wr => ∃ (k : Nat) (S : Nat → Nat), k ≤ 300 ∧ i = .int .i64 (k : Int) ∧ Hid (Own W wr g N S) ∧ Hid (Row wr gh 4 (fv N (hB S))) ∧ Hid (Row wr gb 4 (fv N (bB S)))) (fun i _ => 300 - (intOf i).toNat)
  case atStart => exact ⟨0, s0, by omega, rfl, HI4, HH5, HB5⟩
  case round =>
    clear HI4 HH5 HB5
    obtain ⟨k, S, hk, rfl, HS, HHr, HBr⟩ := hrel
    by_cases hlt : k < len ∧ k < 300
    · obtain ⟨⟨kd, ka⟩, hd⟩ : ∃ d, ds[k]? = some d := ⟨_, List.getElem?_eq_getElem (by rw [← HDS.out.len_]; exact hlt.1)⟩
      obtain ⟨gs, os, rfl, c0, c1⟩ := HDS.out.at_ k _ hd
      have hgs := World.block_lt_of_cell? W _ c0
      have c0r : wr.cell? ⟨gs, os + k * 2, none⟩ = some (.int .i64 kd) := (HS.out.below.cell (p := ⟨gs, os + k * 2, none⟩) hgs).trans c0
      have c1r : wr.cell? ⟨gs, os + k * 2 + 1, none⟩ = some (.int .i64 ka) := (HS.out.below.cell (p := ⟨gs, os + k * 2 + 1, none⟩) hgs).trans c1
      have hk1 : (k : Int) < (len : Int) := by omega
      have hk2 : (k : Int) < 300 := by omega
      have hk0 := inn k
      have d1 : decide (k < len) = true := decide_eq_true hlt.1
      have d2 : decide (k < 300) = true := decide_eq_true hlt.2
      have HKK := Lib.hid (p := k < 300 ∧ k + 1 ≤ 300) ⟨hlt.2, hlt.2⟩
      obtain ⟨u, a, p1, p2, p3, p4, p5, p6, p7, p8⟩ := place_any ka N H.out.1 H.out.2
      have HA := Lib.hid p8
      have ha0 := inn a
      have ha1 := ilt p8
      have ha2 : (a : Int) < 256 := by clear p1 p2 p3 p4 p5 p6 p7; have := H.out.2; omega
      clear p5 p6 p7
      clear c0 c1 hlt hd hk hgs p8
      go_upto_region 14 with fail
      clear p1 p2 p3 p4
      have hba : Below wr.heap.size wr (wr.alloc (.cells #[.int .i64 kd, .int .i64 ka] 31)) := below_al wr _
      have HSa := Lib.hid (HS.out.kept hba)
      have HHa := Lib.hid (HHr.out.kept hba)
      have HBa := Lib.hid (HBr.out.kept hba)
      have c0a : (wr.alloc (.cells #[.int .i64 kd, .int .i64 ka] 31)).cell? ⟨wr.heap.size, 0, none⟩ = some (.int .i64 kd) := by simp
      have c1a : (wr.alloc (.cells #[.int .i64 kd, .int .i64 ka] 31)).cell? ⟨wr.heap.size, 1, none⟩ = some (.int .i64 ka) := by simp
      obtain ⟨wa, hwa⟩ : ∃ wa, wr.alloc (.cells #[.int .i64 kd, .int .i64 ka] 31) = wa := ⟨_, rfl⟩
      rw [hwa] at HSa HHa HBa c0a c1a ⊢
      clear hwa hba HS HHr HBr c0r c1r
      by_cases k2 : kd = 2
      · skip
        have cH := HHa.out.cell a
        rw [fv_get _ HA.out] at cH
        have cB := HBa.out.cell a
        rw [fv_get _ HA.out] at cB
        have HSd := Lib.hid (HSa.out.kept (below_drwS wa))
        have HHd := Lib.hid (HHa.out.kept (below_drwS wa))
        have HBd := Lib.hid (HBa.out.kept (below_drwS wa))
        subst k2
        by_cases h1 : S a = 1
        · have n0 : S a ≠ 0 := by rw [h1]; decide
          have n2 : S a ≠ 2 := by rw [h1]; decide
          rw [hB_held n0] at cH
          rw [bB_not n2] at cB
          go_wp2_with fail
          go_region_held3 (fun w' => w'.cell? ⟨gh, a, none⟩ = some (.bool true) ∧ w'.cell? ⟨gb, a, none⟩ = some (.bool false))
            (first | (exact ⟨cH5, cB5⟩) | go_keep)
            (first
              | (go_at_call 15
                 refine (own_give_one HSd.out HA.out h1).mono ?_
                 rintro e w5 ⟨rfl, h5, g5⟩
                 have H5 := Lib.hid h5
                 have HH5 := Lib.hid (HHd.out.grown g5 (fun e => HNE.out.1 (by injection e with e; exact e.symm)))
                 have HB5 := Lib.hid (HBd.out.grown g5 (fun e => HNE.out.2.1 (by injection e with e; exact e.symm)))
                 have cH5 : w5.cell? ⟨gh, a, none⟩ = some (.bool true) := (HH5.out.cell a).trans ((HHa.out.cell a).symm.trans cH)
                 have cB5 : w5.cell? ⟨gb, a, none⟩ = some (.bool false) := (HB5.out.cell a).trans ((HBa.out.cell a).symm.trans cB)
                 clear h5 g5))
          have fB5 := HB5.out.free a
          go_wp2
          obtain ⟨w9, hw9⟩ : ∃ w9, w5.setCell ⟨gb, a, none⟩ (.bool true) = w9 := ⟨_, rfl⟩
          have H9 : Hid (Own W w9 g N (putN S a 2)) := Lib.hid (by rw [← hw9]; exact H5.out.far (grown_set w5 ⟨gb, a, none⟩ _) (fun e => HNE.out.2.1 (by injection e)) HT.out.lt (fun r hr => by injection hr with hr; rw [← hr]; exact HNE.out.2.2.2.2))
          have HH9 : Hid (Row w9 gh 4 (fv N (hB (putN S a 2)))) := Lib.hid (by rw [← hw9, hB_keep n0 (by decide)]; exact HH5.out.far HNE.out.2.2.1 _)
          have HB9 : Hid (Row w9 gb 4 (fv N (bB (putN S a 2)))) := Lib.hid (by rw [← hw9, ← bB_give]; exact HB5.out.put a _)
          rw [hw9]
          clear hw9 H5 HH5 HB5 cH5 cB5 fB5
          obtain ⟨S2, hS2⟩ : ∃ S2, putN S a 2 = S2 := ⟨_, rfl⟩
          rw [hS2] at H9 HH9 HB9
          clear hS2
          go_loopw [16, 17] (fun m i wx => ∃ j : Nat, j ≤ N ∧ i = .int .i64 (j : Int) ∧ m = .int .i64 (nFree j S2 : Int) ∧ Hid (Own W wx g N S2) ∧ Hid (Row wx gh 4 (fv N (hB S2))) ∧ Hid (Row wx gb 4 (fv N (bB S2)))) (fun _ i _ => N - (intOf i).toNat)
          case atStart => exact ⟨0, Nat.zero_le _, rfl, by rw [nFree_zero]; rfl, H9, HH9, HB9⟩
          case round =>
            clear H9 HH9 HB9
            obtain ⟨j, hj, rfl, rfl, H9, HH9, HB9⟩ := hrel
            by_cases hlt : j < N
            · have hcH := HH9.out.cell j
              rw [fv_get _ hlt] at hcH
              obtain ⟨hw1, hw2⟩ := wrap_next hlt (Nat.le_trans H.out.2 (by decide))
              have hjN := ilt hlt
              have hj0 := inn j
              have HK := Lib.hid hlt
              clear hj hlt
              by_cases h0 : S2 j = 0
              · rw [hB_free h0] at hcH
                have hn : nFree (j + 1) S2 = nFree j S2 + 1 := by rw [nFree_succ, h0]; rfl
                have hnl := nFree_le j S2
                obtain ⟨c, hc⟩ : ∃ c, nFree j S2 = c := ⟨_, rfl⟩
                rw [hc] at hn hnl ⊢
                obtain ⟨hw3, hw4⟩ := wrap_next (j := c) (k := 257) (Nat.lt_succ_of_le (Nat.le_trans hnl (Nat.le_trans (Nat.le_of_lt HK.out) H.out.2))) (by decide)
                have HN := Lib.hid hn
                clear hn hnl hc
                go_wp2
                go_roundw
                case rel => exact ⟨j + 1, HK.out, by go_num, by rw [HN.out]; go_num, H9, HH9, HB9⟩
                case measure => exact down HK.out
              · rw [hB_held h0] at hcH
                have HN : Hid (nFree (j + 1) S2 = nFree j S2) := Lib.hid (by rw [nFree_succ, beq_false_of_ne h0]; rfl)
                go_wp2
                go_roundw
                case rel => exact ⟨j + 1, HK.out, by go_num, by rw [HN.out], H9, HH9, HB9⟩
                case measure => exact down HK.out
            · obtain rfl : j = N := by omega
              clear hj hlt
              have hne : ((nFree j S2 : Int) != (nFree j S2 : Int)) = false := by simp
              obtain ⟨c, hc⟩ : ∃ c, nFree j S2 = c := ⟨_, rfl⟩
              rw [hc] at hne ⊢
              have HF : Hid (Calls Tryd.prog 19 #[.pointer (some ⟨g, 0, none⟩)] wr fun e w' => e = .returned (.int .i64 (c : Int)) ∧ w' = wr) := Lib.hid (by have := own_free H9.out; rw [hc] at this; exact this)
              clear hc
              go_wp2_with (go_at_call 19; refine HF.out.mono ?_; rintro e wy ⟨rfl, rfl⟩)
              go_roundw
              case rel => exact ⟨k + 1, S2, HKK.out.2, by go_num, H9, HH9, HB9⟩
              case measure => simp [intOf]; have := HKK.out; omega
        · by_cases h0 : S a = 0
          · have n2 : S a ≠ 2 := by rw [h0]; decide
            rw [hB_free h0] at cH
            rw [bB_not n2] at cB
            have cHf := HBa.out.free a
            have HQ : Hid (∀ q, Calls Tryd.prog 15 #[.pointer (some ⟨g, 0, none⟩), .int .i64 (a : Int)] (wa.drewN q) fun e w' => e = .returned (.int .i64 205) ∧ ∃ q', w' = (wa.drewN q).drewN q') := Lib.hid (fun q => own_give_quiet (HSa.out.drewN q) HA.out h1)
            go_wp2_with fail
            go_quiet (first | (go_at_call 15; refine Calls.quiet_of (HQ.out _)))
            have cHq : (wa.drewN nq).cell? ⟨gh, a, none⟩ = some (.bool false) := cH
            have cBq : (wa.drewN nq).cell? ⟨gb, a, none⟩ = some (.bool false) := cB
            have fBq : (wa.drewN nq).frozen? ⟨gb, a, none⟩ = false := cHf
            have H5 := Lib.hid (HSa.out.drewN nq)
            have HH5 := Lib.hid (HHa.out.drewN nq)
            have HB5 := Lib.hid (HBa.out.drewN nq)
            generalize wa.drewN nq = w5 at *
            go_wp2
            obtain ⟨w9, hw9⟩ : ∃ w9, w5.setCell ⟨gb, a, none⟩ (.bool false) = w9 := ⟨_, rfl⟩
            have H9 : Hid (Own W w9 g N S) := Lib.hid (by rw [← hw9]; exact H5.out.far (grown_set w5 ⟨gb, a, none⟩ _) (fun e => HNE.out.2.1 (by injection e)) HT.out.lt (fun r hr => by injection hr with hr; rw [← hr]; exact HNE.out.2.2.2.2))
            have HH9 : Hid (Row w9 gh 4 (fv N (hB S))) := Lib.hid (by rw [← hw9]; exact HH5.out.far HNE.out.2.2.1 _)
            have HB9 : Hid (Row w9 gb 4 (fv N (bB S))) := Lib.hid (by have := HB5.out.put a (.bool false); rw [fv_same (bB_not n2)] at this; rw [← hw9]; exact this)
            rw [hw9]
            clear hw9 H5 HH5 HB5 cHq cBq fBq
            obtain ⟨S2, hS2⟩ : ∃ S2, S = S2 := ⟨_, rfl⟩
            rw [hS2] at H9 HH9 HB9
            clear hS2
            go_loopw [16, 17] (fun m i wx => ∃ j : Nat, j ≤ N ∧ i = .int .i64 (j : Int) ∧ m = .int .i64 (nFree j S2 : Int) ∧ Hid (Own W wx g N S2) ∧ Hid (Row wx gh 4 (fv N (hB S2))) ∧ Hid (Row wx gb 4 (fv N (bB S2)))) (fun _ i _ => N - (intOf i).toNat)
            case atStart => exact ⟨0, Nat.zero_le _, rfl, by rw [nFree_zero]; rfl, H9, HH9, HB9⟩
            case round =>
              clear H9 HH9 HB9
              obtain ⟨j, hj, rfl, rfl, H9, HH9, HB9⟩ := hrel
              by_cases hlt : j < N
              · have hcH := HH9.out.cell j
                rw [fv_get _ hlt] at hcH
                obtain ⟨hw1, hw2⟩ := wrap_next hlt (Nat.le_trans H.out.2 (by decide))
                have hjN := ilt hlt
                have hj0 := inn j
                have HK := Lib.hid hlt
                clear hj hlt
                by_cases h0 : S2 j = 0
                · rw [hB_free h0] at hcH
                  have hn : nFree (j + 1) S2 = nFree j S2 + 1 := by rw [nFree_succ, h0]; rfl
                  have hnl := nFree_le j S2
                  obtain ⟨c, hc⟩ : ∃ c, nFree j S2 = c := ⟨_, rfl⟩
                  rw [hc] at hn hnl ⊢
                  obtain ⟨hw3, hw4⟩ := wrap_next (j := c) (k := 257) (Nat.lt_succ_of_le (Nat.le_trans hnl (Nat.le_trans (Nat.le_of_lt HK.out) H.out.2))) (by decide)
                  have HN := Lib.hid hn
                  clear hn hnl hc
                  go_wp2
                  go_roundw
                  case rel => exact ⟨j + 1, HK.out, by go_num, by rw [HN.out]; go_num, H9, HH9, HB9⟩
                  case measure => exact down HK.out
                · rw [hB_held h0] at hcH
                  have HN : Hid (nFree (j + 1) S2 = nFree j S2) := Lib.hid (by rw [nFree_succ, beq_false_of_ne h0]; rfl)
                  go_wp2
                  go_roundw
                  case rel => exact ⟨j + 1, HK.out, by go_num, by rw [HN.out], H9, HH9, HB9⟩
                  case measure => exact down HK.out
              · obtain rfl : j = N := by omega
                clear hj hlt
                have hne : ((nFree j S2 : Int) != (nFree j S2 : Int)) = false := by simp
                obtain ⟨c, hc⟩ : ∃ c, nFree j S2 = c := ⟨_, rfl⟩
                rw [hc] at hne ⊢
                have HF : Hid (Calls Tryd.prog 19 #[.pointer (some ⟨g, 0, none⟩)] wr fun e w' => e = .returned (.int .i64 (c : Int)) ∧ w' = wr) := Lib.hid (by have := own_free H9.out; rw [hc] at this; exact this)
                clear hc
                go_wp2_with (go_at_call 19; refine HF.out.mono ?_; rintro e wy ⟨rfl, rfl⟩)
                go_roundw
                case rel => exact ⟨k + 1, S2, HKK.out.2, by go_num, H9, HH9, HB9⟩
                case measure => simp [intOf]; have := HKK.out; omega
          · have h2 : S a = 2 := by have := HSa.out.sp.st a; omega
            rw [hB_held h0] at cH
            rw [bB_back h2] at cB
            have cHf := HBa.out.free a
            have HQ : Hid (∀ q, Calls Tryd.prog 15 #[.pointer (some ⟨g, 0, none⟩), .int .i64 (a : Int)] (wa.drewN q) fun e w' => e = .returned (.int .i64 205) ∧ ∃ q', w' = (wa.drewN q).drewN q') := Lib.hid (fun q => own_give_quiet (HSa.out.drewN q) HA.out h1)
            go_wp2_with fail
            go_quiet (first | (go_at_call 15; refine Calls.quiet_of (HQ.out _)))
            have cHq : (wa.drewN nq).cell? ⟨gh, a, none⟩ = some (.bool true) := cH
            have cBq : (wa.drewN nq).cell? ⟨gb, a, none⟩ = some (.bool true) := cB
            have fBq : (wa.drewN nq).frozen? ⟨gb, a, none⟩ = false := cHf
            have H5 := Lib.hid (HSa.out.drewN nq)
            have HH5 := Lib.hid (HHa.out.drewN nq)
            have HB5 := Lib.hid (HBa.out.drewN nq)
            generalize wa.drewN nq = w5 at *
            go_wp2
            obtain ⟨w9, hw9⟩ : ∃ w9, w5.setCell ⟨gb, a, none⟩ (.bool true) = w9 := ⟨_, rfl⟩
            have H9 : Hid (Own W w9 g N S) := Lib.hid (by rw [← hw9]; exact H5.out.far (grown_set w5 ⟨gb, a, none⟩ _) (fun e => HNE.out.2.1 (by injection e)) HT.out.lt (fun r hr => by injection hr with hr; rw [← hr]; exact HNE.out.2.2.2.2))
            have HH9 : Hid (Row w9 gh 4 (fv N (hB S))) := Lib.hid (by rw [← hw9]; exact HH5.out.far HNE.out.2.2.1 _)
            have HB9 : Hid (Row w9 gb 4 (fv N (bB S))) := Lib.hid (by have := HB5.out.put a (.bool true); rw [fv_same (bB_back h2)] at this; rw [← hw9]; exact this)
            rw [hw9]
            clear hw9 H5 HH5 HB5 cHq cBq fBq
            obtain ⟨S2, hS2⟩ : ∃ S2, S = S2 := ⟨_, rfl⟩
            rw [hS2] at H9 HH9 HB9
            clear hS2
            go_loopw [16, 17] (fun m i wx => ∃ j : Nat, j ≤ N ∧ i = .int .i64 (j : Int) ∧ m = .int .i64 (nFree j S2 : Int) ∧ Hid (Own W wx g N S2) ∧ Hid (Row wx gh 4 (fv N (hB S2))) ∧ Hid (Row wx gb 4 (fv N (bB S2)))) (fun _ i _ => N - (intOf i).toNat)
            case atStart => exact ⟨0, Nat.zero_le _, rfl, by rw [nFree_zero]; rfl, H9, HH9, HB9⟩
            case round =>
              clear H9 HH9 HB9
              obtain ⟨j, hj, rfl, rfl, H9, HH9, HB9⟩ := hrel
              by_cases hlt : j < N
              · have hcH := HH9.out.cell j
                rw [fv_get _ hlt] at hcH
                obtain ⟨hw1, hw2⟩ := wrap_next hlt (Nat.le_trans H.out.2 (by decide))
                have hjN := ilt hlt
                have hj0 := inn j
                have HK := Lib.hid hlt
                clear hj hlt
                by_cases h0 : S2 j = 0
                · rw [hB_free h0] at hcH
                  have hn : nFree (j + 1) S2 = nFree j S2 + 1 := by rw [nFree_succ, h0]; rfl
                  have hnl := nFree_le j S2
                  obtain ⟨c, hc⟩ : ∃ c, nFree j S2 = c := ⟨_, rfl⟩
                  rw [hc] at hn hnl ⊢
                  obtain ⟨hw3, hw4⟩ := wrap_next (j := c) (k := 257) (Nat.lt_succ_of_le (Nat.le_trans hnl (Nat.le_trans (Nat.le_of_lt HK.out) H.out.2))) (by decide)
                  have HN := Lib.hid hn
                  clear hn hnl hc
                  go_wp2
                  go_roundw
                  case rel => exact ⟨j + 1, HK.out, by go_num, by rw [HN.out]; go_num, H9, HH9, HB9⟩
                  case measure => exact down HK.out
                · rw [hB_held h0] at hcH
                  have HN : Hid (nFree (j + 1) S2 = nFree j S2) := Lib.hid (by rw [nFree_succ, beq_false_of_ne h0]; rfl)
                  go_wp2
                  go_roundw
                  case rel => exact ⟨j + 1, HK.out, by go_num, by rw [HN.out], H9, HH9, HB9⟩
                  case measure => exact down HK.out
              · obtain rfl : j = N := by omega
                clear hj hlt
                have hne : ((nFree j S2 : Int) != (nFree j S2 : Int)) = false := by simp
                obtain ⟨c, hc⟩ : ∃ c, nFree j S2 = c := ⟨_, rfl⟩
                rw [hc] at hne ⊢
                have HF : Hid (Calls Tryd.prog 19 #[.pointer (some ⟨g, 0, none⟩)] wr fun e w' => e = .returned (.int .i64 (c : Int)) ∧ w' = wr) := Lib.hid (by have := own_free H9.out; rw [hc] at this; exact this)
                clear hc
                go_wp2_with (go_at_call 19; refine HF.out.mono ?_; rintro e wy ⟨rfl, rfl⟩)
                go_roundw
                case rel => exact ⟨k + 1, S2, HKK.out.2, by go_num, H9, HH9, HB9⟩
                case measure => simp [intOf]; have := HKK.out; omega
      · have b2 : (kd == 2) = false := beq_false_of_ne k2
        by_cases k4 : kd = 4
        · subst k4
          go_wp2_with (first
            | (go_at_call 17; refine (own_settle HSa.out).mono ?_; rintro e w5 ⟨rfl, h5, g5⟩
               have H5 := Lib.hid h5; have HH5 := Lib.hid (HHa.out.grown g5 (fun e => HNE.out.1 (by injection e with e; exact e.symm))); have HB5 := Lib.hid (HBa.out.grown g5 (fun e => HNE.out.2.1 (by injection e with e; exact e.symm)))
               clear h5 g5))
          have HM5 : Hid (Row w5 gh 4 (fv N (hM S 0))) := Lib.hid (by rw [hM_zero]; exact HH5.out)
          have BM5 : Hid (Row w5 gb 4 (fv N (bM S 0))) := Lib.hid (by rw [bM_zero]; exact HB5.out)
          clear HH5 HB5 HSa HHa HBa
          go_loopw [13] (fun i wx => ∃ j : Nat, j ≤ N ∧ i = .int .i64 (j : Int) ∧ Hid (Own W wx g N (seS S)) ∧ Hid (Row wx gh 4 (fv N (hM S j))) ∧ Hid (Row wx gb 4 (fv N (bM S j)))) (fun i _ => N - (intOf i).toNat)
          case atStart => exact ⟨0, Nat.zero_le _, rfl, H5, HM5, BM5⟩
          case round =>
            clear H5 HM5 BM5
            obtain ⟨j, hj, rfl, H5, HM5, BM5⟩ := hrel
            by_cases hlt : j < N
            · have cH := HM5.out.cell j
              rw [fv_get _ hlt, hM_at] at cH
              have cB := BM5.out.cell j
              rw [fv_get _ hlt, bM_at] at cB
              have fH := HM5.out.free j
              obtain ⟨hw1, hw2⟩ := wrap_next hlt (Nat.le_trans H.out.2 (by decide))
              have hjN := ilt hlt
              have hj0 := inn j
              have HK := Lib.hid hlt
              clear hj hlt
              by_cases h0 : S j = 0
              · rw [hB_free h0] at cH
                have HV : Hid (hB (seS S) j = .bool false) := Lib.hid (hB_free (by rw [seS_at, h0]; rfl))
                have HB6 := BM5.out.far (fun e => HNE.out.2.2.1 e.symm : gb ≠ (⟨gh, j, none⟩ : Addr).block) (.bool false)
                have cB6 := HB6.cell j
                rw [fv_get _ HK.out, bM_at] at cB6
                have fB6 := HB6.free j
                have H6 := Lib.hid (H5.out.far (grown_set wr ⟨gh, j, none⟩ (.bool false)) (fun e => HNE.out.1 (by injection e)) HT.out.lt (fun r hr => by injection hr with hr; rw [← hr]; exact HNE.out.2.2.2.1))
                have H7 := Lib.hid (H6.out.far (grown_set _ ⟨gb, j, none⟩ (.bool false)) (fun e => HNE.out.2.1 (by injection e)) HT.out.lt (fun r hr => by injection hr with hr; rw [← hr]; exact HNE.out.2.2.2.2))
                have HM7 : Hid (Row ((wr.setCell ⟨gh, j, none⟩ (.bool false)).setCell ⟨gb, j, none⟩ (.bool false)) gh 4 (fv N (hM S (j + 1)))) := Lib.hid (by rw [← hM_next S N j HV.out]; exact (HM5.out.put j _).far HNE.out.2.2.1 _)
                have BM7 : Hid (Row ((wr.setCell ⟨gh, j, none⟩ (.bool false)).setCell ⟨gb, j, none⟩ (.bool false)) gb 4 (fv N (bM S (j + 1)))) := Lib.hid (by rw [← bM_next]; exact HB6.put j _)
                clear HB6 H6
                go_wp2
                go_roundw
                case rel => exact ⟨j + 1, HK.out, by go_num, H7, HM7, BM7⟩
                case measure => exact down HK.out
              · rw [hB_held h0] at cH
                by_cases h2 : S j = 2
                · rw [bB_back h2] at cB
                  have HV : Hid (hB (seS S) j = .bool false) := Lib.hid (hB_free (by rw [seS_at, if_pos h2]))
                  have HB6 := BM5.out.far (fun e => HNE.out.2.2.1 e.symm : gb ≠ (⟨gh, j, none⟩ : Addr).block) (.bool false)
                  have cB6 := HB6.cell j
                  rw [fv_get _ HK.out, bM_at] at cB6
                  have fB6 := HB6.free j
                  have H6 := Lib.hid (H5.out.far (grown_set wr ⟨gh, j, none⟩ (.bool false)) (fun e => HNE.out.1 (by injection e)) HT.out.lt (fun r hr => by injection hr with hr; rw [← hr]; exact HNE.out.2.2.2.1))
                  have H7 := Lib.hid (H6.out.far (grown_set _ ⟨gb, j, none⟩ (.bool false)) (fun e => HNE.out.2.1 (by injection e)) HT.out.lt (fun r hr => by injection hr with hr; rw [← hr]; exact HNE.out.2.2.2.2))
                  have HM7 : Hid (Row ((wr.setCell ⟨gh, j, none⟩ (.bool false)).setCell ⟨gb, j, none⟩ (.bool false)) gh 4 (fv N (hM S (j + 1)))) := Lib.hid (by rw [← hM_next S N j HV.out]; exact (HM5.out.put j _).far HNE.out.2.2.1 _)
                  have BM7 : Hid (Row ((wr.setCell ⟨gh, j, none⟩ (.bool false)).setCell ⟨gb, j, none⟩ (.bool false)) gb 4 (fv N (bM S (j + 1)))) := Lib.hid (by rw [← bM_next]; exact HB6.put j _)
                  clear HB6 H6
                  go_wp2
                  go_roundw
                  case rel => exact ⟨j + 1, HK.out, by go_num, H7, HM7, BM7⟩
                  case measure => exact down HK.out
                · rw [bB_not h2] at cB
                  have HV : Hid (hB (seS S) j = .bool true) := Lib.hid (hB_held (by rw [seS_at, if_neg h2]; exact h0))
                  have HB6 := BM5.out.far (fun e => HNE.out.2.2.1 e.symm : gb ≠ (⟨gh, j, none⟩ : Addr).block) (.bool true)
                  have cB6 := HB6.cell j
                  rw [fv_get _ HK.out, bM_at] at cB6
                  have fB6 := HB6.free j
                  have H6 := Lib.hid (H5.out.far (grown_set wr ⟨gh, j, none⟩ (.bool true)) (fun e => HNE.out.1 (by injection e)) HT.out.lt (fun r hr => by injection hr with hr; rw [← hr]; exact HNE.out.2.2.2.1))
                  have H7 := Lib.hid (H6.out.far (grown_set _ ⟨gb, j, none⟩ (.bool false)) (fun e => HNE.out.2.1 (by injection e)) HT.out.lt (fun r hr => by injection hr with hr; rw [← hr]; exact HNE.out.2.2.2.2))
                  have HM7 : Hid (Row ((wr.setCell ⟨gh, j, none⟩ (.bool true)).setCell ⟨gb, j, none⟩ (.bool false)) gh 4 (fv N (hM S (j + 1)))) := Lib.hid (by rw [← hM_next S N j HV.out]; exact (HM5.out.put j _).far HNE.out.2.2.1 _)
                  have BM7 : Hid (Row ((wr.setCell ⟨gh, j, none⟩ (.bool true)).setCell ⟨gb, j, none⟩ (.bool false)) gb 4 (fv N (bM S (j + 1)))) := Lib.hid (by rw [← bM_next]; exact HB6.put j _)
                  clear HB6 H6
                  go_wp2
                  go_roundw
                  case rel => exact ⟨j + 1, HK.out, by go_num, H7, HM7, BM7⟩
                  case measure => exact down HK.out
            · obtain rfl : N = j := by omega
              clear hj hlt
              have H9 := H5
              have HH9 : Hid (Row wr gh 4 (fv N (hB (seS S)))) := Lib.hid (by rw [← hM_full]; exact HM5.out)
              have HB9 : Hid (Row wr gb 4 (fv N (bB (seS S)))) := Lib.hid (by rw [← bM_full]; exact BM5.out)
              clear H5 HM5 BM5
              go_wp2
              obtain ⟨S2, hS2⟩ : ∃ S2, seS S = S2 := ⟨_, rfl⟩
              rw [hS2] at H9 HH9 HB9
              clear hS2
              go_loopw [16, 17] (fun m i wx => ∃ j : Nat, j ≤ N ∧ i = .int .i64 (j : Int) ∧ m = .int .i64 (nFree j S2 : Int) ∧ Hid (Own W wx g N S2) ∧ Hid (Row wx gh 4 (fv N (hB S2))) ∧ Hid (Row wx gb 4 (fv N (bB S2)))) (fun _ i _ => N - (intOf i).toNat)
              case atStart => exact ⟨0, Nat.zero_le _, rfl, by rw [nFree_zero]; rfl, H9, HH9, HB9⟩
              case round =>
                clear H9 HH9 HB9
                obtain ⟨j, hj, rfl, rfl, H9, HH9, HB9⟩ := hrel
                by_cases hlt : j < N
                · have hcH := HH9.out.cell j
                  rw [fv_get _ hlt] at hcH
                  obtain ⟨hw1, hw2⟩ := wrap_next hlt (Nat.le_trans H.out.2 (by decide))
                  have hjN := ilt hlt
                  have hj0 := inn j
                  have HK := Lib.hid hlt
                  clear hj hlt
                  by_cases h0 : S2 j = 0
                  · rw [hB_free h0] at hcH
                    have hn : nFree (j + 1) S2 = nFree j S2 + 1 := by rw [nFree_succ, h0]; rfl
                    have hnl := nFree_le j S2
                    obtain ⟨c, hc⟩ : ∃ c, nFree j S2 = c := ⟨_, rfl⟩
                    rw [hc] at hn hnl ⊢
                    obtain ⟨hw3, hw4⟩ := wrap_next (j := c) (k := 257) (Nat.lt_succ_of_le (Nat.le_trans hnl (Nat.le_trans (Nat.le_of_lt HK.out) H.out.2))) (by decide)
                    have HN := Lib.hid hn
                    clear hn hnl hc
                    go_wp2
                    go_roundw
                    case rel => exact ⟨j + 1, HK.out, by go_num, by rw [HN.out]; go_num, H9, HH9, HB9⟩
                    case measure => exact down HK.out
                  · rw [hB_held h0] at hcH
                    have HN : Hid (nFree (j + 1) S2 = nFree j S2) := Lib.hid (by rw [nFree_succ, beq_false_of_ne h0]; rfl)
                    go_wp2
                    go_roundw
                    case rel => exact ⟨j + 1, HK.out, by go_num, by rw [HN.out], H9, HH9, HB9⟩
                    case measure => exact down HK.out
                · obtain rfl : j = N := by omega
                  clear hj hlt
                  have hne : ((nFree j S2 : Int) != (nFree j S2 : Int)) = false := by simp
                  obtain ⟨c, hc⟩ : ∃ c, nFree j S2 = c := ⟨_, rfl⟩
                  rw [hc] at hne ⊢
                  have HF : Hid (Calls Tryd.prog 19 #[.pointer (some ⟨g, 0, none⟩)] wr fun e w' => e = .returned (.int .i64 (c : Int)) ∧ w' = wr) := Lib.hid (by have := own_free H9.out; rw [hc] at this; exact this)
                  clear hc
                  go_wp2_with (go_at_call 19; refine HF.out.mono ?_; rintro e wy ⟨rfl, rfl⟩)
                  go_roundw
                  case rel => exact ⟨k + 1, S2, HKK.out.2, by go_num, H9, HH9, HB9⟩
                  case measure => simp [intOf]; have := HKK.out; omega
        · have b4 : (kd == 4) = false := beq_false_of_ne k4
          clear k2 k4
          cases ho : ft N S with
          | some m =>
            obtain ⟨hm1, hm2, hm3⟩ := ft_some ho
            have HM := Lib.hid (p := m < N ∧ S m = 0) ⟨hm1, hm2⟩
            have HF := Lib.hid ho
            have hm0 := inn m
            have hmN := ilt hm1
            have e1 : decide ((m : Int) < 0) = false := decide_eq_false (Int.not_lt.2 hm0)
            have e2 : decide ((N : Int) ≤ (m : Int)) = false := decide_eq_false (Int.not_le.2 hmN)
            have e3 : decide (N ≤ m) = false := decide_eq_false (Nat.not_le.2 hm1)
            clear ho hm1 hm2 hm3
            go_wp2_with (first
              | (go_at_call 11; refine (own_some HSa.out HF.out).mono ?_; rintro e w5 ⟨rfl, h5, g5⟩
                 have H5 := Lib.hid h5; have HH5 := Lib.hid (HHa.out.grown g5 (fun e => HNE.out.1 (by injection e with e; exact e.symm))); have HB5 := Lib.hid (HBa.out.grown g5 (fun e => HNE.out.2.1 (by injection e with e; exact e.symm)))
                 have c5 : w5.cell? ⟨gh, m, none⟩ = some (.bool false) := by rw [HH5.out.cell, fv_get _ HM.out.1, hB_free HM.out.2]
                 have f5 := HH5.out.free m
                 clear h5 g5))
            obtain ⟨w9, hw9⟩ : ∃ w9, w5.setCell ⟨gh, m, none⟩ (.bool true) = w9 := ⟨_, rfl⟩
            have H9 : Hid (Own W w9 g N (putN S m 1)) := Lib.hid (by rw [← hw9]; exact H5.out.far (grown_set w5 ⟨gh, m, none⟩ _) (fun e => HNE.out.1 (by injection e)) HT.out.lt (fun r hr => by injection hr with hr; rw [← hr]; exact HNE.out.2.2.2.1))
            have HH9 : Hid (Row w9 gh 4 (fv N (hB (putN S m 1)))) := Lib.hid (by rw [← hw9, ← hB_take]; exact HH5.out.put m _)
            have HB9 : Hid (Row w9 gb 4 (fv N (bB (putN S m 1)))) := Lib.hid (by rw [← hw9, bB_keep (by rw [HM.out.2]; decide) (by decide)]; exact HB5.out.far (fun e => HNE.out.2.2.1 e.symm) _)
            rw [hw9]
            clear hw9 H5 HH5 HB5 c5 f5 hm0 hmN e1 e2 e3
            obtain ⟨S2, hS2⟩ : ∃ S2, putN S m 1 = S2 := ⟨_, rfl⟩
            rw [hS2] at H9 HH9 HB9
            clear hS2
            go_loopw [16, 17] (fun m i wx => ∃ j : Nat, j ≤ N ∧ i = .int .i64 (j : Int) ∧ m = .int .i64 (nFree j S2 : Int) ∧ Hid (Own W wx g N S2) ∧ Hid (Row wx gh 4 (fv N (hB S2))) ∧ Hid (Row wx gb 4 (fv N (bB S2)))) (fun _ i _ => N - (intOf i).toNat)
            case atStart => exact ⟨0, Nat.zero_le _, rfl, by rw [nFree_zero]; rfl, H9, HH9, HB9⟩
            case round =>
              clear H9 HH9 HB9
              obtain ⟨j, hj, rfl, rfl, H9, HH9, HB9⟩ := hrel
              by_cases hlt : j < N
              · have hcH := HH9.out.cell j
                rw [fv_get _ hlt] at hcH
                obtain ⟨hw1, hw2⟩ := wrap_next hlt (Nat.le_trans H.out.2 (by decide))
                have hjN := ilt hlt
                have hj0 := inn j
                have HK := Lib.hid hlt
                clear hj hlt
                by_cases h0 : S2 j = 0
                · rw [hB_free h0] at hcH
                  have hn : nFree (j + 1) S2 = nFree j S2 + 1 := by rw [nFree_succ, h0]; rfl
                  have hnl := nFree_le j S2
                  obtain ⟨c, hc⟩ : ∃ c, nFree j S2 = c := ⟨_, rfl⟩
                  rw [hc] at hn hnl ⊢
                  obtain ⟨hw3, hw4⟩ := wrap_next (j := c) (k := 257) (Nat.lt_succ_of_le (Nat.le_trans hnl (Nat.le_trans (Nat.le_of_lt HK.out) H.out.2))) (by decide)
                  have HN := Lib.hid hn
                  clear hn hnl hc
                  go_wp2
                  go_roundw
                  case rel => exact ⟨j + 1, HK.out, by go_num, by rw [HN.out]; go_num, H9, HH9, HB9⟩
                  case measure => exact down HK.out
                · rw [hB_held h0] at hcH
                  have HN : Hid (nFree (j + 1) S2 = nFree j S2) := Lib.hid (by rw [nFree_succ, beq_false_of_ne h0]; rfl)
                  go_wp2
                  go_roundw
                  case rel => exact ⟨j + 1, HK.out, by go_num, by rw [HN.out], H9, HH9, HB9⟩
                  case measure => exact down HK.out
              · obtain rfl : j = N := by omega
                clear hj hlt
                have hne : ((nFree j S2 : Int) != (nFree j S2 : Int)) = false := by simp
                obtain ⟨c, hc⟩ : ∃ c, nFree j S2 = c := ⟨_, rfl⟩
                rw [hc] at hne ⊢
                have HF : Hid (Calls Tryd.prog 19 #[.pointer (some ⟨g, 0, none⟩)] wr fun e w' => e = .returned (.int .i64 (c : Int)) ∧ w' = wr) := Lib.hid (by have := own_free H9.out; rw [hc] at this; exact this)
                clear hc
                go_wp2_with (go_at_call 19; refine HF.out.mono ?_; rintro e wy ⟨rfl, rfl⟩)
                go_roundw
                case rel => exact ⟨k + 1, S2, HKK.out.2, by go_num, H9, HH9, HB9⟩
                case measure => simp [intOf]; have := HKK.out; omega
          | none =>
            have HF := Lib.hid ho
            clear ho
            go_wp2_with (first
              | (go_at_call 11; refine (own_full HSa.out HF.out).mono ?_; rintro e w9 ⟨rfl, h9, g9⟩
                 have H9 := Lib.hid h9; have HH9 := Lib.hid (HHa.out.grown g9 (fun e => HNE.out.1 (by injection e with e; exact e.symm))); have HB9 := Lib.hid (HBa.out.grown g9 (fun e => HNE.out.2.1 (by injection e with e; exact e.symm)))
                 clear h9 g9))
            obtain ⟨S2, hS2⟩ : ∃ S2, S = S2 := ⟨_, rfl⟩
            rw [hS2] at H9 HH9 HB9
            clear hS2
            go_loopw [16, 17] (fun m i wx => ∃ j : Nat, j ≤ N ∧ i = .int .i64 (j : Int) ∧ m = .int .i64 (nFree j S2 : Int) ∧ Hid (Own W wx g N S2) ∧ Hid (Row wx gh 4 (fv N (hB S2))) ∧ Hid (Row wx gb 4 (fv N (bB S2)))) (fun _ i _ => N - (intOf i).toNat)
            case atStart => exact ⟨0, Nat.zero_le _, rfl, by rw [nFree_zero]; rfl, H9, HH9, HB9⟩
            case round =>
              clear H9 HH9 HB9
              obtain ⟨j, hj, rfl, rfl, H9, HH9, HB9⟩ := hrel
              by_cases hlt : j < N
              · have hcH := HH9.out.cell j
                rw [fv_get _ hlt] at hcH
                obtain ⟨hw1, hw2⟩ := wrap_next hlt (Nat.le_trans H.out.2 (by decide))
                have hjN := ilt hlt
                have hj0 := inn j
                have HK := Lib.hid hlt
                clear hj hlt
                by_cases h0 : S2 j = 0
                · rw [hB_free h0] at hcH
                  have hn : nFree (j + 1) S2 = nFree j S2 + 1 := by rw [nFree_succ, h0]; rfl
                  have hnl := nFree_le j S2
                  obtain ⟨c, hc⟩ : ∃ c, nFree j S2 = c := ⟨_, rfl⟩
                  rw [hc] at hn hnl ⊢
                  obtain ⟨hw3, hw4⟩ := wrap_next (j := c) (k := 257) (Nat.lt_succ_of_le (Nat.le_trans hnl (Nat.le_trans (Nat.le_of_lt HK.out) H.out.2))) (by decide)
                  have HN := Lib.hid hn
                  clear hn hnl hc
                  go_wp2
                  go_roundw
                  case rel => exact ⟨j + 1, HK.out, by go_num, by rw [HN.out]; go_num, H9, HH9, HB9⟩
                  case measure => exact down HK.out
                · rw [hB_held h0] at hcH
                  have HN : Hid (nFree (j + 1) S2 = nFree j S2) := Lib.hid (by rw [nFree_succ, beq_false_of_ne h0]; rfl)
                  go_wp2
                  go_roundw
                  case rel => exact ⟨j + 1, HK.out, by go_num, by rw [HN.out], H9, HH9, HB9⟩
                  case measure => exact down HK.out
              · obtain rfl : j = N := by omega
                clear hj hlt
                have hne : ((nFree j S2 : Int) != (nFree j S2 : Int)) = false := by simp
                obtain ⟨c, hc⟩ : ∃ c, nFree j S2 = c := ⟨_, rfl⟩
                rw [hc] at hne ⊢
                have HF : Hid (Calls Tryd.prog 19 #[.pointer (some ⟨g, 0, none⟩)] wr fun e w' => e = .returned (.int .i64 (c : Int)) ∧ w' = wr) := Lib.hid (by have := own_free H9.out; rw [hc] at this; exact this)
                clear hc
                go_wp2_with (go_at_call 19; refine HF.out.mono ?_; rintro e wy ⟨rfl, rfl⟩)
                go_roundw
                case rel => exact ⟨k + 1, S2, HKK.out.2, by go_num, H9, HH9, HB9⟩
                case measure => simp [intOf]; have := HKK.out; omega
    · have hx : decide (k < len) = false ∨ (decide (k < len) = true ∧ (k : Int) < (len : Int) ∧ ¬ (k : Int) < 300 ∧ decide (k < 300) = false ∧ decide ((k : Int) < 300) = false) := by
        by_cases e : k < len
        · exact .inr ⟨decide_eq_true e, by omega, by omega, decide_eq_false (by omega), decide_eq_false (by omega)⟩
        · exact .inl (decide_eq_false e)
      clear hlt hk
      rcases hx with hx | ⟨hx, hx2, hx3, hy, hy2⟩
      all_goals
        go_wp2
        go_ret
        exact ⟨rfl, HS.out.below⟩
end Go.Proofs.YtkmnmmenjpkkpaaDoor.spaceOnce
