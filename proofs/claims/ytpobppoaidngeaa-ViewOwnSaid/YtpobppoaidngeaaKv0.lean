/- The function of ViewOwn: what is put is seen, each time. Conditions: those named. -/
import Derived.Test.YtpobppoaidngeaaKs
set_option linter.unusedVariables false
set_option maxRecDepth 20000
namespace Go.Proofs.Ytpobppoaidngeaa
open Go.RowKit

/-- The puts of a list. -/
def qsOf (ds : List DV) : List (Int × BV) := ds.map fun d => (d.slot, d.blk)
theorem qs_get {ds : List DV} {k : Nat} {d : DV} (h : ds[k]? = some d) : (qsOf ds)[k]? = some (d.slot, d.blk) := by unfold qsOf; rw [List.getElem?_map, h]; rfl
theorem get_qs {ds : List DV} {k : Nat} {p : Int × BV} (h : (qsOf ds)[k]? = some p) : ∃ d, ds[k]? = some d ∧ p = (d.slot, d.blk) := by
  unfold qsOf at h
  rw [List.getElem?_map] at h
  obtain ⟨d, hd, rfl⟩ := Option.map_eq_some_iff.1 h
  exact ⟨d, hd, rfl⟩
theorem qs_take {ds : List DV} {k : Nat} {d : DV} (h : ds[k]? = some d) : (qsOf ds).take (k + 1) = (qsOf ds).take k ++ [(d.slot, d.blk)] := by
  have hg := qs_get h
  have hl := (List.getElem?_eq_some_iff.1 hg).1
  rw [List.take_succ_eq_append_getElem hl]
  rw [List.getElem?_eq_getElem hl] at hg
  injection hg with hg
  rw [hg]
/-- Place j is the last of the first h of its slot. -/
theorem last_at {ds : List DV} {j h : Nat} {d : DV} (hd : ds[j]? = some d) (hj : j < h) (hl : ∀ k e, j < k → k < h → ds[k]? = some e → e.slot ≠ d.slot) : lastP ((qsOf ds).take h) d.slot = some d.blk := by
  rw [last_iff]
  refine ⟨j, ?_, fun k p hk hp => ?_⟩
  · rw [List.getElem?_take, if_pos hj]
    exact qs_get hd
  · rw [List.getElem?_take] at hp
    split at hp
    · obtain ⟨e, he, rfl⟩ := get_qs hp
      exact hl k e hk (by assumption) he
    · cases hp
section
variable {b : Nat} {gv gm gs r : Nat} {w1 : World} {Bs : List BV} {Ks : List Bool} {A : Option Addr} {c : Nat} {ds : List DV} {pd pv pr : Nat}
def OwnD (ds : List DV) (pr : Nat) (w1 : World) (C' : Int → Option BV) (w2 : World) : Prop := w2.cell? ⟨pr, 0, none⟩ = some (.bool true) ∧ byL C' = byL (lastP (qsOf ds))
set_option maxHeartbeats 4000000 in
theorem own1 (h : VV b w1 gv gm gs (some ⟨r, 0, none⟩) 0 fun _ => none) (hb : b ≤ w1.heap.size) (hr : Row w1 r 58 (rcs false 0)) (hp : Row w1 pv 30 [.pointer (some ⟨gv, 0, none⟩)]) (hd : Row w1 pd 26 [.slice A ds.length c]) (hpr : Row w1 pr 4 [.bool true]) (hs : Src b w1 gs Bs Ks) (hsc : ScB b w1 A ds) (hbd : b ≤ pr) :
    Calls Try.prog 19 #[.pointer (some ⟨pd, 0, none⟩), .pointer (some ⟨pv, 0, none⟩), .pointer (some ⟨pr, 0, none⟩)] w1 (FunP b gv gm gs r [gm, pr] (OwnD ds pr) (fun _ _ => False) w1) := by
  have H := Lib.hid h
  have HR := Lib.hid hr
  have HP := Lib.hid hp
  have HD := Lib.hid hd
  have HPR := Lib.hid hpr
  have HS := Lib.hid hs
  have HSC := Lib.hid hsc
  have HB := Lib.hid (p := b ≤ w1.heap.size ∧ b ≤ pr) ⟨hb, hbd⟩
  have n1 : pv ≠ pr := hp.ne_ hpr (by decide)
  have n2 : pd ≠ pr := hd.ne_ hpr (by decide)
  have n3 : r ≠ pr := hr.ne_ hpr (by decide)
  have n4 : gv ≠ pr := h.row.ne_ hpr (by decide)
  have n5 : gm ≠ pr := fun e => h.map.no_cells _ _ _ (e ▸ hpr.heap)
  have n6 : pv ≠ gm := fun e => h.map.no_cells _ _ _ (e ▸ hp.heap)
  have n7 : pd ≠ gm := fun e => h.map.no_cells _ _ _ (e ▸ hd.heap)
  have n8 : r ≠ gm := fun e => h.map.no_cells _ _ _ (e ▸ hr.heap)
  have HNE := Lib.hid (p := pv ≠ pr ∧ pd ≠ pr ∧ r ≠ pr ∧ gv ≠ pr ∧ gm ≠ pr ∧ pv ≠ gm ∧ pd ≠ gm ∧ r ≠ gm) ⟨n1, n2, n3, n4, n5, n6, n7, n8⟩
  -- what stays when the view's map and the flag may have been written
  have HK := Lib.hid (p := ∀ W, Chg [gm, pr] w1 W → W.cell? ⟨pv, 0, none⟩ = some (.pointer (some ⟨gv, 0, none⟩)) ∧ W.cell? ⟨pd, 0, none⟩ = some (.slice A ds.length c) ∧ Row W r 58 (rcs false 0) ∧ Src b W gs Bs Ks ∧ ScB b W A ds) (fun W hc => by
    have hbl : Below b w1 W := hc.below HB.out.1 (fun x hx => by
      simp at hx
      rcases hx with rfl | rfl
      · exact H.out.lo.2
      · exact HB.out.2)
    exact ⟨((hc.row HP.out (by simp; exact ⟨n6, n1⟩)).cell 0).trans rfl, ((hc.row HD.out (by simp; exact ⟨n7, n2⟩)).cell 0).trans rfl, hc.row HR.out (by simp; exact ⟨n8, n3⟩), HS.out.keep hbl, HSC.out.keep hbl⟩)
  clear h hb hr hp hd hpr hs hsc hbd n1 n2 n3 n4 n5 n6 n7 n8
  go_enter Try.func19, Try.ntmps19
  go_wp2
  go_loopw [3] (fun x wr => ∃ (i n' : Nat) (C' : Int → Option BV), Hid (i ≤ ds.length) ∧ x = .int .i64 (i : Int) ∧ Hid (VV b wr gv gm gs (some ⟨r, 0, none⟩) n' C') ∧ Hid (n' ≤ i) ∧ Hid (byL C' = byL (lastP ((qsOf ds).take i))) ∧ Hid (Row wr pr 4 [.bool true]) ∧ Hid (Chg [gm, pr] w1 wr)) (fun x _ => ds.length - (intOf x).toNat)
  case atStart => exact ⟨0, 0, _, Lib.hid (Nat.zero_le _), rfl, H, Lib.hid (Nat.le_refl _), Lib.hid rfl, HPR, Lib.hid (Chg.refl _ _)⟩
  case round =>
    obtain ⟨i, n', C', HI, rfl, HV, HN, HC, HF, HCH⟩ := hrel
    rename World => wo
    obtain ⟨cv, cd, hrr, hss, hcc⟩ := HK.out wo HCH.out
    have hcv := cv
    by_cases hi : i < ds.length
    · have hii : (i : Int) < (ds.length : Int) := by omega
      obtain ⟨d, hd⟩ : ∃ d, ds[i] = d := ⟨_, rfl⟩
      have hds : ds[i]? = some d := by rw [List.getElem?_eq_getElem hi, hd]
      obtain ⟨g, o, rfl, hcl⟩ := hcc.lies.1.at_ hi
      rw [hd] at hcl
      have cz1 := hcl 1 _ rfl
      have cz2 := hcl 2 _ rfl
      unfold bvv at cz2
      have hdm : d ∈ ds := List.mem_of_getElem? hds
      have HDS := Lib.hid hds
      have HPT := Lib.hid (vput (HV.out.below (below_drw wo)) (Nat.le_trans HB.out.1 HCH.out.size) d.blk (hcc.hol d hdm).1 (hcc.len d hdm) d.slot (hcc.i64 d hdm) (by have := HN.out; have := HSC.out.lim; omega))
      have HIT := Lib.hid hi
      have hiw : IntKind.i64.wrap ((i : Int) + 1) = (i : Int) + 1 := by rw [IntKind.wrap_i64]; have := HSC.out.lim; omega
      clear hi hd hds hcl hdm hrr hss hcc
      go_wp2
      go_still_tail 11, (by kernel_rfl)
      change wpList _ _ _ _ _ wo.drew
      go_wp2_with (go_at_call 20; refine HPT.out.mono ?_; rintro e w3 ⟨rfl, y, hy, hyo, hv3, hc3⟩)
      have hc03 : Chg [gm, pr] w1 w3 := (HCH.out.trans (Chg.of (F := [gm, pr]) (below_drw wo)) (fun x hx => .inl hx)).trans hc3.out (fun x hx => .inl (by simp at hx; simp [hx]))
      have HC3 := Lib.hid hc03
      have HV3 := Lib.hid hv3.out
      have HF3 := Lib.hid (hc3.out.row (HF.out.kept (below_drw wo)) (by simp; exact HNE.out.2.2.2.2.1.symm))
      have HCL := Lib.hid (p := byL (upC C' d.slot y) = byL (lastP ((qsOf ds).take (i + 1)))) (by
        rw [byL_up, HC.out, hy.out, qs_take HDS.out, lastP_snoc, byL_up])
      clear hc03 cz1 cz2 cv cd hcv
      go_loopw [4] (fun x wr => ∃ k : Nat, Hid (k ≤ i + 1) ∧ x = .int .i64 (k : Int) ∧ Hid (VV b wr gv gm gs (some ⟨r, 0, none⟩) (n' + 1) (upC C' d.slot y)) ∧ Hid (Row wr pr 4 [.bool true]) ∧ Hid (Chg [gm, pr] w1 wr)) (fun x _ => i + 1 - (intOf x).toNat)
      case atStart => exact ⟨0, Lib.hid (Nat.zero_le _), rfl, HV3, HF3, HC3⟩
      case round =>
        clear HV3 HF3 HC3
        obtain ⟨k, HKI, rfl, HVk, HFk, HCk⟩ := hrel
        rename World => wk
        obtain ⟨cv, cd, hrr, hss, hcc⟩ := HK.out wk HCk.out
        by_cases hk : k ≤ i
        · have hki : (k : Int) ≤ (i : Int) := by omega
          have hkl : k < ds.length := by have := HIT.out; omega
          have hkli : (k : Int) < (ds.length : Int) := by omega
          obtain ⟨dk, hdk⟩ : ∃ dk, ds[k] = dk := ⟨_, rfl⟩
          have hks : ds[k]? = some dk := by rw [List.getElem?_eq_getElem hkl, hdk]
          obtain ⟨g2, o2, e2, hcl⟩ := hcc.lies.1.at_ hkl
          injection e2 with e2
          injection e2 with e3 e4
          subst e3 e4
          rw [hdk] at hcl
          obtain ⟨z, hz⟩ : ∃ z, dk.slot = z := ⟨_, rfl⟩
          have ck1 : wk.cell? ⟨g, o + k * 3 + 1, none⟩ = some (.int .i64 z) := by rw [← hz]; exact hcl 1 _ rfl
          have HKS := Lib.hid hks
          have HZ := Lib.hid hz
          have HKT := Lib.hid hk
          have hkw : IntKind.i64.wrap ((k : Int) + 1) = (k : Int) + 1 := by rw [IntKind.wrap_i64]; have := HSC.out.lim; omega
          have HSCk := Lib.hid hcc
          clear hk hdk hks hcl hz hrr hss hcc
          go_wp2
          go_loopw [5, 6] (fun x u wr => ∃ (l j : Nat), Hid (k ≤ l ∧ l ≤ i ∧ k ≤ j ∧ j ≤ i + 1 ∧ (l < j ∨ j = k)) ∧ x = .int .i64 (l : Int) ∧ u = .int .i64 (j : Int) ∧ Hid (∃ dl, ds[l]? = some dl ∧ dl.slot = z) ∧ Hid (∀ q e, l < q → q < j → ds[q]? = some e → e.slot ≠ z) ∧ Hid (Below wk.heap.size wk wr)) (fun _ u _ => i + 1 - (intOf u).toNat)
          case atStart => exact ⟨k, k, Lib.hid ⟨Nat.le_refl _, HKT.out, Nat.le_refl _, by have := HKT.out; omega, .inr rfl⟩, rfl, rfl, Lib.hid ⟨dk, HKS.out, HZ.out⟩, Lib.hid (fun q e h1 h2 => by omega), Lib.hid (Below.refl _ _)⟩
          case round =>
            obtain ⟨l, j, HL, rfl, rfl, HDL, HNO, HBR⟩ := hrel
            have cdr : wr.cell? ⟨pd, 0, none⟩ = some (.slice (some ⟨g, o, none⟩) ds.length c) := (HBR.out.cell (p := ⟨pd, 0, none⟩) (World.block_lt_of_cell? wk _ cd)).trans cd
            have ckr : wr.cell? ⟨g, o + k * 3 + 1, none⟩ = some (.int .i64 z) := (HBR.out.cell (p := ⟨g, o + k * 3 + 1, none⟩) (World.block_lt_of_cell? wk _ ck1)).trans ck1
            by_cases hj : j ≤ i
            · have hji : (j : Int) ≤ (i : Int) := by omega
              have hjl : j < ds.length := by have := HIT.out; omega
              have hjli : (j : Int) < (ds.length : Int) := by omega
              obtain ⟨dj, hdj⟩ : ∃ dj, ds[j] = dj := ⟨_, rfl⟩
              have hjs : ds[j]? = some dj := by rw [List.getElem?_eq_getElem hjl, hdj]
              obtain ⟨g2, o2, e2, hcl⟩ := HSCk.out.lies.1.at_ hjl
              injection e2 with e2
              injection e2 with e3 e4
              subst e3 e4
              rw [hdj] at hcl
              obtain ⟨zj, hzj⟩ : ∃ zj, dj.slot = zj := ⟨_, rfl⟩
              have cjk : wk.cell? ⟨g, o + j * 3 + 1, none⟩ = some (.int .i64 zj) := by rw [← hzj]; exact hcl 1 _ rfl
              have cjr : wr.cell? ⟨g, o + j * 3 + 1, none⟩ = some (.int .i64 zj) := (HBR.out.cell (p := ⟨g, o + j * 3 + 1, none⟩) (World.block_lt_of_cell? wk _ cjk)).trans cjk
              have HJS := Lib.hid hjs
              have HZJ := Lib.hid hzj
              have HJT := Lib.hid hj
              have hjw : IntKind.i64.wrap ((j : Int) + 1) = (j : Int) + 1 := by rw [IntKind.wrap_i64]; have := HSC.out.lim; omega
              clear hj hdj hjs hcl hzj cjk cd ck1
              by_cases hzz : zj = z
              · subst hzz
                have hbe : (zj == zj) = true := by simp
                go_wp2_with fail
                go_quiet (fail)
                go_wp2
                go_roundw
                case rel => exact ⟨j, j + 1, Lib.hid (by have := HL.out; have := HJT.out; omega), rfl, by go_num, Lib.hid ⟨dj, HJS.out, HZJ.out⟩, Lib.hid (fun q e h1 h2 => by omega), Lib.hid (below_drewN HBR.out _)⟩
                case measure => have := HJT.out; simp [intOf]; omega
              · have hbe : (zj == z) = false := beq_false_of_ne hzz
                have hbd : decide (zj = z) = false := decide_eq_false hzz
                have HNE2 := Lib.hid hzz
                have HJK := Lib.hid (p := j ≠ k) (fun e => by
                  subst e
                  have h1 := HJS.out
                  rw [HKS.out] at h1
                  injection h1 with h1
                  subst h1
                  exact hzz (HZJ.out.symm.trans HZ.out))
                go_wp2_with fail
                go_quiet (fail)
                go_wp2
                go_roundw
                case rel =>
                  refine ⟨l, j + 1, Lib.hid (by have := HL.out; have := HJT.out; have := HJK.out; omega), rfl, by go_num, HDL, Lib.hid (fun q e h1 h2 h3 => ?_), Lib.hid (below_drewN HBR.out _)⟩
                  by_cases e5 : q = j
                  · subst e5
                    rw [HJS.out] at h3
                    injection h3 with h3
                    subst h3
                    rw [HZJ.out]
                    exact HNE2.out
                  · exact HNO.out q e h1 (by omega) h3
                case measure => have := HJT.out; simp [intOf]; omega
            · have hji : ¬ (j : Int) ≤ (i : Int) := by omega
              obtain ⟨dl, hdl, hdz⟩ := HDL.out
              have hlj : l < j := by have := HL.out; have := HKT.out; omega
              have hje : j = i + 1 := by have := HL.out; omega
              have hla : lastP ((qsOf ds).take (i + 1)) dl.slot = some dl.blk := last_at hdl (by omega) (fun q e h1 h2 h3 => by rw [hdz]; exact HNO.out q e h1 (by omega) h3)
              rw [hdz] at hla
              have hcx : byL (upC C' d.slot y) z = some dl.blk.l := by rw [HCL.out]; unfold byL; rw [hla]; rfl
              obtain ⟨x, hx, hxl⟩ := Option.map_eq_some_iff.1 (show (upC C' d.slot y z).map (·.l) = some dl.blk.l from hcx)
              have hll : l < ds.length := (List.getElem?_eq_some_iff.1 hdl).1
              have hlli : (l : Int) < (ds.length : Int) := by omega
              obtain ⟨g2, o2, e2, hcl⟩ := HSCk.out.lies.1.at_ hll
              injection e2 with e2
              injection e2 with e3 e4
              subst e3 e4
              have hdl' : ds[l] = dl := by rw [List.getElem?_eq_getElem hll] at hdl; injection hdl
              rw [hdl'] at hcl
              have clk := hcl 2 _ rfl
              unfold bvv at clk
              have HKr := Lib.hid (HCk.out.trans (Chg.of (F := [gm, pr]) HBR.out) (fun x hx => .inl hx))
              have HVr := Lib.hid (HVk.out.below HBR.out)
              have HFr := Lib.hid (HFk.out.kept HBR.out)
              have hdlm : dl ∈ ds := List.mem_of_getElem? hdl
              have HHL := Lib.hid ((HSCk.out.hol dl hdlm).1)
              have HLL := Lib.hid (HSCk.out.len dl hdlm)
              have HXL := Lib.hid hxl
              have HXS := Lib.hid (p := seeF (upC C' d.slot y) (srcF Bs Ks) z = some x) (by unfold seeF; rw [hx])
              have HGB := Lib.hid (p := ¬ g = pr) (fun e => by
                have h1 := HB.out.2
                rcases HSCk.out.lies.2 with h2 | h2
                · rw [h2] at hll
                  simp at hll
                · have h3 : g < b := h2 ⟨g, o, none⟩ rfl
                  omega)
              have HI64 := Lib.hid (p := I64 z) (by rw [← hdz]; exact HSC.out.i64 dl hdlm)
              rename World => wz
              have cvz : wz.cell? ⟨pv, 0, none⟩ = some (.pointer (some ⟨gv, 0, none⟩)) := (HBR.out.cell (p := ⟨pv, 0, none⟩) (World.block_lt_of_cell? wk _ cv)).trans cv
              have clz : wz.cell? ⟨g, o + l * 3 + 2, none⟩ = some (.slice dl.blk.A dl.blk.l.length dl.blk.c) := (HBR.out.cell (p := ⟨g, o + l * 3 + 2, none⟩) (World.block_lt_of_cell? wk _ clk)).trans clk
              have cfz : wz.cell? ⟨pr, 0, none⟩ = some (.bool true) := (HFr.out.cell 0).trans rfl
              have HHLz := Lib.hid (HHL.out.below HBR.out)
              obtain ⟨_, _, _, hsz, _⟩ := HK.out wz HKr.out
              have HSz := Lib.hid hsz
              have HCS := Lib.hid (p := ∀ W, Below wz.heap.size wz W → W.cell? ⟨pv, 0, none⟩ = some (.pointer (some ⟨gv, 0, none⟩)) ∧ W.cell? ⟨pd, 0, none⟩ = some (.slice (some ⟨g, o, none⟩) ds.length c) ∧ W.cell? ⟨g, o + k * 3 + 1, none⟩ = some (.int .i64 z) ∧ W.cell? ⟨g, o + l * 3 + 2, none⟩ = some (.slice dl.blk.A dl.blk.l.length dl.blk.c) ∧ W.cell? ⟨pr, 0, none⟩ = some (.bool true)) (fun W hb =>
                ⟨(hb.cell (p := ⟨pv, 0, none⟩) (World.block_lt_of_cell? wz _ cvz)).trans cvz, (hb.cell (p := ⟨pd, 0, none⟩) (World.block_lt_of_cell? wz _ cdr)).trans cdr, (hb.cell (p := ⟨g, o + k * 3 + 1, none⟩) (World.block_lt_of_cell? wz _ ckr)).trans ckr, (hb.cell (p := ⟨g, o + l * 3 + 2, none⟩) (World.block_lt_of_cell? wz _ clz)).trans clz, (hb.cell (p := ⟨pr, 0, none⟩) (World.block_lt_of_cell? wz _ cfz)).trans cfz⟩)
              clear hj hdl hdz hla hcx hx hxl hll hcl hdl' hdlm clk cd ck1 hsz cv
              go_wp2
              refine wp_region_held_drew (S := fun W => W.cell? ⟨pv, 0, none⟩ = some (.pointer (some ⟨gv, 0, none⟩)) ∧ W.cell? ⟨pd, 0, none⟩ = some (.slice (some ⟨g, o, none⟩) ds.length c) ∧ W.cell? ⟨g, o + k * 3 + 1, none⟩ = some (.int .i64 z) ∧ W.cell? ⟨g, o + l * 3 + 2, none⟩ = some (.slice dl.blk.A dl.blk.l.length dl.blk.c) ∧ W.cell? ⟨pr, 0, none⟩ = some (.bool true)) (by kernel_rfl) (HCS.out _ (below_drw wz)) (fun hHeld => ?_)
              refine wpAnyH_take (i := 0) (oi := ⟨some 49, .load 4 (.tmp 2), _, _, _, _⟩) (v := .bool true) rfl (by kernel_rfl) (by kernel_rfl) (by kernel_rfl) (fun _ _ _ h => h) (.inl ⟨by rfl, fun w hSw => by have z := hSw.2.2.2.2; go_simp⟩) (by assumption) ?_
              simp only [Act.put, List.setIfInBounds_toArray, List.set_cons_zero, List.set_cons_succ]
              refine wpAnyH_take (i := 1) (oi := ⟨some 50, .move (.tmp 49), _, _, _, _⟩) (v := .bool true) rfl (by kernel_rfl) (by kernel_rfl) (by kernel_rfl) (fun _ _ _ h => h) (.inl ⟨by rfl, fun w hSw => by go_simp⟩) (by assumption) ?_
              simp only [Act.put, List.setIfInBounds_toArray, List.set_cons_zero, List.set_cons_succ]
              refine wpAnyH_take (i := 2) (oi := ⟨some 51, .load 30 (.tmp 1), _, _, _, _⟩) (v := .pointer (some ⟨gv, 0, none⟩)) rfl (by kernel_rfl) (by kernel_rfl) (by kernel_rfl) (fun _ _ _ h => h) (.inl ⟨by rfl, fun w hSw => by have z := hSw.1; go_simp⟩) (by assumption) ?_
              simp only [Act.put, List.setIfInBounds_toArray, List.set_cons_zero, List.set_cons_succ]
              refine wpAnyH_take (i := 3) (oi := ⟨some 52, .load 26 (.tmp 0), _, _, _, _⟩) (v := .slice (some ⟨g, o, none⟩) ds.length c) rfl (by kernel_rfl) (by kernel_rfl) (by kernel_rfl) (fun _ _ _ h => h) (.inl ⟨by rfl, fun w hSw => by have z := hSw.2.1; go_simp⟩) (by assumption) ?_
              simp only [Act.put, List.setIfInBounds_toArray, List.set_cons_zero, List.set_cons_succ]
              refine wpAnyH_take (i := 4) (oi := ⟨some 53, .move (.tmp 4), _, _, _, _⟩) (v := .int .i64 (k : Int)) rfl (by kernel_rfl) (by kernel_rfl) (by kernel_rfl) (fun _ _ _ h => h) (.inl ⟨by rfl, fun w hSw => by go_simp⟩) (by assumption) ?_
              simp only [Act.put, List.setIfInBounds_toArray, List.set_cons_zero, List.set_cons_succ]
              refine wpAnyH_take (i := 5) (oi := ⟨some 54, .indexAddr 26 (.tmp 52) (.tmp 53), _, _, _, _⟩) (v := .pointer (some ⟨g, o + k * 3, none⟩)) rfl (by kernel_rfl) (by kernel_rfl) (by kernel_rfl) (fun _ _ _ h => h) (.inl ⟨by rfl, fun w hSw => by go_simp⟩) (by assumption) ?_
              simp only [Act.put, List.setIfInBounds_toArray, List.set_cons_zero, List.set_cons_succ]
              refine wpAnyH_take (i := 6) (oi := ⟨some 55, .fieldAddr 46 (.tmp 54) 1, _, _, _, _⟩) (v := .pointer (some ⟨g, o + k * 3 + 1, none⟩)) rfl (by kernel_rfl) (by kernel_rfl) (by kernel_rfl) (fun _ _ _ h => h) (.inl ⟨by rfl, fun w hSw => by go_simp⟩) (by assumption) ?_
              simp only [Act.put, List.setIfInBounds_toArray, List.set_cons_zero, List.set_cons_succ]
              refine wpAnyH_take (i := 7) (oi := ⟨some 56, .load 3 (.tmp 55), _, _, _, _⟩) (v := .int .i64 z) rfl (by kernel_rfl) (by kernel_rfl) (by kernel_rfl) (fun _ _ _ h => h) (.inl ⟨by rfl, fun w hSw => by have z := hSw.2.2.1; go_simp⟩) (by assumption) ?_
              simp only [Act.put, List.setIfInBounds_toArray, List.set_cons_zero, List.set_cons_succ]
              refine wpAnyH_take (i := 9) (oi := ⟨some 58, .load 26 (.tmp 0), _, _, _, _⟩) (v := .slice (some ⟨g, o, none⟩) ds.length c) rfl (by kernel_rfl) (by kernel_rfl) (by kernel_rfl) (fun _ _ _ h => h) (.inl ⟨by rfl, fun w hSw => by have z := hSw.2.1; go_simp⟩) (by assumption) ?_
              simp only [Act.put, List.setIfInBounds_toArray, List.set_cons_zero, List.set_cons_succ]
              refine wpAnyH_take (i := 10) (oi := ⟨some 59, .move (.tmp 5), _, _, _, _⟩) (v := .int .i64 (l : Int)) rfl (by kernel_rfl) (by kernel_rfl) (by kernel_rfl) (fun _ _ _ h => h) (.inl ⟨by rfl, fun w hSw => by go_simp⟩) (by assumption) ?_
              simp only [Act.put, List.setIfInBounds_toArray, List.set_cons_zero, List.set_cons_succ]
              refine wpAnyH_take (i := 11) (oi := ⟨some 60, .indexAddr 26 (.tmp 58) (.tmp 59), _, _, _, _⟩) (v := .pointer (some ⟨g, o + l * 3, none⟩)) rfl (by kernel_rfl) (by kernel_rfl) (by kernel_rfl) (fun _ _ _ h => h) (.inl ⟨by rfl, fun w hSw => by go_simp⟩) (by assumption) ?_
              simp only [Act.put, List.setIfInBounds_toArray, List.set_cons_zero, List.set_cons_succ]
              refine wpAnyH_take (i := 12) (oi := ⟨some 61, .fieldAddr 46 (.tmp 60) 2, _, _, _, _⟩) (v := .pointer (some ⟨g, o + l * 3 + 2, none⟩)) rfl (by kernel_rfl) (by kernel_rfl) (by kernel_rfl) (fun _ _ _ h => h) (.inl ⟨by rfl, fun w hSw => by go_simp⟩) (by assumption) ?_
              simp only [Act.put, List.setIfInBounds_toArray, List.set_cons_zero, List.set_cons_succ]
              refine wpAnyH_take (i := 13) (oi := ⟨some 62, .load 44 (.tmp 61), _, _, _, _⟩) (v := .slice dl.blk.A dl.blk.l.length dl.blk.c) rfl (by kernel_rfl) (by kernel_rfl) (by kernel_rfl) (fun _ _ _ h => h) (.inl ⟨by rfl, fun w hSw => by have z := hSw.2.2.2.1; go_simp⟩) (by assumption) ?_
              simp only [Act.put, List.setIfInBounds_toArray, List.set_cons_zero, List.set_cons_succ]
              refine wpAnyH_ready (rs := [8]) (by kernel_rfl) (by simp) ?_
              refine AllReadyH.cons (o := ⟨some 57, .call ⟨.value (.func 22), #[.tmp 51, .tmp 56], _⟩, _, _, _, _⟩) rfl (fun K hK => ?_) AllReadyH.nil
              go_simp
              go_at_call 22
              refine (vsee (HVr.out.below (below_drw wz)) (HSz.out.keep ((below_drw wz).mono (Nat.le_trans HB.out.1 HKr.out.size))) z HI64.out x HXS.out).mono ?_
              rintro e w5 ⟨y5, rfl, hy5, ho5, hb5⟩
              have HB5 := Lib.hid ((below_drw wz).trans hb5.out)
              have HY5 := Lib.hid (hy5.out.trans HXL.out)
              have HO5 := Lib.hid ho5.out.hol
              clear hy5 ho5 hb5
              refine hK.out _ _ (HCS.out _ HB5.out) (fun hH5 => ?_)
              clear hK K
              refine wpAnyH_ready (rs := [14]) (by kernel_rfl) (by simp) ?_
              refine AllReadyH.cons (o := ⟨some 63, .call ⟨.value (.func 21), #[.tmp 57, .tmp 62], _⟩, _, _, _, _⟩) rfl (fun K hK => ?_) AllReadyH.nil
              go_simp
              go_at_call 21
              refine (bytes_same y5 dl.blk w5 HO5.out (HHLz.out.below HB5.out) HY5.out (by rw [HY5.out]; exact HLL.out)).mono ?_
              rintro e w6 ⟨rfl, hb6⟩
              have HB6 := Lib.hid (HB5.out.trans (hb6.mono HB5.out.size))
              clear hb6
              refine hK.out _ _ (HCS.out _ HB6.out) (fun hH6 => ?_)
              clear hK K
              refine wpAnyH_take (i := 15) (oi := ⟨some 64, .pick (.tmp 50) (.tmp 63) (.const (.bool false)), _, _, _, _⟩) (v := .bool true) rfl (by kernel_rfl) (by kernel_rfl) (by kernel_rfl) (fun _ _ _ h => h) (.inl ⟨by rfl, fun w hSw => by go_simp⟩) (by assumption) ?_
              simp only [Act.put, List.setIfInBounds_toArray, List.set_cons_zero, List.set_cons_succ]
              refine wpAnyH_ready (rs := [16]) (by kernel_rfl) (by simp) ?_
              refine AllReadyH.cons (o := ⟨none, .store 4 (.tmp 2) (.tmp 64), _, _, _, _⟩) rfl (fun K hK => ?_) AllReadyH.nil
              have HF6 := Lib.hid (HFr.out.kept HB6.out)
              have c6 : w6.cell? ⟨pr, 0, none⟩ = some (.bool true) := (HF6.out.cell 0).trans rfl
              have f6 := HF6.out.free 0
              have hc67 : Chg [pr] w6 (w6.setCell ⟨pr, 0, none⟩ (.bool true)) := (Chg.refl [pr] w6).setCell (p := ⟨pr, 0, none⟩) (.inl (by simp)) _
              obtain ⟨s1, s2, s3, s4, _⟩ := HCS.out _ HB6.out
              have hz7 := And.intro (hc67.cell s1 (by simp; exact HNE.out.1)) (And.intro (hc67.cell s2 (by simp; exact HNE.out.2.1)) (And.intro (hc67.cell s3 (by simp; exact HGB.out)) (And.intro (hc67.cell s4 (by simp; exact HGB.out)) (((HF6.out.put 0 (.bool true)).cell 0).trans rfl))))
              have HC67 := Lib.hid hc67
              clear hc67 s1 s2 s3 s4
              go_simp
              refine hK.out _ _ hz7 (fun hH7 => ?_)
              clear hK K
              refine wpAnyH_done (by kernel_rfl) ?_ _
              clear hz7 c6 f6
              go_wp2
              go_roundw
              case rel =>
                have hN : NoBytes w6 [pr] := fun j hj cs fr => by rw [List.mem_singleton] at hj; subst hj; exact row_noB HF6.out (by decide) _ _
                have hv7 := (HVr.out.below HB6.out).keepN HC67.out (by simp; exact HNE.out.2.2.2.1) (by simp; exact HNE.out.2.2.2.2.1) hN
                have hc7 : Chg [gm, pr] w1 (w6.setCell ⟨pr, 0, none⟩ (.bool true)) := (HKr.out.trans (Chg.of (F := [gm, pr]) HB6.out) (fun x hx => .inl hx)).trans HC67.out (fun x hx => .inl (by simp at hx; simp [hx]))
                exact ⟨k + 1, Lib.hid (by have := HKT.out; omega), by go_num, Lib.hid hv7, Lib.hid (HF6.out.put 0 _), Lib.hid hc7⟩
              case measure => have := HKT.out; simp [intOf]; omega
        · have hki : ¬ (k : Int) ≤ (i : Int) := by omega
          clear hk hrr hss hcc
          go_wp2
          go_roundw
          case rel => exact ⟨i + 1, n' + 1, upC C' d.slot y, Lib.hid HIT.out, by go_num, HVk, Lib.hid (by have := HN.out; omega), HCL, HFk, HCk⟩
          case measure => have := HIT.out; simp [intOf]; omega
    · have hii : ¬ (i : Int) < (ds.length : Int) := by omega
      have hie : i = ds.length := by have := HI.out; omega
      have HIE := Lib.hid hie
      clear hi hie hss hcc hcv
      go_wp2
      go_end0
      refine .inl ⟨rfl, n', C', HV.out, by have := HN.out; have := HIE.out; have := HSC.out.lim; omega, hrr, HCH.out, (HF.out.cell 0).trans rfl, ?_⟩
      rw [HC.out, HIE.out, List.take_of_length_le (by unfold qsOf; rw [List.length_map]; exact Nat.le_refl _)]
end
end Go.Proofs.Ytpobppoaidngeaa
