/- The function that the law DeskInodes runs. Conditions: those named. -/
import Derived.Test.YtfbfeplegdpemaaGreatMgOh
import Derived.Test.YtfbfeplegdpemaaGreatMgFg
import Derived.Test.YtfbfeplegdpemaaGreatJf
import Derived.BigQuiet
import Derived.Deep.QuietTactic
import Derived.StillTailTactics
import Derived.Deep.CutRange
import Derived.Deep.CutBlock
set_option linter.unusedVariables false
set_option maxRecDepth 20000
namespace Go.Proofs.YtfbfeplegdpemaaGreat
open Go.RowKit

section
variable {b : Nat} {w w' : World} {gv gm gs r pv pd pe pr : Nat} {Bs : List BV} {n : Nat}
set_option maxHeartbeats 32000000 in
theorem inodes1 {DA EA : Option Addr} {dl dc el ec : Nat} {l e8 : L8} (h : VV b w gv gm gs (some ⟨r, 0, none⟩) 0 fun _ => none) (hb : b ≤ w.heap.size) (hrb : b ≤ r) (hr : Row w r 83 (rcs false 0)) (hp : Row w pv 28 [.pointer (some ⟨gv, 0, none⟩)]) (hpd : Row w pd 22 [.slice DA dl dc]) (hpr : Row w pr 4 [.bool true]) (hpe : Row w pe 22 [.slice EA el ec]) (hs : Src b w gs Bs) (hB : Bs.length = 256 ∧ ∀ x ∈ Bs, x.l = List.replicate 256 0) (hbp : b ≤ pr) (hD : HolB b w DA l) (hE : HolB b w EA e8) (hdl : l.length = dl ∧ dl ≤ dc) (hel : e8.length = el ∧ el ≤ ec) :
    Calls Tryz.prog 20 #[.pointer (some ⟨pv, 0, none⟩), .pointer (some ⟨pd, 0, none⟩), .pointer (some ⟨pr, 0, none⟩), .pointer (some ⟨pe, 0, none⟩)] w (FunP b gv gm gs r [gm, pr] (fun _ C' w2 => w2.cell? ⟨pr, 0, none⟩ = some (.bool true)) (fun _ _ => False) w) := by
  obtain ⟨ti, U⟩ := u8_tab
  have HNEW := Lib.hid (p := ∀ w, Calls Tryz.prog 13 #[.pointer (some ⟨gv, 0, none⟩), .int .i64 256] w fun e w' => ∃ gd, e = .returned (.pointer (some ⟨gd, 0, none⟩)) ∧ Hid (Row w' gd 88 (dcs gv 256 (bkcs false sup0 sup0) (bkcs false sup0 sup0) false (-1))) ∧ Hid (w.heap.size ≤ gd) ∧ Hid (Below w.heap.size w w')) (fun w => dnew gv 256 w)
  have H := Lib.hid h
  have HR := Lib.hid hr
  have HPR := Lib.hid hpr
  have HS := Lib.hid hs
  have HB := Lib.hid hB
  have HPV := Lib.hid hp
  have HPD := Lib.hid hpd
  have HPE := Lib.hid hpe
  have HD := Lib.hid hD
  have HE := Lib.hid hE
  have HDL := Lib.hid hdl
  have HEL := Lib.hid hel
  have HLO := Lib.hid (p := b ≤ w.heap.size ∧ b ≤ r ∧ b ≤ pr ∧ b ≤ gm) ⟨hb, hrb, hbp, h.lo.2⟩
  have HLT := Lib.hid (p := gm < w.heap.size ∧ pr < w.heap.size ∧ pr ≠ gm) ⟨h.map.lt, hpr.lt, fun e => h.map.no_cells _ _ _ (e ▸ hpr.heap)⟩
  have HNE := Lib.hid (p := (pd ≠ gm ∧ pd ≠ pr) ∧ (pe ≠ gm ∧ pe ≠ pr) ∧ (pv ≠ gm ∧ pv ≠ pr)) ⟨⟨fun e => h.map.no_cells _ _ _ (e ▸ hpd.heap), hpd.ne_ hpr (by decide)⟩, ⟨fun e => h.map.no_cells _ _ _ (e ▸ hpe.heap), hpe.ne_ hpr (by decide)⟩, ⟨fun e => h.map.no_cells _ _ _ (e ▸ hp.heap), hp.ne_ hpr (by decide)⟩⟩
  have i2 := Lib.hid (fun v => info_ncs v)
  have i3 := Lib.hid (fun k s => info_ref k s)
  have hzr := Lib.hid zero_ref
  have hzi := Lib.hid zero_ino
  have c0 : w.cell? ⟨pv, 0, none⟩ = some (.pointer (some ⟨gv, 0, none⟩)) := (hp.cell 0).trans rfl
  clear h hr hp hpr hs hB hb hrb hbp hpd hpe hD hE hdl hel
  go_enter Tryz.func20, Tryz.ntmps20
  go_upto_block 0 with (first
    | (go_at_call 13; refine (HNEW.out _).mono ?_; rintro e w2 ⟨gd, rfl, hd, hg, hb⟩
       have G2 := Lib.hid (p := GS b w w2 gd gv gm gs r pr Bs 0 ⟨false, sup0, sup0, byL fun _ => none⟩ (.bool true)) ⟨DK.start H.out HR.out HS.out ⟨HLO.out.2.1, HLO.out.1⟩ hd.out hg.out hb.out, Chg.of hb.out, HPR.out.kept hb.out, hg.out, HLT.out.1, HLT.out.2.1, HLT.out.2.2, HLO.out.1, HLO.out.2.2.1, HLO.out.2.2.2⟩
       have HSZ := src_zero (Bs := Bs) HS.out HB.out (byL fun _ => none) 0 (by decide) rfl
       have HL2 := Lib.hid (p := LdR Bs ⟨false, sup0, sup0, byL fun _ => none⟩ ((⟨false, sup0, sup0, byL fun _ => none⟩ : DX).loaded supN)) (.inr ⟨rfl, _, supN, HSZ, by simp, .inl ⟨zeros_not _ (norm_256 (by simp)), rfl⟩, rfl⟩)
       obtain ⟨X0, hX0⟩ : ∃ X0 : DX, (⟨false, sup0, sup0, byL fun _ => none⟩ : DX) = X0 := ⟨_, rfl⟩
       rw [hX0] at G2 HL2
       clear hd hg hb c0 hX0 HSZ))
  go_cut [5] from 6 to 124 (fun x wx => ∃ (m last n c : Nat) (A : Option Addr) (X X' : DX) (Q : List (Nat × Nat)), x = .slice A m c ∧ Hid (m = Q.length) ∧ Hid (last ≤ 100 ∧ n ≤ 200 ∧ m ≤ 100) ∧ Hid (GS b w wx gd gv gm gs r pr Bs n X (.bool true)) ∧ Hid (LdR Bs X X') ∧ Hid (JI Bs X' last Q) ∧ Hid (wx.ownsRow w.heap.size 37 2 (.slice A m c) m (Q.flatMap qcs)))
  case first =>
    go_wp2_with fail
    go_loopw [5, 6, 7] (fun x y z wr => ∃ (i m last n c : Nat) (A : Option Addr) (X X' : DX) (Q : List (Nat × Nat)), Hid (i ≤ 100) ∧ x = .slice A m c ∧ y = .int .u64 (last : Int) ∧ z = .int .i64 (i : Int) ∧ Hid (m = Q.length) ∧ Hid (last ≤ i ∧ n ≤ 2 * i ∧ m ≤ i) ∧ Hid (GS b w wr gd gv gm gs r pr Bs n X (.bool true)) ∧ Hid (LdR Bs X X') ∧ Hid (JI Bs X' last Q) ∧ Hid (wr.ownsRow w.heap.size 37 2 (.slice A m c) m (Q.flatMap qcs))) (fun _ _ z _ => 100 - (intOf z).toNat)
    case atStart => exact ⟨0, 0, 0, 0, 0, none, X0, X0.loaded supN, [], Lib.hid (by decide), rfl, rfl, rfl, Lib.hid rfl, Lib.hid (by decide), G2, HL2, Lib.hid (JI.start X0), Lib.hid (World.ownsRow_nil _ _ _ _)⟩
    case round =>
      obtain ⟨i, m, last, n, c, A, X, X', Q, HI, rfl, rfl, rfl, HM, HLN, G0, L0, J0, O0⟩ := hrel
      rename World => wo
      have cd0 : wo.cell? ⟨pd, 0, none⟩ = some (.slice DA dl dc) := ((G0.out.base HPD.out HNE.out.1).cell 0).trans rfl
      by_cases hiD : i < dl
      · have hii : (i : Int) < (dl : Int) := by omega
        by_cases hi1 : i < 100
        · have hi100 : (i : Int) < 100 := by omega
          have hiw : IntKind.i64.wrap ((i : Int) + 1) = (i : Int) + 1 := by rw [IntKind.wrap_i64]; omega
          have HI0 := Lib.hid (p := i < 100) hi1
          have HI1 := Lib.hid (p := i + 1 ≤ 100) hi1
          obtain ⟨gD, oD, hDA⟩ : ∃ g o, DA = some ⟨g, o, none⟩ := by
            obtain ⟨g, o, h1, _, _⟩ := (G0.out.data HD.out).at_ (j := i) (by rw [HDL.out.1]; exact hiD)
            exact ⟨g, o, h1⟩
          subst hDA
          obtain ⟨yb, hyb⟩ : ∃ yb : Nat, (l.getD i 0).toNat = yb := ⟨_, rfl⟩
          have HYB := Lib.hid (p := i < l.length ∧ (l.getD i 0).toNat = yb) ⟨by rw [HDL.out.1]; exact hiD, hyb⟩
          have HYL := Lib.hid (p := yb < 256) (by rw [← hyb]; exact UInt8.toNat_lt _)
          clear hyb hiD hi1
          by_cases hf : ∀ j, j < 64 → X'.S.i (j + 1) ≠ 0
          · have HMK := Lib.hid (p := Calls Tryz.prog 14 #[.pointer (some ⟨gd, 0, none⟩), .agg (ncs vG).toArray] wo (DOne b wo gd gv gm gs r Bs 256 n X' (.tuple #[.agg (rfc 0 0).toArray, .int .i64 23]))) (dmake_not vG G0.out.dk L0.out (by have := HLN.out; have := HI0.out; omega) 23 (by decide) (fun W => add_full X'.S 256 hf W))
            have HCN := Lib.hid (p := ∀ w, Calls Tryz.prog 21 #[.agg X'.S.cs.toArray] w fun e w' => e = .returned (.tuple #[.int .i64 (cb X'.S.u 256 : Int), .int .i64 64]) ∧ Below w.heap.size w w') (fun w => by
              have h1 := rcount_any X'.S w
              rw [J0.out.full hf] at h1
              exact h1)
            have HB8 := Lib.hid (p := last ≤ i + 1 ∧ n ≤ 2 * i + 1 ∧ m ≤ i + 1) (by have := HLN.out; omega)
            clear hf
            go_upto_region 13 with (first
              | (refine step_build rfl 44 _ rfl [(0, .int .i64 3), (4, .int .i64 1)] ?hv _ built_link ?_; case hv => (simp [Act.eval, Act.put]))
              | (go_at_call 14; refine HMK.out.mono ?_; rintro e w3 ⟨rfl, hk, hc⟩
                 have G3 := Lib.hid (G0.out.call hk.out hc.out (fun y hy => by simp at hy; exact .inl hy))
                 have O3 := Lib.hid (G0.out.refs O0.out hc.out (fun y hy => by simp at hy; exact .inl hy))
                 clear hk hc cd0)
              | (refine step_alloc rfl 8 rfl 37 rfl _ hzr.out ?_; intro g8 w4 hr2 hg2 hb2 hs2
                 have RAm := Lib.hid hr2
                 have BAm := Lib.hid hb2
                 have LAm := Lib.hid (p := w3.heap.size ≤ g8) (Nat.le_of_eq hg2.out.symm)
                 clear hr2 hg2 hb2 hs2)
              | (refine step_store rfl 37 (.tmp 8) (.tmp 42) rfl g8 rfl _ _ (rfc 0 0) rfl RAm.out rfl (i3.out _ _) (rfc_one _ _) ?_; intro w5 hr9 hg9 hs9
                 have RBm := Lib.hid hr9
                 have BBm := Lib.hid (below_own BAm.out hg9 LAm.out)
                 have G5 := Lib.hid (G3.out.below BBm.out)
                 have O5 := Lib.hid (own_kept O3.out BBm.out)
                 clear hr9 hg9 hs9)
              | (go_at_call 22; refine (dsuper G5.out.dk (.inl ⟨J0.out.rd, rfl⟩) (by have := HLN.out; have := HI0.out; omega)).mono ?_; rintro e w6 ⟨rfl, hk, hc⟩
                 have G6 := Lib.hid (G5.out.call hk.out hc.out (fun y hy => by simp at hy; exact .inl hy))
                 have O6 := Lib.hid (G5.out.refs O5.out hc.out (fun y hy => by simp at hy; exact .inl hy))
                 have R6 := Lib.hid (hc.out.row RBm.out (by have h1 := LAm.out; have h2 := G3.out.dk.lt; simp; omega))
                 clear hk hc)
              | (go_at_call 21; refine (HCN.out _).mono ?_; rintro e w7 ⟨rfl, hb⟩
                 have G7 := Lib.hid (G6.out.below hb)
                 have O7 := Lib.hid (own_kept O6.out hb)
                 have R7 := Lib.hid (R6.out.kept hb)
                 have cp : w7.cell? ⟨pr, 0, none⟩ = some (.bool true) := (G7.out.prr.cell 0).trans rfl
                 have fp := G7.out.prr.free 0
                 clear hb))
            have G8 := Lib.hid (G7.out.put (.bool true))
            have O8 := Lib.hid (G7.out.refp (x' := .bool true) O7.out)
            clear cp fp
            generalize w7.setCell ⟨pr, 0, none⟩ (.bool true) = W8 at G8 O8 ⊢
            have cd : W8.cell? ⟨pd, 0, none⟩ = some (.slice (some ⟨gD, oD, none⟩) dl dc) := ((G8.out.base HPD.out HNE.out.1).cell 0).trans rfl
            have cb : W8.cell? ⟨gD, oD + i, none⟩ = some (.int .u8 (yb : Int)) := G8.out.byte HD.out HYB.out
            have hyw : IntKind.i64.wrap (yb : Int) = (yb : Int) := by rw [IntKind.wrap_i64]; have := HYL.out; omega
            by_cases hm0 : 0 < m
            · have hmi : (0 : Int) < (m : Int) := by omega
              obtain ⟨t3, ht3⟩ : ∃ t3, yb % 3 = t3 := ⟨_, rfl⟩
              have hy1 : Int.tmod (yb : Int) 3 = (t3 : Int) := by rw [Int.tmod_eq_emod_of_nonneg (by omega)]; omega
              have hy2 : (yb : Int) % 3 = (t3 : Int) := by omega
              have hy4 : IntKind.u8.wrap (t3 : Int) = (t3 : Int) := by rw [IntKind.wrap_u8]; omega
              clear ht3
              by_cases hz3 : t3 = 0
              · subst hz3
                have HMP := Lib.hid hm0
                have hm0b : ((m : Int) == 0) = false := beq_false_of_ne (by omega)
                have hm0n : ¬ (m : Int) = 0 := by omega
                obtain ⟨q, hq⟩ : ∃ q, yb % m = q := ⟨_, rfl⟩
                have hqm : q < m := by rw [← hq]; exact Nat.mod_lt _ hm0
                have hq1 : Int.tmod (yb : Int) (m : Int) = (q : Int) := by rw [Int.tmod_eq_emod_of_nonneg (by omega), ← hq]; exact (Int.natCast_emod yb m).symm
                have hq2 : (yb : Int) % (m : Int) = (q : Int) := by rw [← hq]; exact (Int.natCast_emod yb m).symm
                have hqi : (q : Int) < (m : Int) := by omega
                have hqw : IntKind.i64.wrap (q : Int) = (q : Int) := by rw [IntKind.wrap_i64]; have := HYL.out; have := Nat.mod_le yb m; omega
                have HQQ := Lib.hid (p := q < m ∧ m ≤ 101 ∧ n ≤ 201) (by have := HB8.out; have := HI0.out; omega)
                obtain ⟨⟨kp, sp⟩, hqp⟩ : ∃ p, Q[q]? = some p := ⟨_, List.getElem?_eq_getElem (by rw [← HM.out]; exact hqm)⟩
                obtain ⟨r1, r2, r3, r4, z, r5, r6, r7, r8⟩ := J0.out.ref (kp, sp) (List.mem_of_getElem? hqp)
                have HR1 := Lib.hid (p := 1 ≤ kp ∧ kp ≤ 64 ∧ 1 ≤ sp ∧ sp ≤ last ∧ last ≤ 101) ⟨r1, r2, r3, r4, by have := HB8.out; have := HI0.out; omega⟩
                have HR5 := Lib.hid (p := X'.S.i kp = (z : Int) ∧ 0 < z ∧ z < 256 ∧ seeX X' Bs (z : Int) = some (blk sz (vS sp) 27)) ⟨r5, r6, r7, r8⟩
                have HQP := Lib.hid hqp
                clear r1 r2 r3 r4 r5 r6 r7 r8 hqp
                obtain ⟨gR, oR, hAR⟩ := ref_open O8.out (by rw [← HM.out]; exact hm0)
                subst hAR
                have ck : W8.cell? ⟨gR, oR + q * 2, none⟩ = some (.int .i64 (kp : Int)) := ref_k O8.out HQP.out
                clear hq hm0 hqm
                go_upto_region 18 with (first
                  | (go_at_call 23; refine (ddrop kp z (vS sp) (rowD (vS sp)) ⟨HR1.out.1, HR1.out.2.1⟩ G8.out.dk (.inl ⟨J0.out.rd, rfl⟩) HR5.out.1 ⟨HR5.out.2.1, HR5.out.2.2.1⟩ (blk sz (vS sp) 27) HR5.out.2.2.2 (by rw [blk_vS]; decide) 0 (by rw [norm_256 (blk_vS sp)]; exact iV_blk _ (vS_may sp (by have := HR1.out; omega)) (vS_wf sp (by have := HR1.out; omega))) (rowok_direct _ _ (.inr (vS_26 sp))) (fun j _ => by rw [vS_row]; decide) (by rw [vS_26]; decide) n (by rw [gvs_zero _ _ (vS_row sp), vS_26]; rfl) (by have := HQQ.out; omega) (X1 := X'.give z) (by rw [gives_zero _ _ _ (vS_row sp), vS_26]; rfl) (by show X'.S.i kp ≠ 0; rw [HR5.out.1]; have := HR5.out; omega)).mono ?_; rintro e w21 ⟨rfl, hk, hc⟩
                     have G21 := Lib.hid (p := GS b w w21 gd gv gm gs r pr Bs (n + 1) (X'.drops kp z) (.bool true)) (G8.out.call hk.out hc.out (fun y hy => by simp at hy; exact hy))
                     have O21 := Lib.hid (G8.out.refs O8.out hc.out (fun y hy => by simp at hy; rcases hy with rfl | rfl; exact .inl rfl; exact .inr (.inl rfl)))
                     have J21 := Lib.hid (J0.out.drop HQP.out HR5.out.1)
                     clear hk hc ck)
                  | (refine wpList_load_mid rfl 37 (.tmp 105) rfl gR (oR + q * 2) rfl (rfc kp sp) _ (ref_at O21.out HQP.out) Tryz.underlying37 rfl (i3.out _ _) ?_)
                  | (go_at_call 15; refine (dget_none kp sp ⟨HR1.out.1, HR1.out.2.1⟩ G21.out.dk (.inl ⟨J21.out.1.rd, rfl⟩) (by have := HQQ.out; omega) J21.out.2).mono ?_; rintro e w22 ⟨rfl, hk, hc⟩
                     have G22 := Lib.hid (G21.out.call hk.out hc.out (fun y hy => by simp at hy; exact .inl hy))
                     have O22 := Lib.hid (G21.out.refs O21.out hc.out (fun y hy => by simp at hy; exact .inl hy))
                     clear hk hc)
                  | (refine step_alloc rfl 13 rfl 44 rfl _ hzi.out ?_; intro g13 w23 hr2 hg2 hb2 hs2
                     have RAa := Lib.hid hr2
                     have BAa := Lib.hid hb2
                     have LAa := Lib.hid (p := w22.heap.size ≤ g13) (Nat.le_of_eq hg2.out.symm)
                     clear hr2 hg2 hb2 hs2)
                  | (refine step_store rfl 44 (.tmp 13) (.tmp 108) rfl g13 rfl _ _ (ncs ino0) rfl RAa.out rfl (i2.out _) (ncs_one _) ?_; intro w24 hr9 hg9 hs9
                     have RBa := Lib.hid hr9
                     have BBa := Lib.hid (below_own BAa.out hg9 LAa.out)
                     have G24 := Lib.hid (G22.out.below BBa.out)
                     have O24 := Lib.hid (own_kept O22.out BBa.out)
                     have cp : w24.cell? ⟨pr, 0, none⟩ = some (.bool true) := (G24.out.prr.cell 0).trans rfl
                     have fp := G24.out.prr.free 0
                     clear hr9 hg9 hs9))
                have G25 := Lib.hid (G24.out.put (.bool true))
                have O25 := Lib.hid (G24.out.refp (x' := .bool true) O24.out)
                clear cp fp
                generalize w24.setCell ⟨pr, 0, none⟩ (.bool true) = W25 at G25 O25 ⊢
                obtain ⟨q1, hq1e⟩ : ∃ q1, q + 1 = q1 := ⟨_, rfl⟩
                have HQ1 := Lib.hid hq1e
                have hq1w : IntKind.i64.wrap ((q : Int) + 1) = (q1 : Int) := by rw [IntKind.wrap_i64]; have := HQQ.out; omega
                obtain ⟨A1, c1, hlow, hlsrc⟩ := rcut_low (some ⟨gR, oR, none⟩) m c q1 (by have := HQQ.out; omega) (own_capm O25.out)
                obtain ⟨c2, hhigh, hhsrc⟩ := rcut_high (some ⟨gR, oR, none⟩) m c q (by have := HQQ.out; omega) (own_capm O25.out)
                have HLS1 := Lib.hid hlsrc
                have HHS1 := Lib.hid hhsrc
                have HOD := Lib.hid (own_kept O25.out (below_drw W25))
                have HBW := Lib.hid (p := w.heap.size ≤ W25.heap.size) (by have h1 := G25.out.lo; have h2 := G25.out.dk.lt; omega)
                clear hlsrc hhsrc hq1e
                refine wp_region_held_drew (S := fun _ => True) (by kernel_rfl) trivial (fun hHeld => ?_)
                refine wpAnyH_take (i := 1) (oi := ⟨some 116, .move (.tmp 5), _, _, _, _⟩) (v := .slice (some ⟨gR, oR, none⟩) m c) rfl (by kernel_rfl) (by kernel_rfl) (by kernel_rfl) (fun _ _ _ h => h) (.inl ⟨by rfl, fun w hSw => by go_simp⟩) (by assumption) ?_
                simp only [Act.put, List.setIfInBounds_toArray, List.set_cons_zero, List.set_cons_succ]
                refine wpAnyH_take (i := 2) (oi := ⟨some 117, .move (.tmp 12), _, _, _, _⟩) (v := .int .i64 (q : Int)) rfl (by kernel_rfl) (by kernel_rfl) (by kernel_rfl) (fun _ _ _ h => h) (.inl ⟨by rfl, fun w hSw => by go_simp⟩) (by assumption) ?_
                simp only [Act.put, List.setIfInBounds_toArray, List.set_cons_zero, List.set_cons_succ]
                refine wpAnyH_take (i := 3) (oi := ⟨some 118, .slice 52 (.tmp 116) none (some (.tmp 117)) none, _, _, _, _⟩) (v := .slice (some ⟨gR, oR, none⟩) q c2) rfl (by kernel_rfl) (by kernel_rfl) (by kernel_rfl) (fun _ _ _ h => h) (.inl ⟨by rfl, fun w hSw => by go_simp⟩) (by assumption) ?_
                simp only [Act.put, List.setIfInBounds_toArray, List.set_cons_zero, List.set_cons_succ]
                refine wpAnyH_take (i := 5) (oi := ⟨some 120, .move (.tmp 5), _, _, _, _⟩) (v := .slice (some ⟨gR, oR, none⟩) m c) rfl (by kernel_rfl) (by kernel_rfl) (by kernel_rfl) (fun _ _ _ h => h) (.inl ⟨by rfl, fun w hSw => by go_simp⟩) (by assumption) ?_
                simp only [Act.put, List.setIfInBounds_toArray, List.set_cons_zero, List.set_cons_succ]
                refine wpAnyH_take (i := 6) (oi := ⟨some 121, .move (.tmp 12), _, _, _, _⟩) (v := .int .i64 (q : Int)) rfl (by kernel_rfl) (by kernel_rfl) (by kernel_rfl) (fun _ _ _ h => h) (.inl ⟨by rfl, fun w hSw => by go_simp⟩) (by assumption) ?_
                simp only [Act.put, List.setIfInBounds_toArray, List.set_cons_zero, List.set_cons_succ]
                refine wpAnyH_take (i := 7) (oi := ⟨some 122, .binOp .add 3 (.tmp 121) (.const (.int .i64 1)) 3, _, _, _, _⟩) (v := .int .i64 (q1 : Int)) rfl (by kernel_rfl) (by kernel_rfl) (by kernel_rfl) (fun _ _ _ h => h) (.inl ⟨by rfl, fun w hSw => by go_simp⟩) (by assumption) ?_
                simp only [Act.put, List.setIfInBounds_toArray, List.set_cons_zero, List.set_cons_succ]
                refine wpAnyH_take (i := 8) (oi := ⟨some 123, .slice 52 (.tmp 120) (some (.tmp 122)) none none, _, _, _, _⟩) (v := .slice A1 (m - q1) c1) rfl (by kernel_rfl) (by kernel_rfl) (by kernel_rfl) (fun _ _ _ h => h) (.inl ⟨by rfl, fun w hSw => by go_simp⟩) (by assumption) ?_
                simp only [Act.put, List.setIfInBounds_toArray, List.set_cons_zero, List.set_cons_succ]
                refine wpAnyH_ready (rs := [0]) (by kernel_rfl) (by simp) ?_
                refine AllReadyH.cons (o := ⟨some 115, .buildSlice 52 0 #[], _, _, _, _⟩) rfl (fun K hK => ?_) AllReadyH.nil
                have HBE := Lib.hid (p := Below W25.heap.size W25 (W25.drew.alloc (.cells #[] 37))) ((below_drw W25).alloc (Nat.le_refl _) _)
                refine st_bs0 (by rfl) rfl ?_
                refine hK.out _ _ trivial (fun hH4 => ?_)
                clear hK K
                refine wpAnyH_ready (rs := [4]) (by kernel_rfl) (by simp) ?_
                refine AllReadyH.cons (o := ⟨some 119, .call ⟨.builtin .append, #[.tmp 115, .tmp 118], #[52, 52]⟩, _, _, _, _⟩) rfl (fun K hK => ?_) AllReadyH.nil
                refine step_join (by rfl) (.tmp 115) (.tmp 118) rfl rec_ref w.heap.size (.slice (some ⟨W25.heap.size, 0, none⟩) 0 0) 0 [] rfl (void_own W25.drew _ 2 _ HBW.out) (some ⟨gR, oR, none⟩) q c2 ((Q.take q).flatMap qcs) rfl (by rw [flat_len qcs_len, List.length_take, ← HM.out, Nat.min_eq_left (by have := HQQ.out; omega)]) (HHS1.out _ _ Q (own_kept O25.out HBE.out)) (flat_one qcs_one _) (by have := HQQ.out; omega) (by have := HBE.out.size; have := HBW.out; omega) ?_
                intro v2 w2x ho2 hg2 hat2
                have hb2 : Below W25.heap.size W25 w2x := HBE.out.grown hg2 HBE.out.size (fun q' hq' => by have h0 : some W25.heap.size = some q' := hq'; injection h0 with h0; omega)
                rw [Nat.zero_add, List.nil_append] at ho2
                obtain ⟨A2, c3, rfl⟩ := own_sl ho2
                have HB2 := Lib.hid hb2
                have HO2 := Lib.hid ho2
                have HG2 := Lib.hid (p := ∀ q', (Value.slice A2 q c3).ownBlock = some q' → W25.heap.size ≤ q') (fun q' hq' => by
                  rcases hat2 with h | h
                  · rw [h] at hq'
                    have h0 : some W25.heap.size = some q' := hq'
                    injection h0 with h0
                    omega
                  · rw [h] at hq'
                    injection hq' with hq'
                    have h1 := HBE.out.size
                    omega)
                clear ho2 hg2 hat2 hb2
                refine hK.out _ _ trivial (fun hH8 => ?_)
                clear hK K
                refine wpAnyH_ready (rs := [9]) (by kernel_rfl) (by simp) ?_
                refine AllReadyH.cons (o := ⟨some 124, .call ⟨.builtin .append, #[.tmp 119, .tmp 123], #[52, 52]⟩, _, _, _, _⟩) rfl (fun K hK => ?_) AllReadyH.nil
                refine step_join (by rfl) (.tmp 119) (.tmp 123) rfl rec_ref w.heap.size (.slice A2 q c3) q ((Q.take q).flatMap qcs) rfl HO2.out A1 (m - q1) c1 ((Q.drop q1).flatMap qcs) rfl (by rw [flat_len qcs_len, List.length_drop, HM.out]) (HLS1.out _ _ Q (own_kept O25.out HB2.out)) (flat_one qcs_one _) (by have := HQQ.out; omega) (by have := HB2.out.size; have := HBW.out; omega) ?_
                intro v3 w3x ho3 hg3 hat3
                have hb3 : Below W25.heap.size W25 w3x := HB2.out.grown hg3 HB2.out.size (fun q' hq' => HG2.out q' hq')
                obtain ⟨A3, c4, rfl⟩ := own_sl ho3
                have HO3 := Lib.hid ho3
                have G26 := Lib.hid (G25.out.below hb3)
                clear ho3 hg3 hat3 hb3
                refine hK.out _ _ trivial (fun hH9 => ?_)
                clear hK K
                refine wpAnyH_take (i := 10) (oi := ⟨some 5, .assign (.tmp 124), _, _, _, _⟩) (v := .slice A3 (q + (m - q1)) c4) rfl (by kernel_rfl) (by kernel_rfl) (by kernel_rfl) (fun _ _ _ h => h) (.inl ⟨by rfl, fun w hSw => by go_simp⟩) (by assumption) ?_
                simp only [Act.put, List.setIfInBounds_toArray, List.set_cons_zero, List.set_cons_succ]
                refine wpAnyH_done (by kernel_rfl) ?_ _
                have HLQ := Lib.hid (p := q + (m - q1) = (Q.take q ++ Q.drop q1).length) (by rw [List.length_append, List.length_take, List.length_drop, ← HM.out, Nat.min_eq_left (by have := HQQ.out; omega)])
                have HO9 := Lib.hid (p := w3x.ownsRow w.heap.size 37 2 (.slice A3 (q + (m - q1)) c4) (q + (m - q1)) ((Q.take q ++ Q.drop q1).flatMap qcs)) (by rw [List.flatMap_append]; exact HO3.out)
                go_wp2
                go_roundw
                case rel => exact ⟨i + 1, q + (m - q1), last, n + 1, c4, A3, X'.drops kp z, X'.drops kp z, Q.take q ++ Q.drop q1, HI1, rfl, rfl, by go_num, HLQ, Lib.hid (by have := HB8.out; have := HQQ.out; have := HQ1.out; omega), G26, Lib.hid (.inl ⟨J21.out.1.rd, rfl⟩), Lib.hid (by rw [← HQ1.out]; exact J21.out.1), HO9⟩
                case measure => have := HI0.out; simp [intOf]; omega
              · have ht1 : ((t3 : Int) == 0) = false := beq_false_of_ne (by omega)
                have ht2 : ¬ (t3 : Int) = 0 := by omega
                clear hz3 hm0
                go_wp2
                go_roundw
                case rel => exact ⟨i + 1, m, last, n, c, A, X', X', Q, HI1, rfl, rfl, by go_num, HM, Lib.hid (by have := HB8.out; omega), G8, Lib.hid (.inl ⟨J0.out.rd, rfl⟩), J0, O8⟩
                case measure => have := HI0.out; simp [intOf]; omega
            · have hmi : ¬ (0 : Int) < (m : Int) := by omega
              clear hm0
              go_wp2
              go_roundw
              case rel => exact ⟨i + 1, m, last, n, c, A, X', X', Q, HI1, rfl, rfl, by go_num, HM, Lib.hid (by have := HB8.out; omega), G8, Lib.hid (.inl ⟨J0.out.rd, rfl⟩), J0, O8⟩
              case measure => have := HI0.out; simp [intOf]; omega
          · obtain ⟨k, s, hk1, hk0, hkb, hs1, hs0, hsb, hJ⟩ := J0.out.make hf
            obtain ⟨X9, hX9⟩ : ∃ X9, (X'.setS ((((X'.S.setU s true).setI (k + 1) (s : Int))).setS (last + 1 + 1))).put (s : Int) (blk sz (vS (last + 1)) 27) = X9 := ⟨_, rfl⟩
            rw [hX9] at hJ
            have J9 := Lib.hid hJ
            have HLB := Lib.hid (p := last + 1 ≤ 101 ∧ k < 64) ⟨by have := HLN.out; have := HI0.out; omega, hk1⟩
            have HMK := Lib.hid (p := Calls Tryz.prog 14 #[.pointer (some ⟨gd, 0, none⟩), .agg (ncs vG).toArray] wo (fun e w' => e = .returned (.tuple #[.agg (rfc (k + 1) (last + 1)).toArray, .int .i64 0]) ∧ Hid (DK b w' gd gv gm gs r Bs 256 (n + 1) X9) ∧ Hid (Chg [gd, gm] wo w'))) (by
              have h1 := dmake_ok vG G0.out.dk L0.out (by have := HLN.out; have := HI0.out; omega) ((X'.S.setU s true).setI (k + 1) (s : Int)) (k + 1) s (last + 1) (by omega) hs1 ⟨J0.out.s, at1_same _ _ _⟩ (by have := HLB.out; omega) (fun W => add_ok X'.S 256 k s hk1 hk0 hkb hs1 (by omega) hs0 hsb W) (vS (last + 1)) rfl (vS_may _ (by omega)) (vS_wf _ (by have := HLB.out; omega))
              rw [hX9] at h1
              exact h1)
            obtain ⟨n1, hn1⟩ : ∃ n1, cb X9.S.u 256 = n1 := ⟨_, rfl⟩
            obtain ⟨n2, hn2⟩ : ∃ n2, cb X9.S.has 64 = n2 := ⟨_, rfl⟩
            have HCN := Lib.hid (p := ∀ w, Calls Tryz.prog 21 #[.agg X9.S.cs.toArray] w fun e w' => e = .returned (.tuple #[.int .i64 (n1 : Int), .int .i64 (n2 : Int)]) ∧ Below w.heap.size w w') (fun w => by
              have h1 := rcount_any X9.S w
              rw [hn1, hn2] at h1
              exact h1)
            obtain ⟨m9, hm9⟩ : ∃ m9, m + 1 = m9 := ⟨_, rfl⟩
            obtain ⟨la9, hla9⟩ : ∃ la9, last + 1 = la9 := ⟨_, rfl⟩
            rw [hla9] at HMK J9 HLB
            have hlaw : IntKind.u64.wrap ((last : Int) + 1) = (la9 : Int) := by rw [IntKind.wrap_u64]; have := HLB.out; omega
            have HB8 := Lib.hid (p := la9 ≤ i + 1 ∧ n + 1 ≤ 2 * i + 1 ∧ m9 ≤ i + 1) (by have := HLN.out; omega)
            have HM9 := Lib.hid (p := m9 = (Q ++ [(k + 1, la9)]).length) (by rw [List.length_append, ← HM.out]; exact hm9.symm)
            have HMM := Lib.hid hm9
            clear hf hk1 hk0 hkb hs1 hs0 hsb hJ hX9 hn1 hn2 hm9 hla9
            go_upto_region 11 with (first
              | (refine step_build rfl 44 _ rfl [(0, .int .i64 3), (4, .int .i64 1)] ?hv _ built_link ?_; case hv => (simp [Act.eval, Act.put]))
              | (go_at_call 14; refine HMK.out.mono ?_; rintro e w3 ⟨rfl, hk, hc⟩
                 have G3 := Lib.hid (G0.out.call hk.out hc.out (fun y hy => by simp at hy; exact hy))
                 have O3 := Lib.hid (G0.out.refs O0.out hc.out (fun y hy => by simp at hy; rcases hy with rfl | rfl; exact .inl rfl; exact .inr (.inl rfl)))
                 clear hk hc cd0)
              | (refine step_alloc rfl 8 rfl 37 rfl _ hzr.out ?_; intro g8 w4 hr2 hg2 hb2 hs2
                 have RAm := Lib.hid hr2
                 have BAm := Lib.hid hb2
                 have LAm := Lib.hid (p := w3.heap.size ≤ g8) (Nat.le_of_eq hg2.out.symm)
                 clear hr2 hg2 hb2 hs2)
              | (refine step_store rfl 37 (.tmp 8) (.tmp 42) rfl g8 rfl _ _ (rfc (k + 1) la9) rfl RAm.out rfl (i3.out _ _) (rfc_one _ _) ?_; intro w5 hr9 hg9 hs9
                 have RBm := Lib.hid hr9
                 have BBm := Lib.hid (below_own BAm.out hg9 LAm.out)
                 have G5 := Lib.hid (G3.out.below BBm.out)
                 have O5 := Lib.hid (own_kept O3.out BBm.out)
                 clear hr9 hg9 hs9)
              | (go_at_call 22; refine (dsuper G5.out.dk (.inl ⟨J9.out.rd, rfl⟩) (by have := HLN.out; have := HI0.out; omega)).mono ?_; rintro e w6 ⟨rfl, hk, hc⟩
                 have G6 := Lib.hid (G5.out.call hk.out hc.out (fun y hy => by simp at hy; exact .inl hy))
                 have O6 := Lib.hid (G5.out.refs O5.out hc.out (fun y hy => by simp at hy; exact .inl hy))
                 have R6 := Lib.hid (hc.out.row RBm.out (by have h1 := LAm.out; have h2 := G3.out.dk.lt; simp; omega))
                 clear hk hc)
              | (go_at_call 21; refine (HCN.out _).mono ?_; rintro e w7 ⟨rfl, hb⟩
                 have G7 := Lib.hid (G6.out.below hb)
                 have O7 := Lib.hid (own_kept O6.out hb)
                 have R7 := Lib.hid (R6.out.kept hb)
                 have cp : w7.cell? ⟨pr, 0, none⟩ = some (.bool true) := (G7.out.prr.cell 0).trans rfl
                 have fp := G7.out.prr.free 0
                 have c8 : w7.cell? ⟨g8, 1, none⟩ = some (.int .u64 (la9 : Int)) := (R7.out.cell 1).trans rfl
                 clear hb))
            have G8 := Lib.hid (G7.out.put (.bool true))
            have O8 := Lib.hid (G7.out.refp (x' := .bool true) O7.out)
            have R8 := Lib.hid (R7.out.far (p := ⟨pr, 0, none⟩) (by have h1 := LAm.out; have h2 := G3.out.prr.lt; simp; omega) (.bool true))
            clear cp fp c8
            generalize w7.setCell ⟨pr, 0, none⟩ (.bool true) = W8 at G8 O8 R8 ⊢
            have c8 : W8.cell? ⟨g8, 1, none⟩ = some (.int .u64 (la9 : Int)) := (R8.out.cell 1).trans rfl
            go_upto_region 13 with (first
              | (refine step_load rfl 72 rfl 37 (.tmp 8) rfl g8 rfl (rfc (k + 1) la9) _ R8.out.all Tryz.underlying37 rfl (i3.out _ _) ?_)
              | (refine wp_bs1 rfl (.tmp 72) rfl (k + 1, la9) rfl ?_)
              | (at_builtin
                 refine wp_join rfl _ _ rfl rec_ref w.heap.size (.slice A m c) m (Q.flatMap qcs) rfl (O8.out.alloc _) (some ⟨W8.heap.size, 0, none⟩) 1 1 (qcs (k + 1, la9)) rfl rfl (made_src W8 (qcs (k + 1, la9)) _) (qcs_one _) (by have := HLN.out; have := HI0.out; omega) (by have h1 := G8.out.lo; have h2 := G8.out.dk.lt; simp; omega) ?_
                 intro v3 w9 ho3 hg3 hat3
                 have G9 := Lib.hid (G8.out.app O8.out hg3)
                 rw [HMM.out] at ho3
                 obtain ⟨A3, c4, rfl⟩ := own_sl ho3
                 have O9 := Lib.hid (p := w9.ownsRow w.heap.size 37 2 (.slice A3 m9 c4) m9 ((Q ++ [(k + 1, la9)]).flatMap qcs)) (by rw [flat_snoc]; exact ho3)
                 clear ho3 hg3 hat3 c8))
            have cd : w9.cell? ⟨pd, 0, none⟩ = some (.slice (some ⟨gD, oD, none⟩) dl dc) := ((G9.out.base HPD.out HNE.out.1).cell 0).trans rfl
            have cb : w9.cell? ⟨gD, oD + i, none⟩ = some (.int .u8 (yb : Int)) := G9.out.byte HD.out HYB.out
            have hyw : IntKind.i64.wrap (yb : Int) = (yb : Int) := by rw [IntKind.wrap_i64]; have := HYL.out; omega
            by_cases hm0 : 0 < m9
            · have hmi : (0 : Int) < (m9 : Int) := by omega
              obtain ⟨t3, ht3⟩ : ∃ t3, yb % 3 = t3 := ⟨_, rfl⟩
              have hy1 : Int.tmod (yb : Int) 3 = (t3 : Int) := by rw [Int.tmod_eq_emod_of_nonneg (by omega)]; omega
              have hy2 : (yb : Int) % 3 = (t3 : Int) := by omega
              have hy4 : IntKind.u8.wrap (t3 : Int) = (t3 : Int) := by rw [IntKind.wrap_u8]; omega
              clear ht3
              by_cases hz3 : t3 = 0
              · subst hz3
                have HMP := Lib.hid hm0
                have hm0b : ((m9 : Int) == 0) = false := beq_false_of_ne (by omega)
                have hm0n : ¬ (m9 : Int) = 0 := by omega
                obtain ⟨q, hq⟩ : ∃ q, yb % m9 = q := ⟨_, rfl⟩
                have hqm : q < m9 := by rw [← hq]; exact Nat.mod_lt _ hm0
                have hq1 : Int.tmod (yb : Int) (m9 : Int) = (q : Int) := by rw [Int.tmod_eq_emod_of_nonneg (by omega), ← hq]; exact (Int.natCast_emod yb m9).symm
                have hq2 : (yb : Int) % (m9 : Int) = (q : Int) := by rw [← hq]; exact (Int.natCast_emod yb m9).symm
                have hqi : (q : Int) < (m9 : Int) := by omega
                have hqw : IntKind.i64.wrap (q : Int) = (q : Int) := by rw [IntKind.wrap_i64]; have := HYL.out; have := Nat.mod_le yb m9; omega
                have HQQ := Lib.hid (p := q < m9 ∧ m9 ≤ 101 ∧ (n + 1) ≤ 201) (by have := HB8.out; have := HI0.out; omega)
                obtain ⟨⟨kp, sp⟩, hqp⟩ : ∃ p, (Q ++ [(k + 1, la9)])[q]? = some p := ⟨_, List.getElem?_eq_getElem (by rw [← HM9.out]; exact hqm)⟩
                obtain ⟨r1, r2, r3, r4, z, r5, r6, r7, r8⟩ := J9.out.ref (kp, sp) (List.mem_of_getElem? hqp)
                have HR1 := Lib.hid (p := 1 ≤ kp ∧ kp ≤ 64 ∧ 1 ≤ sp ∧ sp ≤ la9 ∧ la9 ≤ 101) ⟨r1, r2, r3, r4, by have := HB8.out; have := HI0.out; omega⟩
                have HR5 := Lib.hid (p := X9.S.i kp = (z : Int) ∧ 0 < z ∧ z < 256 ∧ seeX X9 Bs (z : Int) = some (blk sz (vS sp) 27)) ⟨r5, r6, r7, r8⟩
                have HQP := Lib.hid hqp
                clear r1 r2 r3 r4 r5 r6 r7 r8 hqp
                obtain ⟨gR, oR, hAR⟩ := ref_open O9.out (by rw [← HM9.out]; exact hm0)
                subst hAR
                have ck : w9.cell? ⟨gR, oR + q * 2, none⟩ = some (.int .i64 (kp : Int)) := ref_k O9.out HQP.out
                clear hq hm0 hqm
                go_upto_region 18 with (first
                  | (go_at_call 23; refine (ddrop kp z (vS sp) (rowD (vS sp)) ⟨HR1.out.1, HR1.out.2.1⟩ G9.out.dk (.inl ⟨J9.out.rd, rfl⟩) HR5.out.1 ⟨HR5.out.2.1, HR5.out.2.2.1⟩ (blk sz (vS sp) 27) HR5.out.2.2.2 (by rw [blk_vS]; decide) 0 (by rw [norm_256 (blk_vS sp)]; exact iV_blk _ (vS_may sp (by have := HR1.out; omega)) (vS_wf sp (by have := HR1.out; omega))) (rowok_direct _ _ (.inr (vS_26 sp))) (fun j _ => by rw [vS_row]; decide) (by rw [vS_26]; decide) (n + 1) (by rw [gvs_zero _ _ (vS_row sp), vS_26]; rfl) (by have := HQQ.out; omega) (X1 := X9.give z) (by rw [gives_zero _ _ _ (vS_row sp), vS_26]; rfl) (by show X9.S.i kp ≠ 0; rw [HR5.out.1]; have := HR5.out; omega)).mono ?_; rintro e w21 ⟨rfl, hk, hc⟩
                     have G21 := Lib.hid (p := GS b w w21 gd gv gm gs r pr Bs ((n + 1) + 1) (X9.drops kp z) (.bool true)) (G9.out.call hk.out hc.out (fun y hy => by simp at hy; exact hy))
                     have O21 := Lib.hid (G9.out.refs O9.out hc.out (fun y hy => by simp at hy; rcases hy with rfl | rfl; exact .inl rfl; exact .inr (.inl rfl)))
                     have J21 := Lib.hid (J9.out.drop HQP.out HR5.out.1)
                     clear hk hc ck)
                  | (refine wpList_load_mid rfl 37 (.tmp 105) rfl gR (oR + q * 2) rfl (rfc kp sp) _ (ref_at O21.out HQP.out) Tryz.underlying37 rfl (i3.out _ _) ?_)
                  | (go_at_call 15; refine (dget_none kp sp ⟨HR1.out.1, HR1.out.2.1⟩ G21.out.dk (.inl ⟨J21.out.1.rd, rfl⟩) (by have := HQQ.out; omega) J21.out.2).mono ?_; rintro e w22 ⟨rfl, hk, hc⟩
                     have G22 := Lib.hid (G21.out.call hk.out hc.out (fun y hy => by simp at hy; exact .inl hy))
                     have O22 := Lib.hid (G21.out.refs O21.out hc.out (fun y hy => by simp at hy; exact .inl hy))
                     clear hk hc)
                  | (refine step_alloc rfl 13 rfl 44 rfl _ hzi.out ?_; intro g13 w23 hr2 hg2 hb2 hs2
                     have RAa := Lib.hid hr2
                     have BAa := Lib.hid hb2
                     have LAa := Lib.hid (p := w22.heap.size ≤ g13) (Nat.le_of_eq hg2.out.symm)
                     clear hr2 hg2 hb2 hs2)
                  | (refine step_store rfl 44 (.tmp 13) (.tmp 108) rfl g13 rfl _ _ (ncs ino0) rfl RAa.out rfl (i2.out _) (ncs_one _) ?_; intro w24 hr9 hg9 hs9
                     have RBa := Lib.hid hr9
                     have BBa := Lib.hid (below_own BAa.out hg9 LAa.out)
                     have G24 := Lib.hid (G22.out.below BBa.out)
                     have O24 := Lib.hid (own_kept O22.out BBa.out)
                     have cp : w24.cell? ⟨pr, 0, none⟩ = some (.bool true) := (G24.out.prr.cell 0).trans rfl
                     have fp := G24.out.prr.free 0
                     clear hr9 hg9 hs9))
                have G25 := Lib.hid (G24.out.put (.bool true))
                have O25 := Lib.hid (G24.out.refp (x' := .bool true) O24.out)
                clear cp fp
                generalize w24.setCell ⟨pr, 0, none⟩ (.bool true) = W25 at G25 O25 ⊢
                obtain ⟨q1, hq1e⟩ : ∃ q1, q + 1 = q1 := ⟨_, rfl⟩
                have HQ1 := Lib.hid hq1e
                have hq1w : IntKind.i64.wrap ((q : Int) + 1) = (q1 : Int) := by rw [IntKind.wrap_i64]; have := HQQ.out; omega
                obtain ⟨A1, c1, hlow, hlsrc⟩ := rcut_low (some ⟨gR, oR, none⟩) m9 c4 q1 (by have := HQQ.out; omega) (own_capm O25.out)
                obtain ⟨c2, hhigh, hhsrc⟩ := rcut_high (some ⟨gR, oR, none⟩) m9 c4 q (by have := HQQ.out; omega) (own_capm O25.out)
                have HLS1 := Lib.hid hlsrc
                have HHS1 := Lib.hid hhsrc
                have HOD := Lib.hid (own_kept O25.out (below_drw W25))
                have HBW := Lib.hid (p := w.heap.size ≤ W25.heap.size) (by have h1 := G25.out.lo; have h2 := G25.out.dk.lt; omega)
                clear hlsrc hhsrc hq1e
                refine wp_region_held_drew (S := fun _ => True) (by kernel_rfl) trivial (fun hHeld => ?_)
                refine wpAnyH_take (i := 1) (oi := ⟨some 116, .move (.tmp 5), _, _, _, _⟩) (v := .slice (some ⟨gR, oR, none⟩) m9 c4) rfl (by kernel_rfl) (by kernel_rfl) (by kernel_rfl) (fun _ _ _ h => h) (.inl ⟨by rfl, fun w hSw => by go_simp⟩) (by assumption) ?_
                simp only [Act.put, List.setIfInBounds_toArray, List.set_cons_zero, List.set_cons_succ]
                refine wpAnyH_take (i := 2) (oi := ⟨some 117, .move (.tmp 12), _, _, _, _⟩) (v := .int .i64 (q : Int)) rfl (by kernel_rfl) (by kernel_rfl) (by kernel_rfl) (fun _ _ _ h => h) (.inl ⟨by rfl, fun w hSw => by go_simp⟩) (by assumption) ?_
                simp only [Act.put, List.setIfInBounds_toArray, List.set_cons_zero, List.set_cons_succ]
                refine wpAnyH_take (i := 3) (oi := ⟨some 118, .slice 52 (.tmp 116) none (some (.tmp 117)) none, _, _, _, _⟩) (v := .slice (some ⟨gR, oR, none⟩) q c2) rfl (by kernel_rfl) (by kernel_rfl) (by kernel_rfl) (fun _ _ _ h => h) (.inl ⟨by rfl, fun w hSw => by go_simp⟩) (by assumption) ?_
                simp only [Act.put, List.setIfInBounds_toArray, List.set_cons_zero, List.set_cons_succ]
                refine wpAnyH_take (i := 5) (oi := ⟨some 120, .move (.tmp 5), _, _, _, _⟩) (v := .slice (some ⟨gR, oR, none⟩) m9 c4) rfl (by kernel_rfl) (by kernel_rfl) (by kernel_rfl) (fun _ _ _ h => h) (.inl ⟨by rfl, fun w hSw => by go_simp⟩) (by assumption) ?_
                simp only [Act.put, List.setIfInBounds_toArray, List.set_cons_zero, List.set_cons_succ]
                refine wpAnyH_take (i := 6) (oi := ⟨some 121, .move (.tmp 12), _, _, _, _⟩) (v := .int .i64 (q : Int)) rfl (by kernel_rfl) (by kernel_rfl) (by kernel_rfl) (fun _ _ _ h => h) (.inl ⟨by rfl, fun w hSw => by go_simp⟩) (by assumption) ?_
                simp only [Act.put, List.setIfInBounds_toArray, List.set_cons_zero, List.set_cons_succ]
                refine wpAnyH_take (i := 7) (oi := ⟨some 122, .binOp .add 3 (.tmp 121) (.const (.int .i64 1)) 3, _, _, _, _⟩) (v := .int .i64 (q1 : Int)) rfl (by kernel_rfl) (by kernel_rfl) (by kernel_rfl) (fun _ _ _ h => h) (.inl ⟨by rfl, fun w hSw => by go_simp⟩) (by assumption) ?_
                simp only [Act.put, List.setIfInBounds_toArray, List.set_cons_zero, List.set_cons_succ]
                refine wpAnyH_take (i := 8) (oi := ⟨some 123, .slice 52 (.tmp 120) (some (.tmp 122)) none none, _, _, _, _⟩) (v := .slice A1 (m9 - q1) c1) rfl (by kernel_rfl) (by kernel_rfl) (by kernel_rfl) (fun _ _ _ h => h) (.inl ⟨by rfl, fun w hSw => by go_simp⟩) (by assumption) ?_
                simp only [Act.put, List.setIfInBounds_toArray, List.set_cons_zero, List.set_cons_succ]
                refine wpAnyH_ready (rs := [0]) (by kernel_rfl) (by simp) ?_
                refine AllReadyH.cons (o := ⟨some 115, .buildSlice 52 0 #[], _, _, _, _⟩) rfl (fun K hK => ?_) AllReadyH.nil
                have HBE := Lib.hid (p := Below W25.heap.size W25 (W25.drew.alloc (.cells #[] 37))) ((below_drw W25).alloc (Nat.le_refl _) _)
                refine st_bs0 (by rfl) rfl ?_
                refine hK.out _ _ trivial (fun hH4 => ?_)
                clear hK K
                refine wpAnyH_ready (rs := [4]) (by kernel_rfl) (by simp) ?_
                refine AllReadyH.cons (o := ⟨some 119, .call ⟨.builtin .append, #[.tmp 115, .tmp 118], #[52, 52]⟩, _, _, _, _⟩) rfl (fun K hK => ?_) AllReadyH.nil
                refine step_join (by rfl) (.tmp 115) (.tmp 118) rfl rec_ref w.heap.size (.slice (some ⟨W25.heap.size, 0, none⟩) 0 0) 0 [] rfl (void_own W25.drew _ 2 _ HBW.out) (some ⟨gR, oR, none⟩) q c2 (((Q ++ [(k + 1, la9)]).take q).flatMap qcs) rfl (by rw [flat_len qcs_len, List.length_take, ← HM9.out, Nat.min_eq_left (by have := HQQ.out; omega)]) (HHS1.out _ _ (Q ++ [(k + 1, la9)]) (own_kept O25.out HBE.out)) (flat_one qcs_one _) (by have := HQQ.out; omega) (by have := HBE.out.size; have := HBW.out; omega) ?_
                intro v2 w2x ho2 hg2 hat2
                have hb2 : Below W25.heap.size W25 w2x := HBE.out.grown hg2 HBE.out.size (fun q' hq' => by have h0 : some W25.heap.size = some q' := hq'; injection h0 with h0; omega)
                rw [Nat.zero_add, List.nil_append] at ho2
                obtain ⟨A2, c3, rfl⟩ := own_sl ho2
                have HB2 := Lib.hid hb2
                have HO2 := Lib.hid ho2
                have HG2 := Lib.hid (p := ∀ q', (Value.slice A2 q c3).ownBlock = some q' → W25.heap.size ≤ q') (fun q' hq' => by
                  rcases hat2 with h | h
                  · rw [h] at hq'
                    have h0 : some W25.heap.size = some q' := hq'
                    injection h0 with h0
                    omega
                  · rw [h] at hq'
                    injection hq' with hq'
                    have h1 := HBE.out.size
                    omega)
                clear ho2 hg2 hat2 hb2
                refine hK.out _ _ trivial (fun hH8 => ?_)
                clear hK K
                refine wpAnyH_ready (rs := [9]) (by kernel_rfl) (by simp) ?_
                refine AllReadyH.cons (o := ⟨some 124, .call ⟨.builtin .append, #[.tmp 119, .tmp 123], #[52, 52]⟩, _, _, _, _⟩) rfl (fun K hK => ?_) AllReadyH.nil
                refine step_join (by rfl) (.tmp 119) (.tmp 123) rfl rec_ref w.heap.size (.slice A2 q c3) q (((Q ++ [(k + 1, la9)]).take q).flatMap qcs) rfl HO2.out A1 (m9 - q1) c1 (((Q ++ [(k + 1, la9)]).drop q1).flatMap qcs) rfl (by rw [flat_len qcs_len, List.length_drop, HM9.out]) (HLS1.out _ _ (Q ++ [(k + 1, la9)]) (own_kept O25.out HB2.out)) (flat_one qcs_one _) (by have := HQQ.out; omega) (by have := HB2.out.size; have := HBW.out; omega) ?_
                intro v3 w3x ho3 hg3 hat3
                have hb3 : Below W25.heap.size W25 w3x := HB2.out.grown hg3 HB2.out.size (fun q' hq' => HG2.out q' hq')
                obtain ⟨A3, c4, rfl⟩ := own_sl ho3
                have HO3 := Lib.hid ho3
                have G26 := Lib.hid (G25.out.below hb3)
                clear ho3 hg3 hat3 hb3
                refine hK.out _ _ trivial (fun hH9 => ?_)
                clear hK K
                refine wpAnyH_take (i := 10) (oi := ⟨some 5, .assign (.tmp 124), _, _, _, _⟩) (v := .slice A3 (q + (m9 - q1)) c4) rfl (by kernel_rfl) (by kernel_rfl) (by kernel_rfl) (fun _ _ _ h => h) (.inl ⟨by rfl, fun w hSw => by go_simp⟩) (by assumption) ?_
                simp only [Act.put, List.setIfInBounds_toArray, List.set_cons_zero, List.set_cons_succ]
                refine wpAnyH_done (by kernel_rfl) ?_ _
                have HLQ := Lib.hid (p := q + (m9 - q1) = ((Q ++ [(k + 1, la9)]).take q ++ (Q ++ [(k + 1, la9)]).drop q1).length) (by rw [List.length_append, List.length_take, List.length_drop, ← HM9.out, Nat.min_eq_left (by have := HQQ.out; omega)])
                have HO9 := Lib.hid (p := w3x.ownsRow w.heap.size 37 2 (.slice A3 (q + (m9 - q1)) c4) (q + (m9 - q1)) (((Q ++ [(k + 1, la9)]).take q ++ (Q ++ [(k + 1, la9)]).drop q1).flatMap qcs)) (by rw [List.flatMap_append]; exact HO3.out)
                go_wp2
                go_roundw
                case rel => exact ⟨i + 1, q + (m9 - q1), la9, (n + 1) + 1, c4, A3, X9.drops kp z, X9.drops kp z, (Q ++ [(k + 1, la9)]).take q ++ (Q ++ [(k + 1, la9)]).drop q1, HI1, rfl, rfl, by go_num, HLQ, Lib.hid (by have := HB8.out; have := HQQ.out; have := HQ1.out; omega), G26, Lib.hid (.inl ⟨J21.out.1.rd, rfl⟩), Lib.hid (by rw [← HQ1.out]; exact J21.out.1), HO9⟩
                case measure => have := HI0.out; simp [intOf]; omega
              · have ht1 : ((t3 : Int) == 0) = false := beq_false_of_ne (by omega)
                have ht2 : ¬ (t3 : Int) = 0 := by omega
                clear hz3 hm0
                go_wp2
                go_roundw
                case rel => exact ⟨i + 1, m9, la9, (n + 1), c4, A3, X9, X9, (Q ++ [(k + 1, la9)]), HI1, rfl, rfl, by go_num, HM9, Lib.hid (by have := HB8.out; omega), G9, Lib.hid (.inl ⟨J9.out.rd, rfl⟩), J9, O9⟩
                case measure => have := HI0.out; simp [intOf]; omega
            · have hmi : ¬ (0 : Int) < (m9 : Int) := by omega
              clear hm0
              go_wp2
              go_roundw
              case rel => exact ⟨i + 1, m9, la9, (n + 1), c4, A3, X9, X9, (Q ++ [(k + 1, la9)]), HI1, rfl, rfl, by go_num, HM9, Lib.hid (by have := HB8.out; omega), G9, Lib.hid (.inl ⟨J9.out.rd, rfl⟩), J9, O9⟩
              case measure => have := HI0.out; simp [intOf]; omega
        · have hi100 : ¬ (i : Int) < 100 := by omega
          clear hi1 hiD
          go_wp2_with fail
          go_meet
          case rel => exact ⟨m, last, n, c, _, X, X', Q, rfl, HM, Lib.hid (by have := HLN.out; have := HI.out; omega), G0, L0, J0, O0⟩
      · have hii : ¬ (i : Int) < (dl : Int) := by omega
        clear hiD
        go_wp2_with fail
        go_meet
        case rel => exact ⟨m, last, n, c, _, X, X', Q, rfl, HM, Lib.hid (by have := HLN.out; have := HI.out; omega), G0, L0, J0, O0⟩
  case rest =>
    obtain ⟨m, last, n, c, A, X, X', Q, rfl, HM, HLN, G0, L0, J0, O0⟩ := hcut
    clear G2 HL2
    go_upto_block 2 with fail
    go_wp2_with fail
    go_loopw [15] (fun x wr => ∃ (j : Nat) (X1 : DX), Hid (j ≤ m) ∧ x = .int .i64 (j : Int) ∧ Hid (GS b w wr gd gv gm gs r pr Bs n X1 (.bool true)) ∧ Hid (LdR Bs X1 X') ∧ Hid (wr.ownsRow w.heap.size 37 2 (.slice A m c) m (Q.flatMap qcs))) (fun x _ => m - (intOf x).toNat)
    case atStart => exact ⟨0, X, Lib.hid (Nat.zero_le _), rfl, G0, L0, O0⟩
    case round =>
      clear G0 L0 O0
      obtain ⟨j, X1, HJJ, rfl, G1, L1, O1⟩ := hrel
      rename World => wj
      by_cases hj : j < m
      · have hji : (j : Int) < (m : Int) := by omega
        have hjw : IntKind.i64.wrap ((j : Int) + 1) = (j : Int) + 1 := by rw [IntKind.wrap_i64]; have := HLN.out; omega
        have HJL := Lib.hid hj
        obtain ⟨⟨k, s⟩, hqp⟩ : ∃ p, Q[j]? = some p := ⟨_, List.getElem?_eq_getElem (by rw [← HM.out]; assumption)⟩
        obtain ⟨r1, r2, r3, r4, z, r5, r6, r7, r8⟩ := J0.out.ref (k, s) (List.mem_of_getElem? hqp)
        have HR1 := Lib.hid (p := 1 ≤ k ∧ k ≤ 64 ∧ 1 ≤ s ∧ s ≤ last ∧ last ≤ 101) ⟨r1, r2, r3, r4, by have := HLN.out; omega⟩
        have HR5 := Lib.hid (p := X'.S.i k = (z : Int) ∧ 0 < z ∧ z < 256 ∧ seeX X' Bs (z : Int) = some (blk sz (vS s) 27)) ⟨r5, r6, r7, r8⟩
        have HQP := Lib.hid hqp
        obtain ⟨gR, oR, hAR⟩ := ref_open O1.out (by rw [← HM.out]; omega)
        subst hAR
        clear r1 r2 r3 r4 r5 r6 r7 r8 hqp
        obtain ⟨s1, hs1⟩ : ∃ s1, s + 1 = s1 := ⟨_, rfl⟩
        have hsw : IntKind.u64.wrap ((s : Int) + 1) = (s1 : Int) := by rw [IntKind.wrap_u64]; have := HR1.out; omega
        have HS1 := Lib.hid hs1
        clear hs1 hj
        go_wp2_with (first
          | (refine wpList_load_mid rfl 37 (.tmp 135) rfl gR (oR + j * 2) rfl (rfc k s) _ (ref_at O1.out HQP.out) Tryz.underlying37 rfl (i3.out _ _) ?_)
          | (go_at_call_of 15 (Value.agg (rfc k s).toArray); refine (dget_ok k s ⟨HR1.out.1, HR1.out.2.1⟩ G1.out.dk L1.out (by have := HLN.out; omega) z HR5.out.1 ⟨HR5.out.2.1, HR5.out.2.2.1⟩ (blk sz (vS s) 27) HR5.out.2.2.2 (by rw [blk_vS]; decide) (vS s) (by rw [norm_256 (blk_vS s)]; exact iV_blk _ (vS_may s (by have := HR1.out; omega)) (vS_wf s (by have := HR1.out; omega))) rfl).mono ?_; rintro e w31 ⟨rfl, hk, hc⟩
             have G31 := Lib.hid (G1.out.call hk.out hc.out (fun y hy => by simp at hy; exact .inl hy))
             have O31 := Lib.hid (G1.out.refs O1.out hc.out (fun y hy => by simp at hy; exact .inl hy))
             clear hk hc)
          | (refine step_alloc rfl 16 rfl 44 rfl _ hzi.out ?_; intro g16 w32 hr2 hg2 hb2 hs2
             have RAb := Lib.hid hr2
             have BAb := Lib.hid hb2
             have LAb := Lib.hid (p := w31.heap.size ≤ g16) (Nat.le_of_eq hg2.out.symm)
             clear hr2 hg2 hb2 hs2)
          | (refine step_store rfl 44 (.tmp 16) (.tmp 138) rfl g16 rfl _ _ (ncs (vS s)) rfl RAb.out rfl (i2.out _) (ncs_one _) ?_; intro w33 hr9 hg9 hs9
             have RBb := Lib.hid hr9
             have BBb := Lib.hid (below_own BAb.out hg9 LAb.out)
             have G33 := Lib.hid (G31.out.below BBb.out)
             have O33 := Lib.hid (own_kept O31.out BBb.out)
             clear hr9 hg9 hs9))
        have HSQ := Lib.hid (p := ∀ W : World, W.ownsRow w.heap.size 37 2 (.slice (some ⟨gR, oR, none⟩) m c) m (Q.flatMap qcs) → W.cell? ⟨gR, oR + j * 2, none⟩ = some (.int .i64 (k : Int)) ∧ W.cell? ⟨gR, oR + j * 2 + 1, none⟩ = some (.int .u64 (s : Int))) (fun W ho => ⟨ref_k ho HQP.out, ref_s ho HQP.out⟩)
        have HOTH := Lib.hid (p := ∀ (W : World) (G : GS b w W gd gv gm gs r pr Bs n X' (.bool true)), Calls Tryz.prog 15 #[.pointer (some ⟨gd, 0, none⟩), .agg (rfc k s1).toArray] W (DOne b W gd gv gm gs r Bs 256 n X' (.tuple #[.agg (ncs ino0).toArray, .int .i64 116]))) (fun W G => dget_other k s1 ⟨HR1.out.1, HR1.out.2.1⟩ G.dk (.inl ⟨J0.out.rd, rfl⟩) (by have := HLN.out; omega) z HR5.out.1 ⟨HR5.out.2.1, HR5.out.2.2.1⟩ (blk sz (vS s) 27) HR5.out.2.2.2 (by rw [blk_vS]; decide) (vS s) (by rw [norm_256 (blk_vS s)]; exact iV_blk _ (vS_may s (by have := HR1.out; omega)) (vS_wf s (by have := HR1.out; omega))) (by show (s : Int) ≠ (s1 : Int); have := HS1.out; omega))
        have G33D := Lib.hid (G33.out.below (below_drw w33))
        have O33D := Lib.hid (own_kept O33.out (below_drw w33))
        have R33D := Lib.hid (RBb.out.kept (below_drw w33))
        have L33 := Lib.hid (p := w.heap.size ≤ g16 ∧ gd < g16) (by have h1 := LAb.out; have h2 := G31.out.lo; have h3 := G31.out.dk.lt; omega)
        refine wp_region_held_drew (S := fun W => W.cell? ⟨gR, oR + j * 2, none⟩ = some (.int .i64 (k : Int)) ∧ W.cell? ⟨gR, oR + j * 2 + 1, none⟩ = some (.int .u64 (s : Int))) (by kernel_rfl) (HSQ.out _ O33D.out) (fun hHeld => ?_)
        refine wpAnyH_take (i := 0) (oi := ⟨some 141, .move (.tmp 4), _, _, _, _⟩) (v := .pointer (some ⟨gd, 0, none⟩)) rfl (by kernel_rfl) (by kernel_rfl) (by kernel_rfl) (fun _ _ _ h => h) (.inl ⟨by rfl, fun w hSw => by go_simp⟩) (by assumption) ?_
        simp only [Act.put, List.setIfInBounds_toArray, List.set_cons_zero, List.set_cons_succ]
        refine wpAnyH_take (i := 1) (oi := ⟨some 142, .move (.tmp 5), _, _, _, _⟩) (v := .slice (some ⟨gR, oR, none⟩) m c) rfl (by kernel_rfl) (by kernel_rfl) (by kernel_rfl) (fun _ _ _ h => h) (.inl ⟨by rfl, fun w hSw => by go_simp⟩) (by assumption) ?_
        simp only [Act.put, List.setIfInBounds_toArray, List.set_cons_zero, List.set_cons_succ]
        refine wpAnyH_take (i := 2) (oi := ⟨some 143, .move (.tmp 15), _, _, _, _⟩) (v := .int .i64 (j : Int)) rfl (by kernel_rfl) (by kernel_rfl) (by kernel_rfl) (fun _ _ _ h => h) (.inl ⟨by rfl, fun w hSw => by go_simp⟩) (by assumption) ?_
        simp only [Act.put, List.setIfInBounds_toArray, List.set_cons_zero, List.set_cons_succ]
        refine wpAnyH_take (i := 3) (oi := ⟨some 144, .indexAddr 52 (.tmp 142) (.tmp 143), _, _, _, _⟩) (v := .pointer (some ⟨gR, oR + j * 2, none⟩)) rfl (by kernel_rfl) (by kernel_rfl) (by kernel_rfl) (fun _ _ _ h => h) (.inl ⟨by rfl, fun w hSw => by go_simp⟩) (by assumption) ?_
        simp only [Act.put, List.setIfInBounds_toArray, List.set_cons_zero, List.set_cons_succ]
        refine wpAnyH_take (i := 4) (oi := ⟨some 145, .fieldAddr 37 (.tmp 144) 0, _, _, _, _⟩) (v := .pointer (some ⟨gR, oR + j * 2, none⟩)) rfl (by kernel_rfl) (by kernel_rfl) (by kernel_rfl) (fun _ _ _ h => h) (.inl ⟨by rfl, fun w hSw => by go_simp⟩) (by assumption) ?_
        simp only [Act.put, List.setIfInBounds_toArray, List.set_cons_zero, List.set_cons_succ]
        refine wpAnyH_take (i := 5) (oi := ⟨some 146, .load 3 (.tmp 145), _, _, _, _⟩) (v := .int .i64 (k : Int)) rfl (by kernel_rfl) (by kernel_rfl) (by kernel_rfl) (fun _ _ _ h => h) (.inl ⟨by rfl, fun w hSw => by have z := hSw.1; go_simp⟩) (by assumption) ?_
        simp only [Act.put, List.setIfInBounds_toArray, List.set_cons_zero, List.set_cons_succ]
        refine wpAnyH_take (i := 6) (oi := ⟨some 147, .move (.tmp 5), _, _, _, _⟩) (v := .slice (some ⟨gR, oR, none⟩) m c) rfl (by kernel_rfl) (by kernel_rfl) (by kernel_rfl) (fun _ _ _ h => h) (.inl ⟨by rfl, fun w hSw => by go_simp⟩) (by assumption) ?_
        simp only [Act.put, List.setIfInBounds_toArray, List.set_cons_zero, List.set_cons_succ]
        refine wpAnyH_take (i := 7) (oi := ⟨some 148, .move (.tmp 15), _, _, _, _⟩) (v := .int .i64 (j : Int)) rfl (by kernel_rfl) (by kernel_rfl) (by kernel_rfl) (fun _ _ _ h => h) (.inl ⟨by rfl, fun w hSw => by go_simp⟩) (by assumption) ?_
        simp only [Act.put, List.setIfInBounds_toArray, List.set_cons_zero, List.set_cons_succ]
        refine wpAnyH_take (i := 8) (oi := ⟨some 149, .indexAddr 52 (.tmp 147) (.tmp 148), _, _, _, _⟩) (v := .pointer (some ⟨gR, oR + j * 2, none⟩)) rfl (by kernel_rfl) (by kernel_rfl) (by kernel_rfl) (fun _ _ _ h => h) (.inl ⟨by rfl, fun w hSw => by go_simp⟩) (by assumption) ?_
        simp only [Act.put, List.setIfInBounds_toArray, List.set_cons_zero, List.set_cons_succ]
        refine wpAnyH_take (i := 9) (oi := ⟨some 150, .fieldAddr 37 (.tmp 149) 1, _, _, _, _⟩) (v := .pointer (some ⟨gR, oR + j * 2 + 1, none⟩)) rfl (by kernel_rfl) (by kernel_rfl) (by kernel_rfl) (fun _ _ _ h => h) (.inl ⟨by rfl, fun w hSw => by go_simp⟩) (by assumption) ?_
        simp only [Act.put, List.setIfInBounds_toArray, List.set_cons_zero, List.set_cons_succ]
        refine wpAnyH_take (i := 10) (oi := ⟨some 151, .load 35 (.tmp 150), _, _, _, _⟩) (v := .int .u64 (s : Int)) rfl (by kernel_rfl) (by kernel_rfl) (by kernel_rfl) (fun _ _ _ h => h) (.inl ⟨by rfl, fun w hSw => by have z := hSw.2; go_simp⟩) (by assumption) ?_
        simp only [Act.put, List.setIfInBounds_toArray, List.set_cons_zero, List.set_cons_succ]
        refine wpAnyH_take (i := 11) (oi := ⟨some 152, .binOp .add 35 (.tmp 151) (.const (.int .u64 1)) 35, _, _, _, _⟩) (v := .int .u64 (s1 : Int)) rfl (by kernel_rfl) (by kernel_rfl) (by kernel_rfl) (fun _ _ _ h => h) (.inl ⟨by rfl, fun w hSw => by go_simp⟩) (by assumption) ?_
        simp only [Act.put, List.setIfInBounds_toArray, List.set_cons_zero, List.set_cons_succ]
        refine wpAnyH_take (i := 12) (oi := ⟨some 153, .build 37 #[(0, .tmp 146), (1, .tmp 152)], _, _, _, _⟩) (v := .agg (rfc k s1).toArray) rfl (by kernel_rfl) (by kernel_rfl) (by kernel_rfl) (fun _ _ _ h => h) (.inl ⟨by rfl, fun w hSw => run_build_op w _ 37 _ rfl [(0, .int .i64 (k : Int)), (1, .int .u64 (s1 : Int))] (by simp [Act.eval]) _ (built_ref k s1)⟩) (by assumption) ?_
        simp only [Act.put, List.setIfInBounds_toArray, List.set_cons_zero, List.set_cons_succ]
        refine wpAnyH_ready (rs := [13, 17]) (by kernel_rfl) (by simp) ?_
        refine AllReadyH.cons (o := ⟨some 154, .call ⟨.value (.func 15), #[.tmp 141, .tmp 153], _⟩, _, _, _, _⟩) rfl (fun K hK => ?_) (AllReadyH.cons (o := ⟨some 18, .alloc 44, _, _, _, _⟩) rfl (fun K hK => ?_) AllReadyH.nil)
        · skip
          go_simp
          go_at_call 15
          refine (HOTH.out _ G33D.out).mono ?_
          rintro e w34 ⟨rfl, hk, hc⟩
          have G34 := Lib.hid (G33D.out.call hk.out hc.out (fun y hy => by simp at hy; exact .inl hy))
          have O34 := Lib.hid (G33D.out.refs O33D.out hc.out (fun y hy => by simp at hy; exact .inl hy))
          have R34 := Lib.hid (hc.out.row R33D.out (by have h2 := L33.out; simp; omega))
          clear hk hc
          refine hK.out _ _ (HSQ.out _ O34.out) (fun _h23 => ?_)
          clear hK K
          refine wpAnyH_take (i := 14) (oi := ⟨some 140, .move (.tmp 154), _, _, _, _⟩) (v := .tuple #[.agg (ncs ino0).toArray, .int .i64 116]) rfl (by kernel_rfl) (by kernel_rfl) (by kernel_rfl) (fun _ _ _ h => h) (.inl ⟨by rfl, fun w hSw => by go_simp⟩) (by assumption) ?_
          simp only [Act.put, List.setIfInBounds_toArray, List.set_cons_zero, List.set_cons_succ]
          refine wpAnyH_take (i := 15) (oi := ⟨some 155, .extract (.tmp 140) 0, _, _, _, _⟩) (v := .agg (ncs ino0).toArray) rfl (by kernel_rfl) (by kernel_rfl) (by kernel_rfl) (fun _ _ _ h => h) (.inl ⟨by rfl, fun w hSw => by go_simp⟩) (by assumption) ?_
          simp only [Act.put, List.setIfInBounds_toArray, List.set_cons_zero, List.set_cons_succ]
          refine wpAnyH_take (i := 16) (oi := ⟨some 156, .extract (.tmp 140) 1, _, _, _, _⟩) (v := .int .i64 116) rfl (by kernel_rfl) (by kernel_rfl) (by kernel_rfl) (fun _ _ _ h => h) (.inl ⟨by rfl, fun w hSw => by go_simp⟩) (by assumption) ?_
          simp only [Act.put, List.setIfInBounds_toArray, List.set_cons_zero, List.set_cons_succ]
          refine wpAnyH_ready (rs := [17]) (by kernel_rfl) (by simp) ?_
          refine AllReadyH.cons (o := ⟨some 18, .alloc 44, _, _, _, _⟩) rfl (fun K hK => ?_) AllReadyH.nil
          refine st_alloc (by rfl) 44 rfl _ hzi.out ?_
          intro g18 w35 hr2 hg2 hb2
          have RA35 := Lib.hid hr2
          have G35 := Lib.hid (G34.out.below hb2)
          have O35 := Lib.hid (own_kept O34.out hb2)
          have R35 := Lib.hid (R34.out.kept hb2)
          have LA18 := Lib.hid (p := gd < g18 ∧ g16 < g18 ∧ w.heap.size ≤ g18) (by rw [hg2.out]; have h1 := R34.out.lt; have h2 := L33.out; exact ⟨by omega, h1, by omega⟩)
          clear hr2 hg2 hb2
          refine hK.out _ _ (HSQ.out _ O35.out) (fun _h23 => ?_)
          clear hK K
          refine wpAnyH_ready (rs := [18]) (by kernel_rfl) (by simp) ?_
          refine AllReadyH.cons (o := ⟨none, .store 44 (.tmp 18) (.tmp 155), _, _, _, _⟩) rfl (fun K hK => ?_) AllReadyH.nil
          refine st_store (by rfl) 44 (.tmp 18) (.tmp 155) rfl g18 rfl _ _ (ncs ino0) rfl RA35.out rfl (i2.out _) (ncs_one _) ?_
          intro w36 hr9 hg9
          have G36 := Lib.hid (G35.out.at_ RA35.out LA18.out.2.2 hg9)
          have O36 := Lib.hid (refs_at O35.out RA35.out hg9)
          have R36 := Lib.hid (R35.out.grown hg9 (fun e => by have := LA18.out; injection e; omega))
          clear hr9 hg9
          refine hK.out _ _ (HSQ.out _ O36.out) (fun _h23 => ?_)
          clear hK K
          refine wpAnyH_take (i := 19) (oi := ⟨some 19, .assign (.tmp 156), _, _, _, _⟩) (v := .int .i64 116) rfl (by kernel_rfl) (by kernel_rfl) (by kernel_rfl) (fun _ _ _ h => h) (.inl ⟨by rfl, fun w hSw => by go_simp⟩) (by assumption) ?_
          simp only [Act.put, List.setIfInBounds_toArray, List.set_cons_zero, List.set_cons_succ]
          refine wpAnyH_done (by kernel_rfl) ?_ _
          go_upto_region 24 with fail
          have cp : w36.cell? ⟨pr, 0, none⟩ = some (.bool true) := (G36.out.prr.cell 0).trans rfl
          have fp := G36.out.prr.free 0
          have c16 : w36.cell? ⟨g16, 6, none⟩ = some (.int .u64 (s : Int)) := (R36.out.cell 6).trans rfl
          have cs : w36.cell? ⟨gR, oR + j * 2 + 1, none⟩ = some (.int .u64 (s : Int)) := ref_s O36.out HQP.out
          go_still_tail 18, (by kernel_rfl)
          change wpList _ _ _ _ _ w36.drew
          have G37 := Lib.hid (G36.out.below (below_drw w36))
          have O37 := Lib.hid (own_kept O36.out (below_drw w36))
          have fp2 := G37.out.prr.free 0
          have cp2 := G37.out.prr.cell 0
          generalize w36.drew = w37 at G37 O37 fp2 cp2 ⊢
          clear fp cp c16 cs
          go_wp2
          go_roundw
          case rel => exact ⟨j + 1, X', HJL, by go_num, Lib.hid (G37.out.put (.bool true)), Lib.hid (.inl ⟨J0.out.rd, rfl⟩), Lib.hid (G37.out.refp O37.out)⟩
          case measure => have := HJL.out; simp [intOf]; omega
        · skip
          refine st_alloc (by rfl) 44 rfl _ hzi.out ?_
          intro g18 w35 hr2 hg2 hb2
          have RA35 := Lib.hid hr2
          have G35 := Lib.hid (G33D.out.below hb2)
          have O35 := Lib.hid (own_kept O33D.out hb2)
          have R35 := Lib.hid (R33D.out.kept hb2)
          have LA18 := Lib.hid (p := gd < g18 ∧ g16 < g18 ∧ w.heap.size ≤ g18) (by rw [hg2.out]; have h1 := R33D.out.lt; have h2 := L33.out; exact ⟨by omega, h1, by omega⟩)
          clear hr2 hg2 hb2
          refine hK.out _ _ (HSQ.out _ O35.out) (fun _h23 => ?_)
          clear hK K
          refine wpAnyH_ready (rs := [13]) (by kernel_rfl) (by simp) ?_
          refine AllReadyH.cons (o := ⟨some 154, .call ⟨.value (.func 15), #[.tmp 141, .tmp 153], _⟩, _, _, _, _⟩) rfl (fun K hK => ?_) AllReadyH.nil
          go_simp
          go_at_call 15
          refine (HOTH.out _ G35.out).mono ?_
          rintro e w34 ⟨rfl, hk, hc⟩
          have G34 := Lib.hid (G35.out.call hk.out hc.out (fun y hy => by simp at hy; exact .inl hy))
          have O34 := Lib.hid (G35.out.refs O35.out hc.out (fun y hy => by simp at hy; exact .inl hy))
          have R34 := Lib.hid (hc.out.row R35.out (by have h2 := L33.out; simp; omega))
          have RA34 := Lib.hid (hc.out.row RA35.out (by have h1 := LA18.out; have h2 := L33.out; simp; omega))
          clear hk hc
          refine hK.out _ _ (HSQ.out _ O34.out) (fun _h23 => ?_)
          clear hK K
          refine wpAnyH_take (i := 14) (oi := ⟨some 140, .move (.tmp 154), _, _, _, _⟩) (v := .tuple #[.agg (ncs ino0).toArray, .int .i64 116]) rfl (by kernel_rfl) (by kernel_rfl) (by kernel_rfl) (fun _ _ _ h => h) (.inl ⟨by rfl, fun w hSw => by go_simp⟩) (by assumption) ?_
          simp only [Act.put, List.setIfInBounds_toArray, List.set_cons_zero, List.set_cons_succ]
          refine wpAnyH_take (i := 15) (oi := ⟨some 155, .extract (.tmp 140) 0, _, _, _, _⟩) (v := .agg (ncs ino0).toArray) rfl (by kernel_rfl) (by kernel_rfl) (by kernel_rfl) (fun _ _ _ h => h) (.inl ⟨by rfl, fun w hSw => by go_simp⟩) (by assumption) ?_
          simp only [Act.put, List.setIfInBounds_toArray, List.set_cons_zero, List.set_cons_succ]
          refine wpAnyH_take (i := 16) (oi := ⟨some 156, .extract (.tmp 140) 1, _, _, _, _⟩) (v := .int .i64 116) rfl (by kernel_rfl) (by kernel_rfl) (by kernel_rfl) (fun _ _ _ h => h) (.inl ⟨by rfl, fun w hSw => by go_simp⟩) (by assumption) ?_
          simp only [Act.put, List.setIfInBounds_toArray, List.set_cons_zero, List.set_cons_succ]
          refine wpAnyH_ready (rs := [18]) (by kernel_rfl) (by simp) ?_
          refine AllReadyH.cons (o := ⟨none, .store 44 (.tmp 18) (.tmp 155), _, _, _, _⟩) rfl (fun K hK => ?_) AllReadyH.nil
          refine st_store (by rfl) 44 (.tmp 18) (.tmp 155) rfl g18 rfl _ _ (ncs ino0) rfl RA34.out rfl (i2.out _) (ncs_one _) ?_
          intro w36 hr9 hg9
          have G36 := Lib.hid (G34.out.at_ RA34.out LA18.out.2.2 hg9)
          have O36 := Lib.hid (refs_at O34.out RA34.out hg9)
          have R36 := Lib.hid (R34.out.grown hg9 (fun e => by have := LA18.out; injection e; omega))
          clear hr9 hg9
          refine hK.out _ _ (HSQ.out _ O36.out) (fun _h23 => ?_)
          clear hK K
          refine wpAnyH_take (i := 19) (oi := ⟨some 19, .assign (.tmp 156), _, _, _, _⟩) (v := .int .i64 116) rfl (by kernel_rfl) (by kernel_rfl) (by kernel_rfl) (fun _ _ _ h => h) (.inl ⟨by rfl, fun w hSw => by go_simp⟩) (by assumption) ?_
          simp only [Act.put, List.setIfInBounds_toArray, List.set_cons_zero, List.set_cons_succ]
          refine wpAnyH_done (by kernel_rfl) ?_ _
          go_upto_region 24 with fail
          have cp : w36.cell? ⟨pr, 0, none⟩ = some (.bool true) := (G36.out.prr.cell 0).trans rfl
          have fp := G36.out.prr.free 0
          have c16 : w36.cell? ⟨g16, 6, none⟩ = some (.int .u64 (s : Int)) := (R36.out.cell 6).trans rfl
          have cs : w36.cell? ⟨gR, oR + j * 2 + 1, none⟩ = some (.int .u64 (s : Int)) := ref_s O36.out HQP.out
          go_still_tail 18, (by kernel_rfl)
          change wpList _ _ _ _ _ w36.drew
          have G37 := Lib.hid (G36.out.below (below_drw w36))
          have O37 := Lib.hid (own_kept O36.out (below_drw w36))
          have fp2 := G37.out.prr.free 0
          have cp2 := G37.out.prr.cell 0
          generalize w36.drew = w37 at G37 O37 fp2 cp2 ⊢
          clear fp cp c16 cs
          go_wp2
          go_roundw
          case rel => exact ⟨j + 1, X', HJL, by go_num, Lib.hid (G37.out.put (.bool true)), Lib.hid (.inl ⟨J0.out.rd, rfl⟩), Lib.hid (G37.out.refp O37.out)⟩
          case measure => have := HJL.out; simp [intOf]; omega

      · have hjz : ¬ (j : Int) < (m : Int) := by omega
        clear hj
        by_cases hm0 : 0 < m
        · have hmi : (0 : Int) < (m : Int) := by omega
          obtain ⟨⟨k, s⟩, hqp⟩ : ∃ p, Q[0]? = some p := ⟨_, List.getElem?_eq_getElem (by rw [← HM.out]; assumption)⟩
          obtain ⟨r1, r2, r3, r4, z, r5, r6, r7, r8⟩ := J0.out.ref (k, s) (List.mem_of_getElem? hqp)
          have HR1 := Lib.hid (p := 1 ≤ k ∧ k ≤ 64 ∧ 1 ≤ s ∧ s ≤ last ∧ last ≤ 101) ⟨r1, r2, r3, r4, by have := HLN.out; omega⟩
          have HR5 := Lib.hid (p := X'.S.i k = (z : Int) ∧ 0 < z ∧ z < 256 ∧ seeX X' Bs (z : Int) = some (blk sz (vS s) 27)) ⟨r5, r6, r7, r8⟩
          have HQP := Lib.hid hqp
          obtain ⟨gR, oR, hAR⟩ := ref_open O1.out (by rw [← HM.out]; omega)
          subst hAR
          clear r1 r2 r3 r4 r5 r6 r7 r8 hqp
          clear hm0
          go_upto_block 4 with (first
            | (refine step_make rfl _ _ 22 5 ti U rfl 256 rfl rfl (by decide) ?_; intro gB w41 hr2 hg2 hb2 hs2
               have R41 := Lib.hid hr2
               have B41 := Lib.hid hb2
               have LB41 := Lib.hid (p := wj.heap.size ≤ gB) (Nat.le_of_eq hg2.out.symm)
               clear hr2 hg2 hb2 hs2))
          go_cut [20] from 21 to 196 (fun x wx => x = .slice (some ⟨gB, 0, none⟩) 256 256 ∧ ∃ t, Hid (Row wx gB 5 (brr 256 (part8 e8 t))) ∧ Hid (Below wj.heap.size wj wx))
          case first =>
            go_wp2_with fail
            go_loopw [21] (fun x wr => ∃ t : Nat, Hid (t ≤ 256 ∧ t ≤ el) ∧ x = .int .i64 (t : Int) ∧ Hid (Row wr gB 5 (brr 256 (part8 e8 t))) ∧ Hid (Below wj.heap.size wj wr)) (fun x _ => 256 - (intOf x).toNat)
            case atStart => exact ⟨0, Lib.hid ⟨by decide, Nat.zero_le _⟩, rfl, Lib.hid (by rw [part8_zero]; exact R41.out), B41⟩
            case round =>
              obtain ⟨t, HT, rfl, RT, BT⟩ := hrel
              rename World => wt
              have GT := Lib.hid (G1.out.below BT.out)
              have ce : wt.cell? ⟨pe, 0, none⟩ = some (.slice EA el ec) := ((GT.out.base HPE.out HNE.out.2.1).cell 0).trans rfl
              by_cases ht : t < el ∧ t < 256
              · obtain ⟨ht1, ht2⟩ := ht
                have hti : (t : Int) < (el : Int) := by omega
                have htj : (t : Int) < 256 := by omega
                have htw : IntKind.i64.wrap ((t : Int) + 1) = (t : Int) + 1 := by rw [IntKind.wrap_i64]; omega
                obtain ⟨gE, oE, hEA⟩ : ∃ g o, EA = some ⟨g, o, none⟩ := by
                  obtain ⟨g, o, h1, _, _⟩ := (GT.out.data HE.out).at_ (j := t) (by rw [HEL.out.1]; exact ht1)
                  exact ⟨g, o, h1⟩
                subst hEA
                obtain ⟨ye, hye⟩ : ∃ ye : Nat, (e8.getD t 0).toNat = ye := ⟨_, rfl⟩
                have cE : wt.cell? ⟨gE, oE + t, none⟩ = some (.int .u8 (ye : Int)) := GT.out.byte HE.out ⟨by rw [HEL.out.1]; exact ht1, hye⟩
                obtain ⟨uB, cB⟩ : ∃ u, wt.cell? ⟨gB, t, none⟩ = some u := ⟨_, (RT.out.cell t).trans (brr_get _ ht2)⟩
                have fB : wt.frozen? ⟨gB, t, none⟩ = false := RT.out.free t
                have HB1 := Lib.hid (p := B (e8.getD t 0) = .int .u8 (ye : Int)) (by rw [← hye]; rfl)
                have RT2 := Lib.hid (p := Row (wt.setCell ⟨gB, t, none⟩ (.int .u8 (ye : Int))) gB 5 (brr 256 (part8 e8 (t + 1)))) (by
                  have h1 := RT.out.put t (.int .u8 (ye : Int))
                  rw [← HB1.out, brr_set] at h1
                  have h2 : upd (part8 e8 t) t (e8.getD t 0) = part8 e8 (t + 1) := part8_next e8 t
                  rw [h2, HB1.out] at h1
                  exact h1)
                have BT2 := Lib.hid (p := Below wj.heap.size wj (wt.setCell ⟨gB, t, none⟩ (.int .u8 (ye : Int)))) (((Chg.of (F := [gB]) BT.out).setCell (p := ⟨gB, t, none⟩) (.inl (by simp)) _).below (Nat.le_refl _) (fun y hy => by have := LB41.out; simp at hy; omega))
                have HTT := Lib.hid (p := t < 256 ∧ t + 1 ≤ el) ⟨ht2, ht1⟩
                clear hye ht1 ht2
                go_wp2
                go_roundw
                case rel => exact ⟨t + 1, Lib.hid (by have := HTT.out; omega), by go_num, RT2, BT2⟩
                case measure => have := HTT.out; simp [intOf]; omega
              · have hcase : ¬ (t : Int) < (el : Int) ∨ ((t : Int) < (el : Int) ∧ ¬ (t : Int) < 256) := by omega
                clear ht
                rcases hcase with hti | ⟨hti, htj⟩
                · go_wp2_with fail
                  go_meet
                  case rel => exact ⟨rfl, t, RT, BT⟩
                · go_wp2_with fail
                  go_meet
                  case rel => exact ⟨rfl, t, RT, BT⟩
          case rest =>
            obtain ⟨rfl, t, RT, BT⟩ := hcut
            obtain ⟨LB, hLB⟩ : ∃ LB : L8, LB = lst 256 (part8 e8 t) := ⟨_, rfl⟩
            have HLB := Lib.hid (p := LB.length = 256 ∧ LB = lst 256 (part8 e8 t)) ⟨by rw [hLB]; exact lst_len _ _, hLB⟩
            have H4 := Lib.hid (p := Hol wc (some ⟨gB, 0, none⟩) LB) (by rw [hLB]; exact RT.out.hol)
            have G4 := Lib.hid (G1.out.below BT.out)
            have O4 := Lib.hid (own_kept O1.out BT.out)
            have HUP := Lib.hid (p := ∀ w, Hol w (some ⟨gB, 0, none⟩) LB → Calls Tryz.prog 25 #[.slice (some ⟨gB, 0, none⟩) 256 256] w fun e w' => e = .returned (iV LB) ∧ Below w.heap.size w w') (fun w hA => runpack_any _ 256 256 LB HLB.out.1 (by decide) (by decide) w hA)
            clear hLB
            go_upto_region 31 with fail
            have HSD : ∀ W : World, W.ownsRow w.heap.size 37 2 (.slice (some ⟨gR, oR, none⟩) m c) m (Q.flatMap qcs) → W.cell? ⟨gR, oR, none⟩ = some (.int .i64 (k : Int)) := fun W ho => by
              have h1 := ref_k ho HQP.out
              rw [Nat.zero_mul, Nat.add_zero] at h1
              exact h1
            have HSD := Lib.hid HSD
            have HPVc := Lib.hid (p := ∀ (W : World) (n : Nat) (X : DX), GS b w W gd gv gm gs r pr Bs n X (.bool true) → W.cell? ⟨pv, 0, none⟩ = some (.pointer (some ⟨gv, 0, none⟩))) (fun W n X h => ((h.base HPV.out HNE.out.2.2).cell 0).trans rfl)
            have G4D := Lib.hid (G4.out.below (below_drw wc))
            have O4D := Lib.hid (own_kept O4.out (below_drw wc))
            have H4D := Lib.hid (H4.out.below (below_drw wc))
            refine wp_region_held_drew (S := fun W => W.cell? ⟨pv, 0, none⟩ = some (.pointer (some ⟨gv, 0, none⟩)) ∧ W.cell? ⟨gR, oR, none⟩ = some (.int .i64 (k : Int))) (by kernel_rfl) ⟨HPVc.out _ _ _ G4D.out, HSD.out _ O4D.out⟩ (fun hHeld => ?_)
            refine wpAnyH_take (i := 0) (oi := ⟨some 197, .load 28 (.tmp 0), _, _, _, _⟩) (v := .pointer (some ⟨gv, 0, none⟩)) rfl (by kernel_rfl) (by kernel_rfl) (by kernel_rfl) (fun _ _ _ h => h) (.inl ⟨by rfl, fun w hSw => by have z := hSw.1; go_simp⟩) (by assumption) ?_
            simp only [Act.put, List.setIfInBounds_toArray, List.set_cons_zero, List.set_cons_succ]
            refine wpAnyH_take (i := 1) (oi := ⟨some 198, .move (.tmp 4), _, _, _, _⟩) (v := .pointer (some ⟨gd, 0, none⟩)) rfl (by kernel_rfl) (by kernel_rfl) (by kernel_rfl) (fun _ _ _ h => h) (.inl ⟨by rfl, fun w hSw => by go_simp⟩) (by assumption) ?_
            simp only [Act.put, List.setIfInBounds_toArray, List.set_cons_zero, List.set_cons_succ]
            refine wpAnyH_take (i := 4) (oi := ⟨some 201, .move (.tmp 5), _, _, _, _⟩) (v := .slice (some ⟨gR, oR, none⟩) m c) rfl (by kernel_rfl) (by kernel_rfl) (by kernel_rfl) (fun _ _ _ h => h) (.inl ⟨by rfl, fun w hSw => by go_simp⟩) (by assumption) ?_
            simp only [Act.put, List.setIfInBounds_toArray, List.set_cons_zero, List.set_cons_succ]
            refine wpAnyH_take (i := 5) (oi := ⟨some 202, .indexAddr 52 (.tmp 201) (.const (.int .i64 0)), _, _, _, _⟩) (v := .pointer (some ⟨gR, oR, none⟩)) rfl (by kernel_rfl) (by kernel_rfl) (by kernel_rfl) (fun _ _ _ h => h) (.inl ⟨by rfl, fun w hSw => by go_simp⟩) (by assumption) ?_
            simp only [Act.put, List.setIfInBounds_toArray, List.set_cons_zero, List.set_cons_succ]
            refine wpAnyH_take (i := 6) (oi := ⟨some 203, .fieldAddr 37 (.tmp 202) 0, _, _, _, _⟩) (v := .pointer (some ⟨gR, oR, none⟩)) rfl (by kernel_rfl) (by kernel_rfl) (by kernel_rfl) (fun _ _ _ h => h) (.inl ⟨by rfl, fun w hSw => by go_simp⟩) (by assumption) ?_
            simp only [Act.put, List.setIfInBounds_toArray, List.set_cons_zero, List.set_cons_succ]
            refine wpAnyH_take (i := 7) (oi := ⟨some 204, .load 3 (.tmp 203), _, _, _, _⟩) (v := .int .i64 (k : Int)) rfl (by kernel_rfl) (by kernel_rfl) (by kernel_rfl) (fun _ _ _ h => h) (.inl ⟨by rfl, fun w hSw => by have z := hSw.2; go_simp⟩) (by assumption) ?_
            simp only [Act.put, List.setIfInBounds_toArray, List.set_cons_zero, List.set_cons_succ]
            refine wpAnyH_take (i := 9) (oi := ⟨some 206, .move (.tmp 20), _, _, _, _⟩) (v := .slice (some ⟨gB, 0, none⟩) 256 256) rfl (by kernel_rfl) (by kernel_rfl) (by kernel_rfl) (fun _ _ _ h => h) (.inl ⟨by rfl, fun w hSw => by go_simp⟩) (by assumption) ?_
            simp only [Act.put, List.setIfInBounds_toArray, List.set_cons_zero, List.set_cons_succ]
            refine wpAnyH_ready (rs := [2]) (by kernel_rfl) (by simp) ?_
            refine AllReadyH.cons (o := ⟨some 199, .call ⟨.value (.func 22), #[.tmp 198], _⟩, _, _, _, _⟩) rfl (fun K hK => ?_) AllReadyH.nil
            go_simp
            go_at_call 22
            refine (dsuper G4D.out.dk L1.out (by have := HLN.out; omega)).mono ?_
            rintro e w51 ⟨rfl, hk, hc⟩
            have G51 := Lib.hid (G4D.out.call hk.out hc.out (fun y hy => by simp at hy; exact .inl hy))
            have O51 := Lib.hid (G4D.out.refs O4D.out hc.out (fun y hy => by simp at hy; exact .inl hy))
            have HGB := Lib.hid (p := gd < gB ∧ gm < gB) (by have h1 := LB41.out; have h2 := G1.out.lo; have h3 := G1.out.dk.lt; omega)
            have H51 := Lib.hid (Chg.hol H4D.out hc.out (fun g o e _ => by have := HGB.out; injection e with e; injection e with e1 e2; subst e1; simp; omega))
            clear hk hc
            refine hK.out _ _ ⟨HPVc.out _ _ _ G51.out, HSD.out _ O51.out⟩ (fun _hH => ?_)
            clear hK K
            refine wpAnyH_take (i := 3) (oi := ⟨some 200, .field 59 (.tmp 199) 2, _, _, _, _⟩) (v := (.agg (inl 65 X'.S.i).toArray)) rfl (by kernel_rfl) (by kernel_rfl) (by kernel_rfl) (fun _ _ _ h => h) (.inl ⟨by rfl, fun w hSw => run_field_op w _ X'.S (.tmp 199) rfl rfl⟩) (by assumption) ?_
            simp only [Act.put, List.setIfInBounds_toArray, List.set_cons_zero, List.set_cons_succ]
            refine wpAnyH_take (i := 8) (oi := ⟨some 205, .index 56 (.tmp 200) (.tmp 204), _, _, _, _⟩) (v := .int .i64 (z : Int)) rfl (by kernel_rfl) (by kernel_rfl) (by kernel_rfl) (fun _ _ _ h => h) (.inl ⟨by rfl, fun w hSw => by rw [← HR5.out.1]; exact run_index_op w _ X'.S.i k (by have := HR1.out; omega) (.tmp 200) (.tmp 204) rfl rfl rfl⟩) (by assumption) ?_
            simp only [Act.put, List.setIfInBounds_toArray, List.set_cons_zero, List.set_cons_succ]
            refine wpAnyH_ready (rs := [10]) (by kernel_rfl) (by simp) ?_
            refine AllReadyH.cons (o := ⟨some 207, .call ⟨.value (.func 24), #[.tmp 197, .tmp 205, .tmp 206], _⟩, _, _, _, _⟩) rfl (fun K hK => ?_) AllReadyH.nil
            go_simp
            go_at_call 24
            have hput := DK.vput G51.out.dk (some ⟨gB, 0, none⟩) 256 LB H51.out (by rw [HLB.out.1]; decide) (z : Int) (by unfold I64; have := HR5.out; omega) (by have := HLN.out; omega)
            rw [HLB.out.1] at hput
            refine hput.mono ?_
            rintro e w52 ⟨rfl, hk, hc⟩
            have G52 := Lib.hid (G51.out.call hk.out hc.out (fun y hy => by simp at hy; exact hy))
            have O52 := Lib.hid (G51.out.refs O51.out hc.out (fun y hy => by simp at hy; rcases hy with rfl | rfl; exact .inl rfl; exact .inr (.inl rfl)))
            have H52 := Lib.hid (Chg.hol H51.out hc.out (fun g o e _ => by have := HGB.out; injection e with e; injection e with e1 e2; subst e1; simp; omega))
            clear hk hc hput
            refine hK.out _ _ ⟨HPVc.out _ _ _ G52.out, HSD.out _ O52.out⟩ (fun _hH => ?_)
            clear hK K
            refine wpAnyH_done (by kernel_rfl) ?_ _
            cases hOK : iOk LB with
            | false =>
              have HIV := Lib.hid (iV_bad hOK)
              rw [iV_bad hOK] at HUP
              go_upto_region 35 with (first
                | (refine wpList_load_mid rfl 37 (.tmp 211) rfl gR oR rfl (rfc k s) _ (by have h1 := ref_at O52.out HQP.out; rw [Nat.zero_mul, Nat.add_zero] at h1; exact h1) Tryz.underlying37 rfl (i3.out _ _) ?_)
                | (go_at_call 15; refine (dget_bad k s ⟨HR1.out.1, HR1.out.2.1⟩ G52.out.dk (.inl ⟨J0.out.rd, rfl⟩) (by have := HLN.out; omega) z HR5.out.1 ⟨HR5.out.2.1, HR5.out.2.2.1⟩ LB (seeX_put _ _ _) (by rw [HLB.out.1]; decide) ino0 (by rw [norm_256 HLB.out.1]; exact HIV.out)).mono ?_; rintro e w53 ⟨rfl, hk, hc⟩
                   have G53 := Lib.hid (G52.out.call hk.out hc.out (fun y hy => by simp at hy; exact .inl hy))
                   have O53 := Lib.hid (G52.out.refs O52.out hc.out (fun y hy => by simp at hy; exact .inl hy))
                   have H53 := Lib.hid (Chg.hol H52.out hc.out (fun g o e _ => by have := HGB.out; injection e with e; injection e with e1 e2; subst e1; simp; omega))
                   clear hk hc)
                | (refine step_alloc rfl 22 rfl 44 rfl _ hzi.out ?_; intro g22 w54 hr2 hg2 hb2 hs2
                   have RAe := Lib.hid hr2
                   have BAe := Lib.hid hb2
                   have LAe := Lib.hid (p := w53.heap.size ≤ g22) (Nat.le_of_eq hg2.out.symm)
                   clear hr2 hg2 hb2 hs2)
                | (refine step_store rfl 44 (.tmp 22) (.tmp 214) rfl g22 rfl _ _ (ncs ino0) rfl RAe.out rfl (i2.out _) (ncs_one _) ?_; intro w55 hr9 hg9 hs9
                   have RBe := Lib.hid hr9
                   have BBe := Lib.hid (below_own BAe.out hg9 LAe.out)
                   have G55 := Lib.hid (G53.out.below BBe.out)
                   have O55 := Lib.hid (own_kept O53.out BBe.out)
                   have H55 := Lib.hid (H53.out.below BBe.out)
                   clear hr9 hg9 hs9)
                | (go_at_call 25; refine (HUP.out _ H55.out).mono ?_; rintro e w56 ⟨rfl, hb⟩
                   have G56 := Lib.hid (G55.out.below hb)
                   have O56 := Lib.hid (own_kept O55.out hb)
                   have R22 := Lib.hid (RBe.out.kept hb)
                   clear hb)
                | (refine step_alloc rfl 24 rfl 44 rfl _ hzi.out ?_; intro g24 w57 hr2 hg2 hb2 hs2
                   have RAf := Lib.hid hr2
                   have BAf := Lib.hid hb2
                   have LAf := Lib.hid (p := w56.heap.size ≤ g24) (Nat.le_of_eq hg2.out.symm)
                   clear hr2 hg2 hb2 hs2)
                | (refine step_store rfl 44 (.tmp 24) (.tmp 219) rfl g24 rfl _ _ (ncs ino0) rfl RAf.out rfl (i2.out _) (ncs_one _) ?_; intro w58 hr9 hg9 hs9
                   have RBf := Lib.hid hr9
                   have BBf := Lib.hid (below_own BAf.out hg9 LAf.out)
                   have G58 := Lib.hid (G56.out.below BBf.out)
                   have O58 := Lib.hid (own_kept O56.out BBf.out)
                   have R58 := Lib.hid (R22.out.kept BBf.out)
                   have cp : w58.cell? ⟨pr, 0, none⟩ = some (.bool true) := (G58.out.prr.cell 0).trans rfl
                   have fp := G58.out.prr.free 0
                   have c24 : w58.cell? ⟨g24, 6, none⟩ = some (.int .u64 (ino0 6)) := (RBf.out.cell 6).trans rfl
                   have cs0 : w58.cell? ⟨gR, oR + 1, none⟩ = some (.int .u64 (s : Int)) := by have h1 := ref_s O58.out HQP.out; rw [Nat.zero_mul, Nat.add_zero] at h1; exact h1
                   clear hr9 hg9 hs9))
              have G59 := Lib.hid (G58.out.put (.bool true))
              go_wp2_with (first
                | (refine step_load_g (by rfl) 229 rfl 44 (.tmp 22) rfl g22 rfl (ncs ino0) _ R58.out.all Tryz.underlying44 rfl (i2.out _) ?_)
                | (refine step_build_g (by rfl) 44 _ rfl [] ?hv _ built_ino0 ?_; case hv => rfl)
                | (refine step_eql (by rfl) 44 44 (.tmp 229) (.tmp 230) rfl _ _ rfl rfl ino_guard true (fun w => by have h1 := eq_ino 9997 ino0 ino0 w; rw [ieqb_refl] at h1; exact h1) ?_))
              go_end0
              obtain ⟨C, hv, hC⟩ := G59.out.dk.view
              exact .inl ⟨rfl, _, C, hv, by have := HLN.out; omega, G59.out.dk.run, G59.out.chg, (G59.out.prr.cell 0).trans rfl⟩
            | true =>
              obtain ⟨VV8, hVV⟩ : ∃ VV8, rd sz LB = VV8 := ⟨_, rfl⟩
              have hIV := iV_ok hOK
              rw [hVV] at hIV
              rw [hIV] at HUP
              have HIV := Lib.hid hIV
              clear hIV hVV
              by_cases h6 : VV8 6 = (s : Int)
              · have HV6 := Lib.hid h6
                clear h6
                go_upto_region 36 with (first
                  | (refine wpList_load_mid rfl 37 (.tmp 211) rfl gR oR rfl (rfc k s) _ (by have h1 := ref_at O52.out HQP.out; rw [Nat.zero_mul, Nat.add_zero] at h1; exact h1) Tryz.underlying37 rfl (i3.out _ _) ?_)
                  | (go_at_call 15; refine (dget_ok k s ⟨HR1.out.1, HR1.out.2.1⟩ G52.out.dk (.inl ⟨J0.out.rd, rfl⟩) (by have := HLN.out; omega) z HR5.out.1 ⟨HR5.out.2.1, HR5.out.2.2.1⟩ LB (seeX_put _ _ _) (by rw [HLB.out.1]; decide) VV8 (by rw [norm_256 HLB.out.1]; exact HIV.out) HV6.out).mono ?_; rintro e w53 ⟨rfl, hk, hc⟩
                     have G53 := Lib.hid (G52.out.call hk.out hc.out (fun y hy => by simp at hy; exact .inl hy))
                     have O53 := Lib.hid (G52.out.refs O52.out hc.out (fun y hy => by simp at hy; exact .inl hy))
                     have H53 := Lib.hid (Chg.hol H52.out hc.out (fun g o e _ => by have := HGB.out; injection e with e; injection e with e1 e2; subst e1; simp; omega))
                     clear hk hc)
                  | (refine step_alloc rfl 22 rfl 44 rfl _ hzi.out ?_; intro g22 w54 hr2 hg2 hb2 hs2
                     have RAe := Lib.hid hr2
                     have BAe := Lib.hid hb2
                     have LAe := Lib.hid (p := w53.heap.size ≤ g22) (Nat.le_of_eq hg2.out.symm)
                     clear hr2 hg2 hb2 hs2)
                  | (refine step_store rfl 44 (.tmp 22) (.tmp 214) rfl g22 rfl _ _ (ncs VV8) rfl RAe.out rfl (i2.out _) (ncs_one _) ?_; intro w55 hr9 hg9 hs9
                     have RBe := Lib.hid hr9
                     have BBe := Lib.hid (below_own BAe.out hg9 LAe.out)
                     have G55 := Lib.hid (G53.out.below BBe.out)
                     have O55 := Lib.hid (own_kept O53.out BBe.out)
                     have H55 := Lib.hid (H53.out.below BBe.out)
                     clear hr9 hg9 hs9)
                  | (go_at_call 25; refine (HUP.out _ H55.out).mono ?_; rintro e w56 ⟨rfl, hb⟩
                     have G56 := Lib.hid (G55.out.below hb)
                     have O56 := Lib.hid (own_kept O55.out hb)
                     have R22 := Lib.hid (RBe.out.kept hb)
                     clear hb)
                  | (refine step_alloc rfl 24 rfl 44 rfl _ hzi.out ?_; intro g24 w57 hr2 hg2 hb2 hs2
                     have RAf := Lib.hid hr2
                     have BAf := Lib.hid hb2
                     have LAf := Lib.hid (p := w56.heap.size ≤ g24) (Nat.le_of_eq hg2.out.symm)
                     clear hr2 hg2 hb2 hs2)
                  | (refine step_store rfl 44 (.tmp 24) (.tmp 219) rfl g24 rfl _ _ (ncs VV8) rfl RAf.out rfl (i2.out _) (ncs_one _) ?_; intro w58 hr9 hg9 hs9
                     have RBf := Lib.hid hr9
                     have BBf := Lib.hid (below_own BAf.out hg9 LAf.out)
                     have G58 := Lib.hid (G56.out.below BBf.out)
                     have O58 := Lib.hid (own_kept O56.out BBf.out)
                     have R58 := Lib.hid (R22.out.kept BBf.out)
                     have cp : w58.cell? ⟨pr, 0, none⟩ = some (.bool true) := (G58.out.prr.cell 0).trans rfl
                     have fp := G58.out.prr.free 0
                     have c24 : w58.cell? ⟨g24, 6, none⟩ = some (.int .u64 (VV8 6)) := (RBf.out.cell 6).trans rfl
                     have cs0 : w58.cell? ⟨gR, oR + 1, none⟩ = some (.int .u64 (s : Int)) := by have h1 := ref_s O58.out HQP.out; rw [Nat.zero_mul, Nat.add_zero] at h1; exact h1
                     clear hr9 hg9 hs9))
                rw [HV6.out] at c24
                go_wp2_with fail
                go_quiet (fail)
                go_wp2
                have G58D := Lib.hid (G58.out.below (below_drewN (Below.refl _ w58) nq))
                go_end0
                obtain ⟨C, hv, hC⟩ := G58D.out.dk.view
                exact .inl ⟨rfl, _, C, hv, by have := HLN.out; omega, G58D.out.dk.run, G58D.out.chg, (G58D.out.prr.cell 0).trans rfl⟩
              · have HV6 := Lib.hid h6
                clear h6
                go_upto_region 36 with (first
                  | (refine wpList_load_mid rfl 37 (.tmp 211) rfl gR oR rfl (rfc k s) _ (by have h1 := ref_at O52.out HQP.out; rw [Nat.zero_mul, Nat.add_zero] at h1; exact h1) Tryz.underlying37 rfl (i3.out _ _) ?_)
                  | (go_at_call 15; refine (dget_other k s ⟨HR1.out.1, HR1.out.2.1⟩ G52.out.dk (.inl ⟨J0.out.rd, rfl⟩) (by have := HLN.out; omega) z HR5.out.1 ⟨HR5.out.2.1, HR5.out.2.2.1⟩ LB (seeX_put _ _ _) (by rw [HLB.out.1]; decide) VV8 (by rw [norm_256 HLB.out.1]; exact HIV.out) HV6.out).mono ?_; rintro e w53 ⟨rfl, hk, hc⟩
                     have G53 := Lib.hid (G52.out.call hk.out hc.out (fun y hy => by simp at hy; exact .inl hy))
                     have O53 := Lib.hid (G52.out.refs O52.out hc.out (fun y hy => by simp at hy; exact .inl hy))
                     have H53 := Lib.hid (Chg.hol H52.out hc.out (fun g o e _ => by have := HGB.out; injection e with e; injection e with e1 e2; subst e1; simp; omega))
                     clear hk hc)
                  | (refine step_alloc rfl 22 rfl 44 rfl _ hzi.out ?_; intro g22 w54 hr2 hg2 hb2 hs2
                     have RAe := Lib.hid hr2
                     have BAe := Lib.hid hb2
                     have LAe := Lib.hid (p := w53.heap.size ≤ g22) (Nat.le_of_eq hg2.out.symm)
                     clear hr2 hg2 hb2 hs2)
                  | (refine step_store rfl 44 (.tmp 22) (.tmp 214) rfl g22 rfl _ _ (ncs ino0) rfl RAe.out rfl (i2.out _) (ncs_one _) ?_; intro w55 hr9 hg9 hs9
                     have RBe := Lib.hid hr9
                     have BBe := Lib.hid (below_own BAe.out hg9 LAe.out)
                     have G55 := Lib.hid (G53.out.below BBe.out)
                     have O55 := Lib.hid (own_kept O53.out BBe.out)
                     have H55 := Lib.hid (H53.out.below BBe.out)
                     clear hr9 hg9 hs9)
                  | (go_at_call 25; refine (HUP.out _ H55.out).mono ?_; rintro e w56 ⟨rfl, hb⟩
                     have G56 := Lib.hid (G55.out.below hb)
                     have O56 := Lib.hid (own_kept O55.out hb)
                     have R22 := Lib.hid (RBe.out.kept hb)
                     clear hb)
                  | (refine step_alloc rfl 24 rfl 44 rfl _ hzi.out ?_; intro g24 w57 hr2 hg2 hb2 hs2
                     have RAf := Lib.hid hr2
                     have BAf := Lib.hid hb2
                     have LAf := Lib.hid (p := w56.heap.size ≤ g24) (Nat.le_of_eq hg2.out.symm)
                     clear hr2 hg2 hb2 hs2)
                  | (refine step_store rfl 44 (.tmp 24) (.tmp 219) rfl g24 rfl _ _ (ncs VV8) rfl RAf.out rfl (i2.out _) (ncs_one _) ?_; intro w58 hr9 hg9 hs9
                     have RBf := Lib.hid hr9
                     have BBf := Lib.hid (below_own BAf.out hg9 LAf.out)
                     have G58 := Lib.hid (G56.out.below BBf.out)
                     have O58 := Lib.hid (own_kept O56.out BBf.out)
                     have R58 := Lib.hid (R22.out.kept BBf.out)
                     have cp : w58.cell? ⟨pr, 0, none⟩ = some (.bool true) := (G58.out.prr.cell 0).trans rfl
                     have fp := G58.out.prr.free 0
                     have c24 : w58.cell? ⟨g24, 6, none⟩ = some (.int .u64 (VV8 6)) := (RBf.out.cell 6).trans rfl
                     have cs0 : w58.cell? ⟨gR, oR + 1, none⟩ = some (.int .u64 (s : Int)) := by have h1 := ref_s O58.out HQP.out; rw [Nat.zero_mul, Nat.add_zero] at h1; exact h1
                     clear hr9 hg9 hs9))
                obtain ⟨v6, hv6⟩ : ∃ v6 : Int, VV8 6 = v6 := ⟨_, rfl⟩
                have hne6 : (v6 != (s : Int)) = true := by rw [bne_iff_ne, ← hv6]; exact HV6.out
                rw [hv6] at c24
                clear hv6
                go_wp2_with fail
                go_quiet (fail)
                go_wp2
                have G59 := Lib.hid ((G58.out.below (below_drewN (Below.refl _ w58) nq)).put (.bool true))
                go_end0
                obtain ⟨C, hv, hC⟩ := G59.out.dk.view
                exact .inl ⟨rfl, _, C, hv, by have := HLN.out; omega, G59.out.dk.run, G59.out.chg, (G59.out.prr.cell 0).trans rfl⟩
        · have hmi : ¬ (0 : Int) < (m : Int) := by omega
          clear hm0
          go_wp2
          go_end0
          obtain ⟨C, hv, hC⟩ := G1.out.dk.view
          exact .inl ⟨rfl, _, C, hv, by have := HLN.out; omega, G1.out.dk.run, G1.out.chg, (G1.out.prr.cell 0).trans rfl⟩
end
end Go.Proofs.YtfbfeplegdpemaaGreat
