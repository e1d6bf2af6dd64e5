/- The function that the law DeskHoles runs. Conditions: those named. -/
import Derived.Test.YtfbfeplegdpemaaGreatMgNd
set_option linter.unusedVariables false
set_option maxRecDepth 20000
namespace Go.Proofs.YtfbfeplegdpemaaGreat
open Go.RowKit

section
variable {b : Nat} {w w' : World} {gv gm gs r pv po pd pr pc : Nat} {Bs : List BV} {n : Nat}
set_option maxHeartbeats 16000000 in
theorem holes1 {x0 : Value} {A : Option Addr} {c len : Nat} {l : L8} (off cut : Nat) (hoff : off < 65536) (hcut : cut < 65536) (h : VV b w gv gm gs (some ⟨r, 0, none⟩) 0 fun _ => none) (hb : b ≤ w.heap.size) (hrb : b ≤ r) (hr : Row w r 83 (rcs false 0)) (hp : Row w pv 28 [.pointer (some ⟨gv, 0, none⟩)]) (hpo : Row w po 23 [.int .u16 (off : Int)]) (hpd : Row w pd 22 [.slice A len c]) (hpr : Row w pr 4 [x0]) (hpc : Row w pc 23 [.int .u16 (cut : Int)]) (hs : Src b w gs Bs) (hB : Bs.length = 256 ∧ ∀ x ∈ Bs, x.l = List.replicate 256 0) (hbp : b ≤ pr) (hD : HolB b w A l) (hlen : l.length = len) (hlc : len ≤ c) (h3 : len ≤ 3000) :
    Calls Tryz.prog 26 #[.pointer (some ⟨pv, 0, none⟩), .pointer (some ⟨po, 0, none⟩), .pointer (some ⟨pd, 0, none⟩), .pointer (some ⟨pr, 0, none⟩), .pointer (some ⟨pc, 0, none⟩)] w (FunP b gv gm gs r [gm, pr] (fun _ C' w2 => w2.cell? ⟨pr, 0, none⟩ = some (.bool true)) (fun _ _ => False) w) := by
  have HNEW := Lib.hid (p := ∀ w, Calls Tryz.prog 13 #[.pointer (some ⟨gv, 0, none⟩), .int .i64 256] w fun e w' => ∃ gd, e = .returned (.pointer (some ⟨gd, 0, none⟩)) ∧ Hid (Row w' gd 88 (dcs gv 256 (bkcs false sup0 sup0) (bkcs false sup0 sup0) false (-1))) ∧ Hid (w.heap.size ≤ gd) ∧ Hid (Below w.heap.size w w')) (fun w => dnew gv 256 w)
  have H := Lib.hid h
  have HR := Lib.hid hr
  have HPR := Lib.hid hpr
  have HS := Lib.hid hs
  have HB := Lib.hid hB
  have HLO := Lib.hid (p := b ≤ w.heap.size ∧ b ≤ r ∧ b ≤ pr ∧ b ≤ gm) ⟨hb, hrb, hbp, h.lo.2⟩
  have i2 := Lib.hid (fun v => info_ncs v)
  have i3 := Lib.hid (fun k s => info_ref k s)
  have hzr := Lib.hid zero_ref
  have hzi := Lib.hid zero_ino
  have HLT := Lib.hid (p := gm < w.heap.size ∧ pr < w.heap.size ∧ pr ≠ gm) ⟨h.map.lt, hpr.lt, fun e => h.map.no_cells _ _ _ (e ▸ hpr.heap)⟩
  have c0 : w.cell? ⟨pv, 0, none⟩ = some (.pointer (some ⟨gv, 0, none⟩)) := (hp.cell 0).trans rfl
  have HPO := Lib.hid hpo
  have HPD := Lib.hid hpd
  have HPC := Lib.hid hpc
  have HD := Lib.hid hD
  have HLEN := Lib.hid (p := l.length = len ∧ len ≤ c ∧ len ≤ 3000) ⟨hlen, hlc, h3⟩
  have HNE := Lib.hid (p := (po ≠ gm ∧ po ≠ pr) ∧ (pd ≠ gm ∧ pd ≠ pr) ∧ (pc ≠ gm ∧ pc ≠ pr)) ⟨⟨fun e => h.map.no_cells _ _ _ (e ▸ hpo.heap), hpo.ne_ hpr (by decide)⟩, ⟨fun e => h.map.no_cells _ _ _ (e ▸ hpd.heap), hpd.ne_ hpr (by decide)⟩, ⟨fun e => h.map.no_cells _ _ _ (e ▸ hpc.heap), hpc.ne_ hpr (by decide)⟩⟩
  obtain ⟨at_, hat⟩ : ∃ at_, off % 20000 = at_ := ⟨_, rfl⟩
  obtain ⟨k, hk⟩ : ∃ k, cut % 24000 = k := ⟨_, rfl⟩
  have HAT := Lib.hid (p := at_ < 20000) (by omega)
  have HKK := Lib.hid (p := k < 24000) (by omega)
  have ho1 : IntKind.i64.wrap (off : Int) = (off : Int) := by rw [IntKind.wrap_i64]; omega
  have ho2 : Int.tmod (off : Int) 20000 = (at_ : Int) := by rw [Int.tmod_eq_emod_of_nonneg (by omega)]; omega
  have hq1 : IntKind.i64.wrap (cut : Int) = (cut : Int) := by rw [IntKind.wrap_i64]; omega
  have hq2 : Int.tmod (cut : Int) 24000 = (k : Int) := by rw [Int.tmod_eq_emod_of_nonneg (by omega)]; omega
  obtain ⟨F1, hF1⟩ : ∃ F1 : Nat → UInt8, F1 = fun i => if at_ ≤ i ∧ i < at_ + len then l.getD (i - at_) 0 else 0 := ⟨_, rfl⟩
  obtain ⟨F2, hF2⟩ : ∃ F2 : Nat → UInt8, F2 = fun i => if i < k then F1 i else 0 := ⟨_, rfl⟩
  obtain ⟨F3, hF3⟩ : ∃ F3 : Nat → UInt8, F3 = fun i => if i < 24000 then F2 i else 0 := ⟨_, rfl⟩
  obtain ⟨sz, hsz⟩ : ∃ sz, sz = if len = 0 then 0 else max 0 (at_ + len) := ⟨_, rfl⟩
  have HF1 := Lib.hid hF1
  have HF2 := Lib.hid hF2
  have HF3 := Lib.hid hF3
  have HSZ1 := Lib.hid (p := sz = (if len = 0 then 0 else max 0 (at_ + len)) ∧ sz ≤ 23000 ∧ (∀ i, i < sz → i < at_ + len) ∧ (∀ i, sz ≤ i → F1 i = 0)) ⟨hsz, by
    rw [hsz]; split <;> omega, fun i hi => by rw [hsz] at hi; split at hi <;> omega, fun i hi => by
    rw [hF1]
    show (if _ then _ else _) = _
    rw [if_neg]
    rw [hsz] at hi
    split at hi <;> omega⟩
  clear h hr hp hpr hs hB hb hrb hbp hpo hpd hpc hD hlen hlc h3 hat hk hoff hcut hF1 hF2 hF3 hsz
  go_enter Tryz.func26, Tryz.ntmps26
  go_wp2_with (first
    | (go_at_call 13; refine (HNEW.out _).mono ?_; rintro e w2 ⟨gd, rfl, hd, hg, hb⟩
       have HG := Lib.hid (p := w.heap.size ≤ gd) hg.out
       have HK2 := Lib.hid (DK.start H.out HR.out HS.out ⟨HLO.out.2.1, HLO.out.1⟩ hd.out hg.out hb.out)
       have HC2 := Lib.hid (p := Chg [gm] w w2) (Chg.of hb.out)
       have HPR2 := Lib.hid (HPR.out.kept hb.out)
       have HSZ := Lib.hid (src_zero (Bs := Bs) HS.out HB.out (byL fun _ => none) 0 (by decide) rfl)
       obtain ⟨X0, hX0⟩ : ∃ X0 : DX, (⟨false, sup0, sup0, byL fun _ => none⟩ : DX) = X0 := ⟨_, rfl⟩
       have HX0 := Lib.hid (p := X0.rd = false ∧ X0.C = fun _ => none) (by rw [← hX0]; exact ⟨rfl, rfl⟩)
       rw [hX0] at HK2 HSZ
       have HN := Lib.hid (p := ∀ x : Nat, (x = gd ∨ x = gm) → x = gm ∨ w.heap.size ≤ x) (fun x hx => by rcases hx with rfl | rfl; exact .inr HG.out; exact .inl rfl)
       clear hd hg hb c0 hX0)
    | (refine step_build rfl 44 _ rfl [(0, .int .i64 1), (4, .int .i64 1)] ?hv _ built_file ?_; case hv => (simp [Act.eval, Act.put]))
    | (go_at_call 14; refine (fmake HK2.out HX0.out.1 _ HSZ.out rfl (by omega) (by decide)).mono ?_; rintro e w3 ⟨rfl, hk, hc⟩
       have HK3 := hk
       have HC3 := Lib.hid (p := Chg [gm] w w3) (HC2.out.trans hc.out (fun x hx => by simp at hx ⊢; exact HN.out x hx))
       have HPR3 := Lib.hid (hc.out.row HPR2.out (by have h1 := HLT.out; have h2 := HG.out; simp; omega))
       clear hk hc)
    | (refine step_alloc rfl 6 rfl 37 rfl _ hzr.out ?_; intro g3 w4 hr2 hg2 hb2 hs2
       have HR34 := Lib.hid hr2
       have HK4 := Lib.hid (HK3.out.below hb2)
       have HC4 := Lib.hid (chg_nxt HC3.out hb2)
       have HPR4 := Lib.hid (HPR3.out.kept hb2)
       have HG3 := Lib.hid (p := w.heap.size ≤ g3 ∧ gd < g3 ∧ pr < g3) (by rw [hg2.out]; exact ⟨HC3.out.size, HK3.out.lt, HPR3.out.lt⟩)
       clear hr2 hg2 hb2 hs2)
    | (refine step_store rfl 37 (.tmp 6) (.tmp 24) rfl g3 rfl _ _ (rfc 1 1) rfl HR34.out rfl (i3.out _ _) (rfc_one _ _) ?_; intro w5 hr9 hg9 hs9
       have HR35 := Lib.hid hr9
       have HK5 := Lib.hid (HK4.out.other HR34.out (by decide) (by have := HLO.out; have := HG3.out; omega) (Chg.one hg9))
       have HC5 := Lib.hid (p := Chg [gm] w w5) (chg_own HC4.out HG3.out.1 (Chg.one hg9))
       have HPR5 := Lib.hid (HPR4.out.grown hg9 (fun e => by have := HG3.out; injection e; omega))
       clear hr9 hg9 hs9)
    | (refine step_load rfl 28 rfl 37 (.tmp 6) rfl g3 rfl (rfc 1 1) _ HR35.out.all Tryz.underlying37 rfl (i3.out _ _) ?_)
    | (go_at_call 15; refine (fget HK5.out (by omega)).mono ?_; rintro e w6 ⟨rfl, hk, hc⟩
       have HK6 := hk
       have HC6 := Lib.hid (p := Chg [gm] w w6) (HC5.out.trans hc.out (fun x hx => by simp at hx ⊢; exact HN.out x (.inl hx)))
       have HPR6 := Lib.hid (hc.out.row HPR5.out (by have h1 := HLT.out; have h2 := HG.out; simp; omega))
       clear hk hc)
    | (refine step_alloc rfl 8 rfl 44 rfl _ hzi.out ?_; intro gn w7 hr2 hg2 hb2 hs2
       have HR57 := Lib.hid hr2
       have HK7 := Lib.hid (HK6.out.below hb2)
       have HC7 := Lib.hid (chg_nxt HC6.out hb2)
       have HPR7 := Lib.hid (HPR6.out.kept hb2)
       have HG5 := Lib.hid (p := w.heap.size ≤ gn ∧ gd < gn ∧ pr < gn) (by rw [hg2.out]; exact ⟨HC6.out.size, HK6.out.lt, HPR6.out.lt⟩)
       clear hr2 hg2 hb2 hs2)
    | (refine step_store rfl 44 (.tmp 8) (.tmp 30) rfl gn rfl _ _ (ncs (vA 1)) rfl HR57.out rfl (i2.out _) (ncs_one _) ?_; intro w8 hr9 hg9 hs9
       have F8 := Lib.hid (p := FS b w w8 gd gv gm gs r pr gn Bs 1 (XA X0) (vA 1) x0) ⟨HK7.out.other HR57.out (by decide) (by have := HLO.out; have := HG5.out; omega) (Chg.one hg9), (chg_own HC7.out HG5.out.1 (Chg.one hg9)).wider (fun y hy => .inl (by simp at hy ⊢; exact .inl hy)), hr9, HPR7.out.grown hg9 (fun e => by have := HG5.out; injection e; omega), HG.out, HG5.out.2.1, HLT.out.1, HLT.out.2.1, HLT.out.2.2, HLO.out.1, HLO.out.2.2.1, HLO.out.2.2.2⟩
       have HFO := Lib.hid (fo_empty Bs (XA X0) 1)
       have HXS := Lib.hid (p := (XA X0).S = supU 2 iA oA 2 ∧ (XA X0).rd = true ∧ vA 1 5 = ((0 : Nat) : Int)) ⟨rfl, rfl, by rw [vA_ne 1 (by decide)]; rfl⟩
       generalize hXA : XA X0 = XX at F8 HFO HXS
       generalize hVA : vA 1 = VA at F8 HFO HXS
       generalize hRA : rowD VA = RA at HFO
       have co : w8.cell? ⟨po, 0, none⟩ = some (.int .u16 (off : Int)) := ((F8.out.base HPO.out HNE.out.1).cell 0).trans rfl
       have cd : w8.cell? ⟨pd, 0, none⟩ = some (.slice A len c) := ((F8.out.base HPD.out HNE.out.2.1).cell 0).trans rfl
       clear hr9 hg9 hs9 hXA hVA hRA)
    | (refine step_load rfl 36 rfl 44 (.tmp 8) rfl gn rfl (ncs VA) _ F8.out.row.all Tryz.underlying44 rfl (i2.out _) ?_)
    | (go_at_call 16
       have hw := HFO.out.write_any (w := w8) 2 iA oA HXS.out.1 HXS.out.2.1 (by decide) A c at_ l (by rw [HLEN.out.1]; exact HLEN.out.2.1) (by have h1 := HLEN.out; have h2 := HAT.out; omega) (by omega) (Nat.le_refl _) 13 (by have h1 := HLEN.out; omega) (by omega) F8.out.dk (F8.out.dataD HD.out) (F2 := F1) (fun i => by rw [HF1.out, HLEN.out.1]) 0 sz HXS.out.2.2 (by rw [HLEN.out.1]; exact HSZ1.out.1)
       rw [HLEN.out.1] at hw
       refine hw.mono ?_; rintro e w9 ⟨v2, R2, m2, X2, rfl, hf, hs2, hv2, hk, hc⟩
       have F9 := Lib.hid (F8.out.call hk.out hc.out (fun y hy => by simp at hy; exact hy))
       have HFO9 := hf
       have HS9 := hs2
       have HV9 := hv2
       clear hw hf hs2 hv2 hk hc co cd)
    | (refine step_store rfl 44 (.tmp 8) (.tmp 39) rfl gn rfl _ _ (ncs v2) rfl F9.out.row rfl (i2.out _) (ncs_one _) ?_; intro w10 hr9 hg9 hs9
       have F10 := Lib.hid (F9.out.set hr9 hg9)
       clear hr9 hg9 hs9)
    | (refine step_load rfl 41 rfl 44 (.tmp 8) rfl gn rfl (ncs v2) _ F10.out.row.all Tryz.underlying44 rfl (i2.out _) ?_)
    | (go_at_call 17; refine (HFO9.out.whole 30000 sz F10.out.dk (by omega) HV9.out (by have := HSZ1.out; omega) (by decide)).mono ?_; rintro e w11 ⟨YA, yc, rfl, hyo, hk, hc⟩
       have F11 := Lib.hid (F10.out.call hk.out hc.out (fun y hy => by simp at hy; exact .inl hy))
       have HMM := Lib.hid (p := gd < w10.heap.size ∧ gm < w10.heap.size ∧ pr < w10.heap.size ∧ gn < w10.heap.size) (by have h1 := F10.out.lo; have h2 := F10.out.row.lt; omega)
       have HYO := hyo
       have c5 : w11.cell? ⟨gn, 5, none⟩ = some (.int .i64 (sz : Int)) := by rw [← HV9.out]; exact (F11.out.row.cell 5).trans rfl
       have cp := F11.out.prr.cell 0
       have fp := F11.out.prr.free 0
       clear hyo hk hc))
  have F12 := Lib.hid (F11.out.put (.bool true))
  have HYP := Lib.hid (HYO.out.past ((Chg.refl [pr] w11).setCell (p := ⟨pr, 0, none⟩) (.inl (by simp)) (.bool true)) (fun z hz => by have := HMM.out; simp at hz; omega))
  clear c5 cp fp
  generalize w11.setCell ⟨pr, 0, none⟩ (.bool true) = W12 at F12 HYP ⊢
  go_loopw [12] (fun x wr => ∃ i : Nat, Hid (i ≤ sz) ∧ x = .int .i64 (i : Int) ∧ Hid (Chg [pr] W12 wr) ∧ Hid (Row wr pr 4 [.bool true])) (fun x _ => sz - (intOf x).toNat)
  case atStart => exact ⟨0, Lib.hid (Nat.zero_le _), rfl, Lib.hid (Chg.refl _ _), Lib.hid F12.out.prr⟩
  case round =>
    obtain ⟨i, HI, rfl, HCR, HPRR⟩ := hrel
    rename World => wo
    have FO1 := Lib.hid (F12.out.loop HCR.out HPRR.out)
    have cp : wo.cell? ⟨pr, 0, none⟩ = some (.bool true) := (HPRR.out.cell 0).trans rfl
    have fp := HPRR.out.free 0
    by_cases hi : i < sz
    · have hii : (i : Int) < (sz : Int) := by omega
      have hiw : IntKind.i64.wrap ((i : Int) + 1) = (i : Int) + 1 := by rw [IntKind.wrap_i64]; have := HSZ1.out; omega
      have cd : wo.cell? ⟨pd, 0, none⟩ = some (.slice A len c) := ((FO1.out.base HPD.out HNE.out.2.1).cell 0).trans rfl
      obtain ⟨gy, oy, hya, hyc⟩ := y_at (HYP.out.past HCR.out (fun z hz => by have := HMM.out; simp at hz; omega)) hi
      subst hya
      by_cases hge : at_ ≤ i
      · have hgei : (at_ : Int) ≤ (i : Int) := by omega
        obtain ⟨d, hd⟩ : ∃ d, i - at_ = d := ⟨_, rfl⟩
        have hdl : d < len := by have := HSZ1.out.2.2.1 i hi; omega
        have hdi : (d : Int) < (len : Int) := by omega
        have hsub : IntKind.i64.wrap ((i : Int) - (at_ : Int)) = (d : Int) := by rw [IntKind.wrap_i64]; have := HSZ1.out; omega
        obtain ⟨g2, o2, hA, _, hc2⟩ := (FO1.out.data HD.out).at_ (j := d) (by rw [HLEN.out.1]; exact hdl)
        subst hA
        have hFi : F1 i = l[d]'(by rw [HLEN.out.1]; exact hdl) := by
          rw [HF1.out]
          show (if _ then _ else _) = _
          rw [if_pos ⟨hge, HSZ1.out.2.2.1 i hi⟩, hd, List.getD_eq_getElem?_getD, List.getElem?_eq_getElem (by rw [HLEN.out.1]; exact hdl)]
          rfl
        rw [← hFi] at hc2
        obtain ⟨u, hu⟩ : ∃ u : Nat, (F1 i).toNat = u := ⟨_, rfl⟩
        rw [hu] at hc2 hyc
        have HII := Lib.hid hi
        clear hFi hu hd hdl hge hi
        go_wp2
        go_roundw
        case rel => exact ⟨i + 1, HII, by go_num, Lib.hid (HCR.out.setCell (p := ⟨pr, 0, none⟩) (.inl (by simp)) _), Lib.hid (HPRR.out.put 0 _)⟩
        case measure => have := HII.out; simp [intOf]; omega
      · have hgei : ¬ (at_ : Int) ≤ (i : Int) := by omega
        have hFi : (F1 i).toNat = 0 := by
          rw [HF1.out]
          show UInt8.toNat (if _ then _ else _) = _
          rw [if_neg (by omega)]
          rfl
        rw [hFi] at hyc
        have HII := Lib.hid hi
        clear hFi hge hi
        go_wp2
        go_roundw
        case rel => exact ⟨i + 1, HII, by go_num, Lib.hid (HCR.out.setCell (p := ⟨pr, 0, none⟩) (.inl (by simp)) _), Lib.hid (HPRR.out.put 0 _)⟩
        case measure => have := HII.out; simp [intOf]; omega
    · have hiz : ¬ (i : Int) < (sz : Int) := by omega
      have hie : i = sz := by have := HI.out; omega
      subst hie
      have HYR := Lib.hid (HYP.out.past HCR.out (fun z hz => by have := HMM.out; simp at hz; omega))
      have cc : wo.cell? ⟨pc, 0, none⟩ = some (.int .u16 (cut : Int)) := ((FO1.out.base HPC.out HNE.out.2.2).cell 0).trans rfl
      clear hi F12 HYP HCR HPRR F8 F9 F10 F11 cp fp
      go_wp2_with (first
        | (refine step_load rfl 77 rfl 44 (.tmp 8) rfl gn rfl (ncs v2) _ FO1.out.row.all Tryz.underlying44 rfl (i2.out _) ?_)
        | (go_at_call_of 18 (Value.int IntKind.i64 (k : Int)); refine (HFO9.out.cut HS9.out.2.1 k (by have := HKK.out; omega) (by omega) FO1.out.dk (F2 := F2) (fun i => by rw [HF2.out])).mono ?_; rintro e w13 ⟨v3, R3, X3, rfl, hf, hrd3, hv3, _, hk, hc⟩
           have F13 := Lib.hid (FO1.out.call hk.out hc.out (fun y hy => by simp at hy; exact hy))
           have HFO13 := hf
           have HS13 := hrd3
           have HC13 := hc
           clear hf hrd3 hv3 hk hc cc)
        | (go_at_call_of 18 (Value.int IntKind.i64 24000); refine (HFO13.out.cut HS13.out 24000 (by decide) (by omega) F13.out.dk (F2 := F3) (fun i => by rw [HF3.out])).mono ?_; rintro e w14 ⟨v4, R4, X4, rfl, hf, _, hv4, _, hk, hc⟩
           have F14 := Lib.hid (F13.out.call hk.out hc.out (fun y hy => by simp at hy; exact hy))
           have HFO14 := hf
           have HV14 := hv4
           have HC14 := hc
           clear hf hv4 hk hc)
        | (refine step_store rfl 44 (.tmp 8) (.tmp 80) rfl gn rfl _ _ (ncs v4) rfl F14.out.row rfl (i2.out _) (ncs_one _) ?_; intro w15 hr9 hg9 hs9
           have F15 := Lib.hid (F14.out.set hr9 hg9)
           have HYR15 := Lib.hid (((HYR.out.past HC13.out (fun z hz => by have := HMM.out; simp at hz; omega)).past HC14.out (fun z hz => by have := HMM.out; simp at hz; omega)).past (Chg.one hg9) (fun z hz => by have := HMM.out; simp at hz; omega))
           clear hr9 hg9 hs9)
        | (refine step_load rfl 82 rfl 44 (.tmp 8) rfl gn rfl (ncs v4) _ F15.out.row.all Tryz.underlying44 rfl (i2.out _) ?_)
        | (go_at_call 17; refine (HFO14.out.whole 30000 24000 F15.out.dk (by omega) HV14.out (by decide) (by decide)).mono ?_; rintro e w16 ⟨ZA, zc, rfl, hyo, hk, hc⟩
           have F16 := Lib.hid (F15.out.call hk.out hc.out (fun y hy => by simp at hy; exact .inl hy))
           have HZO := hyo
           have HMZ := Lib.hid (p := pr < w15.heap.size) (by have h1 := F15.out.lo; have h2 := F15.out.row.lt; omega)
           have HYR16 := Lib.hid (HYR15.out.past hc.out (fun z hz => by have := HMM.out; simp at hz; omega))
           have cp : w16.cell? ⟨pr, 0, none⟩ = some (.bool true) := (F16.out.prr.cell 0).trans rfl
           have fp := F16.out.prr.free 0
           clear hyo hk hc))
      have F17 := Lib.hid (F16.out.put (.bool true))
      have HYP := Lib.hid (HYR16.out.past ((Chg.refl [pr] w16).setCell (p := ⟨pr, 0, none⟩) (.inl (by simp)) (.bool true)) (fun z hz => by have := HMM.out; simp at hz; omega))
      have HZP := Lib.hid (HZO.out.past ((Chg.refl [pr] w16).setCell (p := ⟨pr, 0, none⟩) (.inl (by simp)) (.bool true)) (fun z hz => by have := HMZ.out; simp at hz; omega))
      clear cp fp HYR16 HYR15 HYR HZO
      generalize w16.setCell ⟨pr, 0, none⟩ (.bool true) = W17 at F17 HYP HZP ⊢
      go_loopw [16] (fun x wr => ∃ j : Nat, Hid (j ≤ 24000) ∧ x = .int .i64 (j : Int) ∧ Hid (Chg [pr] W17 wr) ∧ Hid (Row wr pr 4 [.bool true])) (fun x _ => 24000 - (intOf x).toNat)
      case atStart => exact ⟨0, Lib.hid (Nat.zero_le _), rfl, Lib.hid (Chg.refl _ _), Lib.hid F17.out.prr⟩
      case round =>
        obtain ⟨j, HJ, rfl, HCR, HPRR⟩ := hrel
        rename World => wp
        have FO2 := Lib.hid (F17.out.loop HCR.out HPRR.out)
        have cp : wp.cell? ⟨pr, 0, none⟩ = some (.bool true) := (HPRR.out.cell 0).trans rfl
        have fp := HPRR.out.free 0
        by_cases hj : j < 24000
        · have hjj : (j : Int) < 24000 := by omega
          have hjw : IntKind.i64.wrap ((j : Int) + 1) = (j : Int) + 1 := by rw [IntKind.wrap_i64]; omega
          have HJJ := Lib.hid hj
          obtain ⟨gz, oz, hza, hzc⟩ := y_at (HZP.out.past HCR.out (fun z hz => by have := HMZ.out; simp at hz; omega)) hj
          subst hza
          have hF3j : F3 j = F2 j := by
            rw [HF3.out]
            show (if _ then _ else _) = _
            rw [if_pos hj]
          rw [hF3j] at hzc
          clear hF3j hj
          by_cases hjk : j < k
          · have hjki : (j : Int) < (k : Int) := by omega
            have hF2j : F2 j = F1 j := by
              rw [HF2.out]
              show (if _ then _ else _) = _
              rw [if_pos hjk]
            rw [hF2j] at hzc
            clear hF2j hjk
            by_cases hjs : j < i
            · have hjsi : (j : Int) < (i : Int) := by omega
              obtain ⟨gy, oy, hya, hyc⟩ := y_at (HYP.out.past HCR.out (fun z hz => by have := HMM.out; simp at hz; omega)) hjs
              subst hya
              obtain ⟨u, hu⟩ : ∃ u : Nat, (F1 j).toNat = u := ⟨_, rfl⟩
              rw [hu] at hzc hyc
              clear hu hjs
              go_wp2
              go_roundw
              case rel => exact ⟨j + 1, HJJ, by go_num, Lib.hid (HCR.out.setCell (p := ⟨pr, 0, none⟩) (.inl (by simp)) _), Lib.hid (HPRR.out.put 0 _)⟩
              case measure => have := HJJ.out; simp [intOf]; omega
            · have hjsi : ¬ (j : Int) < (i : Int) := by omega
              have hF0 : (F1 j).toNat = 0 := by rw [HSZ1.out.2.2.2 j (by omega)]; rfl
              rw [hF0] at hzc
              clear hF0 hjs
              go_wp2
              go_roundw
              case rel => exact ⟨j + 1, HJJ, by go_num, Lib.hid (HCR.out.setCell (p := ⟨pr, 0, none⟩) (.inl (by simp)) _), Lib.hid (HPRR.out.put 0 _)⟩
              case measure => have := HJJ.out; simp [intOf]; omega
          · have hjki : ¬ (j : Int) < (k : Int) := by omega
            have hF0 : (F2 j).toNat = 0 := by
              rw [HF2.out]
              show UInt8.toNat (if _ then _ else _) = _
              rw [if_neg hjk]
              rfl
            rw [hF0] at hzc
            clear hF0 hjk
            go_wp2
            go_roundw
            case rel => exact ⟨j + 1, HJJ, by go_num, Lib.hid (HCR.out.setCell (p := ⟨pr, 0, none⟩) (.inl (by simp)) _), Lib.hid (HPRR.out.put 0 _)⟩
            case measure => have := HJJ.out; simp [intOf]; omega
        · have hjz : ¬ (j : Int) < 24000 := by omega
          clear hj
          go_wp2
          go_end0
          obtain ⟨C, hv, hC⟩ := FO2.out.dk.view
          exact .inl ⟨rfl, _, C, hv, by omega, FO2.out.dk.run, FO2.out.chg, (FO2.out.prr.cell 0).trans rfl⟩
end
end Go.Proofs.YtfbfeplegdpemaaGreat
