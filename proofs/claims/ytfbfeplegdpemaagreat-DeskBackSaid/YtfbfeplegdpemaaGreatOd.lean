/- The function that the law DeskBack runs. Conditions: those named. -/
import Derived.Test.YtfbfeplegdpemaaGreatMgNd
set_option linter.unusedVariables false
set_option maxRecDepth 20000
namespace Go.Proofs.YtfbfeplegdpemaaGreat
open Go.RowKit

section
variable {b : Nat} {w w' : World} {gv gm gs r pv pp pq pa pb pr : Nat} {Bs : List BV} {n : Nat}
set_option maxHeartbeats 16000000 in
theorem back1 {x0 : Value} {A B : Option Addr} {c d la lb : Nat} {l k : L8} (p q : Nat) (hpn : p < 3000) (hqn : q < 3000) (h : VV b w gv gm gs (some ⟨r, 0, none⟩) 0 fun _ => none) (hb : b ≤ w.heap.size) (hrb : b ≤ r) (hr : Row w r 83 (rcs false 0)) (hp : Row w pv 28 [.pointer (some ⟨gv, 0, none⟩)]) (hpp : Row w pp 3 [.int .i64 (p : Int)]) (hpa : Row w pa 22 [.slice A la c]) (hpq : Row w pq 3 [.int .i64 (q : Int)]) (hpb : Row w pb 22 [.slice B lb d]) (hpr : Row w pr 4 [x0]) (hs : Src b w gs Bs) (hB : Bs.length = 256 ∧ ∀ x ∈ Bs, x.l = List.replicate 256 0) (hbp : b ≤ pr) (hD : HolB b w A l) (hE : HolB b w B k) (hlen : l.length = la ∧ la ≤ c ∧ la ≤ 3000) (hlen2 : k.length = lb ∧ lb ≤ d ∧ lb ≤ 3000) :
    Calls Tryz.prog 12 #[.pointer (some ⟨pv, 0, none⟩), .pointer (some ⟨pp, 0, none⟩), .pointer (some ⟨pa, 0, none⟩), .pointer (some ⟨pq, 0, none⟩), .pointer (some ⟨pb, 0, none⟩), .pointer (some ⟨pr, 0, none⟩)] w (FunP b gv gm gs r [gm, pr] (fun _ C' w2 => w2.cell? ⟨pr, 0, none⟩ = some (.bool true)) (fun _ _ => False) w) := by
  have HNEW := Lib.hid (p := ∀ w, Calls Tryz.prog 13 #[.pointer (some ⟨gv, 0, none⟩), .int .i64 256] w fun e w' => ∃ gd, e = .returned (.pointer (some ⟨gd, 0, none⟩)) ∧ Hid (Row w' gd 88 (dcs gv 256 (bkcs false sup0 sup0) (bkcs false sup0 sup0) false (-1))) ∧ Hid (w.heap.size ≤ gd) ∧ Hid (Below w.heap.size w w')) (fun w => dnew gv 256 w)
  have H := Lib.hid h
  have HR := Lib.hid hr
  have HPR := Lib.hid hpr
  have HS := Lib.hid hs
  have HB := Lib.hid hB
  have HLO := Lib.hid (p := b ≤ w.heap.size ∧ b ≤ r ∧ b ≤ pr ∧ b ≤ gm) ⟨hb, hrb, hbp, h.lo.2⟩
  have i2 := Lib.hid (fun v => info_ncs v)
  have i3 := Lib.hid (fun k s => info_ref k s)
  have hzr := Lib.hid zero_ref
  have hzi := Lib.hid zero_ino
  have HLT := Lib.hid (p := gm < w.heap.size ∧ pr < w.heap.size ∧ pr ≠ gm) ⟨h.map.lt, hpr.lt, fun e => h.map.no_cells _ _ _ (e ▸ hpr.heap)⟩
  have c0 : w.cell? ⟨pv, 0, none⟩ = some (.pointer (some ⟨gv, 0, none⟩)) := (hp.cell 0).trans rfl
  have HPP := Lib.hid hpp
  have HPA := Lib.hid hpa
  have HPQ := Lib.hid hpq
  have HPB := Lib.hid hpb
  have HD := Lib.hid hD
  have HE := Lib.hid hE
  have HLA := Lib.hid hlen
  have HLB := Lib.hid hlen2
  have HPQN := Lib.hid (p := p < 3000 ∧ q < 3000) ⟨hpn, hqn⟩
  have HNE := Lib.hid (p := (pp ≠ gm ∧ pp ≠ pr) ∧ (pa ≠ gm ∧ pa ≠ pr) ∧ (pq ≠ gm ∧ pq ≠ pr) ∧ (pb ≠ gm ∧ pb ≠ pr)) ⟨⟨fun e => h.map.no_cells _ _ _ (e ▸ hpp.heap), hpp.ne_ hpr (by decide)⟩, ⟨fun e => h.map.no_cells _ _ _ (e ▸ hpa.heap), hpa.ne_ hpr (by decide)⟩, ⟨fun e => h.map.no_cells _ _ _ (e ▸ hpq.heap), hpq.ne_ hpr (by decide)⟩, ⟨fun e => h.map.no_cells _ _ _ (e ▸ hpb.heap), hpb.ne_ hpr (by decide)⟩⟩
  obtain ⟨F1, hF1⟩ : ∃ F1 : Nat → UInt8, F1 = fun i => if p ≤ i ∧ i < p + la then l.getD (i - p) 0 else 0 := ⟨_, rfl⟩
  obtain ⟨F2, hF2⟩ : ∃ F2 : Nat → UInt8, F2 = fun i => if q ≤ i ∧ i < q + lb then k.getD (i - q) 0 else F1 i := ⟨_, rfl⟩
  obtain ⟨F3, hF3⟩ : ∃ F3 : Nat → UInt8, F3 = fun i => if i < 0 then F2 i else 0 := ⟨_, rfl⟩
  obtain ⟨s1, hs1⟩ : ∃ s1, s1 = if la = 0 then 0 else max 0 (p + la) := ⟨_, rfl⟩
  obtain ⟨s2, hs2⟩ : ∃ s2, s2 = if lb = 0 then s1 else max s1 (q + lb) := ⟨_, rfl⟩
  have HF1 := Lib.hid hF1
  have HF2 := Lib.hid hF2
  have HF3 := Lib.hid hF3
  have HS1 := Lib.hid (p := s1 = (if la = 0 then 0 else max 0 (p + la)) ∧ s1 ≤ 6000 ∧ (∀ i, s1 ≤ i → F1 i = 0)) ⟨hs1, by
    rw [hs1]; split <;> omega, fun i hi => by
    rw [hF1]
    show (if _ then _ else _) = _
    rw [if_neg]
    rw [hs1] at hi
    split at hi <;> omega⟩
  have HS2 := Lib.hid (p := s2 = (if lb = 0 then s1 else max s1 (q + lb)) ∧ s2 ≤ 6000 ∧ s1 ≤ s2) (by
    have h1 := HS1.out.2.1
    refine ⟨hs2, ?_, ?_⟩ <;> (rw [hs2]; split <;> omega))
  have h12 : (s1 : Int) ≤ (s2 : Int) := by have := HS2.out; omega
  clear h hr hp hpr hs hB hb hrb hbp hpp hpa hpq hpb hD hE hlen hlen2 hpn hqn hF1 hF2 hF3 hs1 hs2
  go_enter Tryz.func12, Tryz.ntmps12
  go_wp2_with (first
    | (go_at_call 13; refine (HNEW.out _).mono ?_; rintro e w2 ⟨gd, rfl, hd, hg, hb⟩
       have HG := Lib.hid (p := w.heap.size ≤ gd) hg.out
       have HK2 := Lib.hid (DK.start H.out HR.out HS.out ⟨HLO.out.2.1, HLO.out.1⟩ hd.out hg.out hb.out)
       have HC2 := Lib.hid (p := Chg [gm] w w2) (Chg.of hb.out)
       have HPR2 := Lib.hid (HPR.out.kept hb.out)
       have HSZ := Lib.hid (src_zero (Bs := Bs) HS.out HB.out (byL fun _ => none) 0 (by decide) rfl)
       obtain ⟨X0, hX0⟩ : ∃ X0 : DX, (⟨false, sup0, sup0, byL fun _ => none⟩ : DX) = X0 := ⟨_, rfl⟩
       have HX0 := Lib.hid (p := X0.rd = false ∧ X0.C = fun _ => none) (by rw [← hX0]; exact ⟨rfl, rfl⟩)
       rw [hX0] at HK2 HSZ
       have HN := Lib.hid (p := ∀ x : Nat, (x = gd ∨ x = gm) → x = gm ∨ w.heap.size ≤ x) (fun x hx => by rcases hx with rfl | rfl; exact .inr HG.out; exact .inl rfl)
       clear hd hg hb c0 hX0)
    | (refine step_build rfl 44 _ rfl [(0, .int .i64 1), (4, .int .i64 1)] ?hv _ built_file ?_; case hv => (simp [Act.eval, Act.put]))
    | (go_at_call 14; refine (fmake HK2.out HX0.out.1 _ HSZ.out rfl (by omega) (by decide)).mono ?_; rintro e w3 ⟨rfl, hk, hc⟩
       have HK3 := hk
       have HC3 := Lib.hid (p := Chg [gm] w w3) (HC2.out.trans hc.out (fun x hx => by simp at hx ⊢; exact HN.out x hx))
       have HPR3 := Lib.hid (hc.out.row HPR2.out (by have h1 := HLT.out; have h2 := HG.out; simp; omega))
       clear hk hc)
    | (refine step_alloc rfl 7 rfl 37 rfl _ hzr.out ?_; intro g3 w4 hr2 hg2 hb2 hs2
       have HR34 := Lib.hid hr2
       have HK4 := Lib.hid (HK3.out.below hb2)
       have HC4 := Lib.hid (chg_nxt HC3.out hb2)
       have HPR4 := Lib.hid (HPR3.out.kept hb2)
       have HG3 := Lib.hid (p := w.heap.size ≤ g3 ∧ gd < g3 ∧ pr < g3) (by rw [hg2.out]; exact ⟨HC3.out.size, HK3.out.lt, HPR3.out.lt⟩)
       clear hr2 hg2 hb2 hs2)
    | (refine step_store rfl 37 (.tmp 7) (.tmp 21) rfl g3 rfl _ _ (rfc 1 1) rfl HR34.out rfl (i3.out _ _) (rfc_one _ _) ?_; intro w5 hr9 hg9 hs9
       have HR35 := Lib.hid hr9
       have HK5 := Lib.hid (HK4.out.other HR34.out (by decide) (by have := HLO.out; have := HG3.out; omega) (Chg.one hg9))
       have HC5 := Lib.hid (p := Chg [gm] w w5) (chg_own HC4.out HG3.out.1 (Chg.one hg9))
       have HPR5 := Lib.hid (HPR4.out.grown hg9 (fun e => by have := HG3.out; injection e; omega))
       clear hr9 hg9 hs9)
    | (refine step_load rfl 25 rfl 37 (.tmp 7) rfl g3 rfl (rfc 1 1) _ HR35.out.all Tryz.underlying37 rfl (i3.out _ _) ?_)
    | (go_at_call 15; refine (fget HK5.out (by omega)).mono ?_; rintro e w6 ⟨rfl, hk, hc⟩
       have HK6 := hk
       have HC6 := Lib.hid (p := Chg [gm] w w6) (HC5.out.trans hc.out (fun x hx => by simp at hx ⊢; exact HN.out x (.inl hx)))
       have HPR6 := Lib.hid (hc.out.row HPR5.out (by have h1 := HLT.out; have h2 := HG.out; simp; omega))
       clear hk hc)
    | (refine step_alloc rfl 9 rfl 44 rfl _ hzi.out ?_; intro gn w7 hr2 hg2 hb2 hs2
       have HR57 := Lib.hid hr2
       have HK7 := Lib.hid (HK6.out.below hb2)
       have HC7 := Lib.hid (chg_nxt HC6.out hb2)
       have HPR7 := Lib.hid (HPR6.out.kept hb2)
       have HG5 := Lib.hid (p := w.heap.size ≤ gn ∧ gd < gn ∧ pr < gn) (by rw [hg2.out]; exact ⟨HC6.out.size, HK6.out.lt, HPR6.out.lt⟩)
       clear hr2 hg2 hb2 hs2)
    | (refine step_store rfl 44 (.tmp 9) (.tmp 27) rfl gn rfl _ _ (ncs (vA 1)) rfl HR57.out rfl (i2.out _) (ncs_one _) ?_; intro w8 hr9 hg9 hs9
       have F8 := Lib.hid (p := FS b w w8 gd gv gm gs r pr gn Bs 1 (XA X0) (vA 1) x0) ⟨HK7.out.other HR57.out (by decide) (by have := HLO.out; have := HG5.out; omega) (Chg.one hg9), (chg_own HC7.out HG5.out.1 (Chg.one hg9)).wider (fun y hy => .inl (by simp at hy ⊢; exact .inl hy)), hr9, HPR7.out.grown hg9 (fun e => by have := HG5.out; injection e; omega), HG.out, HG5.out.2.1, HLT.out.1, HLT.out.2.1, HLT.out.2.2, HLO.out.1, HLO.out.2.2.1, HLO.out.2.2.2⟩
       have HFO := Lib.hid (fo_empty Bs (XA X0) 1)
       have HXS := Lib.hid (p := (XA X0).S = supU 2 iA oA 2 ∧ (XA X0).rd = true ∧ vA 1 5 = ((0 : Nat) : Int)) ⟨rfl, rfl, by rw [vA_ne 1 (by decide)]; rfl⟩
       generalize hXA : XA X0 = XX at F8 HFO HXS
       generalize hVA : vA 1 = VA at F8 HFO HXS
       generalize hRA : rowD VA = RA at HFO
       have co : w8.cell? ⟨pp, 0, none⟩ = some (.int .i64 (p : Int)) := ((F8.out.base HPP.out HNE.out.1).cell 0).trans rfl
       have cd : w8.cell? ⟨pa, 0, none⟩ = some (.slice A la c) := ((F8.out.base HPA.out HNE.out.2.1).cell 0).trans rfl
       clear hr9 hg9 hs9 hXA hVA hRA)
    | (refine step_load rfl 30 rfl 44 (.tmp 9) rfl gn rfl (ncs VA) _ F8.out.row.all Tryz.underlying44 rfl (i2.out _) ?_)
    | (go_at_call_of 16 (Value.int IntKind.i64 (p : Int))
       have hw := HFO.out.write_any (w := w8) 2 iA oA HXS.out.1 HXS.out.2.1 (by decide) A c p l (by rw [HLA.out.1]; exact HLA.out.2.1) (by have h1 := HLA.out; have h2 := HPQN.out; omega) (by omega) (Nat.le_refl _) 13 (by have h1 := HLA.out; omega) (by omega) F8.out.dk (F8.out.dataD HD.out) (F2 := F1) (fun i => by rw [HF1.out, HLA.out.1]) 0 s1 HXS.out.2.2 (by rw [HLA.out.1]; exact HS1.out.1)
       rw [HLA.out.1] at hw
       refine hw.mono ?_; rintro e w9 ⟨v2, R2, m2, X2, rfl, hf, hs2, hv2, hk, hc⟩
       have F9 := Lib.hid (F8.out.call hk.out hc.out (fun y hy => by simp at hy; exact hy))
       have HFO9 := hf
       have HS9 := hs2
       have HV9 := hv2
       clear hw hf hs2 hv2 hk hc co cd)
    | (refine step_store rfl 44 (.tmp 9) (.tmp 33) rfl gn rfl _ _ (ncs v2) rfl F9.out.row rfl (i2.out _) (ncs_one _) ?_; intro w10 hr9 hg9 hs9
       have F10 := Lib.hid (F9.out.set hr9 hg9)
       clear hr9 hg9 hs9)
    | (refine step_load rfl 35 rfl 44 (.tmp 9) rfl gn rfl (ncs v2) _ F10.out.row.all Tryz.underlying44 rfl (i2.out _) ?_)
    | (go_at_call_of 17 (Value.agg (ncs v2).toArray); refine (HFO9.out.whole 7000 s1 F10.out.dk (by omega) HV9.out (by have := HS1.out; omega) (by decide)).mono ?_; rintro e w11 ⟨YA, yc, rfl, hyo, hk, hc⟩
       have F11 := Lib.hid (F10.out.call hk.out hc.out (fun y hy => by simp at hy; exact .inl hy))
       have HMM := Lib.hid (p := gd < w10.heap.size ∧ gm < w10.heap.size ∧ pr < w10.heap.size ∧ gn < w10.heap.size) (by have h1 := F10.out.lo; have h2 := F10.out.row.lt; omega)
       have HYO := hyo
       have co : w11.cell? ⟨pq, 0, none⟩ = some (.int .i64 (q : Int)) := ((F11.out.base HPQ.out HNE.out.2.2.1).cell 0).trans rfl
       have cd : w11.cell? ⟨pb, 0, none⟩ = some (.slice B lb d) := ((F11.out.base HPB.out HNE.out.2.2.2).cell 0).trans rfl
       clear hyo hk hc)
    | (refine step_load rfl 38 rfl 44 (.tmp 9) rfl gn rfl (ncs v2) _ F11.out.row.all Tryz.underlying44 rfl (i2.out _) ?_)
    | (go_at_call_of 16 (Value.int IntKind.i64 (q : Int))
       have hw := HFO9.out.write_any (w := w11) 2 iA oA HS9.out.1 HS9.out.2.1 (by have := HS9.out; omega) B d q k (by rw [HLB.out.1]; exact HLB.out.2.1) (by have h1 := HLB.out; have h2 := HPQN.out; omega) (by omega) (Nat.le_refl _) 13 (by have h1 := HLB.out; omega) (by have := HS9.out; omega) F11.out.dk (F11.out.dataD HE.out) (F2 := F2) (fun i => by rw [HF2.out, HLB.out.1]) s1 s2 HV9.out (by rw [HLB.out.1]; exact HS2.out.1)
       rw [HLB.out.1] at hw
       refine hw.mono ?_; rintro e w12 ⟨v3, R3, m3, X3, rfl, hf, hs2, hv2, hk, hc⟩
       have F12 := Lib.hid (F11.out.call hk.out hc.out (fun y hy => by simp at hy; exact hy))
       have HFO12 := hf
       have HS12 := hs2
       have HV12 := hv2
       have HY12 := Lib.hid (HYO.out.past hc.out (fun z hz => by have := HMM.out; simp at hz; omega))
       clear hw hf hs2 hv2 hk hc co cd)
    | (refine step_store rfl 44 (.tmp 9) (.tmp 41) rfl gn rfl _ _ (ncs v3) rfl F12.out.row rfl (i2.out _) (ncs_one _) ?_; intro w13 hr9 hg9 hs9
       have F13 := Lib.hid (F12.out.set hr9 hg9)
       have HY13 := Lib.hid (HY12.out.past (Chg.one hg9) (fun z hz => by have := HMM.out; simp at hz; omega))
       clear hr9 hg9 hs9)
    | (refine step_load rfl 43 rfl 44 (.tmp 9) rfl gn rfl (ncs v3) _ F13.out.row.all Tryz.underlying44 rfl (i2.out _) ?_)
    | (go_at_call_of 17 (Value.agg (ncs v3).toArray); refine (HFO12.out.whole 7000 s2 F13.out.dk (by omega) HV12.out (by have := HS2.out; omega) (by decide)).mono ?_; rintro e w14 ⟨ZA, zc, rfl, hyo, hk, hc⟩
       have F14 := Lib.hid (F13.out.call hk.out hc.out (fun y hy => by simp at hy; exact .inl hy))
       have HMZ := Lib.hid (p := pr < w13.heap.size) (by have h1 := F13.out.lo; have h2 := F13.out.row.lt; omega)
       have HZO := hyo
       have HY14 := Lib.hid (HY13.out.past hc.out (fun z hz => by have := HMM.out; simp at hz; omega))
       have c5 : w14.cell? ⟨gn, 5, none⟩ = some (.int .i64 (s2 : Int)) := by rw [← HV12.out]; exact (F14.out.row.cell 5).trans rfl
       have cp := F14.out.prr.cell 0
       have fp := F14.out.prr.free 0
       clear hyo hk hc))
  have F15 := Lib.hid (F14.out.put (.bool true))
  have HYP := Lib.hid (HY14.out.past ((Chg.refl [pr] w14).setCell (p := ⟨pr, 0, none⟩) (.inl (by simp)) (.bool true)) (fun z hz => by have := HMM.out; simp at hz; omega))
  have HZP := Lib.hid (HZO.out.past ((Chg.refl [pr] w14).setCell (p := ⟨pr, 0, none⟩) (.inl (by simp)) (.bool true)) (fun z hz => by have := HMZ.out; simp at hz; omega))
  clear c5 cp fp
  generalize w14.setCell ⟨pr, 0, none⟩ (.bool true) = W15 at F15 HYP HZP ⊢
  go_loopw [13] (fun x wr => ∃ i : Nat, Hid (i ≤ s2) ∧ x = .int .i64 (i : Int) ∧ Hid (Chg [pr] W15 wr) ∧ Hid (Row wr pr 4 [.bool true])) (fun x _ => s2 - (intOf x).toNat)
  case atStart => exact ⟨0, Lib.hid (Nat.zero_le _), rfl, Lib.hid (Chg.refl _ _), Lib.hid F15.out.prr⟩
  case round =>
    obtain ⟨i, HI, rfl, HCR, HPRR⟩ := hrel
    rename World => wo
    have FO1 := Lib.hid (F15.out.loop HCR.out HPRR.out)
    have cp : wo.cell? ⟨pr, 0, none⟩ = some (.bool true) := (HPRR.out.cell 0).trans rfl
    have fp := HPRR.out.free 0
    by_cases hi : i < s2
    · have hii : (i : Int) < (s2 : Int) := by omega
      have hiw : IntKind.i64.wrap ((i : Int) + 1) = (i : Int) + 1 := by rw [IntKind.wrap_i64]; have := HS2.out; omega
      have cq : wo.cell? ⟨pq, 0, none⟩ = some (.int .i64 (q : Int)) := ((FO1.out.base HPQ.out HNE.out.2.2.1).cell 0).trans rfl
      have cd : wo.cell? ⟨pb, 0, none⟩ = some (.slice B lb d) := ((FO1.out.base HPB.out HNE.out.2.2.2).cell 0).trans rfl
      obtain ⟨gz, oz, hza, hzc⟩ := y_at (HZP.out.past HCR.out (fun z hz => by have := HMZ.out; simp at hz; omega)) hi
      subst hza
      have hqw : IntKind.i64.wrap ((q : Int) + (lb : Int)) = (q : Int) + (lb : Int) := by rw [IntKind.wrap_i64]; have h1 := HPQN.out; have h2 := HLB.out; omega
      have HII := Lib.hid hi
      obtain ⟨u, hu⟩ : ∃ u : Nat, (F1 i).toNat = u := ⟨_, rfl⟩
      by_cases hq1 : q ≤ i ∧ i < q + lb
      · have hqi : (q : Int) ≤ (i : Int) := by omega
        have hqj : (i : Int) < (q : Int) + (lb : Int) := by omega
        obtain ⟨j, hj⟩ : ∃ j, i - q = j := ⟨_, rfl⟩
        have hjl : j < lb := by omega
        have hji : (j : Int) < (lb : Int) := by omega
        have hsub : IntKind.i64.wrap ((i : Int) - (q : Int)) = (j : Int) := by rw [IntKind.wrap_i64]; have := HS2.out; omega
        obtain ⟨g2, o2, hA, _, hc2⟩ := (FO1.out.data HE.out).at_ (j := j) (by rw [HLB.out.1]; exact hjl)
        subst hA
        have hFi : F2 i = k[j]'(by rw [HLB.out.1]; exact hjl) := by
          rw [HF2.out]
          show (if _ then _ else _) = _
          rw [if_pos hq1, hj, List.getD_eq_getElem?_getD, List.getElem?_eq_getElem (by rw [HLB.out.1]; exact hjl)]
          rfl
        rw [← hFi] at hc2
        obtain ⟨u2, hu2⟩ : ∃ u2 : Nat, (F2 i).toNat = u2 := ⟨_, rfl⟩
        rw [hu2] at hc2 hzc
        clear hFi hu2 hj hjl hq1
        by_cases hs : i < s1
        · have hsi : (i : Int) < (s1 : Int) := by omega
          obtain ⟨gy, oy, hya, hyc⟩ := y_at (HYP.out.past HCR.out (fun z hz => by have := HMM.out; simp at hz; omega)) hs
          subst hya
          rw [hu] at hyc
          clear hu hs hi
          go_wp2
          go_roundw
          case rel => exact ⟨i + 1, HII, by go_num, Lib.hid (HCR.out.setCell (p := ⟨pr, 0, none⟩) (.inl (by simp)) _), Lib.hid (HPRR.out.put 0 _)⟩
          case measure => have := HII.out; simp [intOf]; omega
        · have hsi : ¬ (i : Int) < (s1 : Int) := by omega
          clear hu hs hi
          go_wp2
          go_roundw
          case rel => exact ⟨i + 1, HII, by go_num, Lib.hid (HCR.out.setCell (p := ⟨pr, 0, none⟩) (.inl (by simp)) _), Lib.hid (HPRR.out.put 0 _)⟩
          case measure => have := HII.out; simp [intOf]; omega
      · have hFi : F2 i = F1 i := by
          rw [HF2.out]
          show (if _ then _ else _) = _
          rw [if_neg hq1]
        rw [hFi, hu] at hzc
        clear hFi
        have hcase : ¬ (q : Int) ≤ (i : Int) ∨ ((q : Int) ≤ (i : Int) ∧ ¬ (i : Int) < (q : Int) + (lb : Int)) := by omega
        clear hq1
        rcases hcase with hqi | ⟨hqi, hqj⟩
        · by_cases hs : i < s1
          · have hsi : (i : Int) < (s1 : Int) := by omega
            obtain ⟨gy, oy, hya, hyc⟩ := y_at (HYP.out.past HCR.out (fun z hz => by have := HMM.out; simp at hz; omega)) hs
            subst hya
            rw [hu] at hyc
            clear hu hs hi
            go_wp2
            go_roundw
            case rel => exact ⟨i + 1, HII, by go_num, Lib.hid (HCR.out.setCell (p := ⟨pr, 0, none⟩) (.inl (by simp)) _), Lib.hid (HPRR.out.put 0 _)⟩
            case measure => have := HII.out; simp [intOf]; omega
          · have hsi : ¬ (i : Int) < (s1 : Int) := by omega
            have hu0 : u = 0 := by rw [← hu, HS1.out.2.2 i (by omega)]; rfl
            rw [hu0] at hzc
            clear hu hs hi hu0
            go_wp2
            go_roundw
            case rel => exact ⟨i + 1, HII, by go_num, Lib.hid (HCR.out.setCell (p := ⟨pr, 0, none⟩) (.inl (by simp)) _), Lib.hid (HPRR.out.put 0 _)⟩
            case measure => have := HII.out; simp [intOf]; omega
        · by_cases hs : i < s1
          · have hsi : (i : Int) < (s1 : Int) := by omega
            obtain ⟨gy, oy, hya, hyc⟩ := y_at (HYP.out.past HCR.out (fun z hz => by have := HMM.out; simp at hz; omega)) hs
            subst hya
            rw [hu] at hyc
            clear hu hs hi
            go_wp2
            go_roundw
            case rel => exact ⟨i + 1, HII, by go_num, Lib.hid (HCR.out.setCell (p := ⟨pr, 0, none⟩) (.inl (by simp)) _), Lib.hid (HPRR.out.put 0 _)⟩
            case measure => have := HII.out; simp [intOf]; omega
          · have hsi : ¬ (i : Int) < (s1 : Int) := by omega
            have hu0 : u = 0 := by rw [← hu, HS1.out.2.2 i (by omega)]; rfl
            rw [hu0] at hzc
            clear hu hs hi hu0
            go_wp2
            go_roundw
            case rel => exact ⟨i + 1, HII, by go_num, Lib.hid (HCR.out.setCell (p := ⟨pr, 0, none⟩) (.inl (by simp)) _), Lib.hid (HPRR.out.put 0 _)⟩
            case measure => have := HII.out; simp [intOf]; omega
    · have hiz : ¬ (i : Int) < (s2 : Int) := by omega
      clear hi F15 HYP HZP HCR HPRR F8 F9 F10 F11 F12 F13 F14 cp fp HY12 HY13 HY14 HYO HZO
      go_wp2_with (first
        | (refine step_load rfl 98 rfl 44 (.tmp 9) rfl gn rfl (ncs v3) _ FO1.out.row.all Tryz.underlying44 rfl (i2.out _) ?_)
        | (go_at_call 18; refine (HFO12.out.cut HS12.out.2.1 0 (by decide) (by omega) FO1.out.dk (F2 := F3) (fun i => by rw [HF3.out])).mono ?_; rintro e w17 ⟨v4, R4, X4, rfl, hf, hrd4, hv4, hz4, hk, hc⟩
           have F17 := Lib.hid (FO1.out.call hk.out hc.out (fun y hy => by simp at hy; exact hy))
           have HFO17 := hf
           have HV17 := hv4
           have HZ17 := Lib.hid (p := (∀ j, j < 128 → R4 j = 0) ∧ v4 26 = 0) (by
             have h1 : ∀ j, j < 128 → R4 j = 0 := fun j _ => hz4.out.1 j (Nat.zero_le _)
             refine ⟨h1, hz4.out.2.resolve_right (fun hq => ?_)⟩
             obtain ⟨j, hj, hne⟩ := (lsd_iff R4).1 hq
             exact hne (h1 (16 + j) (by omega)))
           clear hf hrd4 hv4 hz4 hk hc)
        | (refine step_store rfl 44 (.tmp 9) (.tmp 99) rfl gn rfl _ _ (ncs v4) rfl F17.out.row rfl (i2.out _) (ncs_one _) ?_; intro w18 hr9 hg9 hs9
           have F18 := Lib.hid (F17.out.set hr9 hg9)
           have cp : w18.cell? ⟨pr, 0, none⟩ = some (.bool true) := (F18.out.prr.cell 0).trans rfl
           clear hr9 hg9 hs9)
        | (refine step_load_g (by rfl) 103 rfl 44 (.tmp 9) rfl gn rfl (ncs v4) _ F18.out.row.all Tryz.underlying44 rfl (i2.out _) ?_)
        | (go_at_call 19
           have hw := HFO17.out.takes (w := w18) F18.out.dk (by omega)
           rw [tks_zero R4 HZ17.out.1] at hw
           refine hw.mono ?_; rintro e w19 ⟨rfl, hk, hc⟩
           have F19 := Lib.hid (F18.out.call hk.out hc.out (fun y hy => by simp at hy; exact .inl hy))
           have c26 : w19.cell? ⟨gn, 26, none⟩ = some (.int .i64 0) := by rw [← HZ17.out.2]; exact (F19.out.row.cell 26).trans rfl
           clear hw hk hc cp)
        | (refine step_load_g (by rfl) 114 rfl 44 (.tmp 9) rfl gn rfl (ncs v4) _ F19.out.row.all Tryz.underlying44 rfl (i2.out _) ?_)
        | (go_at_call 17; refine (HFO17.out.whole 9 0 F19.out.dk (by omega) HV17.out (by decide) (by decide)).mono ?_; rintro e w20 ⟨UA, uc, rfl, hyo, hk, hc⟩
           have F20 := Lib.hid (F19.out.call hk.out hc.out (fun y hy => by simp at hy; exact .inl hy))
           have F21 := Lib.hid (F20.out.put (.bool true))
           have cp : w20.cell? ⟨pr, 0, none⟩ = some (.bool true) := (F20.out.prr.cell 0).trans rfl
           have fp := F20.out.prr.free 0
           clear hyo hk hc c26))
      go_end0
      obtain ⟨C, hv, hC⟩ := F21.out.dk.view
      exact .inl ⟨rfl, _, C, hv, by omega, F21.out.dk.run, F21.out.chg, (F21.out.prr.cell 0).trans rfl⟩
end
end Go.Proofs.YtfbfeplegdpemaaGreat
