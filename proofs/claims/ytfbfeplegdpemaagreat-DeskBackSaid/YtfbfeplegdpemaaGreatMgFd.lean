/- The laws' first test, whole. No conditions. -/
import Derived.Test.YtfbfeplegdpemaaGreatMgFb
import Derived.Test.YtfbfeplegdpemaaGreatOb
set_option linter.unusedVariables false
set_option maxRecDepth 20000
namespace Go.Proofs.YtfbfeplegdpemaaGreat
open Go.RowKit

section
variable {b : Nat} {w w' : World} {gv gm gs r pv pr : Nat} {Bs : List BV} {n : Nat}
theorem two_hol (w : World) : Hol (w.alloc (.cells #[.int .u8 104, .int .u8 105] 5 (2, 3))) (some ⟨w.heap.size, 0, none⟩) [104, 105] := by
  refine .inr ⟨_, 0, rfl, fun j x hx => ?_⟩
  have hh : (w.alloc (.cells #[.int .u8 104, .int .u8 105] 5 (2, 3))).heap[w.heap.size]? = some (.cells #[.int .u8 104, .int .u8 105] 5 (2, 3)) := heap_alloc_new w _
  rw [cell_of_row _ w.heap.size (0 + j) _ _ _ hh, Nat.zero_add]
  rcases j with _ | _ | j
  · injection hx with hx; subst hx; rfl
  · injection hx with hx; subst hx; rfl
  · simp at hx
set_option maxHeartbeats 8000000 in
theorem awake1 {x0 : Value} (h : VV b w gv gm gs (some ⟨r, 0, none⟩) 0 fun _ => none) (hb : b ≤ w.heap.size) (hrb : b ≤ r) (hr : Row w r 83 (rcs false 0)) (hp : Row w pv 28 [.pointer (some ⟨gv, 0, none⟩)]) (hpr : Row w pr 4 [x0]) (hs : Src b w gs Bs) (hB : Bs.length = 16 ∧ ∀ x ∈ Bs, x.l = List.replicate 256 0) (hbp : b ≤ pr) :
    Calls Tryz.prog 33 #[.pointer (some ⟨pv, 0, none⟩), .pointer (some ⟨pr, 0, none⟩)] w (FunP b gv gm gs r [gm, pr] (fun _ C' w2 => w2.cell? ⟨pr, 0, none⟩ = some (.bool true) ∧ Put3 (byL C')) (fun _ _ => False) w) := by
  have HNEW := Lib.hid (p := ∀ w, Calls Tryz.prog 13 #[.pointer (some ⟨gv, 0, none⟩), .int .i64 16] w fun e w' => ∃ gd, e = .returned (.pointer (some ⟨gd, 0, none⟩)) ∧ Hid (Row w' gd 88 (dcs gv 16 (bkcs false sup0 sup0) (bkcs false sup0 sup0) false (-1))) ∧ Hid (w.heap.size ≤ gd) ∧ Hid (Below w.heap.size w w')) (fun w => dnew gv 16 w)
  have H := Lib.hid h
  have HR := Lib.hid hr
  have HP := Lib.hid hp
  have HPR := Lib.hid hpr
  have HS := Lib.hid hs
  have HB := Lib.hid hB
  have HLO := Lib.hid (p := b ≤ w.heap.size ∧ b ≤ r ∧ b ≤ pr) ⟨hb, hrb, hbp⟩
  have i2 := Lib.hid (fun v => info_ncs v)
  have i3 := Lib.hid (fun k s => info_ref k s)
  have hzr := Lib.hid zero_ref
  have hzi := Lib.hid zero_ino
  have HLT := Lib.hid (p := gm < w.heap.size ∧ pr < w.heap.size ∧ pr ≠ gm) ⟨h.map.lt, hpr.lt, fun e => h.map.no_cells _ _ _ (e ▸ hpr.heap)⟩
  have c0 : w.cell? ⟨pv, 0, none⟩ = some (.pointer (some ⟨gv, 0, none⟩)) := (hp.cell 0).trans rfl
  have kc := fun (w : World) (C : Array Value) (n c : Nat) => Lib.run_convert_bytes_const (P := Tryz.prog) w 22 5 C n c Tryz.underlying22 Tryz.underlying5
  clear h hr hp hpr hs hB hb hrb hbp
  go_enter Tryz.func33, Tryz.ntmps33
  go_wp2_with (first
    | (go_at_call 13; refine (HNEW.out _).mono ?_; rintro e w2 ⟨gd, rfl, hd, hg, hb⟩
       have HG := Lib.hid (p := w.heap.size ≤ gd) hg.out
       have HK2 := Lib.hid (DK.start H.out HR.out HS.out ⟨HLO.out.2.1, HLO.out.1⟩ hd.out hg.out hb.out)
       have HC2 := Lib.hid (p := Chg [gm] w w2) (Chg.of hb.out)
       have HPR2 := Lib.hid (HPR.out.kept hb.out)
       have HSZ := Lib.hid (src_zero (Bs := Bs) HS.out HB.out (byL fun _ => none) 0 (by decide) rfl)
       obtain ⟨X0, hX0⟩ : ∃ X0 : DX, (⟨false, sup0, sup0, byL fun _ => none⟩ : DX) = X0 := ⟨_, rfl⟩
       have HX0 := Lib.hid (p := X0.rd = false ∧ X0.C = fun _ => none) (by rw [← hX0]; exact ⟨rfl, rfl⟩)
       rw [hX0] at HK2 HSZ
       have HN := Lib.hid (p := ∀ x : Nat, (x = gd ∨ x = gm) → x = gm ∨ w.heap.size ≤ x) (fun x hx => by rcases hx with rfl | rfl; exact .inr HG.out; exact .inl rfl)
       clear hd hg hb c0 hX0)
    | (refine step_build rfl 44 _ rfl [(0, .int .i64 1), (4, .int .i64 1)] ?hv _ built_file ?_; case hv => (simp [Act.eval, Act.put]))
    | (go_at_call 14; refine (fmake HK2.out HX0.out.1 _ HSZ.out rfl (by omega) (by decide)).mono ?_; rintro e w3 ⟨rfl, hk, hc⟩
       have HK3 := hk
       have HC3 := Lib.hid (p := Chg [gm] w w3) (HC2.out.trans hc.out (fun x hx => by simp at hx ⊢; exact HN.out x hx))
       have HPR3 := Lib.hid (hc.out.row HPR2.out (by have h1 := HLT.out; have h2 := HG.out; simp; omega))
       clear hk hc)
    | (refine step_alloc rfl 3 rfl 37 rfl _ hzr.out ?_; intro g3 w4 hr2 hg2 hb2 hs2
       have HR34 := Lib.hid hr2
       have HK4 := Lib.hid (HK3.out.below hb2)
       have HC4 := Lib.hid (chg_nxt HC3.out hb2)
       have HPR4 := Lib.hid (HPR3.out.kept hb2)
       have HG3 := Lib.hid (p := w.heap.size ≤ g3 ∧ gd < g3 ∧ pr < g3) (by rw [hg2.out]; exact ⟨HC3.out.size, HK3.out.lt, HPR3.out.lt⟩)
       clear hr2 hg2 hb2 hs2)
    | (refine step_store rfl 37 (.tmp 3) (.tmp 13) rfl g3 rfl _ _ (rfc 1 1) rfl HR34.out rfl (i3.out _ _) (rfc_one _ _) ?_; intro w5 hr9 hg9 hs9
       have HR35 := Lib.hid hr9
       have HK5 := Lib.hid (HK4.out.other HR34.out (by decide) (by have := HLO.out; have := HG3.out; omega) (Chg.one hg9))
       have HC5 := Lib.hid (p := Chg [gm] w w5) (chg_own HC4.out HG3.out.1 (Chg.one hg9))
       have HPR5 := Lib.hid (HPR4.out.grown hg9 (fun e => by have := HG3.out; injection e; omega))
       clear hr9 hg9 hs9)
    | (refine step_load rfl 17 rfl 37 (.tmp 3) rfl g3 rfl (rfc 1 1) _ HR35.out.all Tryz.underlying37 rfl (i3.out _ _) ?_)
    | (go_at_call 15; refine (fget HK5.out (by omega)).mono ?_; rintro e w6 ⟨rfl, hk, hc⟩
       have HK6 := hk
       have HC6 := Lib.hid (p := Chg [gm] w w6) (HC5.out.trans hc.out (fun x hx => by simp at hx ⊢; exact HN.out x (.inl hx)))
       have HPR6 := Lib.hid (hc.out.row HPR5.out (by have h1 := HLT.out; have h2 := HG.out; simp; omega))
       have HR36 := Lib.hid (hc.out.row HR35.out (by have h1 := HG3.out; simp; omega))
       clear hk hc)
    | (refine step_alloc rfl 5 rfl 44 rfl _ hzi.out ?_; intro g5 w7 hr2 hg2 hb2 hs2
       have HR57 := Lib.hid hr2
       have HK7 := Lib.hid (HK6.out.below hb2)
       have HC7 := Lib.hid (chg_nxt HC6.out hb2)
       have HPR7 := Lib.hid (HPR6.out.kept hb2)
       have HR37 := Lib.hid (HR36.out.kept hb2)
       have HG5 := Lib.hid (p := w.heap.size ≤ g5 ∧ gd < g5 ∧ pr < g5 ∧ g3 < g5) (by rw [hg2.out]; exact ⟨HC6.out.size, HK6.out.lt, HPR6.out.lt, HR36.out.lt⟩)
       clear hr2 hg2 hb2 hs2)
    | (refine step_store rfl 44 (.tmp 5) (.tmp 19) rfl g5 rfl _ _ (ncs (vA 1)) rfl HR57.out rfl (i2.out _) (ncs_one _) ?_; intro w8 hr9 hg9 hs9
       have HR58 := Lib.hid hr9
       have HK8 := Lib.hid (HK7.out.other HR57.out (by decide) (by have := HLO.out; have := HG5.out; omega) (Chg.one hg9))
       have HC8 := Lib.hid (p := Chg [gm] w w8) (chg_own HC7.out HG5.out.1 (Chg.one hg9))
       have HPR8 := Lib.hid (HPR7.out.grown hg9 (fun e => by have := HG5.out; injection e; omega))
       have HR38 := Lib.hid (HR37.out.grown hg9 (fun e => by have := HG5.out; injection e; omega))
       clear hr9 hg9 hs9)
    | (refine step_load rfl 22 rfl 44 (.tmp 5) rfl g5 rfl (ncs (vA 1)) _ HR58.out.all Tryz.underlying44 rfl (i2.out _) ?_)
    | (go_at_call 16
       have hbl := below_al w8 (.cells #[.int .u8 104, .int .u8 105] 5 (2, 3))
       have hk9 := HK8.out.below hbl
       have hne : w8.heap.size ≠ gd ∧ w8.heap.size ≠ gm := ⟨by have := HK8.out.lt; omega, by have h1 := HLT.out; have h2 := HC8.out.size; omega⟩
       refine (awrite (some ⟨w8.heap.size, 0, none⟩) 2 (by decide) hk9 (by omega) (by decide) (fun W hc => hc.hol (two_hol w8) (fun g o e _ => by injection e with e; injection e with e1 e2; subst e1; simp; exact hne))).mono ?_; rintro e w10 ⟨v3, X2, rfl, hf, hk, hc⟩
       have HF := hf
       have HK10 := hk
       have HC9 := Lib.hid (p := Chg [gm] w (w8.alloc (.cells #[.int .u8 104, .int .u8 105] 5 (2, 3)))) (chg_nxt HC8.out hbl)
       have HC10 := Lib.hid (p := Chg [gm] w w10) (HC9.out.trans hc.out (fun x hx => by simp at hx ⊢; exact HN.out x hx))
       have HPR10 := Lib.hid (hc.out.row (HPR8.out.kept hbl) (by have h1 := HLT.out; have h2 := HG.out; simp; omega))
       have HR310 := Lib.hid (hc.out.row (HR38.out.kept hbl) (by have h1 := HG3.out; have h2 := HLT.out; simp; omega))
       have HR510 := Lib.hid (hc.out.row (HR58.out.kept hbl) (by have h1 := HG5.out; have h2 := HLT.out; simp; omega))
       have HTK := Lib.hid (p := ∀ (w : World) (n : Nat), n ≤ 1000 → DK b w gd gv gm gs r Bs 16 n X2 → Calls Tryz.prog 19 #[.pointer (some ⟨gd, 0, none⟩), .agg (ncs v3).toArray] w (DOne b w gd gv gm gs r Bs 16 n X2 (.int .i64 1))) (fun w n hn h => by
         have h1 := dtakes v3 (rowD v3) h hn (rowok_direct _ _ (.inr hf.out.list))
         rw [hf.out.tk] at h1
         exact h1)
       clear hbl hk9 hne hf hk hc)
    | (refine step_store rfl 44 (.tmp 5) (.tmp 25) rfl g5 rfl _ _ (ncs v3) rfl HR510.out rfl (i2.out _) (ncs_one _) ?_; intro w11 hr9 hg9 hs9
       have HR511 := Lib.hid hr9
       have HK11 := Lib.hid (HK10.out.other HR510.out (by decide) (by have := HLO.out; have := HG5.out; omega) (Chg.one hg9))
       have HC11 := Lib.hid (p := Chg [gm] w w11) (chg_own HC10.out HG5.out.1 (Chg.one hg9))
       have HPR11 := Lib.hid (HPR10.out.grown hg9 (fun e => by have := HG5.out; injection e; omega))
       have HR311 := Lib.hid (HR310.out.grown hg9 (fun e => by have := HG5.out; injection e; omega))
       have c30 : w11.cell? ⟨g3, 0, none⟩ = some (.int .i64 1) := (HR311.out.cell 0).trans rfl
       have c55 : w11.cell? ⟨g5, 5, none⟩ = some (.int .i64 302) := by rw [← HF.out.size]; exact (HR511.out.cell 5).trans rfl
       clear hr9 hg9 hs9)
    | (refine step_load_g (by rfl) 44 rfl 44 (.tmp 5) rfl g5 rfl (ncs v3) _ HR511.out.all Tryz.underlying44 rfl (i2.out _) ?_)
    | (go_at_call 19; refine (HTK.out _ _ (by omega) HK11.out).mono ?_; rintro e w12 ⟨rfl, hk, hc⟩
       have HK12 := hk
       have HC12 := Lib.hid (p := Chg [gm] w w12) (HC11.out.trans hc.out (fun x hx => by simp at hx ⊢; exact HN.out x (.inl hx)))
       have HPR12 := Lib.hid (hc.out.row HPR11.out (by have h1 := HLT.out; have h2 := HG.out; simp; omega))
       have HR512 := Lib.hid (hc.out.row HR511.out (by have h1 := HG5.out; simp; omega))
       clear hk hc c30 c55)
    | (refine step_load_g (by rfl) 50 rfl 44 (.tmp 5) rfl g5 rfl (ncs v3) _ HR512.out.all Tryz.underlying44 rfl (i2.out _) ?_)
    | (go_at_call 17; refine (aread v3 X2 HF.out HK12.out (by omega)).mono ?_; rintro e w13 ⟨A', c', rfl, hk, hc⟩
       have HK13 := hk
       have HC13 := Lib.hid (p := Chg [gm] w w13) (HC12.out.trans hc.out (fun x hx => by simp at hx ⊢; exact HN.out x (.inl hx)))
       have HPR13 := Lib.hid (hc.out.row HPR12.out (by have h1 := HLT.out; have h2 := HG.out; simp; omega))
       have cp := HPR13.out.cell 0
       have fp := HPR13.out.free 0
       have HPR14 := Lib.hid (HPR13.out.put 0 (.bool true))
       have HK14 := Lib.hid (p := DK b (w13.setCell ⟨pr, 0, none⟩ (.bool true)) gd gv gm gs r Bs 16 _ X2) (HK13.out.other HPR13.out (by decide) HLO.out.2.2 ((Chg.refl [pr] w13).setCell (p := ⟨pr, 0, none⟩) (.inl (by simp)) _))
       have HC14 := Lib.hid (p := Chg [gm, pr] w (w13.setCell ⟨pr, 0, none⟩ (.bool true))) ((HC13.out.wider (fun x hx => .inl (by simp at hx ⊢; exact .inl hx))).setCell (p := ⟨pr, 0, none⟩) (.inl (by simp)) _)
       clear hk hc)
    | (go_at_call 29; refine (asave v3 X2 HF.out HK14.out (by omega)).mono ?_; rintro e w15 ⟨rfl, hk, hc⟩
       have HK15 := hk
       have HC15 := Lib.hid (p := Chg [gm, pr] w w15) (HC14.out.trans hc.out (fun x hx => by
         simp at hx ⊢
         rcases HN.out x hx with h1 | h1
         · exact .inl (.inl h1)
         · exact .inr h1))
       have HPR15 := Lib.hid (hc.out.row HPR14.out (by have h1 := HLT.out; have h2 := HG.out; simp; omega))
       clear hk hc cp fp))
  go_end0
  obtain ⟨C, hv, hC⟩ := HK15.out.view
  refine .inl ⟨rfl, _, C, hv, by omega, HK15.out.run, HC15.out, (HPR15.out.cell 0).trans rfl, ?_⟩
  obtain ⟨L, _, hL⟩ := HF.out.C
  rw [hC]
  refine ⟨blk sz (vA 1) 27, L, lst 256 X2.S.pb, ?_⟩
  show upS X2.C 0 _ = _
  rw [hL]
  show upS (upS (upS X0.C 1 _) 2 L) 0 _ = _
  rw [HX0.out.2]
end
end Go.Proofs.YtfbfeplegdpemaaGreat
/- The laws' first test, whole. No conditions. -/
set_option linter.unusedVariables false
set_option maxRecDepth 20000
namespace Go.Proofs.YtfbfeplegdpemaaGreat
open Go.RowKit

section
variable {b : Nat} {w w' : World} {gv gm gs : Nat} {n : Nat} {C : Int → Option BV}
/-- Run, of a function that comes to its end. -/
def DoneP (b : Nat) (w : World) (gv gm gs : Nat) (G : List Nat) (Done : World → (Int → Option BV) → World → Prop) (e : Ending) (w' : World) : Prop :=
  e = .returned (.tuple #[.int .i64 0, .bool true]) ∧ ∃ (n' : Nat) (C' : Int → Option BV) (w1 w2 : World) (F : List Nat), Hid (VV b w' gv gm gs none n' C') ∧ Hid (n' ≤ 1000) ∧ Hid (Done w1 C' w2) ∧ Hid (Chg F w2 w') ∧ Hid (∀ x ∈ F, x = gv ∨ (w.heap.size ≤ x ∧ x < w1.heap.size)) ∧ Hid (w.heap.size ≤ w1.heap.size) ∧ Hid (Chg (gv :: gm :: G) w w')
theorem RunP.done {G : List Nat} {Done : World → (Int → Option BV) → World → Prop} {Gave : Int → World → Prop} {e : Ending} (h : RunP b w gv gm gs G Done Gave e w') (hn : ∀ a w, ¬ Gave a w) : DoneP b w gv gm gs G Done e w' := by
  rcases h with ⟨rfl, n', C', w1, w2, F, h1, h0, h2, h3, h4, h5, h6⟩ | ⟨a, w2, _, _, h, _⟩
  · exact ⟨rfl, n', C', w1, w2, F, Lib.hid h1, Lib.hid h0, Lib.hid h2, Lib.hid h3, Lib.hid h4, Lib.hid h5, Lib.hid h6⟩
  · exact absurd h (hn a w2)
end
theorem zero_vptr (w : World) : (zeroValue 28).run Tryz.prog w = .ok (.pointer none) w := by kernel_rfl
set_option maxHeartbeats 4000000 in
theorem awake_any (w : World) : Calls Tryz.prog 7 #[] w fun e w' => e = .returned (.bool true) ∧ Below w.heap.size w w' := by
  have hmf : ∀ (fn : Fn) (first cap : Array Value) (w : World), (Instr.makeFunc fn first cap).run Tryz.prog w = .ok (.func fn first cap) w := fun _ _ _ _ => rfl
  have HST := Lib.hid (p := ∀ w, Calls Tryz.prog 8 #[.int .i64 16] w fun e w' => ∃ gs, e = .returned (.pointer (some ⟨gs, 0, none⟩)) ∧ ∃ A c Bs, Hid (Vol w.heap.size w' gs A c Bs) ∧ Hid (Bs.length = 16 ∧ ∀ x ∈ Bs, x.l = List.replicate 256 0) ∧ Hid (Below w.heap.size w w')) (fun w => start_any 16 (by decide) w)
  go_enter Tryz.func7, Tryz.ntmps7
  go_wp2_with (first
    | (go_at_call 8; refine (HST.out _).mono ?_; rintro e w1 ⟨gs, rfl, A, c, Bs, hv, hB, hb⟩
       have HS1 := Lib.hid hv.out.src
       have HBZ := hB
       have HB1 := hb
       clear hv hB hb)
    | (go_at_call 9; refine (vnew gs _).mono ?_; rintro e w2 ⟨gv, gm, rfl, hv2, hb2⟩)
    | (refine step_new rfl 28 rfl (.pointer none) zero_vptr rfl ?_; intro pv w3 hr3 hg3 hb3
       have R3 := Lib.hid hr3; have HB3 := Lib.hid hb3; have HG3 := hg3
       have c3 : w3.cell? ⟨pv, 0, none⟩ = some (.pointer none) := (hr3.cell 0).trans rfl
       have f3 := hr3.free 0
       clear hr3 hb3 hg3)
    | (refine step_new rfl 4 rfl (.bool false) zero_bool rfl ?_; intro pr w4 hr4 hg4 hb4
       have R4 := Lib.hid hr4; have HB4 := Lib.hid hb4; have HG4 := hg4
       have c4 : w4.cell? ⟨pr, 0, none⟩ = some (.bool false) := (hr4.cell 0).trans rfl
       have f4 := hr4.free 0
       have npp : pv < pr := by have h1 := R3.out.lt; have h2 := HG4.out; simp at h2; omega
       have cq : (w4.setCell ⟨pr, 0, none⟩ (.bool false)).cell? ⟨pv, 0, none⟩ = some (.pointer (some ⟨gv, 0, none⟩)) := ((((R3.out.put 0 (.pointer (some ⟨gv, 0, none⟩))).kept hb4).far (p := ⟨pr, 0, none⟩) (by simp; omega) (.bool false)).cell 0).trans rfl
       clear hr4 hb4 hg4))
  have HCF1 := Lib.hid (p := ∀ w, (callFunc 33 #[.pointer (some ⟨pv, 0, none⟩), .pointer (some ⟨pr, 0, none⟩)]).run Tryz.prog w = .ok (.enter 33 #[.pointer (some ⟨pv, 0, none⟩), .pointer (some ⟨pr, 0, none⟩)]) w) (fun w => by simp [go_sem])
  have lpv : w2.heap.size ≤ pv := Nat.le_of_eq HG3.out.symm
  have hc23 : Chg [pv] w2 (w3.setCell ⟨pv, 0, none⟩ (.pointer (some ⟨gv, 0, none⟩))) := ((Chg.of HB3.out).setCell (p := ⟨pv, 0, none⟩) (.inl (by simp)) _)
  have hc24 : Chg [pv, pr] w2 (w4.setCell ⟨pr, 0, none⟩ (.bool false)) := ((hc23.wider (fun x hx => .inl (by simp at hx ⊢; exact .inl hx))).trans (Chg.of (F := []) HB4.out) (by simp)).setCell (p := ⟨pr, 0, none⟩) (.inl (by simp)) _
  have HVV := Lib.hid (hv2.out.below' hc24 (fun x hx => by simp at hx; rcases hx with rfl | rfl <;> omega))
  have RV := Lib.hid ((((R3.out.put 0 (.pointer (some ⟨gv, 0, none⟩))).kept HB4.out).far (p := ⟨pr, 0, none⟩) (by simp; omega) (.bool false)))
  have RR := Lib.hid (R4.out.put 0 (.bool false))
  have hbb : Below w1.heap.size w1 (w4.setCell ⟨pr, 0, none⟩ (.bool false)) := hb2.out.trans (hc24.below hb2.out.size (fun x hx => by have := hb2.out.size; simp at hx; rcases hx with rfl | rfl <;> omega))
  have HBB := Lib.hid hbb
  have npg : gv < pv ∧ gm < pv := ⟨by have := hv2.out.row.lt; omega, by have := hv2.out.map.lt; omega⟩
  have lpw : pr < (w4.setCell ⟨pr, 0, none⟩ (.bool false)).heap.size := RR.out.lt
  clear c3 f3 c4 f4 hc23 hc24 hbb
  generalize w4.setCell ⟨pr, 0, none⟩ (.bool false) = W8 at HVV RV RR HBB lpw cq ⊢
  have hG8 : ∀ x ∈ [gm, pr], x ≠ gv ∧ x < W8.heap.size := fun x hx => by
    simp at hx
    rcases hx with rfl | rfl
    · exact ⟨HVV.out.ne.symm, HVV.out.map.lt⟩
    · exact ⟨by omega, lpw⟩
  refine (vrun 33 #[.pointer (some ⟨pv, 0, none⟩), .pointer (some ⟨pr, 0, none⟩)] [gm, pr] _ _ HVV.out hG8 HCF1.out (fun r w1' hv hr hc hrb => awake1 hv (by have := HBB.out.size; have := hc.size; omega) (by have := HBB.out.size; omega) hr (hc.row RV.out (by simp; omega)) (hc.row RR.out (by simp; omega)) (HS1.out.keep (HBB.out.trans (hc.below HBB.out.size (fun x hx => by
    have := hv2.out.lo
    simp at hx
    rcases hx with rfl | rfl <;> omega)))) HBZ.out (by have := hb2.out.size; omega))).mono ?_
  intro e w9 h9
  obtain ⟨rfl, n', C', wa, wb, F, hv9, hn9, hd9, hcF, hF, hsz, hc9⟩ := h9.done (fun _ _ h => h)
  have cp9 : w9.cell? ⟨pv, 0, none⟩ = some (.pointer (some ⟨gv, 0, none⟩)) := hc9.out.cell cq (by simp; omega)
  have cr9 : w9.cell? ⟨pr, 0, none⟩ = some (.bool true) := hcF.out.cell hd9.out.1 (fun hx => by rcases hF.out pr hx with h | h <;> omega)
  have HB9 := Lib.hid (p := Below w1.heap.size w1 w9) (HBB.out.trans (hc9.out.below HBB.out.size (fun x hx => by
    have h1 := hv2.out.lo
    have h2 := hb2.out.size
    simp at hx
    rcases hx with rfl | rfl | rfl <;> omega)))
  go_wp2_with (first
    | (go_at_call 30; refine (vchanges hv9.out hn9.out).mono ?_; rintro e w10 ⟨qs, A', c', rfl, hco, hpa, hb10⟩
       have hl := put3_len hco.out hd9.out.2
       rw [hl]
       have HB10 := Lib.hid (HB9.out.trans (hb10.out.mono HB9.out.size))
       clear hl))
  go_ret
  exact ⟨rfl, below_nxt HB10.out HB1.out⟩
end Go.Proofs.YtfbfeplegdpemaaGreat
/- DeskHoles, walked. No conditions. -/
set_option linter.unusedVariables false
set_option maxRecDepth 20000
namespace Go.Proofs.YtfbfeplegdpemaaGreat
open Go.RowKit

theorem holB_of {b : Nat} {w w' : World} {A : Option Addr} {l : L8} (h : Hol w A l) (hb : Below w.heap.size w w') (hs : w.heap.size ≤ b) : HolB b w' A l := by
  refine ⟨h.below hb, ?_⟩
  by_cases hl : l = []
  · exact .inl hl
  · obtain ⟨g, o, rfl, hg, _⟩ := h.some_ (Nat.pos_of_ne_zero fun e => hl (List.length_eq_zero_iff.1 e))
    exact .inr fun ad e => by
      injection e with e
      subst e
      show g < b
      omega
set_option maxHeartbeats 8000000 in
theorem holesW (off cut : Nat) (hoff : off < 65536) (hcut : cut < 65536) (A : Option Addr) (len c : Nat) (l : L8) (hlen : l.length = len) (hlc : len ≤ c) (hmax : len ≤ 9223372036854775807) (w : World) (hD : Hol w A l) : Calls Tryz.prog 5 #[.int .u16 (off : Int), .slice A len c, .int .u16 (cut : Int)] w fun e w' => e = .returned (.bool true) ∧ Below w.heap.size w w' := by
  have hmf : ∀ (fn : Fn) (first cap : Array Value) (w : World), (Instr.makeFunc fn first cap).run Tryz.prog w = .ok (.func fn first cap) w := fun _ _ _ _ => rfl
  have HST := Lib.hid (p := ∀ w, Calls Tryz.prog 8 #[.int .i64 256] w fun e w' => ∃ gs, e = .returned (.pointer (some ⟨gs, 0, none⟩)) ∧ ∃ A c Bs, Hid (Vol w.heap.size w' gs A c Bs) ∧ Hid (Bs.length = 256 ∧ ∀ x ∈ Bs, x.l = List.replicate 256 0) ∧ Hid (Below w.heap.size w w')) (fun w => start_any 256 (by decide) w)
  have HD := Lib.hid hD
  have HOC := Lib.hid (p := off < 65536 ∧ cut < 65536) ⟨hoff, hcut⟩
  have HLEN := Lib.hid (p := l.length = len ∧ len ≤ c) ⟨hlen, hlc⟩
  have HMAX := Lib.hid hmax
  clear hD hoff hcut hlen hlc hmax
  by_cases hbig : 3000 < len
  · have hbi : (3000 : Int) < (len : Int) := by omega
    clear hbig
    go_enter Tryz.func5, Tryz.ntmps5
    go_wp2_with (first
      | (refine step_box1 rfl 23 _ rfl (.int .u16 (off : Int)) rfl rfl ?_; intro po w1 hr2 hg2 hb2
         have RO1 := Lib.hid hr2
         have B1 := Lib.hid hb2
         clear hr2 hg2 hb2)
      | (refine step_box1 rfl 22 _ rfl (.slice A len c) rfl rfl ?_; intro pd w2 hr2 hg2 hb2
         have RD2 := Lib.hid hr2
         have RO2 := Lib.hid (RO1.out.kept hb2)
         have B2 := Lib.hid (below_nxt hb2 B1.out)
         clear hr2 hg2 hb2)
      | (refine step_box1 rfl 23 _ rfl (.int .u16 (cut : Int)) rfl rfl ?_; intro pc w3 hr2 hg2 hb2
         have RC3 := Lib.hid hr2
         have RD3 := Lib.hid (RD2.out.kept hb2)
         have RO3 := Lib.hid (RO2.out.kept hb2)
         have B3 := Lib.hid (below_nxt hb2 B2.out)
         clear hr2 hg2 hb2)
      | (go_at_call 7; refine (awake_any _).mono ?_; rintro e w4 ⟨rfl, hb⟩
         have RC4 := Lib.hid (RC3.out.kept hb)
         have RD4 := Lib.hid (RD3.out.kept hb)
         have RO4 := Lib.hid (RO3.out.kept hb)
         have B4 := Lib.hid (below_nxt hb B3.out)
         have cd : w4.cell? ⟨pd, 0, none⟩ = some (.slice A len c) := (RD4.out.cell 0).trans rfl
         clear hb))
    go_ret
    exact ⟨rfl, B4.out⟩
  have hbi : ¬ (3000 : Int) < (len : Int) := by omega
  have H3 := Lib.hid (p := len ≤ 3000) (by omega)
  clear hbig
  go_enter Tryz.func5, Tryz.ntmps5
  go_wp2_with (first
    | (refine step_box1 rfl 23 _ rfl (.int .u16 (off : Int)) rfl rfl ?_; intro po w1 hr2 hg2 hb2
       have RO1 := Lib.hid hr2
       have B1 := Lib.hid hb2
       clear hr2 hg2 hb2)
    | (refine step_box1 rfl 22 _ rfl (.slice A len c) rfl rfl ?_; intro pd w2 hr2 hg2 hb2
       have RD2 := Lib.hid hr2
       have RO2 := Lib.hid (RO1.out.kept hb2)
       have B2 := Lib.hid (below_nxt hb2 B1.out)
       clear hr2 hg2 hb2)
    | (refine step_box1 rfl 23 _ rfl (.int .u16 (cut : Int)) rfl rfl ?_; intro pc w3 hr2 hg2 hb2
       have RC3 := Lib.hid hr2
       have RD3 := Lib.hid (RD2.out.kept hb2)
       have RO3 := Lib.hid (RO2.out.kept hb2)
       have B3 := Lib.hid (below_nxt hb2 B2.out)
       clear hr2 hg2 hb2)
    | (go_at_call 7; refine (awake_any _).mono ?_; rintro e w4 ⟨rfl, hb⟩
       have RC4 := Lib.hid (RC3.out.kept hb)
       have RD4 := Lib.hid (RD3.out.kept hb)
       have RO4 := Lib.hid (RO3.out.kept hb)
       have B4 := Lib.hid (below_nxt hb B3.out)
       have cd : w4.cell? ⟨pd, 0, none⟩ = some (.slice A len c) := (RD4.out.cell 0).trans rfl
       clear hb)
    | (go_at_call 8; refine (HST.out _).mono ?_; rintro e w5 ⟨gs, rfl, VA, vc, Bs, hv, hB, hb⟩
       have HS1 := Lib.hid hv.out.src
       have HBZ := hB
       have RC5 := Lib.hid (RC4.out.kept hb.out)
       have RD5 := Lib.hid (RD4.out.kept hb.out)
       have RO5 := Lib.hid (RO4.out.kept hb.out)
       have B5 := Lib.hid (below_nxt hb.out B4.out)
       clear hv hB hb cd)
    | (go_at_call 9; refine (vnew gs _).mono ?_; rintro e w6 ⟨gv, gm, rfl, hv2, hb2⟩
       have HB6 := Lib.hid hb2.out
       have HVV6 := Lib.hid hv2.out
       clear hv2 hb2)
    | (refine step_new rfl 28 rfl (.pointer none) zero_vptr rfl ?_; intro pv w7 hr3 hg3 hb3
       have R3 := Lib.hid hr3; have HB3 := Lib.hid hb3; have HG3 := hg3
       have c3 : w7.cell? ⟨pv, 0, none⟩ = some (.pointer none) := (hr3.cell 0).trans rfl
       have f3 := hr3.free 0
       clear hr3 hb3 hg3)
    | (refine step_new rfl 4 rfl (.bool false) zero_bool rfl ?_; intro pr w8 hr4 hg4 hb4
       have R4 := Lib.hid hr4; have HB4 := Lib.hid hb4; have HG4 := hg4
       have c4 : w8.cell? ⟨pr, 0, none⟩ = some (.bool false) := (hr4.cell 0).trans rfl
       have f4 := hr4.free 0
       have npp : pv < pr := by have h1 := R3.out.lt; have h2 := HG4.out; simp at h2; omega
       have cq : (w8.setCell ⟨pr, 0, none⟩ (.bool false)).cell? ⟨pv, 0, none⟩ = some (.pointer (some ⟨gv, 0, none⟩)) := ((((R3.out.put 0 (.pointer (some ⟨gv, 0, none⟩))).kept hb4).far (p := ⟨pr, 0, none⟩) (by simp; omega) (.bool false)).cell 0).trans rfl
       clear hr4 hb4 hg4))
  have HCF1 := Lib.hid (p := ∀ w, (callFunc 26 #[.pointer (some ⟨pv, 0, none⟩), .pointer (some ⟨po, 0, none⟩), .pointer (some ⟨pd, 0, none⟩), .pointer (some ⟨pr, 0, none⟩), .pointer (some ⟨pc, 0, none⟩)]).run Tryz.prog w = .ok (.enter 26 #[.pointer (some ⟨pv, 0, none⟩), .pointer (some ⟨po, 0, none⟩), .pointer (some ⟨pd, 0, none⟩), .pointer (some ⟨pr, 0, none⟩), .pointer (some ⟨pc, 0, none⟩)]) w) (fun w => by simp [go_sem])
  have lpv : w6.heap.size ≤ pv := Nat.le_of_eq HG3.out.symm
  have hc23 : Chg [pv] w6 (w7.setCell ⟨pv, 0, none⟩ (.pointer (some ⟨gv, 0, none⟩))) := ((Chg.of HB3.out).setCell (p := ⟨pv, 0, none⟩) (.inl (by simp)) _)
  have hc24 : Chg [pv, pr] w6 (w8.setCell ⟨pr, 0, none⟩ (.bool false)) := ((hc23.wider (fun x hx => .inl (by simp at hx ⊢; exact .inl hx))).trans (Chg.of (F := []) HB4.out) (by simp)).setCell (p := ⟨pr, 0, none⟩) (.inl (by simp)) _
  have HVV := Lib.hid (HVV6.out.below' hc24 (fun x hx => by simp at hx; rcases hx with rfl | rfl <;> omega))
  have RV := Lib.hid ((((R3.out.put 0 (.pointer (some ⟨gv, 0, none⟩))).kept HB4.out).far (p := ⟨pr, 0, none⟩) (by simp; omega) (.bool false)))
  have RR := Lib.hid (R4.out.put 0 (.bool false))
  have hbb : Below w5.heap.size w5 (w8.setCell ⟨pr, 0, none⟩ (.bool false)) := HB6.out.trans (hc24.below HB6.out.size (fun x hx => by have := HB6.out.size; simp at hx; rcases hx with rfl | rfl <;> omega))
  have HBB := Lib.hid hbb
  have RCW := Lib.hid (RC5.out.kept hbb)
  have RDW := Lib.hid (RD5.out.kept hbb)
  have ROW := Lib.hid (RO5.out.kept hbb)
  have npg : gv < pv ∧ gm < pv := ⟨by have := HVV6.out.row.lt; omega, by have := HVV6.out.map.lt; omega⟩
  have lpw : pr < (w8.setCell ⟨pr, 0, none⟩ (.bool false)).heap.size := RR.out.lt
  have lo5 : po < w5.heap.size ∧ pd < w5.heap.size ∧ pc < w5.heap.size ∧ w5.heap.size ≤ gv ∧ w5.heap.size ≤ gm := ⟨RO5.out.lt, RD5.out.lt, RC5.out.lt, HVV6.out.lo.1, HVV6.out.lo.2⟩
  clear c3 f3 c4 f4 hc23 hc24 hbb
  generalize w8.setCell ⟨pr, 0, none⟩ (.bool false) = W8 at HVV RV RR HBB RCW RDW ROW lpw cq ⊢
  have hG8 : ∀ x ∈ [gm, pr], x ≠ gv ∧ x < W8.heap.size := fun x hx => by
    simp at hx
    rcases hx with rfl | rfl
    · exact ⟨HVV.out.ne.symm, HVV.out.map.lt⟩
    · exact ⟨by omega, lpw⟩
  refine (vrun 26 #[.pointer (some ⟨pv, 0, none⟩), .pointer (some ⟨po, 0, none⟩), .pointer (some ⟨pd, 0, none⟩), .pointer (some ⟨pr, 0, none⟩), .pointer (some ⟨pc, 0, none⟩)] [gm, pr] _ _ HVV.out hG8 HCF1.out (fun r w1' hv hr hc hrb => by
    have hbel : Below w5.heap.size w5 w1' := HBB.out.trans (hc.below HBB.out.size (fun x hx => by
      simp at hx
      rcases hx with rfl | rfl <;> omega))
    exact holes1 (A := A) (c := c) (len := len) (l := l) off cut HOC.out.1 HOC.out.2 hv hbel.size (by have := HBB.out.size; omega) hr (hc.row RV.out (by simp; omega)) (hc.row ROW.out (by simp; omega)) (hc.row RDW.out (by simp; omega)) (hc.row RR.out (by simp; omega)) (hc.row RCW.out (by simp; omega)) (HS1.out.keep hbel) HBZ.out (by have := HB6.out.size; omega) (holB_of HD.out (below_nxt hbel B5.out) B5.out.size) HLEN.out.1 HLEN.out.2 H3.out)).mono ?_
  intro e w9 h9
  obtain ⟨rfl, n', C', wa, wb, F, hv9, hn9, hd9, hcF, hF, hsz, hc9⟩ := h9.done (fun _ _ h => h)
  have cr9 : w9.cell? ⟨pr, 0, none⟩ = some (.bool true) := hcF.out.cell hd9.out (fun hx => by rcases hF.out pr hx with h | h <;> omega)
  have HB9 := Lib.hid (p := Below w5.heap.size w5 w9) (HBB.out.trans (hc9.out.below HBB.out.size (fun x hx => by
    have h2 := HB6.out.size
    simp at hx
    rcases hx with rfl | rfl | rfl <;> omega)))
  go_wp2
  go_ret
  exact ⟨rfl, below_nxt HB9.out B5.out⟩
end Go.Proofs.YtfbfeplegdpemaaGreat
