/- Run: a function on its way to its end. Conditions: the view lies there; the function does what is said of it. -/
import Derived.Test.YtfbfeplegdpemaaGreatMgKe
set_option linter.unusedVariables false
set_option maxRecDepth 20000
namespace Go.Proofs.YtfbfeplegdpemaaGreat
open Go.RowKit

section
variable {b : Nat} {w w' : World} {gv gm gs : Nat} {n : Nat} {C : Int → Option BV}
/-- What a function leaves that is run: it came to its end, or it gave up at a slot. (w1: the world at its beginning; r: the run.) -/
def FunP (b : Nat) (gv gm gs r : Nat) (G : List Nat) (Done : World → (Int → Option BV) → World → Prop) (Gave : Int → World → Prop) (w1 : World) (e : Ending) (w2 : World) : Prop :=
  (e = .returned (.tuple #[]) ∧ ∃ n' C', VV b w2 gv gm gs (some ⟨r, 0, none⟩) n' C' ∧ n' ≤ 1000 ∧ Row w2 r 83 (rcs false 0) ∧ Chg G w1 w2 ∧ Done w1 C' w2) ∨
  (e = runE r ∧ ∃ n' C' a, VV b w2 gv gm gs (some ⟨r, 0, none⟩) n' C' ∧ Row w2 r 83 (rcs true a) ∧ Chg (r :: G) w1 w2 ∧ Gave a w2)
/-- What Run leaves. -/
def RunP (b : Nat) (w : World) (gv gm gs : Nat) (G : List Nat) (Done : World → (Int → Option BV) → World → Prop) (Gave : Int → World → Prop) (e : Ending) (w' : World) : Prop :=
  (e = .returned (.tuple #[.int .i64 0, .bool true]) ∧ ∃ (n' : Nat) (C' : Int → Option BV) (w1 w2 : World) (F : List Nat), VV b w' gv gm gs none n' C' ∧ n' ≤ 1000 ∧ Done w1 C' w2 ∧ Chg F w2 w' ∧ (∀ x ∈ F, x = gv ∨ (w.heap.size ≤ x ∧ x < w1.heap.size)) ∧ w.heap.size ≤ w1.heap.size ∧ Chg (gv :: gm :: G) w w') ∨
  (∃ (a : Int) (w2 : World), e = .returned (.tuple #[.int .i64 a, .bool false]) ∧ VV b w' gv gm gs none 0 (fun _ => none) ∧ Gave a w2 ∧ Chg (gv :: gm :: G) w w')
theorem zero_view_ptr (w : World) : (zeroValue 79).run Tryz.prog w = .ok (.pointer none) w := by kernel_rfl
theorem zero_int (w : World) : (zeroValue 3).run Tryz.prog w = .ok (.int .i64 0) w := by kernel_rfl
theorem zero_bool (w : World) : (zeroValue 4).run Tryz.prog w = .ok (.bool false) w := by kernel_rfl
theorem built_run : Tryz.prog.built 83 [] = some (rcs false 0).toArray := by kernel_rfl
theorem fun_nil (F : Nat) (caps : Array Value) (w : World) : (binOp .neq 1 (.func (.func F) #[] caps) .nilFunc).run Tryz.prog w = .ok (.bool true) w := by kernel_rfl
theorem VV.keepN {F : List Nat} {rp : Option Addr} (h : VV b w gv gm gs rp n C) (hc : Chg F w w') (h1 : gv ∉ F) (h2 : gm ∉ F) (hN : NoBytes w F) : VV b w' gv gm gs rp n C :=
  ⟨hc.row h.row h1, h.map.chg hc h2, fun a x hx => (h.own a x hx).chg hc hN, h.len, h.lo⟩
theorem row_noB {w : World} {p : Nat} {t : TypeId} {cs : List Value} (h : Row w p t cs) (ht : t ≠ 5) : ∀ cs fr, w.heap[p]? ≠ some (.cells cs 5 fr) := by
  intro cs' fr e
  have h1 := h.heap
  rw [e] at h1
  injection h1 with h1
  injection h1 with _ h2
  exact ht h2.symm
theorem VV.turn {rp : Option Addr} (h : VV b w gv gm gs rp n C) (rp' : Option Addr) : VV b (w.setCell ⟨gv, 2, none⟩ (.pointer rp')) gv gm gs rp' n C := by
  have hc : Chg [gv] w (w.setCell ⟨gv, 2, none⟩ (.pointer rp')) := (Chg.refl [gv] w).setCell (p := ⟨gv, 2, none⟩) (.inl (by simp)) _
  exact ⟨h.row.put 2 _, h.map.chg hc (fun hx => h.ne (List.mem_singleton.1 hx).symm), fun a x hx => (h.own a x hx).chg hc (fun j hj cs fr => by rw [List.mem_singleton] at hj; subst hj; exact row_noB h.row (by decide) _ _), h.len, h.lo⟩
theorem run_setup {wf w1 : World} {po pw r : Nat} {t : TypeId} (h : VV b wf gv gm gs none n C) (rpo : Row wf po t [.pointer none]) (rpw : Row wf pw t [.pointer none]) (n1 : po ≠ pw) (n2 : gv ≠ po) (n3 : gv ≠ pw) (ht : t ≠ 5)
    (hm : MC w1 gm 0 fun _ => none) (hg : (((wf.setCell ⟨po, 0, none⟩ (.pointer none)).setCell ⟨pw, 0, none⟩ (.pointer (some ⟨r, 0, none⟩))).setCell ⟨gv, 2, none⟩ (.pointer (some ⟨r, 0, none⟩))).grownBy w1 (some gm)) :
    VV b w1 gv gm gs (some ⟨r, 0, none⟩) 0 (fun _ => none) ∧ Row w1 po t [.pointer none] ∧ Row w1 pw t [.pointer (some ⟨r, 0, none⟩)] ∧ Chg [po, pw, gv, gm] wf w1 := by
  have ng : gv ≠ gm := h.ne
  have np : po ≠ gm := fun e => h.map.no_cells _ _ _ (e ▸ rpo.heap)
  have nq : pw ≠ gm := fun e => h.map.no_cells _ _ _ (e ▸ rpw.heap)
  have hc : Chg [po, pw, gv, gm] wf w1 := ((((Chg.refl [po, pw, gv, gm] wf).setCell (p := ⟨po, 0, none⟩) (.inl (by simp)) _).setCell (p := ⟨pw, 0, none⟩) (.inl (by simp)) _).setCell (p := ⟨gv, 2, none⟩) (.inl (by simp)) _).grown hg (fun k hk => by injection hk with hk; subst hk; exact .inl (by simp))
  refine ⟨⟨?_, hm, (fun a x hx => by cases hx), (fun a x hx => by cases hx), h.lo⟩, ?_, ?_, hc⟩
  · have h1 := ((h.row.far (p := ⟨po, 0, none⟩) n2 (.pointer none)).far (p := ⟨pw, 0, none⟩) n3 (.pointer (some ⟨r, 0, none⟩))).put 2 (.pointer (some ⟨r, 0, none⟩))
    exact h1.grown hg (fun e => ng (by injection e))
  · have h1 := ((rpo.put 0 (.pointer none)).far (p := ⟨pw, 0, none⟩) n1 (.pointer (some ⟨r, 0, none⟩))).far (p := ⟨gv, 2, none⟩) n2.symm (.pointer (some ⟨r, 0, none⟩))
    exact h1.grown hg (fun e => np (by injection e))
  · have h1 := ((rpw.far (p := ⟨po, 0, none⟩) n1.symm (.pointer none)).put 0 (.pointer (some ⟨r, 0, none⟩))).far (p := ⟨gv, 2, none⟩) n3.symm (.pointer (some ⟨r, 0, none⟩))
    exact h1.grown hg (fun e => nq (by injection e))
set_option maxHeartbeats 1000000 in
theorem vrun (F : Nat) (caps : Array Value) (G : List Nat) (Done : World → (Int → Option BV) → World → Prop) (Gave : Int → World → Prop) (h : VV b w gv gm gs none n C) (hG : ∀ x ∈ G, x ≠ gv ∧ x < w.heap.size) (hcf : ∀ w, (callFunc F caps).run Tryz.prog w = .ok (.enter F caps) w)
    (hf : ∀ (r : Nat) (w1 : World), VV b w1 gv gm gs (some ⟨r, 0, none⟩) 0 (fun _ => none) → Row w1 r 83 (rcs false 0) → Chg [gv, gm] w w1 → w.heap.size ≤ r → Calls Tryz.prog F caps w1 (FunP b gv gm gs r G Done Gave w1)) :
    Calls Tryz.prog 11 #[.pointer (some ⟨gv, 0, none⟩), .func (.func F) #[] caps] w (RunP b w gv gm gs G Done Gave) := by
  have hmf : ∀ (fn : Fn) (first cap : Array Value) (w : World), (Instr.makeFunc fn first cap).run Tryz.prog w = .ok (.func fn first cap) w := fun _ _ _ _ => rfl
  have hfn := fun_nil F caps
  have H := Lib.hid h
  have HF := Lib.hid hf
  have HGG := Lib.hid hG
  clear h hf hG
  go_enter_defers Tryz.func11, Tryz.ntmps11
  go_wp2_with (first
    | (refine step_box1 rfl 28 _ rfl (.pointer (some ⟨gv, 0, none⟩)) rfl rfl ?_; intro pv wa hra hga hba
       have HRa := Lib.hid hra; have HBa := Lib.hid hba; have HGa := Lib.hid (p := w.heap.size ≤ pv) (Nat.le_of_eq hga.out.symm); clear hra hga hba)
    | (refine step_new rfl 3 rfl (.int .i64 0) zero_int rfl ?_; intro ps wb hrb hgb hbb
       have HRb := Lib.hid hrb; have HBb := Lib.hid hbb; have HGb := Lib.hid (p := wa.heap.size ≤ ps) (Nat.le_of_eq hgb.out.symm); clear hrb hgb hbb)
    | (refine step_new rfl 4 rfl (.bool false) zero_bool rfl ?_; intro pk wc hrc hgc hbc
       have HRc := Lib.hid hrc; have HBc := Lib.hid hbc; have HGc := Lib.hid (p := wb.heap.size ≤ pk) (Nat.le_of_eq hgc.out.symm); clear hrc hgc hbc
       have HB3 := Lib.hid (p := Below w.heap.size w wc) (below_nxt HBc.out (below_nxt HBb.out HBa.out))
       have v3 := (H.out.below HB3.out).c2
       have p3 : wc.cell? ⟨pv, 0, none⟩ = some (.pointer (some ⟨gv, 0, none⟩)) := (((HRa.out.kept HBb.out).kept HBc.out).cell 0).trans rfl)
    | (refine step_build rfl 83 _ rfl [] ?hv _ built_run ?_; case hv => (simp [Act.eval, Act.put]))
    | (refine step_box rfl 13 rfl 83 _ rfl (rcs false 0) rfl ?_; intro r wd hrd hgd hbd hsd
       have HRd := Lib.hid hrd; have HBd := Lib.hid hbd; have HGd := Lib.hid (p := wc.heap.size ≤ r) (Nat.le_of_eq hgd.out.symm); clear hrd hgd hbd hsd v3 p3; have MK := trivial)
    | (clear MK; refine step_new rfl 79 rfl (.pointer none) zero_view_ptr rfl ?_; intro po we hre hge hbe
       have HRe := Lib.hid hre; have HBe := Lib.hid hbe; have HGe := Lib.hid (p := wd.heap.size ≤ po) (Nat.le_of_eq hge.out.symm); clear hre hge hbe)
    | (refine step_new rfl 79 rfl (.pointer none) zero_view_ptr rfl ?_; intro pw wf hrf hgf hbf
       have HRf := Lib.hid hrf; have HBf := Lib.hid hbf; have HGf := Lib.hid (p := we.heap.size ≤ pw) (Nat.le_of_eq hgf.out.symm); clear hrf hgf hbf
       have HB6 := Lib.hid (p := Below w.heap.size w wf) (below_nxt HBf.out (below_nxt HBe.out (below_nxt HBd.out HB3.out)))
       have HV6 := Lib.hid (H.out.below HB6.out)
       have R1 := Lib.hid (((((HRa.out.kept HBb.out).kept HBc.out).kept HBd.out).kept HBe.out).kept HBf.out)
       have R2 := Lib.hid ((((HRb.out.kept HBc.out).kept HBd.out).kept HBe.out).kept HBf.out)
       have R3 := Lib.hid (((HRc.out.kept HBd.out).kept HBe.out).kept HBf.out)
       have R4 := Lib.hid ((HRd.out.kept HBe.out).kept HBf.out)
       have R5 := Lib.hid (HRe.out.kept HBf.out)
       have ORD := Lib.hid (p := gv < pv ∧ w.heap.size ≤ pv ∧ pv < ps ∧ ps < pk ∧ pk < r ∧ r < po ∧ po < pw) (by
         have l0 := H.out.row.lt; have l1 := HRa.out.lt; have l2 := HRb.out.lt; have l3 := HRc.out.lt; have l4 := HRd.out.lt; have l5 := HRe.out.lt
         have g1 := HGa.out; have g2 := HGb.out; have g3 := HGc.out; have g4 := HGd.out; have g5 := HGe.out; have g6 := HGf.out
         omega)
       have n1 : ¬ po = pw := by have := ORD.out; omega
       have n2 : ¬ pw = po := by have := ORD.out; omega
       have n3 : ¬ po = pv := by have := ORD.out; omega
       have n4 : ¬ pw = pv := by have := ORD.out; omega
       have n5 : ¬ po = gv := by have := ORD.out; omega
       have n6 : ¬ pw = gv := by have := ORD.out; omega
       have n7 : ¬ gv = pv := by have := ORD.out; omega
       have n8 : ¬ gv = pw := by have := ORD.out; omega
       have n9 : ¬ gv = po := by have := ORD.out; omega
       have co : wf.cell? ⟨po, 0, none⟩ = some (.pointer none) := (R5.out.cell 0).trans rfl
       have fo := R5.out.free 0
       have cw : wf.cell? ⟨pw, 0, none⟩ = some (.pointer none) := (HRf.out.cell 0).trans rfl
       have fw := HRf.out.free 0
       have cv : wf.cell? ⟨pv, 0, none⟩ = some (.pointer (some ⟨gv, 0, none⟩)) := (R1.out.cell 0).trans rfl
       have c1 := HV6.out.c1
       have c2 := HV6.out.c2
       have f2 := HV6.out.row.free 2)
    | (refine wp_clear rfl (.tmp 21) rfl gm n C rfl (MC.chg (F := [po, pw, gv]) HV6.out.map ((((Chg.refl [po, pw, gv] wf).setCell (p := ⟨po, 0, none⟩) (.inl (by simp)) _).setCell (p := ⟨pw, 0, none⟩) (.inl (by simp)) _).setCell (p := ⟨gv, 2, none⟩) (.inl (by simp)) _) (by
         have ng := HV6.out.ne
         have np : po ≠ gm := fun e => HV6.out.map.no_cells _ _ _ (e ▸ R5.out.heap)
         have nq : pw ≠ gm := fun e => HV6.out.map.no_cells _ _ _ (e ▸ HRf.out.heap)
         simp [ng.symm, np.symm, nq.symm])) ?_
       intro w1 hm1 hg1
       obtain ⟨V1, Ro, Rw, hC1⟩ := run_setup HV6.out R5.out HRf.out n1 n9 n8 (by decide) hm1 hg1
       have HV1 := Lib.hid V1; have HRo := Lib.hid Ro; have HRw := Lib.hid Rw; have HC1 := Lib.hid hC1
       clear V1 Ro Rw hC1 hm1 hg1 co fo cw fw cv c1 c2 f2 n1 n2 n3 n4 n5 n6 n7 n8 n9))
  have hC01 : Chg [gv, gm] w w1 := (Chg.of (F := [gv, gm]) HB6.out).trans HC1.out (fun x hx => by
    have o := ORD.out
    simp only [List.mem_cons, List.mem_nil_iff, or_false] at hx
    rcases hx with rfl | rfl | rfl | rfl
    · exact .inr (by omega)
    · exact .inr (by omega)
    · exact .inl (by simp)
    · exact .inl (by simp))
  have HC01 := Lib.hid hC01
  have ngm : gm < w.heap.size := H.out.map.lt
  have out : ∀ x, gv < x → w.heap.size ≤ x → x ≠ po → x ≠ pw → x ∉ [po, pw, gv, gm] := fun x h0 h1 h2 h3 => by
    simp only [List.mem_cons, List.mem_nil_iff, or_false, not_or]
    exact ⟨h2, h3, by omega, by omega⟩
  have Q1 := Lib.hid (HC1.out.row R1.out (out pv (by have := ORD.out; omega) (by have := ORD.out; omega) (by have := ORD.out; omega) (by have := ORD.out; omega)))
  have Q2 := Lib.hid (HC1.out.row R2.out (out ps (by have := ORD.out; omega) (by have := ORD.out; omega) (by have := ORD.out; omega) (by have := ORD.out; omega)))
  have Q3 := Lib.hid (HC1.out.row R3.out (out pk (by have := ORD.out; omega) (by have := ORD.out; omega) (by have := ORD.out; omega) (by have := ORD.out; omega)))
  have Q4 := Lib.hid (HC1.out.row R4.out (out r (by have := ORD.out; omega) (by have := ORD.out; omega) (by have := ORD.out; omega) (by have := ORD.out; omega)))
  clear out hC01 R1 R2 R3 R4 R5 HRa HRb HRc HRd HRe HRf HBa HBb HBc HBd HBe HBf
  refine (HF.out r w1 HV1.out Q4.out HC01.out (by have := ORD.out; omega)).mono ?_
  rintro e w2 (⟨rfl, n', C', hv, hnn, hr, hc, hd⟩ | ⟨he, n', C', a, hv, hr, hc, hg⟩)
  · have o := ORD.out
    have nG : ∀ x, w.heap.size ≤ x → x ∉ G := fun x hx hm => by have := (HGG.out x hm).2; omega
    have T1 := Lib.hid (hc.row Q1.out (nG pv (by omega)))
    have T2 := Lib.hid (hc.row Q2.out (nG ps (by omega)))
    have T3 := Lib.hid (hc.row Q3.out (nG pk (by omega)))
    have To := Lib.hid (hc.row HRo.out (nG po (by omega)))
    have Tw := Lib.hid (hc.row HRw.out (nG pw (by omega)))
    have cw : w2.cell? ⟨pw, 0, none⟩ = some (.pointer (some ⟨r, 0, none⟩)) := (Tw.out.cell 0).trans rfl
    have r0 : w2.cell? ⟨r, 0, none⟩ = some (.bool false) := (hr.cell 0).trans rfl
    have r1 : w2.cell? ⟨r, 1, none⟩ = some (.int .i64 0) := (hr.cell 1).trans rfl
    have s0 : w2.cell? ⟨ps, 0, none⟩ = some (.int .i64 0) := (T2.out.cell 0).trans rfl
    have k0 : w2.cell? ⟨pk, 0, none⟩ = some (.bool false) := (T3.out.cell 0).trans rfl
    have fs := T2.out.free 0
    have fk := T3.out.free 0
    have n1 : ¬ ps = pw := by omega
    have n2 : ¬ ps = r := by omega
    have n3 : ¬ pk = pw := by omega
    have n4 : ¬ pk = r := by omega
    have n5 : ¬ ps = pk := by omega
    have n6 : ¬ pk = ps := by omega
    have HV2 := Lib.hid hv
    have HR2 := Lib.hid hr
    have HC2 := Lib.hid hc
    have HD := Lib.hid hd
    have HNN := Lib.hid hnn
    clear hv hr hc hd o nG hnn
    go_wp2
    go_region
    go_wp2
    have hc3 : Chg [ps, pk] w2 ((w2.setCell ⟨ps, 0, none⟩ (.int .i64 0)).setCell ⟨pk, 0, none⟩ (.bool true)).drew := (((Chg.refl [ps, pk] w2).setCell (p := ⟨ps, 0, none⟩) (.inl (by simp)) _).setCell (p := ⟨pk, 0, none⟩) (.inl (by simp)) _).drew
    have hN : NoBytes w2 [ps, pk] := fun j hj cs fr => by
      simp only [List.mem_cons, List.mem_nil_iff, or_false] at hj
      rcases hj with rfl | rfl
      · exact row_noB T2.out (by decide) _ _
      · exact row_noB T3.out (by decide) _ _
    have o := ORD.out
    have lm : gm < w.heap.size := ngm
    have V3 := HV2.out.keepN hc3 (by simp; omega) (by simp; omega) hN
    have co3 := hc3.cell (v := .pointer none) ((To.out.cell 0).trans rfl) (by simp; omega)
    have cv3 := hc3.cell (v := .pointer (some ⟨gv, 0, none⟩)) ((T1.out.cell 0).trans rfl) (by simp; omega)
    have ck3 : ((w2.setCell ⟨ps, 0, none⟩ (.int .i64 0)).setCell ⟨pk, 0, none⟩ (.bool true)).drew.cell? ⟨pk, 0, none⟩ = some (.bool true) := ((((T3.out.far (p := ⟨ps, 0, none⟩) n6 _).put 0 (.bool true)).drew).cell 0).trans rfl
    have cs3 : ((w2.setCell ⟨ps, 0, none⟩ (.int .i64 0)).setCell ⟨pk, 0, none⟩ (.bool true)).drew.cell? ⟨ps, 0, none⟩ = some (.int .i64 0) := ((((T2.out.put 0 (.int .i64 0)).far (p := ⟨pk, 0, none⟩) n5 _).drew).cell 0).trans rfl
    generalize ((w2.setCell ⟨ps, 0, none⟩ (.int .i64 0)).setCell ⟨pk, 0, none⟩ (.bool true)).drew = W3 at hc3 V3 co3 cv3 ck3 cs3 ⊢
    refine leaves_cons (f := 34) (args := #[.pointer (some ⟨po, 0, none⟩), .pointer (some ⟨pv, 0, none⟩), .pointer (some ⟨pk, 0, none⟩), .pointer (some ⟨pw, 0, none⟩), .pointer (some ⟨ps, 0, none⟩)]) (by simp) (by simp [go_sem]) ?_
    refine (vdefer_ok V3 co3 cv3 ck3 (by omega)).mono ?_
    rintro e u' w' ⟨rfl, rfl, hw⟩
    have hc4 : Chg [gv] W3 w' := by rw [hw]; exact (Chg.refl [gv] W3).setCell (p := ⟨gv, 2, none⟩) (.inl (by simp)) _
    have ck4 := hc4.cell ck3 (by simp; omega)
    have cs4 := hc4.cell cs3 (by simp; omega)
    have V4 : VV b w' gv gm gs none n' C' := by rw [hw]; exact V3.turn none
    have hc34 : Chg [ps, pk, gv] w2 w' := (hc3.wider (fun x hx => .inl (by simp at hx ⊢; omega))).trans hc4 (fun x hx => .inl (by simp at hx ⊢; omega))
    have fin : RunP b w gv gm gs G Done Gave (.returned (.tuple #[.int .i64 0, .bool true])) w' := by
      refine .inl ⟨rfl, n', C', w1, w2, [ps, pk, gv], V4, HNN.out, HD.out, hc34, fun x hx => ?_, HC01.out.size, ?_⟩
      · have l1 := Q2.out.lt
        have l2 := Q3.out.lt
        simp at hx
        rcases hx with rfl | rfl | rfl
        · exact .inr (by omega)
        · exact .inr (by omega)
        · exact .inl rfl
      · have h1 : Chg (gv :: gm :: G) w w2 := (HC01.out.wider (fun x hx => .inl (by simp at hx ⊢; omega))).trans HC2.out (fun x hx => .inl (by simp [hx]))
        exact h1.trans hc34 (fun x hx => by
          simp at hx
          rcases hx with rfl | rfl | rfl
          · exact .inr (by omega)
          · exact .inr (by omega)
          · exact .inl (by simp))
    simp [Leaves, settle, results, Tryz.results11, go_sem, ck4, cs4]
    exact fin
  · unfold runE at he
    subst he
    have o := ORD.out
    have lm : gm < w.heap.size := ngm
    have nG : ∀ x, w.heap.size ≤ x → x ≠ r → x ∉ r :: G := fun x hx h0 hm => by
      rcases List.mem_cons.1 hm with e | hm
      · exact h0 e
      · have := (HGG.out x hm).2
        omega
    have T1 := hc.row Q1.out (nG pv (by omega) (by omega))
    have T2 := hc.row Q2.out (nG ps (by omega) (by omega))
    have T3 := hc.row Q3.out (nG pk (by omega) (by omega))
    have To := hc.row HRo.out (nG po (by omega) (by omega))
    have Tw := hc.row HRw.out (nG pw (by omega) (by omega))
    refine leaves_cons (f := 34) (args := #[.pointer (some ⟨po, 0, none⟩), .pointer (some ⟨pv, 0, none⟩), .pointer (some ⟨pk, 0, none⟩), .pointer (some ⟨pw, 0, none⟩), .pointer (some ⟨ps, 0, none⟩)]) (by simp) (by simp [go_sem]) ?_
    refine (vdefer_not hv hr ((To.cell 0).trans rfl) ((T1.cell 0).trans rfl) ((T3.cell 0).trans rfl) ((Tw.cell 0).trans rfl) ((T2.cell 0).trans rfl) (T2.free 0) (by omega) (by omega) (by omega) (by omega)).mono ?_
    rintro e u' w' ⟨rfl, rfl, wB, hmB, hgB, hw⟩
    have hcA : Chg [gv, gm] w2 wB := ((Chg.refl [gv, gm] w2).setCell (p := ⟨gv, 2, none⟩) (.inl (by simp)) _).grown hgB (fun k hk => by injection hk with hk; subst hk; exact .inl (by simp))
    have hcB : Chg [gv, gm, ps] w2 w' := by
      rw [hw]
      exact (hcA.wider (fun x hx => .inl (by simp at hx ⊢; omega))).setCell (p := ⟨ps, 0, none⟩) (.inl (by simp)) _
    have U2 : Row w' ps 3 [.int .i64 a] := by rw [hw]; exact (hcA.row T2 (by simp; omega)).put 0 _
    have U3 : Row w' pk 4 [.bool false] := hcB.row T3 (by simp; omega)
    have cs4 : w'.cell? ⟨ps, 0, none⟩ = some (.int .i64 a) := (U2.cell 0).trans rfl
    have ck4 : w'.cell? ⟨pk, 0, none⟩ = some (.bool false) := (U3.cell 0).trans rfl
    have V4 : VV b w' gv gm gs none 0 fun _ => none := by
      have ht := (hv.turn none).row.grown hgB (fun e => hv.ne (by injection e))
      refine ⟨?_, ?_, (fun a x hx => by cases hx), (fun a x hx => by cases hx), hv.lo⟩
      · rw [hw]
        exact ht.far (p := ⟨ps, 0, none⟩) (by show ¬ gv = ps; omega) _
      · rw [hw]
        exact hmB.chg ((Chg.refl [ps] wB).setCell (p := ⟨ps, 0, none⟩) (.inl (by simp)) _) (by simp; omega)
    have fin : RunP b w gv gm gs G Done Gave (.returned (.tuple #[.int .i64 a, .bool false])) w' := by
      refine .inr ⟨a, w2, rfl, V4, hg, ?_⟩
      have h1 : Chg (gv :: gm :: G) w w2 := (HC01.out.wider (fun x hx => .inl (by simp at hx ⊢; omega))).trans hc (fun x hx => by
        rcases List.mem_cons.1 hx with e | hx
        · exact .inr (by omega)
        · exact .inl (by simp [hx]))
      exact h1.trans hcB (fun x hx => by
        simp at hx
        rcases hx with rfl | rfl | rfl
        · exact .inl (by simp)
        · exact .inl (by simp)
        · exact .inr (by omega))
    simp [Leaves, settle, results, Tryz.results11, go_sem, ck4, cs4]
    exact fin
end
end Go.Proofs.YtfbfeplegdpemaaGreat
/- Changes: what was put, by rising slots. Conditions: the view lies there. -/
set_option linter.unusedVariables false
set_option maxRecDepth 20000
namespace Go.Proofs.YtfbfeplegdpemaaGreat
open Go.RowKit

/-- Changes as they lie. -/
structure PutsAt (w : World) (A : Option Addr) (ps : List (Int × BV)) : Prop where
  lies : Lies pcs 2 w A ps
  hol : ∀ p ∈ ps, Hol w p.2.A p.2.l
  len : ∀ p ∈ ps, p.2.l.length ≤ 131072
  lim : ps.length ≤ 1000
theorem PutsAt.below {w w' : World} {A : Option Addr} {ps : List (Int × BV)} (h : PutsAt w A ps) (hb : Below w.heap.size w w') : PutsAt w' A ps := ⟨h.lies.below hb, fun p hp => (h.hol p hp).below hb, h.len, h.lim⟩
/-- Changes, by slots and bytes. -/
def chL (ps : List (Int × BV)) : List (Int × List UInt8) := ps.map fun p => (p.1, p.2.l)
/-- They are those of C, by rising slots. -/
structure ChOf (C : Int → Option (List UInt8)) (cs : List (Int × List UInt8)) : Prop where
  lt : cs.Pairwise (fun x y => x.1 < y.1)
  mem : ∀ s l, (s, l) ∈ cs ↔ C s = some l
def byL (C : Int → Option BV) : Int → Option (List UInt8) := fun a => (C a).map (·.l)
theorem ChOf.one {C : Int → Option (List UInt8)} : ∀ {a b : List (Int × List UInt8)}, ChOf C a → ChOf C b → a = b := by
  suffices H : ∀ (a b : List (Int × List UInt8)), a.Pairwise (fun x y => x.1 < y.1) → b.Pairwise (fun x y => x.1 < y.1) → (∀ p, p ∈ a ↔ p ∈ b) → a = b from
    fun {a b} ha hb => H a b ha.lt hb.lt (fun p => by rw [show p = (p.1, p.2) from rfl, ha.mem, hb.mem])
  intro a
  induction a with
  | nil =>
    intro b _ _ h
    cases b with
    | nil => rfl
    | cons y b => have := (h y).2 (by simp); simp at this
  | cons x a ih =>
    intro b ha hb h
    cases b with
    | nil => have := (h x).1 (by simp); simp at this
    | cons y b =>
      obtain ⟨ha1, ha2⟩ := List.pairwise_cons.1 ha
      obtain ⟨hb1, hb2⟩ := List.pairwise_cons.1 hb
      have hxy : x = y := by
        have h1 := (h x).1 (by simp)
        have h2 := (h y).2 (by simp)
        rcases List.mem_cons.1 h1 with e | h1
        · exact e
        · rcases List.mem_cons.1 h2 with e | h2
          · exact e.symm
          · have := hb1 x h1
            have := ha1 y h2
            omega
      subst hxy
      rw [ih b ha2 hb2]
      intro z
      constructor
      · intro hz
        have := ha1 z hz
        rcases List.mem_cons.1 ((h z).1 (by simp [hz])) with e | e
        · subst e
          omega
        · exact e
      · intro hz
        have := hb1 z hz
        rcases List.mem_cons.1 ((h z).2 (by simp [hz])) with e | e
        · subst e
          omega
        · exact e
theorem chof_keys {C : Int → Option BV} {n : Nat} {ks : List Int} (hk : Keys C n ks) {ps : List (Int × BV)} (h1 : ps.map (·.1) = ks) (h2 : ∀ p ∈ ps, ∃ x, C p.1 = some x ∧ x.l = p.2.l) : ChOf (byL C) (chL ps) := by
  refine ⟨?_, fun s l => ?_⟩
  · have := hk.lt
    rw [← h1, List.pairwise_map] at this
    unfold chL
    rw [List.pairwise_map]
    exact this
  · unfold chL byL
    rw [List.mem_map]
    constructor
    · rintro ⟨p, hp, e⟩
      obtain ⟨x, hx, hl⟩ := h2 p hp
      injection e with e1 e2
      rw [← e1, hx, ← e2, ← hl]
      rfl
    · intro h
      obtain ⟨x, hx, rfl⟩ := Option.map_eq_some_iff.1 h
      have hm := (hk.mem s).2 (by rw [hx]; rfl)
      rw [← h1, List.mem_map] at hm
      obtain ⟨p, hp, rfl⟩ := hm
      obtain ⟨y, hy, hl⟩ := h2 p hp
      rw [hx] at hy
      injection hy with hy
      subst hy
      exact ⟨p, hp, by rw [hl]⟩
theorem built_put (a : Int) (A : Option Addr) (n c : Nat) : Tryz.prog.built 70 [(0, .int .i64 a), (1, .slice A n c)] = some #[.int .i64 a, .slice A n c] := by kernel_rfl
section
variable {b : Nat} {w w' : World} {gv gm gs : Nat} {rp : Option Addr} {n : Nat} {C : Int → Option BV}
/-- What Changes leaves. -/
def ChP (w : World) (C : Int → Option BV) (e : Ending) (w' : World) : Prop := ∃ ps A c, e = .returned (.slice A ps.length c) ∧ Hid (ChOf (byL C) (chL ps)) ∧ Hid (PutsAt w' A ps) ∧ Hid (Below w.heap.size w w')
/-- .. all of the call's own. -/
def ChP2 (w : World) (C : Int → Option BV) (e : Ending) (w' : World) : Prop := ∃ ps A c, e = .returned (.slice A ps.length c) ∧ Hid (ChOf (byL C) (chL ps)) ∧ Hid (PutsAt w' A ps) ∧ Hid (Below w.heap.size w w') ∧ Hid (w'.ownsRow w.heap.size 70 2 (.slice A ps.length c) ps.length (ps.flatMap pcs) ∧ ∀ p ∈ ps, Own8 w.heap.size w' p.2)
set_option maxHeartbeats 1000000 in
theorem vchanges2 (h : VV b w gv gm gs rp n C) (hn : n ≤ 1000) : Calls Tryz.prog 30 #[.pointer (some ⟨gv, 0, none⟩)] w (ChP2 w C) := by
  have c1 := h.c1
  have HK := Lib.hid (fun W => keys_call (some gm) W)
  have HS := Lib.hid (h.map.sorted (by omega))
  have H := Lib.hid h
  have HN := Lib.hid hn
  have HBP := Lib.hid built_put
  clear h hn
  go_enter Tryz.func30, Tryz.ntmps30
  go_wp2_with (first
    | (go_at_call 66; refine (HK.out _).mono ?_; rintro e w2 ⟨rfl, rfl⟩)
    | (go_at_call 65; refine HS.out.mono ?_; rintro e w3 ⟨ks, A, c, rfl, hk, ho, hb⟩
       have HB3 := Lib.hid (below_nxt hb.out (below_al w _))
       have HL := Lib.hid (Lies.own (by decide) kcs_len ho.out)
       have HKK := hk
       clear ho hb hk))
  have hbase : w.heap.size ≤ w3.heap.size := HB3.out.size
  go_loopw [3, 13] (fun x y wr => ∃ (k : Nat) (ps : List (Int × BV)) (A' : Option Addr) (m c' : Nat), Hid (k ≤ ks.length) ∧ y = .int .i64 (k : Int) ∧ x = .slice A' m c' ∧ Hid (m = ps.length) ∧ Hid (ps.map (·.1) = ks.take k) ∧ Hid (∀ p ∈ ps, ∃ x, C p.1 = some x ∧ x.l = p.2.l) ∧ Hid (wr.ownsRow w3.heap.size 70 2 (.slice A' m c') m (ps.flatMap pcs)) ∧ Hid (∀ p ∈ ps, Own8 w3.heap.size wr p.2) ∧ Hid (Below w3.heap.size w3 wr)) (fun _ y _ => ks.length - (intOf y).toNat)
  case atStart => exact ⟨0, [], none, 0, 0, Lib.hid (Nat.zero_le _), rfl, rfl, Lib.hid rfl, Lib.hid rfl, Lib.hid (by simp), Lib.hid (World.ownsRow_nil _ _ _ _), Lib.hid (by simp), Lib.hid (Below.refl _ _)⟩
  case round =>
    clear c1
    obtain ⟨k, ps, A', m, c', HKL, rfl, rfl, HM, HPK, HPC, HO, HO8, HBR⟩ := hrel
    by_cases hk : k < ks.length
    · have hki : (k : Int) < (ks.length : Int) := by omega
      obtain ⟨g, o, rfl, hc⟩ := (HL.out.below HBR.out).at_ hk
      obtain ⟨z, hz⟩ : ∃ z, ks[k] = z := ⟨_, rfl⟩
      rw [hz] at hc
      have cz := hc 0 _ rfl
      simp only [Nat.mul_one, Nat.add_zero] at cz
      have hzs : ks[k]? = some z := by rw [List.getElem?_eq_getElem hk, hz]
      have hCz := (HKK.out.mem z).1 (by rw [← hz]; exact List.getElem_mem _)
      obtain ⟨x, hx⟩ := Option.isSome_iff_exists.1 hCz
      have HR := H.out.below (below_nxt HBR.out HB3.out)
      have c1 := HR.c1
      have hlk := HR.map.look (HR.map.i64 hCz)
      rw [hx] at hlk
      unfold bvo bvv at hlk
      simp only at hlk
      have HC8 := Lib.hid (clone8 x wr (HR.own z x hx).hol (HR.len z x hx))
      have HZ := Lib.hid hzs
      have HX := Lib.hid hx
      have HKT := Lib.hid hk
      have hkw : IntKind.i64.wrap ((k : Int) + 1) = (k : Int) + 1 := by rw [IntKind.wrap_i64]; have := HKK.out.le; have := HN.out; omega
      clear hc hz hzs hCz hx HR hk
      go_wp2_with (first
        | (go_at_call 59; refine HC8.out.mono ?_; rintro e w4 ⟨y, rfl, hy, ho, hb⟩
           have HY := hy; have HO4 := ho; have HB4 := hb; clear hy ho hb)
        | (refine step_build rfl 70 _ rfl [(0, .int .i64 z), (1, .slice y.A y.l.length y.c)] ?hv _ (HBP.out _ _ _ _) ?_; case hv => (simp [Act.eval, Act.put]))
        | (at_builtin
           refine wp_join rfl _ _ rfl rec_put w3.heap.size (.slice A' m c') m (ps.flatMap pcs) rfl ((own_kept HO.out HB4.out).alloc _) (some ⟨w4.heap.size, 0, none⟩) 1 1 (pcs (z, y)) rfl rfl (made_src w4 (pcs (z, y)) _) (pcs_one _) (by have := HM.out; have h2 := congrArg List.length HPK.out; rw [List.length_map, List.length_take] at h2; have := HKK.out.le; have := HN.out; omega) (by have := HBR.out.size; have := HB4.out.size; simp; omega) ?_
           intro v1 w5 ho1 hg1 hat1
           have hlow : w3.heap.size ≤ w4.heap.size := by have := HBR.out.size; have := HB4.out.size; omega
           obtain ⟨A1, c1', rfl, ho2, hb2⟩ := row_more (x := (z, y)) (HBR.out.trans (HB4.out.mono HBR.out.size)) hlow (own_kept HO.out HB4.out) ho1 hg1
           have HO2 := Lib.hid ho2
           have HB2 := Lib.hid hb2
           have HE2 := Lib.hid (p := ∀ p ∈ ps ++ [(z, y)], Own8 w3.heap.size w5 p.2) (fun p hp => by
             rcases List.mem_append.1 hp with hp | hp
             · exact own8_more (by decide) (own_kept HO.out HB4.out) ((HO8.out p hp).below HB4.out) hg1
             · rw [List.mem_singleton] at hp
               subst hp
               exact own8_more (by decide) (own_kept HO.out HB4.out) (HO4.out.lower HBR.out.size) hg1)
           clear ho1 hg1 hat1 ho2 hb2))
      go_roundw
      case rel =>
        refine ⟨k + 1, ps ++ [(z, y)], A1, m + 1, c1', Lib.hid HKT.out, by go_num, rfl, Lib.hid (by rw [List.length_append, HM.out]; rfl), Lib.hid ?_, Lib.hid (fun p hp => ?_), HO2, HE2, HB2⟩
        · rw [List.map_append, HPK.out, List.take_add_one, HZ.out]
          rfl
        · rcases List.mem_append.1 hp with hp | hp
          · exact HPC.out p hp
          · rw [List.mem_singleton] at hp
            subst hp
            exact ⟨x, HX.out, HY.out.symm⟩
      case measure => have := HKT.out; simp [intOf]; omega
    · have hkz : ¬ (k : Int) < (ks.length : Int) := by omega
      have hke : k = ks.length := by have := HKL.out; omega
      have HKE := Lib.hid hke
      clear hk hke
      go_wp2
      go_ret
      have hps : ps.map (·.1) = ks := by rw [HPK.out, HKE.out, List.take_length]
      obtain rfl := HM.out
      exact ⟨ps, A', c', rfl, Lib.hid (chof_keys HKK.out hps HPC.out), Lib.hid ⟨Lies.own (by decide) pcs_len HO.out, fun p hp => (HO8.out p hp).hol, fun p hp => by
        obtain ⟨x, hx, hl⟩ := HPC.out p hp
        rw [← hl]
        exact H.out.len _ _ hx, by have h3 := congrArg List.length hps; rw [List.length_map] at h3; have := HKK.out.le; have := HN.out; omega⟩, Lib.hid ((HB3.out).trans (HBR.out.mono hbase)), Lib.hid ⟨own_lower HO.out hbase, fun p hp => (HO8.out p hp).lower hbase⟩⟩
theorem vchanges (h : VV b w gv gm gs rp n C) (hn : n ≤ 1000) : Calls Tryz.prog 30 #[.pointer (some ⟨gv, 0, none⟩)] w (ChP w C) := by
  refine (vchanges2 h hn).mono ?_
  rintro e w' ⟨ps, A, c, h1, h2, h3, h4, _⟩
  exact ⟨ps, A, c, h1, h2, h3, h4⟩
end
end Go.Proofs.YtfbfeplegdpemaaGreat
