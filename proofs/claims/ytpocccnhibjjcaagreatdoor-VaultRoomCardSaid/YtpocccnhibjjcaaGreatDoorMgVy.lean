/- What a commit's barrier and its last step leave. Conditions: the vault lies there, with a commit going on. -/
import Derived.Test.YtpocccnhibjjcaaGreatDoorVx
set_option linter.unusedVariables false
set_option maxRecDepth 20000
namespace Go.Proofs.YtpocccnhibjjcaaGreatDoor
open Go.RowKit

section
variable {b : Nat} {w w' : World} {FD FA : List Nat} {g q gv : Nat} {L : Nat → Nat → List UInt8} {X : VX}
theorem chg_f {w1 : World} (h : VB b w FD FA g q gv L X) (hc : Chg (vfoot g X.c FD FA) w w1) (i : Nat) (v : Value) : Chg (vfoot g X.c FD FA) w (w1.setCell ⟨g, i, none⟩ v) := hc.setCell (p := ⟨g, i, none⟩) (.inl (h.in_v _ (mem_vown.2 (.inl rfl)))) v
def VX.synced (X : VX) (g : Nat) : VX := { X with ss := syncK (fun _ => true) X.rs X.ss X.rs.length, rs := [], ts := X.ts ++ [(3, 0, noBV)], c := { X.c with pf := stV 116 g } }
def VStep (b : Nat) (w : World) (F : List Nat) (g q gv : Nat) (L : Nat → Nat → List UInt8) (X : VX) (r : Bool) (e : Ending) (w' : World) : Prop := e = .returned (.tuple #[.bool r, .int .i64 0]) ∧ VTo b w F w' g q gv L X
theorem vsync (h : VB b w FD FA g q gv L X) (hq : q + 1 ≤ 900000) : Calls Tryz.prog 88 #[.pointer (some ⟨g, 0, none⟩)] w (VStep b w (vfoot g X.c FD FA) g (q + 1) gv L (X.synced g) false) := by
  have H := Lib.hid h
  have HQ := Lib.hid hq
  have c0 := h.row.gd
  have HL := Lib.hid (p := X.rs.length ≤ 1000000 ∧ X.ts.length ≤ 1000000 ∧ X.ts.length ≤ q) (by have := h.lim; omega)
  clear h hq
  go_enter Tryz.func88, Tryz.ntmps88
  go_wp2_with (go_at_call 115; refine (H.out.dsk.barrier HL.out.1 HL.out.2.1).mono ?_; rintro e w4 ⟨rfl, FD4, hd4, hc4, hw4⟩
               have hV4 := H.out.dturn hd4.out hc4.out hw4.out (syncK_len _ _ _ _) (q' := q + 1) (Nat.le_succ _) ⟨HQ.out, Nat.zero_le _, by rw [List.length_append]; have := HL.out; simp; omega⟩
               have HV4 := Lib.hid hV4
               have HC4 := Lib.hid (p := Chg (vfoot g X.c FD FA) w w4) (hc4.out.wider (fun j hj => .inl (H.out.in_d j hj)))
               have HW4 := Lib.hid (VB.wide_d (FA := FA) (g := g) (X := X) hw4.out)
               have c48 : w4.cell? ⟨g, 48, none⟩ = some X.c.pf := (by have z := VAt.pf hV4.row; exact z)
               have f48 := hV4.gfr 48
               clear hd4 hc4 hw4 hV4)
  go_ret2
  exact ⟨rfl, VTo.of (HV4.out.p_pf _) (HC4.out.trans (chg_g _ _ _ _) (fun j hj => .inl (one_in H.out (mem_vown.2 (.inl rfl)) j hj))) HW4.out⟩
def VX.finished (X : VX) : VX := { X with ae := X.c.e + 1, ar := X.c.top, S := S8.seS X.S, rt := [], c := { X.c with e := X.c.e + 1, s := 0, pf := .nilFunc, go := .map none, rt := .slice none 0 0 } }
theorem built_rt (e : Nat) (r : RecV) : Tryz.prog.built 92 [(0, .int .u32 (e : Int)), (1, .agg r.cs.toArray)] = some (rtC e r).toArray := by kernel_rfl
set_option maxHeartbeats 2000000 in
theorem vfinish (h : VB b w FD FA g q gv L X) (hae : X.ae = X.c.e) (he : X.c.e ≤ 900000) (a : Nat) (ha : X.c.top.a = (a : Int)) (ha2 : a < 65536) (hok : X.c.top.Ok) (hq : q + 1 ≤ 900000) : Calls Tryz.prog 116 #[.pointer (some ⟨g, 0, none⟩)] w (VStep b w (vfoot g X.c FD FA) g (q + 1) gv L X.finished true) := by
  have i35 := Lib.hid (p := ∀ r : RecV, (Tryz.prog.info? 87).map (·.size) = some r.cs.length) (fun r => by rw [r.cs_len]; exact info_rec)
  have H := Lib.hid h
  have HQ := Lib.hid hq
  obtain ⟨e0, he0⟩ : ∃ e0, X.c.e = e0 := ⟨_, rfl⟩
  obtain ⟨top, htop⟩ : ∃ top, X.c.top = top := ⟨_, rfl⟩
  rw [he0] at hae he
  rw [htop] at ha hok
  have HE := Lib.hid (p := X.c.e = e0 ∧ X.ae = e0 ∧ X.c.top = top) ⟨he0, hae, htop⟩
  have ew : IntKind.u32.wrap ((e0 : Int) + 1) = ((e0 + 1 : Nat) : Int) := by rw [IntKind.wrap_u32]; omega
  have HA := Lib.hid (p := top.a = (a : Int) ∧ a < 65536 ∧ top.Ok ∧ e0 ≤ 900000) ⟨ha, ha2, hok, he⟩
  have HF := Lib.hid (p := ∀ w5, Below w.heap.size w w5 → w5.cell? ⟨g, 1, none⟩ = some (.pointer (some ⟨X.c.ga, 0, none⟩)) ∧ w5.cell? ⟨g, 5, none⟩ = some (.int .u32 (e0 : Int)) ∧ w5.rangeAt g 7 top.cs) (fun w5 hb => by
    have h3 := h.row.kept hb
    have z := VAt.e h3
    have z2 := VAt.top h3
    rw [he0] at z
    rw [htop] at z2
    exact ⟨VAt.ga h3, z, z2⟩)
  have hbr := built_rt (e0 + 1) top
  clear h hae he ha ha2 hok hq he0 htop
  go_enter Tryz.func116, Tryz.ntmps116
  go_wp2_with fail
  refine wp_region_held_drew (S := fun W => W.cell? ⟨g, 1, none⟩ = some (.pointer (some ⟨X.c.ga, 0, none⟩)) ∧ W.cell? ⟨g, 5, none⟩ = some (.int .u32 (e0 : Int)) ∧ W.rangeAt g 7 top.cs) (by kernel_rfl) (HF.out _ (below_drw _)) (fun hHeld => ?_)
  refine wpAnyH_take (i := 0) (oi := ⟨some 4, .move (.tmp 0), _, _, _, _⟩) (v := .pointer (some ⟨g, 0, none⟩)) rfl (by kernel_rfl) (by kernel_rfl) (by kernel_rfl) (fun _ _ _ h => h) (.inl ⟨by rfl, fun w hSw => by go_simp⟩) (by assumption) ?_
  simp only [Act.put, List.setIfInBounds_toArray, List.set_cons_zero, List.set_cons_succ]
  refine wpAnyH_take (i := 1) (oi := ⟨some 5, .nilCheck (.tmp 4), _, _, _, _⟩) (v := .pointer (some ⟨g, 0, none⟩)) rfl (by kernel_rfl) (by kernel_rfl) (by kernel_rfl) (fun _ _ _ h => h) (.inl ⟨by rfl, fun w hSw => by go_simp⟩) (by assumption) ?_
  simp only [Act.put, List.setIfInBounds_toArray, List.set_cons_zero, List.set_cons_succ]
  refine wpAnyH_take (i := 2) (oi := ⟨some 6, .fieldAddr 90 (.tmp 5) 1, _, _, _, _⟩) (v := .pointer (some ⟨g, 1, none⟩)) rfl (by kernel_rfl) (by kernel_rfl) (by kernel_rfl) (fun _ _ _ h => h) (.inl ⟨by rfl, fun w hSw => by go_simp⟩) (by assumption) ?_
  simp only [Act.put, List.setIfInBounds_toArray, List.set_cons_zero, List.set_cons_succ]
  refine wpAnyH_take (i := 3) (oi := ⟨some 7, .load 30 (.tmp 6), _, _, _, _⟩) (v := .pointer (some ⟨X.c.ga, 0, none⟩)) rfl (by kernel_rfl) (by kernel_rfl) (by kernel_rfl) (fun _ _ _ h => h) (.inl ⟨by rfl, fun w hSw => by have z := hSw.1; go_simp⟩) (by assumption) ?_
  simp only [Act.put, List.setIfInBounds_toArray, List.set_cons_zero, List.set_cons_succ]
  refine wpAnyH_take (i := 4) (oi := ⟨some 8, .move (.tmp 0), _, _, _, _⟩) (v := .pointer (some ⟨g, 0, none⟩)) rfl (by kernel_rfl) (by kernel_rfl) (by kernel_rfl) (fun _ _ _ h => h) (.inl ⟨by rfl, fun w hSw => by go_simp⟩) (by assumption) ?_
  simp only [Act.put, List.setIfInBounds_toArray, List.set_cons_zero, List.set_cons_succ]
  refine wpAnyH_take (i := 5) (oi := ⟨some 9, .nilCheck (.tmp 8), _, _, _, _⟩) (v := .pointer (some ⟨g, 0, none⟩)) rfl (by kernel_rfl) (by kernel_rfl) (by kernel_rfl) (fun _ _ _ h => h) (.inl ⟨by rfl, fun w hSw => by go_simp⟩) (by assumption) ?_
  simp only [Act.put, List.setIfInBounds_toArray, List.set_cons_zero, List.set_cons_succ]
  refine wpAnyH_take (i := 6) (oi := ⟨some 10, .fieldAddr 90 (.tmp 9) 5, _, _, _, _⟩) (v := .pointer (some ⟨g, 5, none⟩)) rfl (by kernel_rfl) (by kernel_rfl) (by kernel_rfl) (fun _ _ _ h => h) (.inl ⟨by rfl, fun w hSw => by go_simp⟩) (by assumption) ?_
  simp only [Act.put, List.setIfInBounds_toArray, List.set_cons_zero, List.set_cons_succ]
  refine wpAnyH_take (i := 7) (oi := ⟨some 11, .load 44 (.tmp 10), _, _, _, _⟩) (v := .int .u32 (e0 : Int)) rfl (by kernel_rfl) (by kernel_rfl) (by kernel_rfl) (fun _ _ _ h => h) (.inl ⟨by rfl, fun w hSw => by have z := hSw.2.1; go_simp⟩) (by assumption) ?_
  simp only [Act.put, List.setIfInBounds_toArray, List.set_cons_zero, List.set_cons_succ]
  refine wpAnyH_take (i := 8) (oi := ⟨some 12, .binOp .add 44 (.tmp 11) (.const (.int .u32 1)) 44, _, _, _, _⟩) (v := .int .u32 ((e0 + 1 : Nat) : Int)) rfl (by kernel_rfl) (by kernel_rfl) (by kernel_rfl) (fun _ _ _ h => h) (.inl ⟨by rfl, fun w hSw => by go_simp⟩) (by assumption) ?_
  simp only [Act.put, List.setIfInBounds_toArray, List.set_cons_zero, List.set_cons_succ]
  refine wpAnyH_take (i := 9) (oi := ⟨some 13, .move (.tmp 0), _, _, _, _⟩) (v := .pointer (some ⟨g, 0, none⟩)) rfl (by kernel_rfl) (by kernel_rfl) (by kernel_rfl) (fun _ _ _ h => h) (.inl ⟨by rfl, fun w hSw => by go_simp⟩) (by assumption) ?_
  simp only [Act.put, List.setIfInBounds_toArray, List.set_cons_zero, List.set_cons_succ]
  refine wpAnyH_take (i := 10) (oi := ⟨some 14, .nilCheck (.tmp 13), _, _, _, _⟩) (v := .pointer (some ⟨g, 0, none⟩)) rfl (by kernel_rfl) (by kernel_rfl) (by kernel_rfl) (fun _ _ _ h => h) (.inl ⟨by rfl, fun w hSw => by go_simp⟩) (by assumption) ?_
  simp only [Act.put, List.setIfInBounds_toArray, List.set_cons_zero, List.set_cons_succ]
  refine wpAnyH_take (i := 11) (oi := ⟨some 15, .fieldAddr 90 (.tmp 14) 7, _, _, _, _⟩) (v := .pointer (some ⟨g, 7, none⟩)) rfl (by kernel_rfl) (by kernel_rfl) (by kernel_rfl) (fun _ _ _ h => h) (.inl ⟨by rfl, fun w hSw => by go_simp⟩) (by assumption) ?_
  simp only [Act.put, List.setIfInBounds_toArray, List.set_cons_zero, List.set_cons_succ]
  refine wpAnyH_take (i := 12) (oi := ⟨some 16, .load 87 (.tmp 15), _, _, _, _⟩) (v := .agg top.cs.toArray) rfl (by kernel_rfl) (by kernel_rfl) (by kernel_rfl) (fun _ _ _ h => h) (yieldsIf_load_mid (by rfl) 87 (.tmp 15) rfl g 7 rfl top.cs _ (fun w hSw => hSw.2.2) Tryz.underlying87 rfl (i35.out _)) (by assumption) ?_
  simp only [Act.put, List.setIfInBounds_toArray, List.set_cons_zero, List.set_cons_succ]
  refine wpAnyH_take (i := 13) (oi := ⟨some 17, .build 92 #[(0, .tmp 12), (1, .tmp 16)], _, _, _, _⟩) (v := .agg (rtC (e0 + 1) top).toArray) rfl (by kernel_rfl) (by kernel_rfl) (by kernel_rfl) (fun _ _ _ h => h) (.inl ⟨by rfl, fun w hSw => run_build_op w _ 92 #[(0, .tmp 12), (1, .tmp 16)] rfl [(0, .int .u32 ((e0 + 1 : Nat) : Int)), (1, .agg top.cs.toArray)] (by simp [Act.eval]) _ (built_rt _ _)⟩) (by assumption) ?_
  simp only [Act.put, List.setIfInBounds_toArray, List.set_cons_zero, List.set_cons_succ]
  refine wpAnyH_ready (rs := [14]) (by kernel_rfl) (by simp) ?_
  refine AllReadyH.cons (o := ⟨some 18, .call ⟨.value (.func 69), #[.tmp 7, .tmp 17], _⟩, _, _, _, _⟩) rfl (fun K hK => ?_) AllReadyH.nil
  go_simp
  obtain ⟨kA, hkA, hAn⟩ := (H.out.below (below_drw w)).anc
  rw [HE.out.2.1] at hAn
  refine (aset hAn (by have := H.out.lim; omega) (by have := HA.out; omega) top a HA.out.1 HA.out.2.1 HA.out.2.2.1).mono ?_
  rintro x w7 ⟨FA7, rfl, hA7, hc7, hw7⟩
  have HV7 := Lib.hid ((H.out.below (below_drw w)).aturn (q' := q + 1) hA7.out hc7.out hw7.out (Nat.le_succ _) (by omega) HQ.out)
  have HC7 := Lib.hid (p := Chg (vfoot g X.c FD FA) w w7) ((Chg.of (F := vfoot g X.c FD FA) (below_drw w)).trans hc7.out (fun j hj => .inl (H.out.in_a j hj)))
  have HW7 := Lib.hid (p := Wider w (vfoot g X.c FD FA) (vfoot g X.c FD FA7)) (VB.wide_a (FD := FD) (g := g) (X := X) hw7.out)
  have HF7 := Lib.hid (p := w7.cell? ⟨g, 1, none⟩ = some (.pointer (some ⟨X.c.ga, 0, none⟩)) ∧ w7.cell? ⟨g, 5, none⟩ = some (.int .u32 (e0 : Int)) ∧ w7.rangeAt g 7 top.cs) (by
    have h3 := HV7.out.row
    have z := VAt.e h3
    have z2 := VAt.top h3
    rw [← HE.out.1, ← HE.out.2.2]
    exact ⟨VAt.ga h3, z, z2⟩)
  clear hAn hA7 hc7 hw7 hkA
  refine hK.out _ _ HF7.out (fun _hH => ?_)
  clear hK K
  refine wpAnyH_take (i := 15) (oi := ⟨some 19, .binOp .neq 24 (.tmp 18) (.const (.int .i64 0)) 24, _, _, _, _⟩) (v := .bool false) rfl (by kernel_rfl) (by kernel_rfl) (by kernel_rfl) (fun _ _ _ h => h) (.inl ⟨by rfl, fun w hSw => by go_simp⟩) (by assumption) ?_
  simp only [Act.put, List.setIfInBounds_toArray, List.set_cons_zero, List.set_cons_succ]
  refine wpAnyH_done (by kernel_rfl) ?_ _
  have c5 := HF7.out.2.1
  have f5 := HV7.out.gfr 5
  have f6 := HV7.out.gfr 6
  have c6 : w7.cell? ⟨g, 6, none⟩ = some (.int .u32 (X.c.s : Int)) := by have z := VAt.s HV7.out.row; exact z
  have c4 : w7.cell? ⟨g, 4, none⟩ = some (.pointer (some ⟨X.c.gs, 0, none⟩)) := by have z := VAt.gs HV7.out.row; exact z
  have hV9 := (HV7.out.p_e (e0 + 1)).p_s 0
  have HV9 := Lib.hid hV9
  clear hV9 hbr
  go_wp2_with (go_at_call 145; refine (S8.settleS_any HV9.out.spc).mono ?_; rintro e w10 ⟨rfl, hs10, hg10⟩
               have hc10 : Chg [X.c.gs] _ w10 := (Chg.refl _ _).grown hg10 (fun k hk => by injection hk with hk; subst hk; exact .inl (List.mem_singleton.2 rfl))
               have hV10 := HV9.out.sturn hs10 hc10
               have HV10 := Lib.hid hV10
               have HC10 := Lib.hid hc10
               have c48 : w10.cell? ⟨g, 48, none⟩ = some X.c.pf := (by have z := VAt.pf hV10.row; exact z)
               have c49 : w10.cell? ⟨g, 49, none⟩ = some X.c.go := (by have z := VAt.go hV10.row; exact z)
               have c50 : w10.cell? ⟨g, 50, none⟩ = some X.c.rt := (by have z := VAt.rt hV10.row; exact z)
               have f48 := hV10.gfr 48
               have f49 := hV10.gfr 49
               have f50 := hV10.gfr 50
               clear hs10 hg10 hc10 hV10)
  go_ret2
  refine ⟨rfl, VTo.of (FD' := FD) (FA' := FA7) ?_ ?_ HW7.out⟩
  · have z := ((HV10.out.p_pf .nilFunc).p_nogo).p_rt (.slice none 0 0) (PS.nil _)
    unfold VX.finished
    rw [HE.out.1, HE.out.2.2]
    exact z
  · refine chg_f H.out (chg_f H.out (chg_f H.out ((chg_f H.out (chg_f H.out HC7.out 5 _) 6 _).trans HC10.out (fun j hj => .inl (one_in H.out (mem_vown.2 (.inr (.inr (.inr (.inr (.inl rfl)))))) j hj))) 48 _) 49 _) 50 _
end
end Go.Proofs.YtpocccnhibjjcaaGreatDoor
/- What a commit's next step leaves, as long as slots or nodes are to be written. Conditions: the vault lies there; an invariant of the places to come holds. -/
set_option linter.unusedVariables false
set_option maxRecDepth 20000
namespace Go.Proofs.YtpocccnhibjjcaaGreatDoor
open Go.RowKit

def rtLen (g : Nat) (w : World) : Nat := match w.cell? ⟨g, 50, none⟩ with
  | some (.slice _ n _) => n
  | _ => 0
def VX.pass (X : VX) (rt : Value) (R : List (Nat × Nat)) : VX := { X with c := { X.c with rt := rt }, rt := R }
structure WInv (L : Nat → Nat → List UInt8) (I : VX → Prop) : Prop where
  rtv : ∀ X v, I X → I { X with c := { X.c with rt := v } }
  at_ : ∀ X p R, I X → X.rt = p :: R → p.1 ≤ X.c.n ∧ p.2 ≤ 1000 ∧ (∃ gg, X.c.go = .map (some gg)) ∧ (p.1 < X.c.n → ∀ k, k < 4 → (X.N p.1 p.2 k).Ok ∧ (X.N p.1 p.2 k).may = true) ∧ Held X.ss.length X.S (tr X.c.top X.N p.1 p.2) ∧ X.c.e < 4294967296 ∧ X.c.s + 1 < 4294967296
  skip : ∀ X p R, I X → X.rt = p :: R → plainL X p.1 p.2 = [] → I { X.repl rec0 p.1 p.2 with rt := R }
  room : ∀ X p R, I X → X.rt = p :: R → plainL X p.1 p.2 ≠ [] → (plainL X p.1 p.2).length = 256 ∧ ∃ m, S8.ft X.ss.length X.S = some m
section
variable {b : Nat} {w w' : World} {FD FA : List Nat} {g q gv : Nat} {L : Nat → Nat → List UInt8} {X : VX}
def VWr (b : Nat) (w : World) (F : List Nat) (g q gv : Nat) (L : Nat → Nat → List UInt8) (I : VX → Prop) (X0 : VX) (e : Ending) (w' : World) : Prop :=
  e = .returned (.tuple #[.bool false, .int .i64 0]) ∧ ((∃ X p R m x y us rt, I X ∧ X.rt = p :: R ∧ X.rt.length ≤ X0.rt.length ∧ plainL X p.1 p.2 ≠ [] ∧ S8.ft X.ss.length X.S = some m ∧ y.l = plainL X p.1 p.2 ∧ x.l = lst 256 (hid (pmask L X.c.e X.c.s) y.l) ∧ VTo b w F w' g q gv L (((X.pass rt R).sealed m x y us).repl (sealR m X.c.e X.c.s x.l) p.1 p.2)) ∨
    ∃ X, I X ∧ X.rt = [] ∧ VTo b w F w' g q gv L (X.synced g))
theorem vplain_any (h : VB b w FD FA g q gv L X) (p : Nat × Nat) (h1 : p.1 ≤ X.c.n) (h2 : p.2 ≤ 1000) (hg : ∃ gg, X.c.go = .map (some gg)) (hn : p.1 < X.c.n → ∀ k, k < 4 → (X.N p.1 p.2 k).Ok ∧ (X.N p.1 p.2 k).may = true) :
    Calls Tryz.prog 85 #[.pointer (some ⟨g, 0, none⟩), pv p.1 p.2] w (VPl b w (plainL X p.1 p.2)) := by
  unfold plainL
  by_cases e : p.1 = X.c.n
  · rw [if_pos e, e]
    obtain ⟨gg, hgg⟩ := hg
    exact vplain_slot h p.2 gg (by omega) hgg
  · rw [if_neg e]
    exact vplain_node h p.1 p.2 (by omega) (by omega) (fun k hk => (hn (by omega) k hk).1) (fun k hk => (hn (by omega) k hk).2)
theorem vrepl_any (h : VB b w FD FA g q gv L X) (r : RecV) (p : Nat × Nat) (h1 : p.1 ≤ 1024) (h2 : p.2 ≤ 1024) (hold : Held X.ss.length X.S (tr X.c.top X.N p.1 p.2)) (hq : q + 1 ≤ 900000) :
    Calls Tryz.prog 86 #[.pointer (some ⟨g, 0, none⟩), pv p.1 p.2, .agg r.cs.toArray] w (VRp b w FD FA g (q + 1) gv L (X.repl r p.1 p.2) [g, X.c.gn, X.c.gs]) := by
  obtain ⟨l, i⟩ := p
  cases l with
  | zero => exact vrepl_top h r i h2 hold hq
  | succ l => exact vrepl_node h r l i h1 h2 hold hq
theorem vrepl_zero (h : VB b w FD FA g q gv L X) (z : Array Value) (hz : z = rec0.cs.toArray) (p : Nat × Nat) (h1 : p.1 ≤ 1024) (h2 : p.2 ≤ 1024) (hold : Held X.ss.length X.S (tr X.c.top X.N p.1 p.2)) (hq : q + 1 ≤ 900000) :
    Calls Tryz.prog 86 #[.pointer (some ⟨g, 0, none⟩), .agg (pc2 p.1 p.2).toArray, .agg z] w (VRp b w FD FA g (q + 1) gv L (X.repl rec0 p.1 p.2) [g, X.c.gn, X.c.gs]) := by
  subst hz
  exact vrepl_any h rec0 p h1 h2 hold hq
theorem Held.putN {N m : Nat} {S : Nat → Nat} {r : RecV} (h : Held N S r) : Held N (S8.putN S m 1) r := by
  rcases h with h | ⟨k, h1, h2, h3⟩
  · exact .inl h
  · refine .inr ⟨k, h1, h2, ?_⟩
    unfold S8.putN
    split
    · rfl
    · exact h3
theorem own3 (h : VB b w FD FA g q gv L X) : ∀ j ∈ [g, X.c.gn, X.c.gs], j ∈ vfoot g X.c FD FA := fun j hj => by
  simp only [List.mem_cons, List.not_mem_nil, or_false] at hj
  rcases hj with rfl | rfl | rfl
  · exact h.in_v _ (mem_vown.2 (.inl rfl))
  · exact h.in_v _ (mem_vown.2 (.inr (.inl rfl)))
  · exact h.in_v _ (mem_vown.2 (.inr (.inr (.inr (.inr (.inl rfl))))))
theorem repl_foot (X : VX) (r : RecV) (p : Nat × Nat) (g : Nat) (FD FA : List Nat) : vfoot g (X.repl r p.1 p.2).c FD FA = vfoot g X.c FD FA := by
  obtain ⟨l, i⟩ := p
  cases l <;> rfl
theorem repl_rt (X : VX) (r : RecV) (p : Nat × Nat) (v : Value) (R : List (Nat × Nat)) : (X.pass v R).repl r p.1 p.2 = { X.repl r p.1 p.2 with c := { (X.repl r p.1 p.2).c with rt := v }, rt := R } := by
  obtain ⟨l, i⟩ := p
  cases l <;> rfl
theorem run_tail_spot (gp o n1 cc : Nat) (h1 : 0 < n1) (h2 : n1 ≤ cc) (w : World) : (Instr.sliceAt 68 (.slice (some ⟨gp, o, none⟩) n1 cc) (some (.int .i64 1)) none none).run Tryz.prog w = .ok (.slice (if cc = 1 then some ⟨gp, o, none⟩ else some ⟨gp, o + 2, none⟩) (n1 - 1) (cc - 1)) w := by
  have h3 : (0 : Int) < (n1 : Int) := by omega
  have h4 : (n1 : Int) ≤ (cc : Int) := by omega
  have h5 : (1 : Int) ≤ (n1 : Int) := by omega
  have h6 : (1 : Int) ≤ (cc : Int) := by omega
  go_simp
set_option maxHeartbeats 4000000 in
theorem vwrite {I : VX → Prop} (W : WInv L I) (h : VB b w FD FA g q gv L X) (hI : I X) (hq : q + X.rt.length + 2 ≤ 900000) :
    Calls Tryz.prog 56 #[.pointer (some ⟨g, 0, none⟩)] w (VWr b w (vfoot g X.c FD FA) g (q + X.rt.length + 2) gv L I X) := by
  have i35 := Lib.hid (p := ∀ r : RecV, (Tryz.prog.info? 87).map (·.size) = some r.cs.length) (fun r => by rw [r.cs_len]; exact info_rec)
  have i2 := Lib.hid info_spot
  have H := Lib.hid h
  have HI := Lib.hid hI
  have HW := Lib.hid W
  obtain ⟨N0, hN0⟩ : ∃ N0, X.rt.length = N0 := ⟨_, rfl⟩
  have HN0 := Lib.hid hN0
  rw [hN0] at hq ⊢
  have HQ := Lib.hid hq
  clear h hI W hq hN0
  go_enter Tryz.func56, Tryz.ntmps56
  go_wp2
  go_loopw [] (fun wr => ∃ (X1 : VX) (FD1 FA1 : List Nat) (k : Nat), Hid (VB b wr FD1 FA1 g (q + k) gv L X1) ∧ Hid (I X1) ∧ Hid (k + X1.rt.length = N0) ∧ Hid (Chg (vfoot g X.c FD FA) w wr) ∧ Hid (Wider w (vfoot g X.c FD FA) (vfoot g X1.c FD1 FA1))) (fun wr => rtLen g wr)
  case atStart => exact ⟨X, FD, FA, 0, H, HI, Lib.hid (by rw [HN0.out, Nat.zero_add]), Lib.hid (Chg.refl _ _), Lib.hid (Wider.refl _ _)⟩
  case round =>
    obtain ⟨X1, FD1, FA1, k, HV, HI1, HK, HC, HWD⟩ := hrel
    have c50 := HV.out.row.rt
    have f50 := HV.out.gfr 50
    obtain ⟨R0, hR0⟩ : ∃ R0, X1.rt = R0 := ⟨_, rfl⟩
    have HR0 := Lib.hid hR0
    have hps := HV.out.rt
    rw [hR0] at hps
    clear hR0
    cases R0 with
    | nil =>
      obtain ⟨A, cc, hcr, hcc, _⟩ := hps
      rw [hcr] at c50
      clear hcc hcr
      go_wp2_with (go_at_call 88; refine (vsync HV.out (by have := HQ.out; have := HK.out; omega)).mono ?_; rintro e w5 ⟨rfl, FD5, FA5, h5, hc5, hw5⟩)
      go_ret2
      exact ⟨rfl, .inr ⟨X1, HI1.out, HR0.out, FD5, FA5, Lib.hid (h5.out.mono (by have := HK.out; omega) (by have := HQ.out; omega)), Lib.hid (HC.out.trans hc5.out HWD.out), Lib.hid (HWD.out.trans hw5.out HC.out.size)⟩⟩
    | cons p R =>
      obtain ⟨gp, o, cc, hcr, hcc, hgp, cp0, cp1⟩ := hps.head
      rw [hcr] at c50 hps
      have HT := Lib.hid hps.tail
      obtain ⟨a1, a2, a3, a4, a5, a6, a7⟩ := HW.out.at_ X1 p R HI1.out HR0.out
      have HA := Lib.hid (p := p.1 ≤ X1.c.n ∧ p.2 ≤ 1000 ∧ (∃ gg, X1.c.go = .map (some gg)) ∧ (p.1 < X1.c.n → ∀ k, k < 4 → (X1.N p.1 p.2 k).Ok ∧ (X1.N p.1 p.2 k).may = true)) ⟨a1, a2, a3, a4⟩
      have HD := Lib.hid (p := Held X1.ss.length X1.S (tr X1.c.top X1.N p.1 p.2) ∧ X1.c.e < 4294967296 ∧ X1.c.s + 1 < 4294967296) ⟨a5, a6, a7⟩
      have HDP := Lib.hid (p := p.1 ≤ 1024 ∧ p.2 ≤ 1024) ⟨by have := HV.out.dep; omega, by omega⟩
      obtain ⟨n1, hn1⟩ : ∃ n1, R.length + 1 = n1 := ⟨_, rfl⟩
      have HN1 := Lib.hid hn1
      rw [hn1] at c50 hcc
      have hpos : (0 : Int) < (n1 : Int) := by omega
      have hccI : (n1 : Int) ≤ (cc : Int) := by omega
      have hlen : (0 : Int) ≤ (n1 : Int) := by omega
      clear a1 a2 a3 a4 a5 a6 a7 hps hn1 hcr
      obtain ⟨A1, hA1⟩ : ∃ A1 : Option Addr, (if cc = 1 then some ⟨gp, o, none⟩ else some ⟨gp, o + 2, none⟩) = A1 := ⟨_, rfl⟩
      have hsl : ∀ w : World, (Instr.sliceAt 68 (.slice (some ⟨gp, o, none⟩) n1 cc) (some (.int .i64 1)) none none).run Tryz.prog w = .ok (.slice A1 (n1 - 1) (cc - 1)) w := fun w => by rw [← hA1]; exact run_tail_spot gp o n1 cc (by omega) hcc w
      rw [hA1] at HT
      clear hA1
      obtain ⟨v, hv⟩ : ∃ v, Value.slice A1 (n1 - 1) (cc - 1) = v := ⟨_, rfl⟩
      have HVE := Lib.hid hv
      have HVP := Lib.hid (p := ∀ w5, Below wr.heap.size wr w5 → VB b (w5.setCell ⟨g, 50, none⟩ (.slice A1 (n1 - 1) (cc - 1))) FD1 FA1 g (q + k) gv L (X1.pass v R)) (fun w5 hb => by
        have z := (HV.out.below hb).p_rt v (U := R) (by rw [← hv, show n1 - 1 = R.length by have := HN1.out; omega]; exact HT.out.below hb)
        rw [← hv] at z ⊢
        exact z)
      clear hv
      go_wp2_with (first
        | (refine step_alloc rfl 4 rfl 99 rfl _ zero_spot ?_; intro g4 w4 hr4 hg4 hb4 hs4; have HR4 := Lib.hid hr4; have HB4 := Lib.hid hb4; have HG4 := Lib.hid (p := wr.heap.size ≤ g4) (Nat.le_of_eq hg4.out.symm); clear hr4 hg4 hb4 hs4)
        | (refine step_store rfl 99 (.tmp 4) (.tmp 17) rfl g4 rfl _ _ (pc2 p.1 p.2) rfl HR4.out rfl i2.out (spot_one _ _) ?_; intro w5 hr5 hg5 hs5
           have HR5 := Lib.hid hr5
           have hb5 : Below wr.heap.size wr w5 := HB4.out.grown hg5 HB4.out.size (fun q hq => by injection hq with hq; subst hq; exact HG4.out)
           have HB5 := Lib.hid hb5
           have c505 := (hb5.cell (p := ⟨g, 50, none⟩) HV.out.row.lt).trans c50
           have f505 := (HV.out.below hb5).gfr 50
           clear hr5 hg5 hs5 hb5)
        | (refine step_load rfl 27 rfl 99 (.tmp 4) rfl g4 rfl (pc2 p.1 p.2) _ (HR5.out.grown (grown_set w5 ⟨g, 50, none⟩ _) (fun e => by have h1 : g4 = g := Option.some.inj e; have h2 := HV.out.row.lt; have h3 := HG4.out; omega)).all Tryz.underlying99 rfl i2.out ?_))
      have HR6 := Lib.hid (HR5.out.grown (grown_set w5 ⟨g, 50, none⟩ (.slice A1 (n1 - 1) (cc - 1))) (fun e => by have h1 : g4 = g := Option.some.inj e; have h2 := HV.out.row.lt; have h3 := HG4.out; omega))
      have HV6 := Lib.hid (HVP.out w5 HB5.out)
      have HC6 := Lib.hid (p := Chg (vfoot g X.c FD FA) w (w5.setCell ⟨g, 50, none⟩ (.slice A1 (n1 - 1) (cc - 1)))) (chg_f H.out (HC.out.trans (Chg.of (F := []) HB5.out) (fun j hj => by cases hj)) 50 _)
      obtain ⟨w6, hw6⟩ : ∃ w6, w5.setCell ⟨g, 50, none⟩ (.slice A1 (n1 - 1) (cc - 1)) = w6 := ⟨_, rfl⟩
      rw [hw6] at HR6 HV6 HC6 ⊢
      have HS6 := Lib.hid (p := wr.heap.size ≤ w6.heap.size) (by rw [← hw6]; exact Nat.le_trans HB5.out.size (by simp [World.setCell]))
      clear hw6 c505 f505 hsl
      have hpl : plainL (X1.pass v R) p.1 p.2 = plainL X1 p.1 p.2 := rfl
      refine (vplain_any HV6.out p HA.out.1 HA.out.2.1 HA.out.2.2.1 HA.out.2.2.2).mono ?_
      rintro e w7 ⟨y, rfl, hy, ho, hb7⟩
      have HY := Lib.hid (p := y.l = plainL X1 p.1 p.2) hy.out
      have HO := Lib.hid ho.out
      have HB7 := Lib.hid hb7.out
      have HR7 := Lib.hid (HR6.out.kept hb7.out)
      have HV7 := Lib.hid (HV6.out.below hb7.out)
      have HC7 := Lib.hid (HC6.out.trans (Chg.of (F := []) hb7.out) (fun j hj => by cases hj))
      clear hy ho hb7 hpl
      have HHD := Lib.hid (p := Held (X1.pass v R).ss.length (X1.pass v R).S (tr (X1.pass v R).c.top (X1.pass v R).N p.1 p.2)) HD.out.1
      have HQ1 := Lib.hid (p := q + k + 1 ≤ 900000 ∧ q + k + 2 ≤ 900000 ∧ q + k + 2 ≤ q + N0 + 2) (by have h1 := HQ.out; have h2 := HK.out; omega)
      by_cases hnil : plainL X1 p.1 p.2 = []
      · have hyn : y.l.length = 0 := by rw [HY.out, hnil]; rfl
        have HI2 := Lib.hid (HW.out.rtv _ v (HW.out.skip X1 p R HI1.out HR0.out hnil))
        rw [hyn]
        go_wp2_with (first
          | (refine step_load rfl 39 rfl 99 (.tmp 4) rfl g4 rfl (pc2 p.1 p.2) _ HR7.out.all Tryz.underlying99 rfl i2.out ?_)
          | (refine step_build rfl 87 #[] rfl [] rfl _ rec0_cs ?_))
        refine (vrepl_zero HV7.out _ (by kernel_rfl) p HDP.out.1 HDP.out.2 HHD.out HQ1.out.1).mono ?_
        rintro e w8 ⟨rfl, h8, hc8⟩
        have H8 := Lib.hid h8.out
        have HC8 := Lib.hid (HC7.out.trans hc8.out (fun j hj => (HWD.out j (own3 HV.out j hj))))
        clear h8 hc8
        go_wp2
        refine ⟨⟨(X1.pass v R).repl rec0 p.1 p.2, FD1, FA1, k + 1, H8, Lib.hid ?_, Lib.hid ?_, HC8, Lib.hid ?_⟩, ?_⟩
        · rw [repl_rt]
          exact HI2.out
        · have e1 : ((X1.pass v R).repl rec0 p.1 p.2).rt = R := by rw [repl_rt]
          rw [e1]
          have := HK.out
          rw [HR0.out] at this
          simp at this
          omega
        · rw [repl_foot]
          exact HWD.out
        · have e1 := VAt.rt H8.out.row
          have e2 : ((X1.pass v R).repl rec0 p.1 p.2).c.rt = v := by rw [repl_rt]
          rw [e2, ← HVE.out] at e1
          unfold rtLen
          rw [e1, c50]
          show n1 - 1 < n1
          have := HN1.out
          omega
      · obtain ⟨h256, m, hm⟩ := HW.out.room X1 p R HI1.out HR0.out hnil
        have hyn : y.l.length = 256 := by rw [HY.out]; exact h256
        have HYN := Lib.hid hyn
        have HM := Lib.hid hm
        have HNE := Lib.hid hnil
        rw [hyn]
        clear h256 hm hnil hyn
        go_wp2_with fail
        refine wp_region_held_drew (S := fun W => Row W g4 99 (pc2 p.1 p.2)) (by kernel_rfl) HR7.out.drew (fun hHeld => ?_)
        refine wpAnyH_take (i := 0) (oi := ⟨some 32, .move (.tmp 0), _, _, _, _⟩) (v := .pointer (some ⟨g, 0, none⟩)) rfl (by kernel_rfl) (by kernel_rfl) (by kernel_rfl) (fun _ _ _ h => h) (.inl ⟨by rfl, fun w hSw => by go_simp⟩) (by assumption) ?_
        simp only [Act.put, List.setIfInBounds_toArray, List.set_cons_zero, List.set_cons_succ]
        refine wpAnyH_take (i := 1) (oi := ⟨some 33, .load 99 (.tmp 4), _, _, _, _⟩) (v := .agg (pc2 p.1 p.2).toArray) rfl (by kernel_rfl) (by kernel_rfl) (by kernel_rfl) (fun _ _ _ h => h) (yieldsIf_load_mid (by rfl) 99 (.tmp 4) rfl g4 0 rfl (pc2 p.1 p.2) _ (fun w hSw => Row.all hSw) Tryz.underlying99 rfl i2.out) (by assumption) ?_
        simp only [Act.put, List.setIfInBounds_toArray, List.set_cons_zero, List.set_cons_succ]
        refine wpAnyH_take (i := 2) (oi := ⟨some 34, .move (.tmp 0), _, _, _, _⟩) (v := .pointer (some ⟨g, 0, none⟩)) rfl (by kernel_rfl) (by kernel_rfl) (by kernel_rfl) (fun _ _ _ h => h) (.inl ⟨by rfl, fun w hSw => by go_simp⟩) (by assumption) ?_
        simp only [Act.put, List.setIfInBounds_toArray, List.set_cons_zero, List.set_cons_succ]
        refine wpAnyH_take (i := 3) (oi := ⟨some 35, .move (.tmp 5), _, _, _, _⟩) (v := .slice y.A 256 y.c) rfl (by kernel_rfl) (by kernel_rfl) (by kernel_rfl) (fun _ _ _ h => h) (.inl ⟨by rfl, fun w hSw => by go_simp⟩) (by assumption) ?_
        simp only [Act.put, List.setIfInBounds_toArray, List.set_cons_zero, List.set_cons_succ]
        refine wpAnyH_ready (rs := [4]) (by kernel_rfl) (by simp) ?_
        refine AllReadyH.cons (o := ⟨some 36, .call ⟨.value (.func 87), #[.tmp 34, .tmp 35], _⟩, _, _, _, _⟩) rfl (fun K hK => ?_) AllReadyH.nil
        go_simp
        refine (vseal (HV7.out.below (below_drw w7)) m HM.out y (Own8.below HO.out (below_drw w7)) HYN.out HD.out.2.1 HD.out.2.2 HQ1.out.1).mono ?_
        rintro e w8 ⟨x, us, rfl, hx, FD8, FA8, h8, hc8, hw8⟩
        have HV8 := Lib.hid h8.out
        have HX := Lib.hid hx.out
        have HC8 := Lib.hid ((HC7.out.trans (Chg.of (F := []) (below_drw w7)) (fun j hj => by cases hj)).trans hc8.out (fun j hj => HWD.out j hj))
        have HW8 := Lib.hid (HWD.out.trans (Wider.trans (w := wr) (w' := w7) (fun j hj => .inl hj) hw8.out (Nat.le_trans HS6.out HB7.out.size)) HC.out.size)
        have HR8 := Lib.hid (hc8.out.row HR7.out.drew (fun hx => by have h1 := (HV.out.g_lt _ hx).2; have h2 := HG4.out; omega))
        have HHD8 := Lib.hid (p := Held ((X1.pass v R).sealed m x y us).ss.length ((X1.pass v R).sealed m x y us).S (tr ((X1.pass v R).sealed m x y us).c.top ((X1.pass v R).sealed m x y us).N p.1 p.2)) HHD.out.putN
        clear h8 hx hc8 hw8
        refine hK.out _ _ HR8.out (fun _hH => ?_)
        clear hK K
        refine wpAnyH_ready (rs := [5]) (by kernel_rfl) (by simp) ?_
        refine AllReadyH.cons (o := ⟨some 37, .call ⟨.value (.func 86), #[.tmp 32, .tmp 33, .tmp 36], _⟩, _, _, _, _⟩) rfl (fun K hK => ?_) AllReadyH.nil
        go_simp
        refine (vrepl_any HV8.out (sealR m X1.c.e X1.c.s x.l) p HDP.out.1 HDP.out.2 HHD8.out HQ1.out.2.1).mono ?_
        rintro e w9 ⟨rfl, h9, hc9⟩
        have H9 := Lib.hid h9.out
        have HC9 := Lib.hid (HC8.out.trans hc9.out (fun j hj => HW8.out j (own3 HV8.out j hj)))
        have HR9 := Lib.hid (hc9.out.row HR8.out (fun hx => by have h1 := (HV8.out.g_lt _ (own3 HV8.out _ hx)); have h2 := own3 HV.out _ hx; have h3 := (HV.out.g_lt _ h2).2; have h4 := HG4.out; omega))
        clear h9 hc9
        refine hK.out _ _ HR9.out (fun _hH => ?_)
        clear hK K
        refine wpAnyH_done (by kernel_rfl) ?_ _
        go_wp2
        go_ret2
        exact ⟨rfl, .inl ⟨X1, p, R, m, x, y, us, v, HI1.out, HR0.out, by have := HK.out; have := HN0.out; omega, HNE.out, HM.out, HY.out, HX.out, FD8, FA8, Lib.hid (H9.out.mono HQ1.out.2.2 HQ.out), HC9, Lib.hid (by rw [repl_foot]; exact HW8.out)⟩⟩
end
end Go.Proofs.YtpocccnhibjjcaaGreatDoor
/- A vault's Mount and Push: what is done next is called. Conditions: the vault lies there. -/
set_option linter.unusedVariables false
set_option maxRecDepth 20000
namespace Go.Proofs.YtpocccnhibjjcaaGreatDoor
open Go.RowKit

section
variable {b : Nat} {w w' : World} {FD FA : List Nat} {g q gv : Nat} {L : Nat → Nat → List UInt8} {X : VX}
def Ans (Q : Bool → World → Prop) (e : Ending) (w' : World) : Prop := ∃ r, e = .returned (.tuple #[.bool r, .int .i64 0]) ∧ Q r w'
theorem vmount_enter {Q : Bool → World → Prop} (h : VB b w FD FA g q gv L X) (hf : X.c.mf = stV 41 g) (hc : Calls Tryz.prog 41 #[.pointer (some ⟨g, 0, none⟩)] w (Ans Q)) : Calls Tryz.prog 13 #[.pointer (some ⟨g, 0, none⟩)] w (Ans Q) := by
  have c43 := h.row.mf
  rw [hf] at c43
  unfold stV at c43
  have HC := Lib.hid hc
  clear h hc hf
  go_enter Tryz.func13, Tryz.ntmps13
  go_wp2_with (go_at_call 41; refine HC.out.mono ?_; rintro e w4 ⟨r, rfl, hq⟩; have HQ := Lib.hid hq; clear hq)
  go_ret2
  exact ⟨r, rfl, HQ.out⟩
theorem vmount_load {Q : Bool → World → Prop} (h : VB b w FD FA g q gv L X) (hf : X.c.mf = stV 99 g) (hc : Calls Tryz.prog 99 #[.pointer (some ⟨g, 0, none⟩)] w (Ans Q)) : Calls Tryz.prog 13 #[.pointer (some ⟨g, 0, none⟩)] w (Ans Q) := by
  have c43 := h.row.mf
  rw [hf] at c43
  unfold stV at c43
  have HC := Lib.hid hc
  clear h hc hf
  go_enter Tryz.func13, Tryz.ntmps13
  go_wp2_with (go_at_call 99; refine HC.out.mono ?_; rintro e w4 ⟨r, rfl, hq⟩; have HQ := Lib.hid hq; clear hq)
  go_ret2
  exact ⟨r, rfl, HQ.out⟩
theorem vmount_rise {Q : Bool → World → Prop} (h : VB b w FD FA g q gv L X) (hf : X.c.mf = stV 98 g) (hc : Calls Tryz.prog 98 #[.pointer (some ⟨g, 0, none⟩)] w (Ans Q)) : Calls Tryz.prog 13 #[.pointer (some ⟨g, 0, none⟩)] w (Ans Q) := by
  have c43 := h.row.mf
  rw [hf] at c43
  unfold stV at c43
  have HC := Lib.hid hc
  clear h hc hf
  go_enter Tryz.func13, Tryz.ntmps13
  go_wp2_with (go_at_call 98; refine HC.out.mono ?_; rintro e w4 ⟨r, rfl, hq⟩; have HQ := Lib.hid hq; clear hq)
  go_ret2
  exact ⟨r, rfl, HQ.out⟩
theorem vpush_write {Q : Bool → World → Prop} (h : VB b w FD FA g q gv L X) (hf : X.c.pf = stV 56 g) (hc : Calls Tryz.prog 56 #[.pointer (some ⟨g, 0, none⟩)] w (Ans Q)) : Calls Tryz.prog 14 #[.pointer (some ⟨g, 0, none⟩)] w (Ans Q) := by
  have HG := Lib.hid (vgoing h _ hf)
  have c48 := h.row.pf
  rw [hf] at c48
  unfold stV at c48
  have HC := Lib.hid hc
  clear h hc hf
  go_enter Tryz.func14, Tryz.ntmps14
  go_wp2_with (first
    | (go_at_call 22; refine HG.out.mono ?_; rintro e w4 ⟨rfl, rfl⟩)
    | (go_at_call 56; refine HC.out.mono ?_; rintro e w4 ⟨r, rfl, hq⟩; have HQ := Lib.hid hq; clear hq))
  go_ret2
  exact ⟨r, rfl, HQ.out⟩
theorem vpush_finish {Q : Bool → World → Prop} (h : VB b w FD FA g q gv L X) (hf : X.c.pf = stV 116 g) (hc : Calls Tryz.prog 116 #[.pointer (some ⟨g, 0, none⟩)] w (Ans Q)) : Calls Tryz.prog 14 #[.pointer (some ⟨g, 0, none⟩)] w (Ans Q) := by
  have HG := Lib.hid (vgoing h _ hf)
  have c48 := h.row.pf
  rw [hf] at c48
  unfold stV at c48
  have HC := Lib.hid hc
  clear h hc hf
  go_enter Tryz.func14, Tryz.ntmps14
  go_wp2_with (first
    | (go_at_call 22; refine HG.out.mono ?_; rintro e w4 ⟨rfl, rfl⟩)
    | (go_at_call 116; refine HC.out.mono ?_; rintro e w4 ⟨r, rfl, hq⟩; have HQ := Lib.hid hq; clear hq))
  go_ret2
  exact ⟨r, rfl, HQ.out⟩
end
end Go.Proofs.YtpocccnhibjjcaaGreatDoor
