/- A vault's steps, memory and records together: Mount, Begin, Push. Conditions: the vault lies there. -/
import Derived.Test.YtpocccnhibjjcaaGreatDoorMgTj
set_option linter.unusedVariables false
set_option maxRecDepth 20000
namespace Go.Proofs.YtpocccnhibjjcaaGreatDoor
open Go.RowKit

def MPh (g : Nat) (L : Nat → Nat → List UInt8) (n : Nat) (c : Nat → List UInt8) (E k : Nat) (X : VX) : Prop :=
  (∃ N0, MI0 L n c N0 X ∧ X.c.mf = stV 41 g ∧ X.ae + 1 = E ∧ (allN n).length + 1 ≤ k) ∨
  (∃ N0, MI1 L n c N0 X ∧ X.un ≠ [] ∧ (tr X.c.top X.N (X.un.headD (0, 0)).1 (X.un.headD (0, 0)).2).ld = true ∧ X.c.rd = false ∧ X.c.mf = stV 99 g ∧ X.c.e = E ∧ X.un.length ≤ k) ∨
  (RI L n c X ∧ X.c.mf = stV 98 g ∧ X.c.e = E ∧ ∀ i, X.H i = none)
def MOut (b : Nat) (w : World) (F : List Nat) (g q gv : Nat) (L : Nat → Nat → List UInt8) (n : Nat) (c : Nat → List UInt8) (E k : Nat) (X0 : VX) (r : Bool) (w' : World) : Prop :=
  ∃ X, X.c.rd = r ∧ VTo b w F w' g q gv L X ∧ Hid (MPh g L n c E k X) ∧ Hid (X.c.gd = X0.c.gd ∧ X.c.ga = X0.c.ga ∧ (r = false → 1 ≤ k))
section
variable {b : Nat} {w w' : World} {FD FA : List Nat} {g q gv : Nat} {L : Nat → Nat → List UInt8} {X : VX} {n E k : Nat} {c : Nat → List UInt8}
theorem nxtP_len (top : RecV) (N : Nat → Nat → Nat → RecV) (U : List (Nat × Nat)) : (nxtP top N U).length ≤ U.length := (List.dropWhile_sublist _).length_le
theorem nxtP_ld {top : RecV} {N : Nat → Nat → Nat → RecV} : ∀ {U : List (Nat × Nat)}, nxtP top N U ≠ [] → (tr top N ((nxtP top N U).headD (0, 0)).1 ((nxtP top N U).headD (0, 0)).2).ld = true
  | [], h => (h rfl).elim
  | q :: U, h => by
    unfold nxtP at h ⊢
    rw [List.dropWhile_cons] at h ⊢
    by_cases hl : (tr top N q.1 q.2).ld = true
    · rw [hl]
      exact hl
    · have hl : (tr top N q.1 q.2).ld = false := by simpa using hl
      rw [hl] at h ⊢
      exact nxtP_ld (U := U) h
theorem mout_on {F : List Nat} {N0 : Nat → Nat → Nat → RecV} {X1 X0 : VX} {U : List (Nat × Nat)} {e : Ending} (h1 : MI1 L n c N0 { X1 with un := nxtP X1.c.top X1.N U }) (he : X1.c.e = E) (hrd : X1.c.rd = false) (hd : X1.c.gd = X0.c.gd ∧ X1.c.ga = X0.c.ga) (hk : U.length ≤ k) (hv : VOnF b w F g q gv L X1 (nxtP X1.c.top X1.N U) e w') : Ans (MOut b w F g q gv L n c E k X0) e w' := by
  obtain ⟨un, rfl, hv⟩ := hv
  refine ⟨_, rfl, ⟨_, ?_, hv, Lib.hid ?_, Lib.hid ⟨hd.1, hd.2, ?_⟩⟩⟩
  · show ((nxtP X1.c.top X1.N U).isEmpty || X1.c.rd) = _
    rw [hrd, Bool.or_false]
  · cases hu : nxtP X1.c.top X1.N U with
    | nil =>
      rw [hu] at h1
      refine .inr (.inr ⟨MI1.ready (N0 := N0) ?_ rfl (by rw [List.isEmpty_nil, Bool.true_or]), by rw [List.isEmpty_nil, if_pos rfl], he, h1.H0⟩)
      exact h1.cells un _ _
    | cons p V =>
      have hne : nxtP X1.c.top X1.N U ≠ [] := by rw [hu]; exact List.cons_ne_nil _ _
      have hld := nxtP_ld hne
      have hle := nxtP_len X1.c.top X1.N U
      rw [hu] at h1 hld hle
      refine .inr (.inl ⟨N0, ?_, List.cons_ne_nil _ _, hld, by show ((p :: V).isEmpty || X1.c.rd) = false; rw [hrd]; rfl, by rw [if_neg (by simp)], he, by show (p :: V).length ≤ k; omega⟩)
      exact h1.cells un _ _
  · intro hne
    cases hu : nxtP X1.c.top X1.N U with
    | nil => rw [hu] at hne; cases hne
    | cons p V =>
      have hle := nxtP_len X1.c.top X1.N U
      rw [hu] at hle
      rw [List.length_cons] at hle
      omega
theorem RI.cells (h : RI L n c X) (mf : Value) : RI L n c { X with c := { X.c with rd := true, mf := mf } } :=
  { h with rd := rfl, ai := ⟨h.ai.tree, h.ai.free⟩ }
theorem vmount (h : VB b w FD FA g q gv L X) (hm : MPh g L n c E k X) (hE : E ≤ 900000) (hq : q + 2 ≤ 900000) : Calls Tryz.prog 13 #[.pointer (some ⟨g, 0, none⟩)] w (Ans (MOut b w (vfoot g X.c FD FA) g (q + 2) gv L n c E (k - 1) X)) := by
  rcases hm with ⟨N0, hi, hf, hae, hk⟩ | ⟨N0, hi, hne, hld, hrd, hf, he, hk⟩ | ⟨hi, hf, he, hH0⟩
  · obtain ⟨a, ha, ha2⟩ := hi.top
    refine vmount_enter h hf ((venter h (by omega) a ha ha2 hi.ai.tree.top_ hi.mkok (allN_small hi.n3 ⟨[], hi.un.symm⟩) (by omega)).mono fun e w' hv => ?_)
    have hv2 : VOnF b w (vfoot g X.c FD FA) g (q + 2) gv L X.entered (nxtP X.entered.c.top X.entered.N X.un) e w' := by
      obtain ⟨un, he, FD', FA', h1, h2, h3⟩ := hv
      exact ⟨un, he, FD', FA', Lib.hid (h1.out.mono (by omega) (by omega)), h2, h3⟩
    exact mout_on (N0 := N0) (MI1.nxt hi.entered rfl) hae hi.rd ⟨rfl, rfl⟩ (by have e : X.entered.un = allN n := hi.un; rw [e]; omega) hv2
  · cases hu : X.un with
    | nil => exact (hne hu).elim
    | cons p U =>
      rw [hu] at hld hk
      have hld : (tr X.c.top X.N p.1 p.2).ld = true := hld
      rw [List.length_cons] at hk
      obtain ⟨m, hR, hun, huo, hRq⟩ := hi.want hu hld
      have hsm : Small (p :: U) := by rw [← hu]; exact allN_small hi.n3 hi.unp
      refine vmount_load h hf ((vload h p U hu hsm m hR _ hun huo (hi.mkok hu _ hRq) hq).mono fun e w' hv => ?_)
      exact mout_on (N0 := N0) (X1 := X.loaded m p (unR (lst 256 (pk (N0 p.1 p.2)))) U) (MI1.nxt (hi.loaded hu m _ hRq) rfl) he hrd ⟨rfl, rfl⟩ (by show U.length ≤ k - 1; omega) hv
  · refine vmount_rise h hf ((vrise h).mono fun e w' hv => ?_)
    obtain ⟨rfl, h1, h2⟩ := hv
    refine ⟨true, rfl, _, rfl, VTo.of (h1.out.mono (by omega) hq) ((Chg.refl (vfoot g X.c FD FA) w).trans h2.out (fun j hj => .inl ?_)) (Wider.refl _ _), Lib.hid (.inr (.inr ⟨hi.cells _, rfl, he, hH0⟩)), Lib.hid ⟨rfl, rfl, fun e => by cases e⟩⟩
    rw [List.mem_singleton] at hj
    subst hj
    exact h.in_v _ (mem_vown.2 (.inl rfl))
theorem plcs_len {n : Nat} (h : n ≤ 3) : (plcs n).length ≤ 85 := by
  match n, h with
  | 0, _ => decide
  | 1, _ => decide
  | 2, _ => decide
  | 3, _ => decide
def PPh (g : Nat) (L : Nat → Nat → List UInt8) (n E : Nat) (N0 : Nat → Nat → Nat → RecV) (c0 c1 : Nat → List UInt8) (k : Nat) (X : VX) : Prop :=
  (CJ L n E N0 c0 c1 (stV 56 g) X ∧ X.rt.length + 2 ≤ k) ∨ (DJ L n E N0 c0 c1 (stV 116 g) X ∧ 1 ≤ k)
def POut (b : Nat) (w : World) (F : List Nat) (g q gv : Nat) (L : Nat → Nat → List UInt8) (n E : Nat) (N0 : Nat → Nat → Nat → RecV) (c0 c1 : Nat → List UInt8) (k : Nat) (X0 : VX) (r : Bool) (w' : World) : Prop :=
  ∃ X, VTo b w F w' g q gv L X ∧ Hid (X.c.gd = X0.c.gd ∧ X.c.ga = X0.c.ga ∧ X.H = X0.H ∧ X.C = X0.C) ∧ ((r = false ∧ Hid (PPh g L n E N0 c0 c1 k X)) ∨ (r = true ∧ Hid (RI L n c1 X ∧ X.c.e = E + 1)))
theorem repl_gd (X : VX) (r : RecV) (p : Nat × Nat) : (X.repl r p.1 p.2).c.gd = X.c.gd := by obtain ⟨l, i⟩ := p; cases l <;> rfl
theorem repl_ga (X : VX) (r : RecV) (p : Nat × Nat) : (X.repl r p.1 p.2).c.ga = X.c.ga := by obtain ⟨l, i⟩ := p; cases l <;> rfl
theorem repl_rt' (X : VX) (r : RecV) (p : Nat × Nat) : (X.repl r p.1 p.2).rt = X.rt := by obtain ⟨l, i⟩ := p; cases l <;> rfl
theorem VTo.mono {F : List Nat} {q' : Nat} (h : VTo b w F w' g q gv L X) (hq : q ≤ q') (hl : q' ≤ 900000) : VTo b w F w' g q' gv L X := by
  obtain ⟨FD', FA', h1, h2, h3⟩ := h
  exact ⟨FD', FA', Lib.hid (h1.out.mono hq hl), h2, h3⟩
theorem Fx.repl' {c1 : Nat → List UInt8} {pv : Value} {X : VX} (h : Fx n E c1 pv X) (r : RecV) (p : Nat × Nat) : Fx n E c1 pv (X.repl r p.1 p.2) := by
  have z := h.repl r p (X.repl r p.1 p.2).rt
  exact z
theorem vpush {N0 : Nat → Nat → Nat → RecV} {c0 c1 : Nat → List UInt8} (h : VB b w FD FA g q gv L X) (hp : PPh g L n E N0 c0 c1 k X) (hE : E ≤ 900000) (hk : k ≤ 88) (hq : q + 90 ≤ 900000) :
    Calls Tryz.prog 14 #[.pointer (some ⟨g, 0, none⟩)] w (Ans (POut b w (vfoot g X.c FD FA) g (q + 90) gv L n E N0 c0 c1 (k - 1) X)) := by
  rcases hp with ⟨hj, hl⟩ | ⟨hd, hl⟩
  · have W : WInv L (fun Y => CJ L n E N0 c0 c1 (stV 56 g) Y ∧ Y.c.gd = X.c.gd ∧ Y.c.ga = X.c.ga ∧ Y.H = X.H ∧ Y.C = X.C) :=
      { rtv := fun Y v hY => ⟨CJ.winv.rtv Y v hY.1, hY.2⟩
        at_ := fun Y p R hY hR => CJ.winv.at_ Y p R hY.1 hR
        skip := fun Y p R hY hR hpl => ⟨CJ.winv.skip Y p R hY.1 hR hpl, (repl_gd Y rec0 p).trans hY.2.1, (repl_ga Y rec0 p).trans hY.2.2.1, (repl_H Y rec0 p).trans hY.2.2.2.1, (repl_C Y rec0 p).trans hY.2.2.2.2⟩
        room := fun Y p R hY hR hpl => CJ.winv.room Y p R hY.1 hR hpl }
    refine vpush_write h hj.fx.pf ((vwrite W h ⟨hj, rfl, rfl, rfl, rfl⟩ (by omega)).mono fun e w' hv => ?_)
    obtain ⟨rfl, ⟨Y, p, R, m, x, y, us, rt, ⟨hY, hgd, hga, hH, hC⟩, hR, hle, hne, hm, hy, hx, hT⟩ | ⟨Y, ⟨hY, hgd, hga, hH, hC⟩, hR, hT⟩⟩ := hv
    · refine ⟨false, rfl, _, hT.mono (by omega) hq, Lib.hid ⟨(repl_gd _ _ p).trans hgd, (repl_ga _ _ p).trans hga, (repl_H _ _ p).trans hH, (repl_C _ _ p).trans hC⟩, .inl ⟨rfl, Lib.hid (.inl ⟨⟨hY.ci.seal hR us rt hm hy hx hne ?_, (hY.fx.sealed rt R m x y us).repl' _ p⟩, ?_⟩)⟩⟩
      · exact (CI.winv.room Y p R hY.ci hR hne).1
      · rw [repl_rt']
        show R.length + 2 ≤ k - 1
        rw [hR] at hle
        rw [List.length_cons] at hle
        omega
    · exact ⟨false, rfl, _, hT.mono (by omega) hq, Lib.hid ⟨hgd, hga, hH, hC⟩, .inl ⟨rfl, Lib.hid (.inr ⟨hY.synced hR g, by omega⟩)⟩⟩
  · have ht : ∃ a : Nat, X.c.top.a = (a : Int) ∧ a < 65536 := by
      have := hd.nb
      rcases hd.held (0, 0) zero_plc with e | ⟨m, e, hm, _⟩
      · exact ⟨0, e, by decide⟩
      · exact ⟨m + 1, e, by omega⟩
    obtain ⟨a, ha, ha2⟩ := ht
    refine vpush_finish h hd.fx.pf ((vfinish h hd.fx.ae (by rw [hd.fx.e_]; exact hE) a ha ha2 hd.tree.top_ (by omega)).mono fun e w' hv => ?_)
    obtain ⟨rfl, hT⟩ := hv
    exact ⟨true, rfl, _, hT.mono (by omega) hq, Lib.hid ⟨rfl, rfl, rfl, rfl⟩, .inr ⟨rfl, Lib.hid ⟨hd.finished, by show X.c.e + 1 = _; rw [hd.fx.e_]⟩⟩⟩
def BOut (b : Nat) (w : World) (F : List Nat) (g q gv : Nat) (L : Nat → Nat → List UInt8) (n : Nat) (c : Nat → List UInt8) (X0 : VX) (e : Ending) (w' : World) : Prop :=
  e = .returned (.bool true) ∧ ∃ X, VTo b w F w' g q gv L X ∧ Hid (X.c.gd = X0.c.gd ∧ X.c.ga = X0.c.ga ∧ X.H = X0.H ∧ X.C = fun _ => none) ∧ Hid (PPh g L n X0.c.e X0.N c (ovC X0.C c) 87 X ∧ X.rt = restL n X0.C)
theorem vbegin_in (h : VB b w FD FA g q gv L X) (hi : RI L n c X) (hC : ∃ a, a < 256 ∧ (X.C a).isSome = true) (hE : X.c.e ≤ 900000) : Calls Tryz.prog 21 #[.pointer (some ⟨g, 0, none⟩)] w (BOut b w (vfoot g X.c FD FA) g q gv L n c X) := by
  refine (vbegin h hi.pf hi.un hC).mono fun e w' hv => ?_
  obtain ⟨rfl, gg, rt, hT⟩ := hv
  have hrt : (X.begun g gg rt).rt = restL n X.C := by show restL X.c.n X.C = _; rw [hi.n_]
  refine ⟨rfl, _, hT, Lib.hid ⟨rfl, rfl, rfl, rfl⟩, Lib.hid ⟨.inl ⟨hi.begun_j g gg rt (fun a x hx => (h.cb a x hx).2) (by omega), ?_⟩, hrt⟩⟩
  rw [hrt]
  have := restL_len (C := X.C) (by have := hi.n3; omega) hi.n1 hi.keys
  have := plcs_len hi.n3
  omega
end
end Go.Proofs.YtpocccnhibjjcaaGreatDoor
/- A ready vault's Known, Get, Put, Fetch, memory and records together; a vault made over a disk and an anchor. Conditions: the vault, or the disk and the anchor, lie there. -/
set_option linter.unusedVariables false
set_option maxRecDepth 20000
namespace Go.Proofs.YtpocccnhibjjcaaGreatDoor
open Go.RowKit

section
variable {b : Nat} {w w' : World} {FD FA : List Nat} {g q gv : Nat} {L : Nat → Nat → List UInt8} {X : VX} {n E k : Nat} {c : Nat → List UInt8}
def isK (X : VX) (c : Nat → List UInt8) (i : Nat) : Bool := (X.H i).isSome || (c i).isEmpty
theorem RI.kn (h : RI L n c X) {i : Nat} (hi : i < 4 ^ n) : vkn X i = isK X c i := by
  unfold vkn isK
  rw [h.n_]
  congr 1
  cases hl : (tr X.c.top X.N n i).ld with
  | false => rw [h.empty hi hl]; rfl
  | true =>
    obtain ⟨m, h1, h2, h3, h4, h5, h6⟩ := (h.slot hi).right hl
    cases hc : c i with
    | nil => rw [hc] at h6; cases h6
    | cons a t => rfl
theorem RI.got (h : RI L n c X) {i : Nat} (hk : isK X c i = true) : bytesOf (X.H i) = ovC X.C c i := by
  cases hH : X.H i with
  | some x => exact h.now i hH
  | none =>
    have hC := h.unheld hH
    unfold isK at hk
    rw [hH] at hk
    unfold ovC
    rw [hC]
    have hk : (c i).isEmpty = true := hk
    exact (List.isEmpty_iff.1 hk).symm
theorem vknown_in (h : VB b w FD FA g q gv L X) (hi : RI L n c X) (i : Nat) (hl : i < 4 ^ n) : Calls Tryz.prog 20 #[.pointer (some ⟨g, 0, none⟩), .int .i64 (i : Int)] w fun e w' => e = .returned (.bool (isK X c i)) ∧ Below w.heap.size w w' := by
  rw [← hi.kn hl]
  exact vknown h hi.rd i (by rw [hi.n_]; exact hl)
def GotL (w : World) (l : List UInt8) (e : Ending) (w' : World) : Prop := ∃ g', e = .returned (.tuple #[.slice (some ⟨g', 0, none⟩) 256 256, .bool true]) ∧ Hid (Row w' g' 5 (brr 256 (wh l))) ∧ Hid (w.heap.size ≤ g') ∧ Hid (Below w.heap.size w w')
theorem vget_in (h : VB b w FD FA g q gv L X) (hi : RI L n c X) (i : Nat) (hl : i < 4 ^ n) (hk : isK X c i = true) : Calls Tryz.prog 15 #[.pointer (some ⟨g, 0, none⟩), .int .i64 (i : Int)] w (GotL w (ovC X.C c i)) := by
  refine (vget h hi.rd i (by rw [hi.n_]; exact hl) (by rw [hi.kn hl]; exact hk)).mono fun e w' hv => ?_
  rw [hi.got hk] at hv
  exact hv
def setL (d : Nat → List UInt8) (i : Nat) (l : List UInt8) (j : Nat) : List UInt8 := if j = i then l else d j
def PutO (b : Nat) (w : World) (F : List Nat) (g q gv : Nat) (L : Nat → Nat → List UInt8) (n : Nat) (c : Nat → List UInt8) (X0 : VX) (i : Nat) (l : List UInt8) (e : Ending) (w' : World) : Prop :=
  e = .returned (.int .i64 0) ∧ ∃ X, VTo b w F w' g q gv L X ∧ Hid (X.c = X0.c ∧ RI L n c X ∧ ovC X.C c = setL (ovC X0.C c) i l ∧ (X.C i).isSome = true ∧ ∀ j, (X0.C j).isSome = true → (X.C j).isSome = true) ∧ Hid (∀ j, isK X0 c j = true → isK X c j = true)
theorem ov_up (C : Nat → Option BV) (c : Nat → List UInt8) (i : Nat) (y : BV) : ovC (upC C i y) c = setL (ovC C c) i y.l := by
  funext j
  unfold ovC setL
  by_cases e : j = i
  · subst e
    rw [upC_same, if_pos rfl]
  · rw [upC_other _ _ e, if_neg e]
theorem vput_in (h : VB b w FD FA g q gv L X) (hi : RI L n c X) (i : Nat) (hl : i < 4 ^ n) (x : BV) (bb : Nat) (hx : Own8 bb w x) (hxl : x.l.length = 256 ∨ x.l = []) (hq : q + 1 ≤ 900000) : Calls Tryz.prog 18 #[.pointer (some ⟨g, 0, none⟩), .int .i64 (i : Int), .slice x.A x.l.length x.c] w (PutO b w (vfoot g X.c FD FA) g (q + 1) gv L n c X i x.l) := by
  refine (vput h hi.rd i (by rw [hi.n_]; exact hl) x bb hx hxl hq).mono fun e w' hv => ?_
  obtain ⟨y, rfl, hy, hT⟩ := hv
  refine ⟨rfl, _, hT, Lib.hid ⟨rfl, hi.put i hl y, ?_, ?_, fun j hj => ?_⟩, Lib.hid fun j hj => ?_⟩
  · rw [← hy.out]
    exact ov_up _ _ _ _
  · show (upC X.C i y i).isSome = true
    rw [upC_same]
    rfl
  · show (upC X.C i y j).isSome = true
    by_cases e : j = i
    · subst e
      rw [upC_same]
      rfl
    · rw [upC_other _ _ e]
      exact hj
  · unfold isK at hj ⊢
    show ((upC X.H i y j).isSome || _) = true
    by_cases e : j = i
    · subst e
      rw [upC_same]
      rfl
    · rw [upC_other _ _ e]
      exact hj
def FetO (b : Nat) (w : World) (F : List Nat) (g q gv : Nat) (L : Nat → Nat → List UInt8) (n : Nat) (c : Nat → List UInt8) (X0 : VX) (i : Nat) (e : Ending) (w' : World) : Prop :=
  e = .returned (.int .i64 0) ∧ ∃ X, VTo b w F w' g q gv L X ∧ Hid (X.c = X0.c ∧ RI L n c X ∧ X.C = X0.C ∧ isK X c i = true)
theorem vfetch_in (h : VB b w FD FA g q gv L X) (hi : RI L n c X) (i : Nat) (hl : i < 4 ^ n) (hq : q + 2 ≤ 900000) : Calls Tryz.prog 17 #[.pointer (some ⟨g, 0, none⟩), .int .i64 (i : Int)] w (FetO b w (vfoot g X.c FD FA) g (q + 2) gv L n c X i) := by
  have hl' : i < 4 ^ X.c.n := by rw [hi.n_]; exact hl
  cases hk : vkn X i with
  | true =>
    refine (vfetch_known h hi.rd i hl' hk).mono fun e w' hv => ?_
    obtain ⟨rfl, hb⟩ := hv
    exact ⟨rfl, X, VTo.of ((h.below hb).mono (by omega) hq) (.of hb) (Wider.refl _ _), Lib.hid ⟨rfl, hi, rfl, by rw [← hi.kn hl]; exact hk⟩⟩
  | false =>
    have hk2 := hk
    unfold vkn at hk2
    rw [Bool.or_eq_false_iff] at hk2
    have hld : (tr X.c.top X.N n i).ld = true := by
      have := hk2.2
      rw [hi.n_] at this
      simpa using this
    have hH : X.H i = none := by
      cases hh : X.H i with
      | none => rfl
      | some x => rw [hh] at hk2; cases hk2.1
    obtain ⟨m, hR, hun⟩ := hi.right hl hld
    refine (vfetch h hi.rd i hl' hk m (by rw [hi.n_]; exact hR) hq).mono fun e w' hv => ?_
    obtain ⟨y, rfl, hy, hT⟩ := hv
    have hy := hy.out
    rw [hi.n_, hun] at hy
    refine ⟨rfl, _, hT, Lib.hid ⟨rfl, hi.fetch i m y hy hH, rfl, ?_⟩⟩
    unfold isK
    show ((upC X.H i y i).isSome || _) = true
    rw [upC_same]
    rfl
end
def newX (cc : VC) (n ae : Nat) (ar : RecV) (ss : List BV) (rs : List (Nat × BV)) (E : Nat → List BV) (ts : List (Int × Int × BV)) : VX := ⟨cc, fun _ _ _ => rec0, fun _ => none, fun _ => none, allN n, fun _ => none, [], [], fun _ => 0, ae, ar, ss, rs, E, ts⟩
structure CA (L : Nat → Nat → List UInt8) (n : Nat) (c : Nat → List UInt8) (X : VX) : Prop where
  ai : ∃ N0, AI L n N0 c X
  n1 : 1 ≤ n
  n3 : n ≤ 3
  nb : X.ss.length ≤ 1024
  room : 2 * (plcs n).length ≤ X.ss.length
  rsb : ∀ q ∈ X.rs, q.1 < X.ss.length
  len : ∀ i, c i = [] ∨ (c i).length = 256
section
variable {b : Nat} {w w0 w' : World} {FD FA : List Nat} {g q gv : Nat} {L : Nat → Nat → List UInt8} {X : VX} {n E k : Nat} {c c0 c1 : Nat → List UInt8}
theorem RI.ca (h : RI L n c X) : CA L n c X := ⟨⟨_, h.ai⟩, h.n1, h.n3, h.nb, h.room, h.rsb, h.len⟩
theorem PPh.ca {N0 : Nat → Nat → Nat → RecV} (h : PPh g L n E N0 c0 c1 k X) (hl : ∀ i, c0 i = [] ∨ (c0 i).length = 256) : CA L n c0 X := by
  rcases h with ⟨h, _⟩ | ⟨h, _⟩
  · exact ⟨⟨_, h.ci.ai⟩, h.fx.n1, h.ci.n3, h.ci.nb, h.fx.room, h.ci.rsb, hl⟩
  · exact ⟨⟨_, h.ai⟩, h.fx.n1, h.n3, h.nb, h.fx.room, fun q hq => (by rw [h.rs] at hq; cases hq), hl⟩
theorem MPh.ca (h : MPh g L n c E k X) : CA L n c X := by
  rcases h with ⟨_, h, _⟩ | ⟨_, h, _⟩ | ⟨h, _⟩
  · exact ⟨⟨_, h.ai⟩, h.n1, h.n3, h.nb, h.room, h.rsb, h.len⟩
  · exact ⟨⟨_, h.ai⟩, h.n1, h.n3, h.nb, h.room, h.rsb, h.len⟩
  · exact h.ca
theorem CA.new (h : CA L n c X) (keep : Nat → Bool) (cc : VC) (hn : cc.n = n) (hrd : cc.rd = false) (hpf : cc.pf = .nilFunc) (hs : cc.s = 0) (E : Nat → List BV) (ts : List (Int × Int × BV)) : ∃ N0, MI0 L n c N0 (newX cc n X.ae X.ar (syncK keep X.rs X.ss X.rs.length) [] E ts) := by
  obtain ⟨N0, ha⟩ := h.ai
  have hl : (syncK keep X.rs X.ss X.rs.length).length = X.ss.length := syncK_len _ _ _ _
  exact ⟨N0, hn, h.n1, h.n3, hrd, hpf, hs, ha.keep keep h.rsb _ rfl rfl rfl, rfl, rfl, rfl, by show (syncK keep X.rs X.ss X.rs.length).length ≤ _; rw [hl]; exact h.nb, by show _ ≤ (syncK keep X.rs X.ss X.rs.length).length; rw [hl]; exact h.room, fun q hq => (by cases hq), h.len, fun _ => rfl, fun _ => rfl⟩
theorem vb_new {gd ga gs gn gh gc ae : Nat} {ar : RecV} {un : Value} {ss : List BV} {rs : List (Nat × BV)} {E : Nat → List BV} {ts : List (Int × Int × BV)} (hN : NewF w0 w g gd ga (some ⟨gv, 0, none⟩) n ss.length gs gn gh gc un) (hD : PD b w0 gd FD ss rs E ts) (hA : ∃ k, k ≤ q ∧ AnAt b w0 ga FA ae ar k) (hV : VeilAt w0 (FD ++ FA) gv L) (hB : BaseT b w0) (hda : ∀ j ∈ FD, j ∉ FA) (hn : 1 ≤ n ∧ n ≤ 3) (hl : q ≤ 900000 ∧ rs.length ≤ q ∧ ts.length ≤ q) :
    VB b w FD FA g q gv L (newX (newC gd ga (some ⟨gv, 0, none⟩) n gs gn gh gc un (stV 41 g)) n ae ar ss rs E ts) ∧ Below w0.heap.size w0 w ∧ ∀ j ∈ vfoot g (newC gd ga (some ⟨gv, 0, none⟩) n gs gn gh gc un (stV 41 g)) FD FA, j ∈ FD ∨ j ∈ FA ∨ w0.heap.size ≤ j := by
  have hle := hB.le
  have hown : ∀ j ∈ vown g (newC gd ga (some ⟨gv, 0, none⟩) n gs gn gh gc un (stV 41 g)), w0.heap.size ≤ j := fun j hj => by
    rcases mem_vown.1 hj with rfl | rfl | rfl | rfl | rfl | hj
    · exact hN.lg
    · exact hN.ln
    · exact hN.lh
    · exact hN.lc
    · exact hN.ls
    · cases hj
  have hdlt : ∀ j ∈ FD, j < w0.heap.size := fun j hj => (hD.lt j hj).2
  obtain ⟨k, hk, ha⟩ := hA
  have halt : ∀ j ∈ FA, j < w0.heap.size := fun j hj => (ha.lt j hj).2
  have hF : ∀ j ∈ vfoot g (newC gd ga (some ⟨gv, 0, none⟩) n gs gn gh gc un (stV 41 g)) FD FA, j ∈ FD ∨ j ∈ FA ∨ w0.heap.size ≤ j := fun j hj => by
    rcases mem_vfoot.1 hj with hj | hj | hj
    · exact .inl hj
    · exact .inr (.inl hj)
    · exact .inr (.inr (hown j hj))
  refine ⟨?_, hN.below, hF⟩
  exact { row := hN.row, nodes := hN.nodes.mono (Nat.zero_le _), held := hN.held.mono (Nat.zero_le _), chd := hN.chd.mono (Nat.zero_le _), un := hN.un, rt := PS.nil w, goi := .inl rfl, us := World.ownsRow_nil _ _ _ _, ub := fun u hu => (by cases hu), ul := fun u hu => (by cases hu), spc := hN.spc, anc := ⟨k, hk, ha.kept hN.below⟩, dsk := hD.kept hN.below, hb := fun a x hx => (by cases hx), cb := fun a x hx => (by cases hx), gb := fun a x hx => (by cases hx), base := hB.chg (Chg.of (F := []) hN.below) (fun j hj => by cases hj)
          vl := hV.chg (G := []) (.of hN.below) (fun j hj => by cases hj) (fun j hj => by
            rcases hF j hj with h | h | h
            · exact .inl (List.mem_append_left _ h)
            · exact .inl (List.mem_append_right _ h)
            · exact .inr h)
          vv := rfl, da := fun j hj => ⟨hda j hj, fun hx => by have := hown j hx; have := hdlt j hj; omega⟩, av := fun j hj hx => by { have := hown j hx; have := halt j hj; omega }, nh := hN.ne1, nc := hN.ne2, hc := hN.ne3, lo := fun j hj => Nat.le_trans hle (hown j hj), dep := hn, lim := ⟨hl.1, Nat.zero_le _, hl.2.1, hl.2.2⟩ }
end
end Go.Proofs.YtpocccnhibjjcaaGreatDoor
/- The law's Hold: Mount, Commit. Conditions: the Hold and its vault lie there. -/
set_option linter.unusedVariables false
set_option maxRecDepth 20000
namespace Go.Proofs.YtpocccnhibjjcaaGreatDoor
open Go.RowKit

def hCs (n gd ga gv g : Nat) (old : Value) : List Value := [.int .i64 (n : Int), .pointer (some ⟨gd, 0, none⟩), .pointer (some ⟨ga, 0, none⟩), .pointer (some ⟨gv, 0, none⟩), .pointer (some ⟨g, 0, none⟩), old]
section
variable {b : Nat} {w w' : World} {FD FA : List Nat} {g q gv gH : Nat} {L : Nat → Nat → List UInt8} {X : VX} {n E k : Nat} {c : Nat → List UInt8} {gd ga : Nat} {old : Value}
theorem hv_cell (hH : Row w gH 64 (hCs n gd ga gv g old)) : w.cell? ⟨gH, 4, none⟩ = some (.pointer (some ⟨g, 0, none⟩)) := (hH.cell 4).trans rfl
theorem MPh.ready (h : MPh g L n c E k X) (hr : X.c.rd = true) : RI L n c X ∧ X.c.e = E ∧ ∀ i, X.H i = none := by
  rcases h with ⟨_, h, _⟩ | ⟨_, _, _, _, h, _⟩ | ⟨h, _, e, e2⟩
  · rw [h.rd] at hr
    cases hr
  · rw [h] at hr
    cases hr
  · exact ⟨h, e, e2⟩
def HMt (b : Nat) (w : World) (F : List Nat) (g q gv : Nat) (L : Nat → Nat → List UInt8) (n : Nat) (c : Nat → List UInt8) (E : Nat) (X0 : VX) (e : Ending) (w' : World) : Prop :=
  e = .returned (.bool true) ∧ ∃ X, VTo b w F w' g q gv L X ∧ Hid (RI L n c X ∧ X.c.e = E ∧ X.c.gd = X0.c.gd ∧ X.c.ga = X0.c.ga ∧ ∀ i, X.H i = none)
set_option maxHeartbeats 1000000 in
theorem hmount (hH : Row w gH 64 (hCs n gd ga gv g old)) (hn : gH ∉ vfoot g X.c FD FA) (h : VB b w FD FA g q gv L X) (hm : MPh g L n c E k X) (hk : k ≤ 50) (hE : E ≤ 900000) (hq : q + 200 ≤ 900000) :
    Calls Tryz.prog 29 #[.pointer (some ⟨gH, 0, none⟩)] w (HMt b w (vfoot g X.c FD FA) g (q + 200) gv L n c E X) := by
  have HH := Lib.hid hH
  have HN := Lib.hid hn
  have HX := Lib.hid (p := ∃ X', VTo b w (vfoot g X.c FD FA) w g q gv L X' ∧ MPh g L n c E k X' ∧ X'.c.gd = X.c.gd ∧ X'.c.ga = X.c.ga) ⟨X, VTo.of h (Chg.refl _ _) (Wider.refl _ _), hm, rfl, rfl⟩
  have HK := Lib.hid hk
  have HE := Lib.hid hE
  have HQ := Lib.hid hq
  generalize vfoot g X.c FD FA = F at HX HN ⊢
  clear hH hn h hm hk hE hq
  go_enter Tryz.func29, Tryz.ntmps29
  go_wp2
  go_loopw [3] (fun x wr => ∃ i : Nat, i ≤ 49 ∧ x = .int .i64 (i : Int) ∧ ∃ j X', Hid (i + j ≤ 50) ∧ Hid (VTo b w F wr g (q + 2 * i) gv L X' ∧ MPh g L n c E j X' ∧ X'.c.gd = X.c.gd ∧ X'.c.ga = X.c.ga)) (fun x _ => 100 - (intOf x).toNat)
  case atStart => exact ⟨0, by omega, rfl, k, HX.out.choose, Lib.hid (by have := HK.out; omega), Lib.hid HX.out.choose_spec⟩
  case round =>
    obtain ⟨i, hi, rfl, j, X', HIJ, HV⟩ := hrel
    obtain ⟨⟨FD', FA', HB, HC, HW⟩, HM, HG⟩ := HV.out
    have hH2 := HC.out.row HH.out HN.out
    have c4 := hv_cell hH2
    clear HV hH2
    have HM := Lib.hid HM
    have HG := Lib.hid HG
    have HI := Lib.hid hi
    go_wp2_with (go_at_call 13
                 refine (vmount HB.out HM.out HE.out (by have := HQ.out; have := HI.out; omega)).mono ?_
                 rintro e5 w5 ⟨r, rfl, X5, hr, hT, hM5, hG5⟩
                 have HT := Lib.hid (VTo.trans HC.out HW.out hT)
                 have HR := Lib.hid hr
                 clear hT hr
                 cases r)
    · refine ⟨⟨i + 1, ?_, rfl, j - 1, X5, Lib.hid ?_, Lib.hid ⟨?_, hM5.out, hG5.out.1.trans HG.out.1, hG5.out.2.1.trans HG.out.2⟩⟩, ?_⟩
      · have := HIJ.out
        have := hG5.out.2.2 trivial
        omega
      · have := HIJ.out
        have := hG5.out.2.2 trivial
        omega
      · have e : q + 2 * (i + 1) = q + 2 * i + 2 := by omega
        rw [e]
        exact HT.out
      · show 100 - ((i : Int) + 1).toNat < 100 - (i : Int).toNat
        have := HI.out
        omega
    · go_ret
      obtain ⟨h5, h6, h7⟩ := hM5.out.ready HR.out
      exact ⟨rfl, X5, HT.out.mono (by have := HI.out; omega) HQ.out, Lib.hid ⟨h5, h6, hG5.out.1.trans HG.out.1, hG5.out.2.1.trans HG.out.2, h7⟩⟩
theorem PPh.pos {N0 : Nat → Nat → Nat → RecV} {c0 c1 : Nat → List UInt8} (h : PPh g L n E N0 c0 c1 k X) : 1 ≤ k ∧ ∃ f, X.c.pf = stV f g := by
  rcases h with ⟨h, hk⟩ | ⟨h, hk⟩
  · exact ⟨by omega, _, h.fx.pf⟩
  · exact ⟨hk, _, h.fx.pf⟩
def HCm (b : Nat) (w : World) (F : List Nat) (g q gv : Nat) (L : Nat → Nat → List UInt8) (n : Nat) (c : Nat → List UInt8) (E : Nat) (X0 : VX) (e : Ending) (w' : World) : Prop :=
  e = .returned (.bool true) ∧ ∃ X, VTo b w F w' g q gv L X ∧ Hid (RI L n c X ∧ X.c.e = E ∧ X.c.gd = X0.c.gd ∧ X.c.ga = X0.c.ga ∧ X.H = X0.H ∧ X.C = fun _ => none)
set_option maxHeartbeats 2000000 in
theorem hcommit_some (hH : Row w gH 64 (hCs n gd ga gv g old)) (hn : gH ∉ vfoot g X.c FD FA) (h : VB b w FD FA g q gv L X) (hi : RI L n c X) (hC : ∃ a, a < 256 ∧ (X.C a).isSome = true) (hE : X.c.e ≤ 900000) (hq : q + 9000 ≤ 900000) :
    Calls Tryz.prog 31 #[.pointer (some ⟨gH, 0, none⟩)] w (HCm b w (vfoot g X.c FD FA) g (q + 9000) gv L n (ovC X.C c) (X.c.e + 1) X) := by
  have c4 := hv_cell hH
  have HH := Lib.hid hH
  have HN := Lib.hid hn
  have HX := Lib.hid (vbegin_in h hi hC hE)
  have HE := Lib.hid hE
  have HQ := Lib.hid hq
  generalize vfoot g X.c FD FA = F at HX HN ⊢
  clear hH hn h hE hq
  go_enter Tryz.func31, Tryz.ntmps31
  go_wp2_with (go_at_call 21
               refine HX.out.mono ?_
               rintro e1 w1 ⟨rfl, X1, hT1, hG1, hP1⟩
               have HT1 := Lib.hid hT1
               clear hT1)
  go_loopw [3] (fun x wr => ∃ i : Nat, i ≤ 88 ∧ x = .int .i64 (i : Int) ∧ ∃ j X', Hid (i + j ≤ 87) ∧ Hid (VTo b w F wr g (q + 90 * i) gv L X' ∧ X'.c.gd = X.c.gd ∧ X'.c.ga = X.c.ga ∧ X'.H = X.H ∧ (X'.C = fun _ => none) ∧ (PPh g L n X.c.e X.N c (ovC X.C c) j X' ∨ (RI L n (ovC X.C c) X' ∧ X'.c.e = X.c.e + 1)))) (fun x _ => 100 - (intOf x).toNat)
  case atStart => exact ⟨0, by omega, rfl, 87, X1, Lib.hid (by omega), Lib.hid ⟨HT1.out, hG1.out.1, hG1.out.2.1, hG1.out.2.2.1, hG1.out.2.2.2, .inl hP1.out.1⟩⟩
  case round =>
    obtain ⟨i, hi2, rfl, j, X', HIJ, HV⟩ := hrel
    obtain ⟨⟨FD', FA', HB, HC, HW⟩, hgd, hga, hH', hC', hph⟩ := HV.out
    have hH2 := HC.out.row HH.out HN.out
    have c4' := hv_cell hH2
    have HG := Lib.hid (p := X'.c.gd = X.c.gd ∧ X'.c.ga = X.c.ga ∧ X'.H = X.H ∧ X'.C = fun _ => none) ⟨hgd, hga, hH', hC'⟩
    clear HV hH2 hgd hga hH' hC'
    have HI := Lib.hid hi2
    rcases hph with hph | hdn
    · obtain ⟨hpos, f, hf⟩ := hph.pos
      have HGo := Lib.hid (vgoing HB.out f hf)
      have HP := Lib.hid hph
      have HJ := Lib.hid hpos
      clear hph hpos hf
      go_wp2_with (first
        | (go_at_call 22; refine HGo.out.mono ?_; rintro e4 w4 ⟨rfl, rfl⟩)
        | (go_at_call 14
           refine (vpush HB.out HP.out HE.out (by have := HIJ.out; omega) (by have := HQ.out; have := HI.out; omega)).mono ?_
           rintro e5 w5 ⟨r, rfl, X5, hT, hG5, hO⟩
           have HT := Lib.hid (VTo.trans HC.out HW.out hT)
           have HO := Lib.hid hO
           clear hT hO))
      refine ⟨⟨i + 1, ?_, rfl, j - 1, X5, Lib.hid ?_, Lib.hid ⟨?_, hG5.out.1.trans HG.out.1, hG5.out.2.1.trans HG.out.2.1, hG5.out.2.2.1.trans HG.out.2.2.1, hG5.out.2.2.2.trans HG.out.2.2.2, ?_⟩⟩, ?_⟩
      · have := HIJ.out
        have := HJ.out
        omega
      · have := HIJ.out
        have := HJ.out
        omega
      · have e : q + 90 * (i + 1) = q + 90 * i + 90 := by omega
        rw [e]
        exact HT.out
      · rcases HO.out with ⟨_, h1⟩ | ⟨_, h1⟩
        · exact .inl h1.out
        · exact .inr h1.out
      · show 100 - ((i : Int) + 1).toNat < 100 - (i : Int).toNat
        have := HI.out
        omega
    · have HGo := Lib.hid (vgoing_not HB.out hdn.1.pf)
      have HD := Lib.hid hdn
      clear hdn
      go_wp2_with (go_at_call 22; refine HGo.out.mono ?_; rintro e4 w4 ⟨rfl, rfl⟩)
      go_ret
      exact ⟨rfl, X', VTo.mono ⟨FD', FA', HB, HC, HW⟩ (by have := HI.out; omega) HQ.out, Lib.hid ⟨HD.out.1, HD.out.2, HG.out⟩⟩
theorem RI.ov_none (h : RI L n c X) (hC : ∀ a, a < 256 → X.C a = none) : (X.C = fun _ => none) ∧ ovC X.C c = c := by
  have h64 := pow3 (Nat.le_refl n) h.n3
  have e : ∀ a, X.C a = none := fun a => by
    cases e : X.C a with
    | none => rfl
    | some x =>
      have := (h.hc a x e).1
      rw [hC a (by omega)] at e
      cases e
  refine ⟨funext e, funext fun a => ?_⟩
  unfold ovC
  rw [e]
set_option maxHeartbeats 1000000 in
theorem hcommit_none (hH : Row w gH 64 (hCs n gd ga gv g old)) (h : VB b w FD FA g q gv L X) (hi : RI L n c X) (hC : ∀ a, a < 256 → X.C a = none) (hq : q + 9000 ≤ 900000) :
    Calls Tryz.prog 31 #[.pointer (some ⟨gH, 0, none⟩)] w (HCm b w (vfoot g X.c FD FA) g (q + 9000) gv L n (ovC X.C c) X.c.e X) := by
  have c4 := hv_cell hH
  have HX := Lib.hid (vbegin_not h hi.pf hC)
  have HGo := Lib.hid (vgoing_not h hi.pf)
  have HE := Lib.hid (p := HCm b w (vfoot g X.c FD FA) g (q + 9000) gv L n (ovC X.C c) X.c.e X (.returned (.bool true)) w) ⟨rfl, X, VTo.of (h.mono (by omega) hq) (Chg.refl _ _) (Wider.refl _ _), Lib.hid ⟨by rw [(hi.ov_none hC).2]; exact hi, rfl, rfl, rfl, rfl, (hi.ov_none hC).1⟩⟩
  clear hH h hi hC hq
  go_enter Tryz.func31, Tryz.ntmps31
  go_wp2_with (go_at_call 21; refine HX.out.mono ?_; rintro e1 w1 ⟨rfl, rfl⟩)
  go_loopw [3] (fun x wr => x = .int .i64 0 ∧ wr = w) (fun _ _ => 0)
  case atStart => exact ⟨rfl, rfl⟩
  case round =>
    obtain ⟨rfl, rfl⟩ := hrel
    go_wp2_with (go_at_call 22; refine HGo.out.mono ?_; rintro e4 w4 ⟨rfl, rfl⟩)
    go_ret
    exact HE.out
end
end Go.Proofs.YtpocccnhibjjcaaGreatDoor
