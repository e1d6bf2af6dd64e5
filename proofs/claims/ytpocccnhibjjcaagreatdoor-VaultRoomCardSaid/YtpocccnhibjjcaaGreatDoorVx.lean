/- What a vault's seal leaves: a block hidden and written where nothing lay. Conditions: the vault lies there, and a block is free. -/
import Derived.Test.YtpocccnhibjjcaaGreatDoorVq
set_option linter.unusedVariables false
set_option maxRecDepth 20000
namespace Go.Proofs.YtpocccnhibjjcaaGreatDoor
open Go.RowKit

theorem built_use (e s : Nat) (A : Option Addr) (n c : Nat) : Tryz.prog.built 111 [(0, .int .u32 (e : Int)), (1, .int .u32 (s : Int)), (2, .slice A n c)] = some #[.int .u32 (e : Int), .int .u32 (s : Int), .slice A n c] := by kernel_rfl
section
variable {b : Nat} {w w' : World} {FD FA : List Nat} {g q gv : Nat} {L : Nat → Nat → List UInt8} {X : VX}
theorem VB.far (h : VB b w FD FA g q gv L X) {G : List Nat} (hc : Chg G w w') (hG : ∀ j ∈ G, j ∉ vfoot g X.c FD FA) (h8 : NoBytes w G) (hS : NoT w G 99) (hM : ∀ j ∈ G, ∃ cs t fr, w.heap[j]? = some (.cells cs t fr)) (hlo : ∀ j ∈ G, b ≤ j) (hv : VeilAt w' (vfoot g X.c FD FA) gv L) : VB b w' FD FA g q gv L X := by
  have no : ∀ {j : Nat}, j ∈ vown g X.c → j ∉ G := fun hj hx => hG _ hx (h.in_v _ hj)
  have hsp := h.spc
  have htb : 2 ∉ G := fun hx => by
    have h1 := hlo _ hx
    have h2 := h.base.lt
    omega
  have hgo : X.c.go = .map none ∨ ∃ gg, X.c.go = .map (some gg) ∧ MI w' gg q X.G ∧ gg ∉ vfoot g X.c FD FA := by
    rcases h.goi with e | ⟨gg, e, hm, hn⟩
    · exact .inl e
    · refine .inr ⟨gg, e, hm.chg hc (fun hx => ?_), hn⟩
      obtain ⟨cs, t, fr, e2⟩ := hM _ hx
      exact hm.no_cells _ _ _ e2
  have hanc : ∃ k, k ≤ q ∧ AnAt b w' X.c.ga FA X.ae X.ar k := by
    obtain ⟨m, hm, ha⟩ := h.anc
    exact ⟨m, hm, ha.chg hc (fun j hj hx => hG j hj (h.in_a j hx))⟩
  exact { row := hc.row h.row (no (mem_vown.2 (.inl rfl))), nodes := h.nodes.chg hc (no (mem_vown.2 (.inr (.inl rfl)))), held := h.held.chg hc (no (mem_vown.2 (.inr (.inr (.inl rfl))))), chd := h.chd.chg hc (no (mem_vown.2 (.inr (.inr (.inr (.inl rfl)))))), un := h.un.chg hc hS, rt := h.rt.chg hc hS, goi := hgo, us := hc.own h.us (fun j hj => no (mem_vown.2 (.inr (.inr (.inr (.inr (.inr hj))))))), ub := fun u hu => (h.ub u hu).chg hc h8, ul := h.ul, spc := ⟨hc.row hsp.row (no (mem_vown.2 (.inr (.inr (.inr (.inr (.inl rfl))))))), hsp.le, hsp.st, fun j hj => hc.cell (hsp.tab j hj) htb, hsp.ne⟩, anc := hanc, dsk := h.dsk.chg hc (fun j hj hx => hG j hj (h.in_d j hx)) h8, hb := h.hb.chg hc h8, cb := h.cb.chg hc h8, gb := h.gb.chg hc h8, base := h.base.chg hc hlo, vl := hv, vv := h.vv, da := h.da, av := h.av, nh := h.nh, nc := h.nc, hc := h.hc, lo := h.lo, dep := h.dep, lim := h.lim }
theorem no_in {cs : List Value} {p : Nat} (hr : Row w p 87 cs) (h : VB b w FD FA g q gv L X) : p ∉ vfoot g X.c FD FA := fun hx => by
  rcases mem_vfoot.1 hx with hx | hx | hx
  · obtain ⟨v1, v2, gm, v4, ev, n, hn, hd⟩ := h.dsk
    rcases (hd.fx p).1 hx with rfl | rfl | e | e | e | ⟨a, ha, e⟩
    · exact row_noT hr (by decide) _ _ hd.cells.heap
    · exact hd.om.no_cells _ _ _ hr.heap
    · exact row_parted hr hd.o1 (by decide) e
    · exact row_parted hr hd.o2 (by decide) e
    · exact row_parted hr hd.o4 (by decide) e
    · exact row_parted hr (hd.oe a ha) (by decide) e
  · obtain ⟨k, _, v, xs, h1, h2, h3, h4⟩ := h.anc
    rcases (h3 p).1 hx with rfl | e
    · exact row_noT hr (by decide) _ _ h1.heap
    · exact row_parted hr h2 (by decide) e
  · rcases mem_vown.1 hx with rfl | rfl | rfl | rfl | rfl | e
    · exact row_noT hr (by decide) _ _ h.row.heap
    · exact h.nodes.no_cells _ _ _ hr.heap
    · exact h.held.no_cells _ _ _ hr.heap
    · exact h.chd.no_cells _ _ _ hr.heap
    · exact row_noT hr (by decide) _ _ h.spc.row.heap
    · exact row_parted hr h.us (by decide) e
theorem VB.uturn (h : VB b w FD FA g q gv L X) {v' : Value} {u : Nat × Nat × BV} (hr : VAt w' g { X.c with us := v' }) (ho : w'.ownsRow b 111 3 v' (X.ul.length + 1) ((X.ul ++ [u]).flatMap uc))
    (hat : v'.ownBlock = X.c.us.ownBlock ∨ ∃ q, v'.ownBlock = some q ∧ w.heap.size ≤ q) (hc : Chg (g :: X.c.us.ownBlock.toList) w w') (hu : Own8 b w' u.2.2) (hul : u.2.2.l.length ≤ 256) {q' : Nat} (hq : q ≤ q') (hlim : q' ≤ 900000) (hn : X.ul.length + 1 ≤ q') :
    VB b w' FD FA g q' gv L { X with c := { X.c with us := v' }, ul := X.ul ++ [u] } := by
  have hin : ∀ j ∈ (g :: X.c.us.ownBlock.toList), j ∈ vown g X.c := fun j hj => by
    rcases List.mem_cons.1 hj with rfl | hj
    · exact mem_vown.2 (.inl rfl)
    · exact mem_vown.2 (.inr (.inr (.inr (.inr (.inr (by simpa [Option.mem_toList] using hj))))))
  have k := h.keep hc (fun j hj => h.in_v j (hin j hj))
  have hlm := h.lim
  have nm : ∀ {p : Nat}, (∀ cs t fr, w.heap[p]? ≠ some (.cells cs t fr)) → p ∉ (g :: X.c.us.ownBlock.toList) := fun hm hx => by
    rcases List.mem_cons.1 hx with rfl | hx
    · exact hm _ _ _ h.row.heap
    · obtain ⟨cs, fr, e⟩ := h.us_ne (by simpa [Option.mem_toList] using hx)
      exact hm _ _ _ e
  have ns : X.c.gs ∉ (g :: X.c.us.ownBlock.toList) := fun hx => by
    rcases List.mem_cons.1 hx with hx | hx
    · exact h.gs_ne hx.symm
    · exact row_parted h.spc.row h.us (by decide) (by simpa [Option.mem_toList] using hx)
  have hv' : ∀ j, j ∈ vown g { X.c with us := v' } → j ∈ vown g X.c ∨ w.heap.size ≤ j := fun j hj => by
    rcases mem_vown.1 hj with e | e | e | e | e | e
    · exact .inl (mem_vown.2 (.inl e))
    · exact .inl (mem_vown.2 (.inr (.inl e)))
    · exact .inl (mem_vown.2 (.inr (.inr (.inl e))))
    · exact .inl (mem_vown.2 (.inr (.inr (.inr (.inl e)))))
    · exact .inl (mem_vown.2 (.inr (.inr (.inr (.inr (.inl e))))))
    · have e : v'.ownBlock = some j := e
      rcases hat with h1 | ⟨p, h1, h2⟩
      · exact .inl (mem_vown.2 (.inr (.inr (.inr (.inr (.inr (h1 ▸ e)))))))
      · rw [h1] at e
        cases e
        exact .inr h2
  have hf' : ∀ j, j ∈ vfoot g { X.c with us := v' } FD FA → j ∈ vfoot g X.c FD FA ∨ w.heap.size ≤ j := fun j hj => by
    rcases mem_vfoot.1 hj with e | e | e
    · exact .inl (h.in_d j e)
    · exact .inl (h.in_a j e)
    · rcases hv' j e with e | e
      · exact .inl (h.in_v j e)
      · exact .inr e
  have hgo : X.c.go = .map none ∨ ∃ gg, X.c.go = .map (some gg) ∧ MI w' gg q' X.G ∧ gg ∉ vfoot g { X.c with us := v' } FD FA := by
    rcases k.goi with e | ⟨gg, e, hm, hn⟩
    · exact .inl e
    · refine .inr ⟨gg, e, hm.mono hq, fun hx => ?_⟩
      rcases hf' gg hx with hx | hx
      · exact hn hx
      · have := h.go_lt gg e
        omega
  have hda : ∀ j ∈ FD, j ∉ FA ∧ j ∉ vown g { X.c with us := v' } := fun j hj => ⟨(h.da j hj).1, fun hx => by
    rcases hv' j hx with hx | hx
    · exact (h.da j hj).2 hx
    · have := h.lt_d j hj
      omega⟩
  have hav : ∀ j ∈ FA, j ∉ vown g { X.c with us := v' } := fun j hj hx => by
    rcases hv' j hx with hx | hx
    · exact h.av j hj hx
    · have := h.lt_a j hj
      omega
  have hlo : ∀ j ∈ vown g { X.c with us := v' }, b ≤ j := fun j hj => by
    rcases hv' j hj with hx | hx
    · exact h.lo j hx
    · exact Nat.le_trans h.base.le hx
  exact { row := hr, nodes := (k.nodes (nm h.nodes.no_cells)).mono hq, held := (k.held (nm h.held.no_cells)).mono hq, chd := (k.chd (nm h.chd.no_cells)).mono hq, un := k.un, rt := k.rt, goi := hgo, us := (by rw [List.length_append]; exact ho), ub := fun x hx => (by rcases List.mem_append.1 hx with hx | hx; exact k.ub x hx; rw [List.mem_singleton] at hx; subst hx; exact hu), ul := fun x hx => (by rcases List.mem_append.1 hx with hx | hx; exact h.ul x hx; rw [List.mem_singleton] at hx; subst hx; exact hul), spc := k.spc ns, anc := anc_mono (k.anc (fun j hj hx => h.av j hx (hin j hj))) hq, dsk := k.dsk (fun j hj hx => (h.da j hx).2 (hin j hj)), hb := k.hb, cb := k.cb, gb := k.gb, base := k.base, vl := k.vl _ hf', vv := h.vv, da := hda, av := hav, nh := h.nh, nc := h.nc, hc := h.hc, lo := hlo, dep := h.dep, lim := ⟨hlim, by rw [List.length_append]; exact hn, Nat.le_trans hlm.2.2.1 hq, Nat.le_trans hlm.2.2.2 hq⟩ }
theorem seal_uses {X : VX} {w6 w7 w9 : World} {AU : Option Addr} {nU cU : Nat} {A9 : Option Addr} {c9 e0 s0 : Nat} {y : BV} (h : VB b w6 FD FA g q gv L X) (hus : X.c.us = .slice AU nU cU) (hn : X.ul.length = nU) (hrg : Row w9 g 90 X.c.cs)
    (hr : w9.ownsRow b 111 3 (.slice A9 (nU + 1) c9) (nU + 1) (X.ul.flatMap uc ++ uc (e0, s0, y))) (hg : w7.grownBy w9 (Value.slice AU nU cU).ownBlock) (hb : Below w6.heap.size w6 w7)
    (hat : (Value.slice A9 (nU + 1) c9).ownBlock = (Value.slice AU nU cU).ownBlock ∨ ∃ q, (Value.slice A9 (nU + 1) c9).ownBlock = some q ∧ w6.heap.size ≤ q) (hy : Own8 b w6 y) (hyl : y.l.length ≤ 256) (hq : nU + 1 ≤ q) :
    VB b (w9.setCell ⟨g, 51, none⟩ (.slice A9 (nU + 1) c9)) FD FA g q gv L { X with c := { X.c with us := .slice A9 (nU + 1) c9 }, ul := X.ul ++ [(e0, s0, y)] } := by
  have hc : Chg (g :: X.c.us.ownBlock.toList) w6 (w9.setCell ⟨g, 51, none⟩ (.slice A9 (nU + 1) c9)) := by
    rw [hus]
    exact (((Chg.of (F := g :: (Value.slice AU nU cU).ownBlock.toList) hb)).grown hg (fun k hk => .inl (by rw [hk]; simp))).setCell (p := ⟨g, 51, none⟩) (.inl (by simp)) _
  have hin : ∀ j ∈ (g :: X.c.us.ownBlock.toList), j ∈ vfoot g X.c FD FA := fun j hj => by
    rcases List.mem_cons.1 hj with rfl | hj
    · exact h.in_v _ (mem_vown.2 (.inl rfl))
    · exact h.in_v _ (mem_vown.2 (.inr (.inr (.inr (.inr (.inr (by simpa [Option.mem_toList] using hj)))))))
  refine h.uturn (q' := q) (by have z := hrg.put 51 (.slice A9 (nU + 1) c9); rw [VC.set_us] at z; exact z) ?_ (by rw [hus]; exact hat) hc (hy.chg hc (fun j hj => h.no _ (.inl rfl) j (hin j hj))) hyl (Nat.le_refl _) h.lim.1 (by rw [hn]; exact hq)
  rw [hn, flat_snoc]
  exact World.ownsRow.kept hr (grown_set w9 ⟨g, 51, none⟩ _) (.inr (row_parted hrg hr (by decide)))
def VX.sealed (X : VX) (m : Nat) (x y : BV) (us : Value) : VX := { X with S := S8.putN X.S m 1, rs := X.rs ++ [(m, x)], E := more X.E m x, ts := X.ts ++ [(2, (m : Int), x)], c := { X.c with s := X.c.s + 1, us := us }, ul := X.ul ++ [(X.c.e, X.c.s, y)] }
def VSeal (b : Nat) (w : World) (F : List Nat) (g q gv : Nat) (L : Nat → Nat → List UInt8) (X : VX) (m : Nat) (y : BV) (e : Ending) (w' : World) : Prop :=
  ∃ (x : BV) (us : Value), e = .returned (.agg (sealR m X.c.e X.c.s x.l).cs.toArray) ∧ Hid (x.l = lst 256 (hid (pmask L X.c.e X.c.s) y.l)) ∧ VTo b w F w' g q gv L (X.sealed m x y us)
theorem seal_end {w11 w12 : World} {FD6 : List Nat} {g4 q' : Nat} {X' : VX} {cs : List Value} (h : VB b w FD FA g q gv L X) (h11 : VB b w11 FD6 FA g q' gv L X') (hr : Row w11 g4 87 cs) (hg4 : w.heap.size ≤ g4) (hn : g4 ∉ vfoot g X'.c FD6 FA) (hg : w11.grownBy w12 (some g4))
    (hc : Chg (vfoot g X.c FD FA) w w11) (hw : Wider w (vfoot g X.c FD FA) (vfoot g X'.c FD6 FA)) : VTo b w (vfoot g X.c FD FA) w12 g q' gv L X' := by
  have hc12 : Chg (vfoot g X.c FD FA) w w12 := hc.grown hg (fun k hk => by injection hk with hk; subst hk; exact .inr hg4)
  have hc2 : Chg [g4] w11 w12 := (Chg.refl _ _).grown hg (fun k hk => by injection hk with hk; subst hk; exact .inl (List.mem_singleton.2 rfl))
  refine VTo.of (h11.far hc2 (fun j hj => by rw [List.mem_singleton] at hj; subst hj; exact hn) (fun j hj => by rw [List.mem_singleton] at hj; subst hj; exact row_noT hr (by decide)) (fun j hj => by rw [List.mem_singleton] at hj; subst hj; exact row_noT hr (by decide)) (fun j hj => by rw [List.mem_singleton] at hj; subst hj; exact ⟨_, _, _, hr.heap⟩) (fun j hj => by rw [List.mem_singleton] at hj; subst hj; exact Nat.le_trans h.base.le hg4) (h.vl.chg hc12 (fun j hj => .inl hj) hw)) hc12 hw
set_option maxHeartbeats 4000000 in
theorem vseal (h : VB b w FD FA g q gv L X) (m : Nat) (hm : S8.ft X.ss.length X.S = some m) (y : BV) (hy : Own8 b w y) (hyl : y.l.length = 256) (he : X.c.e < 4294967296) (hs : X.c.s + 1 < 4294967296) (hq : q + 1 ≤ 900000) :
    Calls Tryz.prog 87 #[.pointer (some ⟨g, 0, none⟩), .slice y.A 256 y.c] w (VSeal b w (vfoot g X.c FD FA) g (q + 1) gv L X m y) := by
  have i35 := Lib.hid (p := ∀ r : RecV, (Tryz.prog.info? 87).map (·.size) = some r.cs.length) (fun r => by rw [r.cs_len]; exact info_rec)
  have hz := Lib.hid zero_rec
  have H := Lib.hid h
  have HM := Lib.hid hm
  have HMN := Lib.hid (p := m < X.ss.length ∧ m < 1024 ∧ X.S m = 0) (by have h1 := S8.ft_some hm; have h2 := h.spc.le; exact ⟨h1.1, by omega, h1.2.1⟩)
  have HY := Lib.hid (p := Own8 b w y ∧ y.l.length = 256) ⟨hy, hyl⟩
  have HQ := Lib.hid hq
  have c4 := h.row.gs
  obtain ⟨e0, hE⟩ : ∃ e0, X.c.e = e0 := ⟨_, rfl⟩
  obtain ⟨s0, hS⟩ : ∃ s0, X.c.s = s0 := ⟨_, rfl⟩
  have HE := Lib.hid (p := X.c.e = e0 ∧ X.c.s = s0) ⟨hE, hS⟩
  rw [hE] at he
  rw [hS] at hs
  have ew : IntKind.u32.wrap ((s0 : Int) + 1) = ((s0 + 1 : Nat) : Int) := by rw [IntKind.wrap_u32]; omega
  have HES := Lib.hid (p := e0 < 4294967296 ∧ s0 < 4294967296) ⟨he, by omega⟩
  clear h hm hy hyl hq he hs hE hS
  go_enter Tryz.func87, Tryz.ntmps87
  go_wp2_with (first
    | (refine step_alloc rfl 4 rfl 87 rfl _ hz.out ?_; intro g4 w1 hr1 hg1 hb1 hs1; have HR4 := Lib.hid hr1; have HB1 := Lib.hid hb1; have HG4 := Lib.hid (p := w.heap.size ≤ g4) (Nat.le_of_eq hg1.out.symm); have c41 := VAt.gs (H.out.row.kept hb1); clear hr1 hg1 hb1 hs1)
    | (go_at_call 112; refine (S8.take_any (H.out.below HB1.out).spc).mono ?_; rintro e w2 ⟨rfl, hs2, hg2⟩; rw [HM.out]))
  rw [HM.out] at hs2
  have hc2 : Chg [X.c.gs] w1 w2 := (Chg.refl _ _).grown hg2 (fun k hk => by injection hk with hk; subst hk; exact .inl (List.mem_singleton.2 rfl))
  have HV2 := Lib.hid (p := VB b w2 FD FA g q gv L { X with S := S8.putN X.S m 1 }) ((H.out.below HB1.out).sturn hs2 hc2)
  have HC2 := Lib.hid (p := Chg (vfoot g X.c FD FA) w w2) ((Chg.of (F := vfoot g X.c FD FA) HB1.out).trans hc2 (fun j hj => .inl (one_in H.out (mem_vown.2 (.inr (.inr (.inr (.inr (.inl rfl)))))) j hj)))
  have HR42 := Lib.hid (hc2.row HR4.out (no1 (fun e => by have h1 : X.c.gs < w.heap.size := H.out.spc.lt; have h2 := HG4.out; omega)))
  have HSZ2 := Lib.hid (p := w.heap.size ≤ w2.heap.size) HC2.out.size
  have HY2 := Lib.hid (p := Own8 b w2 y) (HY.out.1.chg HC2.out (fun j hj => H.out.no _ (.inl rfl) j hj))
  have HF := Lib.hid (p := ∀ w3, Below w2.heap.size w2 w3 → w3.cell? ⟨g, 2, none⟩ = some (.pointer (some ⟨gv, 0, none⟩)) ∧ w3.cell? ⟨g, 5, none⟩ = some (.int .u32 (e0 : Int)) ∧ w3.cell? ⟨g, 6, none⟩ = some (.int .u32 (s0 : Int))) (fun w3 hb => by
    have h3 := HV2.out.row.kept hb
    have z1 := VAt.vv h3
    have z2 := VAt.e h3
    have z3 := VAt.s h3
    rw [HV2.out.vv] at z1
    rw [← HE.out.1, ← HE.out.2]
    exact ⟨z1, z2, z3⟩)
  clear hs2 hg2 hc2
  simp only [S8.tkA, S8.tkE]
  go_wp2_with fail
  refine wp_region_held_drew (S := fun W => W.cell? ⟨g, 2, none⟩ = some (.pointer (some ⟨gv, 0, none⟩)) ∧ W.cell? ⟨g, 5, none⟩ = some (.int .u32 (e0 : Int)) ∧ W.cell? ⟨g, 6, none⟩ = some (.int .u32 (s0 : Int))) (by kernel_rfl) (HF.out _ (below_drw _)) (fun hHeld => ?_)
  refine wpAnyH_take (i := 0) (oi := ⟨some 19, .move (.tmp 0), _, _, _, _⟩) (v := .pointer (some ⟨g, 0, none⟩)) rfl (by kernel_rfl) (by kernel_rfl) (by kernel_rfl) (fun _ _ _ h => h) (.inl ⟨by rfl, fun w hSw => by go_simp⟩) (by assumption) ?_
  simp only [Act.put, List.setIfInBounds_toArray, List.set_cons_zero, List.set_cons_succ]
  refine wpAnyH_take (i := 1) (oi := ⟨some 20, .nilCheck (.tmp 19), _, _, _, _⟩) (v := .pointer (some ⟨g, 0, none⟩)) rfl (by kernel_rfl) (by kernel_rfl) (by kernel_rfl) (fun _ _ _ h => h) (.inl ⟨by rfl, fun w hSw => by go_simp⟩) (by assumption) ?_
  simp only [Act.put, List.setIfInBounds_toArray, List.set_cons_zero, List.set_cons_succ]
  refine wpAnyH_take (i := 2) (oi := ⟨some 21, .fieldAddr 90 (.tmp 20) 2, _, _, _, _⟩) (v := .pointer (some ⟨g, 2, none⟩)) rfl (by kernel_rfl) (by kernel_rfl) (by kernel_rfl) (fun _ _ _ h => h) (.inl ⟨by rfl, fun w hSw => by go_simp⟩) (by assumption) ?_
  simp only [Act.put, List.setIfInBounds_toArray, List.set_cons_zero, List.set_cons_succ]
  refine wpAnyH_take (i := 3) (oi := ⟨some 22, .load 62 (.tmp 21), _, _, _, _⟩) (v := .pointer (some ⟨gv, 0, none⟩)) rfl (by kernel_rfl) (by kernel_rfl) (by kernel_rfl) (fun _ _ _ h => h) (.inl ⟨by rfl, fun w hSw => by have z := hSw.1; go_simp⟩) (by assumption) ?_
  simp only [Act.put, List.setIfInBounds_toArray, List.set_cons_zero, List.set_cons_succ]
  refine wpAnyH_take (i := 4) (oi := ⟨some 23, .move (.tmp 5), _, _, _, _⟩) (v := .int .i64 (m : Int)) rfl (by kernel_rfl) (by kernel_rfl) (by kernel_rfl) (fun _ _ _ h => h) (.inl ⟨by rfl, fun w hSw => by go_simp⟩) (by assumption) ?_
  simp only [Act.put, List.setIfInBounds_toArray, List.set_cons_zero, List.set_cons_succ]
  refine wpAnyH_take (i := 5) (oi := ⟨some 24, .move (.tmp 0), _, _, _, _⟩) (v := .pointer (some ⟨g, 0, none⟩)) rfl (by kernel_rfl) (by kernel_rfl) (by kernel_rfl) (fun _ _ _ h => h) (.inl ⟨by rfl, fun w hSw => by go_simp⟩) (by assumption) ?_
  simp only [Act.put, List.setIfInBounds_toArray, List.set_cons_zero, List.set_cons_succ]
  refine wpAnyH_take (i := 6) (oi := ⟨some 25, .nilCheck (.tmp 24), _, _, _, _⟩) (v := .pointer (some ⟨g, 0, none⟩)) rfl (by kernel_rfl) (by kernel_rfl) (by kernel_rfl) (fun _ _ _ h => h) (.inl ⟨by rfl, fun w hSw => by go_simp⟩) (by assumption) ?_
  simp only [Act.put, List.setIfInBounds_toArray, List.set_cons_zero, List.set_cons_succ]
  refine wpAnyH_take (i := 7) (oi := ⟨some 26, .fieldAddr 90 (.tmp 25) 5, _, _, _, _⟩) (v := .pointer (some ⟨g, 5, none⟩)) rfl (by kernel_rfl) (by kernel_rfl) (by kernel_rfl) (fun _ _ _ h => h) (.inl ⟨by rfl, fun w hSw => by go_simp⟩) (by assumption) ?_
  simp only [Act.put, List.setIfInBounds_toArray, List.set_cons_zero, List.set_cons_succ]
  refine wpAnyH_take (i := 8) (oi := ⟨some 27, .load 44 (.tmp 26), _, _, _, _⟩) (v := .int .u32 (e0 : Int)) rfl (by kernel_rfl) (by kernel_rfl) (by kernel_rfl) (fun _ _ _ h => h) (.inl ⟨by rfl, fun w hSw => by have z := hSw.2.1; go_simp⟩) (by assumption) ?_
  simp only [Act.put, List.setIfInBounds_toArray, List.set_cons_zero, List.set_cons_succ]
  refine wpAnyH_take (i := 9) (oi := ⟨some 28, .move (.tmp 0), _, _, _, _⟩) (v := .pointer (some ⟨g, 0, none⟩)) rfl (by kernel_rfl) (by kernel_rfl) (by kernel_rfl) (fun _ _ _ h => h) (.inl ⟨by rfl, fun w hSw => by go_simp⟩) (by assumption) ?_
  simp only [Act.put, List.setIfInBounds_toArray, List.set_cons_zero, List.set_cons_succ]
  refine wpAnyH_take (i := 10) (oi := ⟨some 29, .nilCheck (.tmp 28), _, _, _, _⟩) (v := .pointer (some ⟨g, 0, none⟩)) rfl (by kernel_rfl) (by kernel_rfl) (by kernel_rfl) (fun _ _ _ h => h) (.inl ⟨by rfl, fun w hSw => by go_simp⟩) (by assumption) ?_
  simp only [Act.put, List.setIfInBounds_toArray, List.set_cons_zero, List.set_cons_succ]
  refine wpAnyH_take (i := 11) (oi := ⟨some 30, .fieldAddr 90 (.tmp 29) 6, _, _, _, _⟩) (v := .pointer (some ⟨g, 6, none⟩)) rfl (by kernel_rfl) (by kernel_rfl) (by kernel_rfl) (fun _ _ _ h => h) (.inl ⟨by rfl, fun w hSw => by go_simp⟩) (by assumption) ?_
  simp only [Act.put, List.setIfInBounds_toArray, List.set_cons_zero, List.set_cons_succ]
  refine wpAnyH_take (i := 12) (oi := ⟨some 31, .load 44 (.tmp 30), _, _, _, _⟩) (v := .int .u32 (s0 : Int)) rfl (by kernel_rfl) (by kernel_rfl) (by kernel_rfl) (fun _ _ _ h => h) (.inl ⟨by rfl, fun w hSw => by have z := hSw.2.2; go_simp⟩) (by assumption) ?_
  simp only [Act.put, List.setIfInBounds_toArray, List.set_cons_zero, List.set_cons_succ]
  refine wpAnyH_take (i := 13) (oi := ⟨some 32, .move (.tmp 1), _, _, _, _⟩) (v := .slice y.A 256 y.c) rfl (by kernel_rfl) (by kernel_rfl) (by kernel_rfl) (fun _ _ _ h => h) (.inl ⟨by rfl, fun w hSw => by go_simp⟩) (by assumption) ?_
  simp only [Act.put, List.setIfInBounds_toArray, List.set_cons_zero, List.set_cons_succ]
  refine wpAnyH_ready (rs := [14, 19]) (by kernel_rfl) (by simp) ?_
  refine AllReadyH.cons (o := ⟨some 33, .call ⟨.value (.func 113), #[.tmp 22, .tmp 23, .tmp 27, .tmp 31, .tmp 32], _⟩, _, _, _, _⟩) rfl (fun K hK => ?_) (AllReadyH.cons (o := ⟨some 8, .alloc 87, _, _, _, _⟩) rfl (fun K hK => ?_) AllReadyH.nil)
  · skip
    go_simp
    refine (seal_any gv (pmask L) m e0 s0 HMN.out.2.1 y.A y.c y.l HES.out.1 HES.out.2 HY.out.2 _ ((HV2.out.below (below_drw w2)).vl.mask) ((HY2.out.below (below_drw w2)).hol) ((HV2.out.below (below_drw w2)).base.tabs)).mono ?_
    rintro e w3 ⟨g7, rfl, hr7, hg7, hb7⟩
    have HBw3 := Lib.hid (p := Below w2.heap.size w2 w3) (below_nxt hb7.out (below_drw w2))
    have HR7w3 := Lib.hid hr7.out
    have HG7 := Lib.hid (p := w2.heap.size ≤ g7) (Nat.le_trans (below_drw w2).size hg7.out)
    clear hr7 hg7 hb7
    refine hK.out _ _ (HF.out _ HBw3.out) (fun _hH => ?_)
    clear hK K
    refine wpAnyH_take (i := 15) (oi := ⟨some 18, .move (.tmp 33), _, _, _, _⟩) (v := .tuple #[.slice (some ⟨g7, 0, none⟩) 256 256, .agg (sealR m e0 s0 (lst 256 (hid (pmask L e0 s0) y.l))).cs.toArray, .int .i64 0]) rfl (by kernel_rfl) (by kernel_rfl) (by kernel_rfl) (fun _ _ _ h => h) (.inl ⟨by rfl, fun w hSw => by go_simp⟩) (by assumption) ?_
    simp only [Act.put, List.setIfInBounds_toArray, List.set_cons_zero, List.set_cons_succ]
    refine wpAnyH_take (i := 16) (oi := ⟨some 34, .extract (.tmp 18) 0, _, _, _, _⟩) (v := .slice (some ⟨g7, 0, none⟩) 256 256) rfl (by kernel_rfl) (by kernel_rfl) (by kernel_rfl) (fun _ _ _ h => h) (.inl ⟨by rfl, fun w hSw => by go_simp⟩) (by assumption) ?_
    simp only [Act.put, List.setIfInBounds_toArray, List.set_cons_zero, List.set_cons_succ]
    refine wpAnyH_take (i := 17) (oi := ⟨some 35, .extract (.tmp 18) 1, _, _, _, _⟩) (v := .agg (sealR m e0 s0 (lst 256 (hid (pmask L e0 s0) y.l))).cs.toArray) rfl (by kernel_rfl) (by kernel_rfl) (by kernel_rfl) (fun _ _ _ h => h) (.inl ⟨by rfl, fun w hSw => by go_simp⟩) (by assumption) ?_
    simp only [Act.put, List.setIfInBounds_toArray, List.set_cons_zero, List.set_cons_succ]
    refine wpAnyH_take (i := 18) (oi := ⟨some 36, .extract (.tmp 18) 2, _, _, _, _⟩) (v := .int .i64 0) rfl (by kernel_rfl) (by kernel_rfl) (by kernel_rfl) (fun _ _ _ h => h) (.inl ⟨by rfl, fun w hSw => by go_simp⟩) (by assumption) ?_
    simp only [Act.put, List.setIfInBounds_toArray, List.set_cons_zero, List.set_cons_succ]
    refine wpAnyH_ready (rs := [19]) (by kernel_rfl) (by simp) ?_
    refine AllReadyH.cons (o := ⟨some 8, .alloc 87, _, _, _, _⟩) rfl (fun K hK => ?_) AllReadyH.nil
    refine st_alloc (by rfl) 87 rfl _ hz.out ?_
    intro g8 w4 hr8 hg8 hb8
    have HBw4 := Lib.hid (p := Below w2.heap.size w2 w4) (below_nxt hb8 HBw3.out)
    have HR8w4 := Lib.hid hr8
    have HG8 := Lib.hid (p := w2.heap.size ≤ g8) (by rw [hg8.out]; exact HBw3.out.size)
    have HR7w4 := Lib.hid (HR7w3.out.kept hb8)
    clear hr8 hg8 hb8
    refine hK.out _ _ (HF.out _ HBw4.out) (fun _hH => ?_)
    clear hK K
    refine wpAnyH_take (i := 20) (oi := ⟨some 7, .assign (.tmp 34), _, _, _, _⟩) (v := .slice (some ⟨g7, 0, none⟩) 256 256) rfl (by kernel_rfl) (by kernel_rfl) (by kernel_rfl) (fun _ _ _ h => h) (.inl ⟨by rfl, fun w hSw => by go_simp⟩) (by assumption) ?_
    simp only [Act.put, List.setIfInBounds_toArray, List.set_cons_zero, List.set_cons_succ]
    refine wpAnyH_ready (rs := [21]) (by kernel_rfl) (by simp) ?_
    refine AllReadyH.cons (o := ⟨none, .store 87 (.tmp 8) (.tmp 35), _, _, _, _⟩) rfl (fun K hK => ?_) AllReadyH.nil
    refine st_store (by rfl) 87 (.tmp 8) (.tmp 35) rfl g8 (by rfl) 87 _ (sealR m e0 s0 (lst 256 (hid (pmask L e0 s0) y.l))).cs (by rfl) HR8w4.out (by rw [RecV.cs_len, RecV.cs_len]) (i35.out _) (RecV.cs_one _) ?_
    intro w5 hr8 hg8
    have HR8 := Lib.hid hr8
    have HB5 := Lib.hid (p := Below w2.heap.size w2 w5) (HBw4.out.grown hg8 HBw4.out.size (fun q hq => by injection hq with hq; subst hq; exact HG8.out))
    have HR7 := Lib.hid (HR7w4.out.grown hg8 (fun e => (HR7w4.out.ne_ HR8w4.out (by decide)) (Option.some.inj e)))
    clear hr8 hg8
    refine hK.out _ _ (HF.out _ HB5.out) (fun _hH => ?_)
    clear hK K
    refine wpAnyH_take (i := 22) (oi := ⟨some 9, .assign (.tmp 36), _, _, _, _⟩) (v := .int .i64 0) rfl (by kernel_rfl) (by kernel_rfl) (by kernel_rfl) (fun _ _ _ h => h) (.inl ⟨by rfl, fun w hSw => by go_simp⟩) (by assumption) ?_
    simp only [Act.put, List.setIfInBounds_toArray, List.set_cons_zero, List.set_cons_succ]
    refine wpAnyH_done (by kernel_rfl) ?_ _
    have HV5 := Lib.hid (HV2.out.below HB5.out)
    have HR45 := Lib.hid (HR42.out.kept HB5.out)
    have HH7 := Lib.hid (p := Hol w5 (some ⟨g7, 0, none⟩) (lst 256 (hid (pmask L e0 s0) y.l))) ((own_brr HR7.out (Nat.zero_le _)).hol)
    have c05 : w5.cell? ⟨g, 0, none⟩ = some (.pointer (some ⟨X.c.gd, 0, none⟩)) := by have z := VAt.gd HV5.out.row; exact z
    obtain ⟨hl, hhl⟩ : ∃ hl, lst 256 (hid (pmask L e0 s0) y.l) = hl := ⟨_, rfl⟩
    have HHL := Lib.hid (p := hl.length = 256) (by rw [← hhl, lst_len])
    have HHE := Lib.hid hhl
    have HRL := Lib.hid (p := X.rs.length ≤ 1000000 ∧ X.ts.length ≤ 1000000) (by have z := H.out.lim; omega)
    rw [hhl] at HH7 HR8 ⊢
    go_wp2_with (go_at_call 114; refine (PD.write HV5.out.dsk m HMN.out.1 (some ⟨g7, 0, none⟩) 256 256 hl HHL.out.symm HHL.out HH7.out HRL.out.1 HRL.out.2).mono ?_; rintro e w6 ⟨x, rfl, hxl, FD6, hd6, hc6, hw6⟩)
    have lm := H.out.lim
    have lq := HQ.out
    have HXL := Lib.hid hxl.out
    have HV6 := Lib.hid (HV5.out.dturn hd6.out hc6.out hw6.out rfl (q' := q + 1) (Nat.le_succ _) ⟨HQ.out, by rw [List.length_append]; simp; omega, by rw [List.length_append]; simp; omega⟩)
    have fr : ∀ {p : Nat}, w.heap.size ≤ p → p ∉ FD := fun hp hx => by have := H.out.lt_d _ hx; omega
    have HR46 := Lib.hid (hc6.out.row HR45.out (fr HG4.out))
    have HR86 := Lib.hid (hc6.out.row HR8.out (fr (Nat.le_trans HSZ2.out HG8.out)))
    have HC6 := Lib.hid (p := Chg (vfoot g X.c FD FA) w w6) ((HC2.out.trans (Chg.of (F := []) HB5.out) (fun j hj => by cases hj)).trans hc6.out (fun j hj => .inl (H.out.in_d j hj)))
    have HW6 := Lib.hid (p := Wider w (vfoot g X.c FD FA) (vfoot g X.c FD6 FA)) (fun j hj => by
      rcases VB.wide_d (FA := FA) (g := g) (X := X) hw6.out j hj with h | h
      · exact .inl h
      · exact .inr (Nat.le_trans HSZ2.out (Nat.le_trans HB5.out.size h)))
    have HY6 := Lib.hid (p := Own8 b w6 y) ((HY2.out.below HB5.out).chg hc6.out (fun j hj => HV5.out.no _ (.inl rfl) j (HV5.out.in_d j hj)))
    clear hd6 hc6 hw6 hxl lm fr c05 hhl
    obtain ⟨AU, cU, hAU⟩ := own_sl HV6.out.us
    obtain ⟨nU, hnU⟩ : ∃ nU, X.ul.length = nU := ⟨_, rfl⟩
    have HNU := Lib.hid hnU
    have hus : X.c.us = .slice AU nU cU := by rw [← hnU]; exact hAU
    have HUS := Lib.hid hus
    have HOU := Lib.hid (p := w6.ownsRow b 111 3 (.slice AU nU cU) nU (X.ul.flatMap uc)) (by have z := HV6.out.us; have z2 : w6.ownsRow b 111 3 X.c.us X.ul.length (X.ul.flatMap uc) := z; rw [hus, hnU] at z2; exact z2)
    have HF6 := Lib.hid (p := ∀ w3, Below w6.heap.size w6 w3 → w3.cell? ⟨g, 5, none⟩ = some (.int .u32 (e0 : Int)) ∧ w3.cell? ⟨g, 6, none⟩ = some (.int .u32 (s0 : Int))) (fun w3 hb => by
      have h3 := HV6.out.row.kept hb
      have z2 := VAt.e h3
      have z3 := VAt.s h3
      rw [← HE.out.1, ← HE.out.2]
      exact ⟨z2, z3⟩)
    have HF51 := Lib.hid (p := ∀ w3, Below w6.heap.size w6 w3 → w3.cell? ⟨g, 51, none⟩ = some (.slice AU nU cU)) (fun w3 hb => by have z := VAt.us (HV6.out.row.kept hb); rw [← HUS.out]; exact z)
    clear hAU hnU hus
    have hbu := built_use e0 s0 y.A 256 y.c
    have c51d := HF51.out _ (below_drw w6)
    go_wp2_with fail
    refine wp_region_held_drew (S := fun W => W.cell? ⟨g, 5, none⟩ = some (.int .u32 (e0 : Int)) ∧ W.cell? ⟨g, 6, none⟩ = some (.int .u32 (s0 : Int))) (by kernel_rfl) (HF6.out _ (below_drw _)) (fun hHeld => ?_)
    refine wpAnyH_take (i := 0) (oi := ⟨some 44, .move (.tmp 0), _, _, _, _⟩) (v := .pointer (some ⟨g, 0, none⟩)) rfl (by kernel_rfl) (by kernel_rfl) (by kernel_rfl) (fun _ _ _ h => h) (.inl ⟨by rfl, fun w hSw => by go_simp⟩) (by assumption) ?_
    simp only [Act.put, List.setIfInBounds_toArray, List.set_cons_zero, List.set_cons_succ]
    refine wpAnyH_take (i := 1) (oi := ⟨some 45, .move (.tmp 0), _, _, _, _⟩) (v := .pointer (some ⟨g, 0, none⟩)) rfl (by kernel_rfl) (by kernel_rfl) (by kernel_rfl) (fun _ _ _ h => h) (.inl ⟨by rfl, fun w hSw => by go_simp⟩) (by assumption) ?_
    simp only [Act.put, List.setIfInBounds_toArray, List.set_cons_zero, List.set_cons_succ]
    refine wpAnyH_take (i := 2) (oi := ⟨some 46, .nilCheck (.tmp 45), _, _, _, _⟩) (v := .pointer (some ⟨g, 0, none⟩)) rfl (by kernel_rfl) (by kernel_rfl) (by kernel_rfl) (fun _ _ _ h => h) (.inl ⟨by rfl, fun w hSw => by go_simp⟩) (by assumption) ?_
    simp only [Act.put, List.setIfInBounds_toArray, List.set_cons_zero, List.set_cons_succ]
    refine wpAnyH_take (i := 3) (oi := ⟨some 47, .fieldAddr 90 (.tmp 46) 17, _, _, _, _⟩) (v := .pointer (some ⟨g, 51, none⟩)) rfl (by kernel_rfl) (by kernel_rfl) (by kernel_rfl) (fun _ _ _ h => h) (.inl ⟨by rfl, fun w hSw => by go_simp⟩) (by assumption) ?_
    simp only [Act.put, List.setIfInBounds_toArray, List.set_cons_zero, List.set_cons_succ]
    refine wpAnyH_take (i := 5) (oi := ⟨some 49, .move (.tmp 0), _, _, _, _⟩) (v := .pointer (some ⟨g, 0, none⟩)) rfl (by kernel_rfl) (by kernel_rfl) (by kernel_rfl) (fun _ _ _ h => h) (.inl ⟨by rfl, fun w hSw => by go_simp⟩) (by assumption) ?_
    simp only [Act.put, List.setIfInBounds_toArray, List.set_cons_zero, List.set_cons_succ]
    refine wpAnyH_take (i := 6) (oi := ⟨some 50, .nilCheck (.tmp 49), _, _, _, _⟩) (v := .pointer (some ⟨g, 0, none⟩)) rfl (by kernel_rfl) (by kernel_rfl) (by kernel_rfl) (fun _ _ _ h => h) (.inl ⟨by rfl, fun w hSw => by go_simp⟩) (by assumption) ?_
    simp only [Act.put, List.setIfInBounds_toArray, List.set_cons_zero, List.set_cons_succ]
    refine wpAnyH_take (i := 7) (oi := ⟨some 51, .fieldAddr 90 (.tmp 50) 5, _, _, _, _⟩) (v := .pointer (some ⟨g, 5, none⟩)) rfl (by kernel_rfl) (by kernel_rfl) (by kernel_rfl) (fun _ _ _ h => h) (.inl ⟨by rfl, fun w hSw => by go_simp⟩) (by assumption) ?_
    simp only [Act.put, List.setIfInBounds_toArray, List.set_cons_zero, List.set_cons_succ]
    refine wpAnyH_take (i := 8) (oi := ⟨some 52, .load 44 (.tmp 51), _, _, _, _⟩) (v := .int .u32 (e0 : Int)) rfl (by kernel_rfl) (by kernel_rfl) (by kernel_rfl) (fun _ _ _ h => h) (.inl ⟨by rfl, fun w hSw => by have z := hSw.1; go_simp⟩) (by assumption) ?_
    simp only [Act.put, List.setIfInBounds_toArray, List.set_cons_zero, List.set_cons_succ]
    refine wpAnyH_take (i := 9) (oi := ⟨some 53, .move (.tmp 0), _, _, _, _⟩) (v := .pointer (some ⟨g, 0, none⟩)) rfl (by kernel_rfl) (by kernel_rfl) (by kernel_rfl) (fun _ _ _ h => h) (.inl ⟨by rfl, fun w hSw => by go_simp⟩) (by assumption) ?_
    simp only [Act.put, List.setIfInBounds_toArray, List.set_cons_zero, List.set_cons_succ]
    refine wpAnyH_take (i := 10) (oi := ⟨some 54, .nilCheck (.tmp 53), _, _, _, _⟩) (v := .pointer (some ⟨g, 0, none⟩)) rfl (by kernel_rfl) (by kernel_rfl) (by kernel_rfl) (fun _ _ _ h => h) (.inl ⟨by rfl, fun w hSw => by go_simp⟩) (by assumption) ?_
    simp only [Act.put, List.setIfInBounds_toArray, List.set_cons_zero, List.set_cons_succ]
    refine wpAnyH_take (i := 11) (oi := ⟨some 55, .fieldAddr 90 (.tmp 54) 6, _, _, _, _⟩) (v := .pointer (some ⟨g, 6, none⟩)) rfl (by kernel_rfl) (by kernel_rfl) (by kernel_rfl) (fun _ _ _ h => h) (.inl ⟨by rfl, fun w hSw => by go_simp⟩) (by assumption) ?_
    simp only [Act.put, List.setIfInBounds_toArray, List.set_cons_zero, List.set_cons_succ]
    refine wpAnyH_take (i := 12) (oi := ⟨some 56, .load 44 (.tmp 55), _, _, _, _⟩) (v := .int .u32 (s0 : Int)) rfl (by kernel_rfl) (by kernel_rfl) (by kernel_rfl) (fun _ _ _ h => h) (.inl ⟨by rfl, fun w hSw => by have z := hSw.2; go_simp⟩) (by assumption) ?_
    simp only [Act.put, List.setIfInBounds_toArray, List.set_cons_zero, List.set_cons_succ]
    refine wpAnyH_take (i := 13) (oi := ⟨some 57, .move (.tmp 1), _, _, _, _⟩) (v := .slice y.A 256 y.c) rfl (by kernel_rfl) (by kernel_rfl) (by kernel_rfl) (fun _ _ _ h => h) (.inl ⟨by rfl, fun w hSw => by go_simp⟩) (by assumption) ?_
    simp only [Act.put, List.setIfInBounds_toArray, List.set_cons_zero, List.set_cons_succ]
    refine wpAnyH_take (i := 14) (oi := ⟨some 58, .build 111 #[(0, .tmp 52), (1, .tmp 56), (2, .tmp 57)], _, _, _, _⟩) (v := .agg #[.int .u32 (e0 : Int), .int .u32 (s0 : Int), .slice y.A 256 y.c]) rfl (by kernel_rfl) (by kernel_rfl) (by kernel_rfl) (fun _ _ _ h => h) (.inl ⟨by rfl, fun w hSw => by go_simp⟩) (by assumption) ?_
    simp only [Act.put, List.setIfInBounds_toArray, List.set_cons_zero, List.set_cons_succ]
    refine wpAnyH_ready (rs := [4, 15]) (by kernel_rfl) (by simp) ?_
    refine AllReadyH.cons (o := ⟨some 48, .load 46 (.tmp 47), _, _, _, _⟩) rfl (fun K hK => ?_) (AllReadyH.cons (o := ⟨some 59, .buildSlice 46 1 #[(0, .tmp 58)], _, _, _, _⟩) rfl (fun K hK => ?_) AllReadyH.nil)
    · skip
      go_simp
      refine hK.out _ _ (HF6.out _ (below_drw _)) (fun _hH => ?_)
      clear hK K
      refine wpAnyH_ready (rs := [15]) (by kernel_rfl) (by simp) ?_
      refine AllReadyH.cons (o := ⟨some 59, .buildSlice 46 1 #[(0, .tmp 58)], _, _, _, _⟩) rfl (fun K hK => ?_) AllReadyH.nil
      go_simp
      have HMS := Lib.hid (made_src w6.drew 111 [.int .u32 (e0 : Int), .int .u32 (s0 : Int), .slice y.A 256 y.c])
      have HB7 := Lib.hid (p := Below w6.heap.size w6 (w6.drew.alloc (.cells #[.int .u32 (e0 : Int), .int .u32 (s0 : Int), .slice y.A 256 y.c] 111))) ((below_drw w6).alloc (Nat.le_refl _) _)
      change K _ (w6.drew.alloc (.cells #[.int .u32 (e0 : Int), .int .u32 (s0 : Int), .slice y.A 256 y.c] 111))
      obtain ⟨w7, hw7⟩ : ∃ w7, w6.drew.alloc (.cells #[.int .u32 (e0 : Int), .int .u32 (s0 : Int), .slice y.A 256 y.c] 111) = w7 := ⟨_, rfl⟩
      rw [hw7] at HB7 HMS ⊢
      have c517 := HF51.out _ HB7.out
      clear hw7
      refine hK.out _ _ (HF6.out _ HB7.out) (fun _hH => ?_)
      clear hK K
      refine wpAnyH_ready (rs := [16]) (by kernel_rfl) (by simp) ?_
      refine AllReadyH.cons (o := ⟨some 60, .call ⟨.builtin .append, #[.tmp 48, .tmp 59], #[46, 46]⟩, _, _, _, _⟩) rfl (fun K hK => ?_) AllReadyH.nil
      refine step_join rfl (.tmp 48) (.tmp 59) rfl rec_use b (.slice AU nU cU) nU _ rfl (own_kept HOU.out HB7.out) (some ⟨w6.heap.size, 0, none⟩) 1 1 (uc (e0, s0, y)) rfl rfl (by
        have z := HMS.out
        have e1 : uc (e0, s0, y) = [.int .u32 (e0 : Int), .int .u32 (s0 : Int), .slice y.A 256 y.c] := by unfold uc bvv; rw [HY.out.2]
        rw [e1]
        exact z) (uc_one _) (by have z := HV6.out.lim.2.1; have z2 := HQ.out; have z3 := HNU.out; have z4 : X.ul.length ≤ q + 1 := z; omega) (Nat.le_trans HV6.out.base.le HB7.out.size) ?_
      intro v9 w9 hr9 hg9 hat9
      obtain ⟨A9, c9, rfl⟩ := own_sl hr9
      have HR9 := Lib.hid hr9
      have HG9 := Lib.hid hg9
      have HAT9 := Lib.hid (p := (Value.slice A9 (nU + 1) c9).ownBlock = (Value.slice AU nU cU).ownBlock ∨ ∃ q, (Value.slice A9 (nU + 1) c9).ownBlock = some q ∧ w6.heap.size ≤ q) (by rcases hat9 with h | h; exact .inl h; exact .inr ⟨_, h, HB7.out.size⟩)
      have HRG := Lib.hid (p := Row w9 g 90 _) ((HV6.out.row.kept HB7.out).grown hg9 (row_parted HV6.out.row HOU.out (by decide)).symm)
      have HF9 := Lib.hid (p := w9.cell? ⟨g, 5, none⟩ = some (.int .u32 (e0 : Int)) ∧ w9.cell? ⟨g, 6, none⟩ = some (.int .u32 (s0 : Int))) (by
        have z2 := VAt.e HRG.out
        have z3 := VAt.s HRG.out
        rw [← HE.out.1, ← HE.out.2]
        exact ⟨z2, z3⟩)
      have f519 : w9.frozen? ⟨g, 51, none⟩ = false := HRG.out.free 51
      have c519 : w9.cell? ⟨g, 51, none⟩ = some (.slice AU nU cU) := by have z := VAt.us HRG.out; rw [← HUS.out]; exact z
      have HR49 := Lib.hid ((HR46.out.kept HB7.out).grown hg9 (row_parted HR46.out HOU.out (by decide)).symm)
      have HR89 := Lib.hid ((HR86.out.kept HB7.out).grown hg9 (row_parted HR86.out HOU.out (by decide)).symm)
      clear hr9 hg9 hat9
      refine hK.out _ _ (HF9.out) (fun _hH => ?_)
      clear hK K
      refine wpAnyH_take (i := 17) (oi := ⟨some 61, .nilCheck (.tmp 44), _, _, _, _⟩) (v := .pointer (some ⟨g, 0, none⟩)) rfl (by kernel_rfl) (by kernel_rfl) (by kernel_rfl) (fun _ _ _ h => h) (.inl ⟨by rfl, fun w hSw => by go_simp⟩) (by assumption) ?_
      simp only [Act.put, List.setIfInBounds_toArray, List.set_cons_zero, List.set_cons_succ]
      refine wpAnyH_take (i := 18) (oi := ⟨some 62, .fieldAddr 90 (.tmp 61) 17, _, _, _, _⟩) (v := .pointer (some ⟨g, 51, none⟩)) rfl (by kernel_rfl) (by kernel_rfl) (by kernel_rfl) (fun _ _ _ h => h) (.inl ⟨by rfl, fun w hSw => by go_simp⟩) (by assumption) ?_
      simp only [Act.put, List.setIfInBounds_toArray, List.set_cons_zero, List.set_cons_succ]
      refine wpAnyH_ready (rs := [19]) (by kernel_rfl) (by simp) ?_
      refine AllReadyH.cons (o := ⟨none, .store 46 (.tmp 62) (.tmp 60), _, _, _, _⟩) rfl (fun K hK => ?_) AllReadyH.nil
      go_simp
      have HV10 := Lib.hid (p := VB b (w9.setCell ⟨g, 51, none⟩ (.slice A9 (nU + 1) c9)) FD6 FA g (q + 1) gv L { X with S := S8.putN X.S m 1, rs := X.rs ++ [(m, x)], E := more X.E m x, ts := X.ts ++ [(2, (m : Int), x)], c := { X.c with us := .slice A9 (nU + 1) c9 }, ul := X.ul ++ [(e0, s0, y)] }) (seal_uses HV6.out HUS.out HNU.out HRG.out HR9.out HG9.out HB7.out HAT9.out HY6.out (by rw [HY.out.2]; exact Nat.le_refl _) (by have z := HV5.out.lim.2.1; have z2 : X.ul.length ≤ q := z; have z3 := HNU.out; omega))
      have HF10 := Lib.hid (p := (w9.setCell ⟨g, 51, none⟩ (.slice A9 (nU + 1) c9)).cell? ⟨g, 5, none⟩ = some (.int .u32 (e0 : Int)) ∧ (w9.setCell ⟨g, 51, none⟩ (.slice A9 (nU + 1) c9)).cell? ⟨g, 6, none⟩ = some (.int .u32 (s0 : Int))) (by
        have z2 := VAt.e HV10.out.row
        have z3 := VAt.s HV10.out.row
        rw [← HE.out.1, ← HE.out.2]
        exact ⟨z2, z3⟩)
      refine hK.out _ _ HF10.out (fun _hH => ?_)
      clear hK K
      refine wpAnyH_done (by kernel_rfl) ?_ _
      obtain ⟨w10, hw10⟩ : ∃ w10, w9.setCell ⟨g, 51, none⟩ (.slice A9 (nU + 1) c9) = w10 := ⟨_, rfl⟩
      have HR410 := Lib.hid (p := Row w10 g4 87 rec0.cs) (by rw [← hw10]; exact HR49.out.grown (grown_set w9 ⟨g, 51, none⟩ _) (fun e => by have h1 : g4 = g := Option.some.inj e; have h2 := H.out.row.lt; have h3 := HG4.out; omega))
      have HR810 := Lib.hid (p := Row w10 g8 87 (sealR m e0 s0 hl).cs) (by rw [← hw10]; exact HR89.out.grown (grown_set w9 ⟨g, 51, none⟩ _) (fun e => by have h1 : g8 = g := Option.some.inj e; have h2 := H.out.row.lt; have h3 := HG8.out; have h4 := HSZ2.out; omega))
      have HC10 := Lib.hid (p := Chg (g :: X.c.us.ownBlock.toList) w6 w10) (by rw [← hw10, HUS.out]; exact (((Chg.of (F := g :: (Value.slice AU nU cU).ownBlock.toList) HB7.out)).grown HG9.out (fun k hk => .inl (by rw [hk]; simp))).setCell (p := ⟨g, 51, none⟩) (.inl (by simp)) _)
      have HW10 := Lib.hid (p := Wider w6 (vfoot g X.c FD6 FA) (vfoot g { X.c with us := .slice A9 (nU + 1) c9 } FD6 FA)) (fun j hj => by
        rcases mem_vfoot.1 hj with h | h | h
        · exact .inl (mem_vfoot.2 (.inl h))
        · exact .inl (mem_vfoot.2 (.inr (.inl h)))
        · rcases mem_vown.1 h with e | e | e | e | e | e
          · exact .inl (mem_vfoot.2 (.inr (.inr (mem_vown.2 (.inl e)))))
          · exact .inl (mem_vfoot.2 (.inr (.inr (mem_vown.2 (.inr (.inl e))))))
          · exact .inl (mem_vfoot.2 (.inr (.inr (mem_vown.2 (.inr (.inr (.inl e)))))))
          · exact .inl (mem_vfoot.2 (.inr (.inr (mem_vown.2 (.inr (.inr (.inr (.inl e))))))))
          · exact .inl (mem_vfoot.2 (.inr (.inr (mem_vown.2 (.inr (.inr (.inr (.inr (.inl e)))))))))
          · have e : (Value.slice A9 (nU + 1) c9).ownBlock = some j := e
            rcases HAT9.out with h1 | ⟨p, h1, h2⟩
            · exact .inl (mem_vfoot.2 (.inr (.inr (mem_vown.2 (.inr (.inr (.inr (.inr (.inr (by rw [HUS.out]; exact h1 ▸ e))))))))))
            · rw [h1] at e
              cases e
              exact .inr h2)
      rw [hw10] at HV10 HF10 ⊢
      have c610 := HF10.out.2
      have f610 := HV10.out.gfr 6
      clear hw10 c519 f519 c51d hbu
      have HV11 := Lib.hid (HV10.out.p_s (s0 + 1))
      have HR411 := Lib.hid (HR410.out.grown (grown_set w10 ⟨g, 6, none⟩ (.int .u32 ((s0 + 1 : Nat) : Int))) (fun e => by have h1 : g4 = g := Option.some.inj e; have h2 := H.out.row.lt; have h3 := HG4.out; omega))
      have HR811 := Lib.hid (HR810.out.grown (grown_set w10 ⟨g, 6, none⟩ (.int .u32 ((s0 + 1 : Nat) : Int))) (fun e => by have h1 : g8 = g := Option.some.inj e; have h2 := H.out.row.lt; have h3 := HG8.out; have h4 := HSZ2.out; omega))
      go_wp2_with (first
        | (refine step_load rfl 70 rfl 87 (.tmp 8) rfl g8 rfl (sealR m e0 s0 hl).cs _ HR811.out.all Tryz.underlying87 rfl (i35.out _) ?_)
        | (refine step_store rfl 87 (.tmp 4) (.tmp 70) rfl g4 rfl _ _ (sealR m e0 s0 hl).cs rfl HR411.out (by rw [RecV.cs_len, RecV.cs_len]) (i35.out _) (RecV.cs_one _) ?_; intro w12 hr12 hg12 hs12))
      refine bodyPost_ret (results_cell_row rfl _ _ g4 _ _ _ _ rfl hr12 Tryz.underlying87 rfl (by simpa using i35.out _)) rfl ?_
      refine ⟨x, .slice A9 (nU + 1) c9, by rw [HE.out.1, HE.out.2, HXL.out], Lib.hid (by rw [HE.out.1, HE.out.2, HXL.out]; exact HHE.out.symm), ?_⟩
      have hE2 : X.sealed m x y (.slice A9 (nU + 1) c9) = { X with S := S8.putN X.S m 1, rs := X.rs ++ [(m, x)], E := more X.E m x, ts := X.ts ++ [(2, (m : Int), x)], c := { X.c with s := s0 + 1, us := .slice A9 (nU + 1) c9 }, ul := X.ul ++ [(e0, s0, y)] } := by unfold VX.sealed; rw [HE.out.1, HE.out.2]
      rw [hE2]
      refine seal_end H.out HV11.out HR411.out HG4.out (no_in HR411.out HV11.out) hg12 ((HC6.out.trans HC10.out (fun j hj => ?_)).setCell (p := ⟨g, 6, none⟩) (.inl (H.out.in_v _ (mem_vown.2 (.inl rfl)))) _) (HW6.out.trans HW10.out HC6.out.size)
      rcases List.mem_cons.1 hj with rfl | hj
      · exact .inl (H.out.in_v _ (mem_vown.2 (.inl rfl)))
      · exact .inl (H.out.in_v _ (mem_vown.2 (.inr (.inr (.inr (.inr (.inr (by simpa [Option.mem_toList] using hj))))))))
    · skip
      go_simp
      have HMS := Lib.hid (made_src w6.drew 111 [.int .u32 (e0 : Int), .int .u32 (s0 : Int), .slice y.A 256 y.c])
      have HB7 := Lib.hid (p := Below w6.heap.size w6 (w6.drew.alloc (.cells #[.int .u32 (e0 : Int), .int .u32 (s0 : Int), .slice y.A 256 y.c] 111))) ((below_drw w6).alloc (Nat.le_refl _) _)
      change K _ (w6.drew.alloc (.cells #[.int .u32 (e0 : Int), .int .u32 (s0 : Int), .slice y.A 256 y.c] 111))
      obtain ⟨w7, hw7⟩ : ∃ w7, w6.drew.alloc (.cells #[.int .u32 (e0 : Int), .int .u32 (s0 : Int), .slice y.A 256 y.c] 111) = w7 := ⟨_, rfl⟩
      rw [hw7] at HB7 HMS ⊢
      have c517 := HF51.out _ HB7.out
      clear hw7
      refine hK.out _ _ (HF6.out _ HB7.out) (fun _hH => ?_)
      clear hK K
      refine wpAnyH_ready (rs := [4]) (by kernel_rfl) (by simp) ?_
      refine AllReadyH.cons (o := ⟨some 48, .load 46 (.tmp 47), _, _, _, _⟩) rfl (fun K hK => ?_) AllReadyH.nil
      go_simp
      refine hK.out _ _ (HF6.out _ HB7.out) (fun _hH => ?_)
      clear hK K
      refine wpAnyH_ready (rs := [16]) (by kernel_rfl) (by simp) ?_
      refine AllReadyH.cons (o := ⟨some 60, .call ⟨.builtin .append, #[.tmp 48, .tmp 59], #[46, 46]⟩, _, _, _, _⟩) rfl (fun K hK => ?_) AllReadyH.nil
      refine step_join rfl (.tmp 48) (.tmp 59) rfl rec_use b (.slice AU nU cU) nU _ rfl (own_kept HOU.out HB7.out) (some ⟨w6.heap.size, 0, none⟩) 1 1 (uc (e0, s0, y)) rfl rfl (by
        have z := HMS.out
        have e1 : uc (e0, s0, y) = [.int .u32 (e0 : Int), .int .u32 (s0 : Int), .slice y.A 256 y.c] := by unfold uc bvv; rw [HY.out.2]
        rw [e1]
        exact z) (uc_one _) (by have z := HV6.out.lim.2.1; have z2 := HQ.out; have z3 := HNU.out; have z4 : X.ul.length ≤ q + 1 := z; omega) (Nat.le_trans HV6.out.base.le HB7.out.size) ?_
      intro v9 w9 hr9 hg9 hat9
      obtain ⟨A9, c9, rfl⟩ := own_sl hr9
      have HR9 := Lib.hid hr9
      have HG9 := Lib.hid hg9
      have HAT9 := Lib.hid (p := (Value.slice A9 (nU + 1) c9).ownBlock = (Value.slice AU nU cU).ownBlock ∨ ∃ q, (Value.slice A9 (nU + 1) c9).ownBlock = some q ∧ w6.heap.size ≤ q) (by rcases hat9 with h | h; exact .inl h; exact .inr ⟨_, h, HB7.out.size⟩)
      have HRG := Lib.hid (p := Row w9 g 90 _) ((HV6.out.row.kept HB7.out).grown hg9 (row_parted HV6.out.row HOU.out (by decide)).symm)
      have HF9 := Lib.hid (p := w9.cell? ⟨g, 5, none⟩ = some (.int .u32 (e0 : Int)) ∧ w9.cell? ⟨g, 6, none⟩ = some (.int .u32 (s0 : Int))) (by
        have z2 := VAt.e HRG.out
        have z3 := VAt.s HRG.out
        rw [← HE.out.1, ← HE.out.2]
        exact ⟨z2, z3⟩)
      have f519 : w9.frozen? ⟨g, 51, none⟩ = false := HRG.out.free 51
      have c519 : w9.cell? ⟨g, 51, none⟩ = some (.slice AU nU cU) := by have z := VAt.us HRG.out; rw [← HUS.out]; exact z
      have HR49 := Lib.hid ((HR46.out.kept HB7.out).grown hg9 (row_parted HR46.out HOU.out (by decide)).symm)
      have HR89 := Lib.hid ((HR86.out.kept HB7.out).grown hg9 (row_parted HR86.out HOU.out (by decide)).symm)
      clear hr9 hg9 hat9
      refine hK.out _ _ (HF9.out) (fun _hH => ?_)
      clear hK K
      refine wpAnyH_take (i := 17) (oi := ⟨some 61, .nilCheck (.tmp 44), _, _, _, _⟩) (v := .pointer (some ⟨g, 0, none⟩)) rfl (by kernel_rfl) (by kernel_rfl) (by kernel_rfl) (fun _ _ _ h => h) (.inl ⟨by rfl, fun w hSw => by go_simp⟩) (by assumption) ?_
      simp only [Act.put, List.setIfInBounds_toArray, List.set_cons_zero, List.set_cons_succ]
      refine wpAnyH_take (i := 18) (oi := ⟨some 62, .fieldAddr 90 (.tmp 61) 17, _, _, _, _⟩) (v := .pointer (some ⟨g, 51, none⟩)) rfl (by kernel_rfl) (by kernel_rfl) (by kernel_rfl) (fun _ _ _ h => h) (.inl ⟨by rfl, fun w hSw => by go_simp⟩) (by assumption) ?_
      simp only [Act.put, List.setIfInBounds_toArray, List.set_cons_zero, List.set_cons_succ]
      refine wpAnyH_ready (rs := [19]) (by kernel_rfl) (by simp) ?_
      refine AllReadyH.cons (o := ⟨none, .store 46 (.tmp 62) (.tmp 60), _, _, _, _⟩) rfl (fun K hK => ?_) AllReadyH.nil
      go_simp
      have HV10 := Lib.hid (p := VB b (w9.setCell ⟨g, 51, none⟩ (.slice A9 (nU + 1) c9)) FD6 FA g (q + 1) gv L { X with S := S8.putN X.S m 1, rs := X.rs ++ [(m, x)], E := more X.E m x, ts := X.ts ++ [(2, (m : Int), x)], c := { X.c with us := .slice A9 (nU + 1) c9 }, ul := X.ul ++ [(e0, s0, y)] }) (seal_uses HV6.out HUS.out HNU.out HRG.out HR9.out HG9.out HB7.out HAT9.out HY6.out (by rw [HY.out.2]; exact Nat.le_refl _) (by have z := HV5.out.lim.2.1; have z2 : X.ul.length ≤ q := z; have z3 := HNU.out; omega))
      have HF10 := Lib.hid (p := (w9.setCell ⟨g, 51, none⟩ (.slice A9 (nU + 1) c9)).cell? ⟨g, 5, none⟩ = some (.int .u32 (e0 : Int)) ∧ (w9.setCell ⟨g, 51, none⟩ (.slice A9 (nU + 1) c9)).cell? ⟨g, 6, none⟩ = some (.int .u32 (s0 : Int))) (by
        have z2 := VAt.e HV10.out.row
        have z3 := VAt.s HV10.out.row
        rw [← HE.out.1, ← HE.out.2]
        exact ⟨z2, z3⟩)
      refine hK.out _ _ HF10.out (fun _hH => ?_)
      clear hK K
      refine wpAnyH_done (by kernel_rfl) ?_ _
      obtain ⟨w10, hw10⟩ : ∃ w10, w9.setCell ⟨g, 51, none⟩ (.slice A9 (nU + 1) c9) = w10 := ⟨_, rfl⟩
      have HR410 := Lib.hid (p := Row w10 g4 87 rec0.cs) (by rw [← hw10]; exact HR49.out.grown (grown_set w9 ⟨g, 51, none⟩ _) (fun e => by have h1 : g4 = g := Option.some.inj e; have h2 := H.out.row.lt; have h3 := HG4.out; omega))
      have HR810 := Lib.hid (p := Row w10 g8 87 (sealR m e0 s0 hl).cs) (by rw [← hw10]; exact HR89.out.grown (grown_set w9 ⟨g, 51, none⟩ _) (fun e => by have h1 : g8 = g := Option.some.inj e; have h2 := H.out.row.lt; have h3 := HG8.out; have h4 := HSZ2.out; omega))
      have HC10 := Lib.hid (p := Chg (g :: X.c.us.ownBlock.toList) w6 w10) (by rw [← hw10, HUS.out]; exact (((Chg.of (F := g :: (Value.slice AU nU cU).ownBlock.toList) HB7.out)).grown HG9.out (fun k hk => .inl (by rw [hk]; simp))).setCell (p := ⟨g, 51, none⟩) (.inl (by simp)) _)
      have HW10 := Lib.hid (p := Wider w6 (vfoot g X.c FD6 FA) (vfoot g { X.c with us := .slice A9 (nU + 1) c9 } FD6 FA)) (fun j hj => by
        rcases mem_vfoot.1 hj with h | h | h
        · exact .inl (mem_vfoot.2 (.inl h))
        · exact .inl (mem_vfoot.2 (.inr (.inl h)))
        · rcases mem_vown.1 h with e | e | e | e | e | e
          · exact .inl (mem_vfoot.2 (.inr (.inr (mem_vown.2 (.inl e)))))
          · exact .inl (mem_vfoot.2 (.inr (.inr (mem_vown.2 (.inr (.inl e))))))
          · exact .inl (mem_vfoot.2 (.inr (.inr (mem_vown.2 (.inr (.inr (.inl e)))))))
          · exact .inl (mem_vfoot.2 (.inr (.inr (mem_vown.2 (.inr (.inr (.inr (.inl e))))))))
          · exact .inl (mem_vfoot.2 (.inr (.inr (mem_vown.2 (.inr (.inr (.inr (.inr (.inl e)))))))))
          · have e : (Value.slice A9 (nU + 1) c9).ownBlock = some j := e
            rcases HAT9.out with h1 | ⟨p, h1, h2⟩
            · exact .inl (mem_vfoot.2 (.inr (.inr (mem_vown.2 (.inr (.inr (.inr (.inr (.inr (by rw [HUS.out]; exact h1 ▸ e))))))))))
            · rw [h1] at e
              cases e
              exact .inr h2)
      rw [hw10] at HV10 HF10 ⊢
      have c610 := HF10.out.2
      have f610 := HV10.out.gfr 6
      clear hw10 c519 f519 c51d hbu
      have HV11 := Lib.hid (HV10.out.p_s (s0 + 1))
      have HR411 := Lib.hid (HR410.out.grown (grown_set w10 ⟨g, 6, none⟩ (.int .u32 ((s0 + 1 : Nat) : Int))) (fun e => by have h1 : g4 = g := Option.some.inj e; have h2 := H.out.row.lt; have h3 := HG4.out; omega))
      have HR811 := Lib.hid (HR810.out.grown (grown_set w10 ⟨g, 6, none⟩ (.int .u32 ((s0 + 1 : Nat) : Int))) (fun e => by have h1 : g8 = g := Option.some.inj e; have h2 := H.out.row.lt; have h3 := HG8.out; have h4 := HSZ2.out; omega))
      go_wp2_with (first
        | (refine step_load rfl 70 rfl 87 (.tmp 8) rfl g8 rfl (sealR m e0 s0 hl).cs _ HR811.out.all Tryz.underlying87 rfl (i35.out _) ?_)
        | (refine step_store rfl 87 (.tmp 4) (.tmp 70) rfl g4 rfl _ _ (sealR m e0 s0 hl).cs rfl HR411.out (by rw [RecV.cs_len, RecV.cs_len]) (i35.out _) (RecV.cs_one _) ?_; intro w12 hr12 hg12 hs12))
      refine bodyPost_ret (results_cell_row rfl _ _ g4 _ _ _ _ rfl hr12 Tryz.underlying87 rfl (by simpa using i35.out _)) rfl ?_
      refine ⟨x, .slice A9 (nU + 1) c9, by rw [HE.out.1, HE.out.2, HXL.out], Lib.hid (by rw [HE.out.1, HE.out.2, HXL.out]; exact HHE.out.symm), ?_⟩
      have hE2 : X.sealed m x y (.slice A9 (nU + 1) c9) = { X with S := S8.putN X.S m 1, rs := X.rs ++ [(m, x)], E := more X.E m x, ts := X.ts ++ [(2, (m : Int), x)], c := { X.c with s := s0 + 1, us := .slice A9 (nU + 1) c9 }, ul := X.ul ++ [(e0, s0, y)] } := by unfold VX.sealed; rw [HE.out.1, HE.out.2]
      rw [hE2]
      refine seal_end H.out HV11.out HR411.out HG4.out (no_in HR411.out HV11.out) hg12 ((HC6.out.trans HC10.out (fun j hj => ?_)).setCell (p := ⟨g, 6, none⟩) (.inl (H.out.in_v _ (mem_vown.2 (.inl rfl)))) _) (HW6.out.trans HW10.out HC6.out.size)
      rcases List.mem_cons.1 hj with rfl | hj
      · exact .inl (H.out.in_v _ (mem_vown.2 (.inl rfl)))
      · exact .inl (H.out.in_v _ (mem_vown.2 (.inr (.inr (.inr (.inr (.inr (by simpa [Option.mem_toList] using hj))))))))
  · skip
    refine st_alloc (by rfl) 87 rfl _ hz.out ?_
    intro g8 w3 hr8 hg8 hb8
    have HBw3 := Lib.hid (p := Below w2.heap.size w2 w3) (below_nxt hb8 (below_drw w2))
    have HR8w3 := Lib.hid hr8
    have HG8 := Lib.hid (p := w2.heap.size ≤ g8) (by rw [hg8.out]; exact (below_drw w2).size)
    clear hr8 hg8 hb8
    refine hK.out _ _ (HF.out _ HBw3.out) (fun _hH => ?_)
    clear hK K
    refine wpAnyH_ready (rs := [14]) (by kernel_rfl) (by simp) ?_
    refine AllReadyH.cons (o := ⟨some 33, .call ⟨.value (.func 113), #[.tmp 22, .tmp 23, .tmp 27, .tmp 31, .tmp 32], _⟩, _, _, _, _⟩) rfl (fun K hK => ?_) AllReadyH.nil
    go_simp
    refine (seal_any gv (pmask L) m e0 s0 HMN.out.2.1 y.A y.c y.l HES.out.1 HES.out.2 HY.out.2 _ ((HV2.out.below HBw3.out).vl.mask) ((HY2.out.below HBw3.out).hol) ((HV2.out.below HBw3.out).base.tabs)).mono ?_
    rintro e w4 ⟨g7, rfl, hr7, hg7, hb7⟩
    have HBw4 := Lib.hid (p := Below w2.heap.size w2 w4) (below_nxt hb7.out HBw3.out)
    have HR7w4 := Lib.hid hr7.out
    have HG7 := Lib.hid (p := w2.heap.size ≤ g7) (Nat.le_trans HBw3.out.size hg7.out)
    have HR8w4 := Lib.hid (HR8w3.out.kept hb7.out)
    clear hr7 hg7 hb7
    refine hK.out _ _ (HF.out _ HBw4.out) (fun _hH => ?_)
    clear hK K
    refine wpAnyH_take (i := 15) (oi := ⟨some 18, .move (.tmp 33), _, _, _, _⟩) (v := .tuple #[.slice (some ⟨g7, 0, none⟩) 256 256, .agg (sealR m e0 s0 (lst 256 (hid (pmask L e0 s0) y.l))).cs.toArray, .int .i64 0]) rfl (by kernel_rfl) (by kernel_rfl) (by kernel_rfl) (fun _ _ _ h => h) (.inl ⟨by rfl, fun w hSw => by go_simp⟩) (by assumption) ?_
    simp only [Act.put, List.setIfInBounds_toArray, List.set_cons_zero, List.set_cons_succ]
    refine wpAnyH_take (i := 16) (oi := ⟨some 34, .extract (.tmp 18) 0, _, _, _, _⟩) (v := .slice (some ⟨g7, 0, none⟩) 256 256) rfl (by kernel_rfl) (by kernel_rfl) (by kernel_rfl) (fun _ _ _ h => h) (.inl ⟨by rfl, fun w hSw => by go_simp⟩) (by assumption) ?_
    simp only [Act.put, List.setIfInBounds_toArray, List.set_cons_zero, List.set_cons_succ]
    refine wpAnyH_take (i := 17) (oi := ⟨some 35, .extract (.tmp 18) 1, _, _, _, _⟩) (v := .agg (sealR m e0 s0 (lst 256 (hid (pmask L e0 s0) y.l))).cs.toArray) rfl (by kernel_rfl) (by kernel_rfl) (by kernel_rfl) (fun _ _ _ h => h) (.inl ⟨by rfl, fun w hSw => by go_simp⟩) (by assumption) ?_
    simp only [Act.put, List.setIfInBounds_toArray, List.set_cons_zero, List.set_cons_succ]
    refine wpAnyH_take (i := 18) (oi := ⟨some 36, .extract (.tmp 18) 2, _, _, _, _⟩) (v := .int .i64 0) rfl (by kernel_rfl) (by kernel_rfl) (by kernel_rfl) (fun _ _ _ h => h) (.inl ⟨by rfl, fun w hSw => by go_simp⟩) (by assumption) ?_
    simp only [Act.put, List.setIfInBounds_toArray, List.set_cons_zero, List.set_cons_succ]
    refine wpAnyH_take (i := 20) (oi := ⟨some 7, .assign (.tmp 34), _, _, _, _⟩) (v := .slice (some ⟨g7, 0, none⟩) 256 256) rfl (by kernel_rfl) (by kernel_rfl) (by kernel_rfl) (fun _ _ _ h => h) (.inl ⟨by rfl, fun w hSw => by go_simp⟩) (by assumption) ?_
    simp only [Act.put, List.setIfInBounds_toArray, List.set_cons_zero, List.set_cons_succ]
    refine wpAnyH_ready (rs := [21]) (by kernel_rfl) (by simp) ?_
    refine AllReadyH.cons (o := ⟨none, .store 87 (.tmp 8) (.tmp 35), _, _, _, _⟩) rfl (fun K hK => ?_) AllReadyH.nil
    refine st_store (by rfl) 87 (.tmp 8) (.tmp 35) rfl g8 (by rfl) 87 _ (sealR m e0 s0 (lst 256 (hid (pmask L e0 s0) y.l))).cs (by rfl) HR8w4.out (by rw [RecV.cs_len, RecV.cs_len]) (i35.out _) (RecV.cs_one _) ?_
    intro w5 hr8 hg8
    have HR8 := Lib.hid hr8
    have HB5 := Lib.hid (p := Below w2.heap.size w2 w5) (HBw4.out.grown hg8 HBw4.out.size (fun q hq => by injection hq with hq; subst hq; exact HG8.out))
    have HR7 := Lib.hid (HR7w4.out.grown hg8 (fun e => (HR7w4.out.ne_ HR8w4.out (by decide)) (Option.some.inj e)))
    clear hr8 hg8
    refine hK.out _ _ (HF.out _ HB5.out) (fun _hH => ?_)
    clear hK K
    refine wpAnyH_take (i := 22) (oi := ⟨some 9, .assign (.tmp 36), _, _, _, _⟩) (v := .int .i64 0) rfl (by kernel_rfl) (by kernel_rfl) (by kernel_rfl) (fun _ _ _ h => h) (.inl ⟨by rfl, fun w hSw => by go_simp⟩) (by assumption) ?_
    simp only [Act.put, List.setIfInBounds_toArray, List.set_cons_zero, List.set_cons_succ]
    refine wpAnyH_done (by kernel_rfl) ?_ _
    have HV5 := Lib.hid (HV2.out.below HB5.out)
    have HR45 := Lib.hid (HR42.out.kept HB5.out)
    have HH7 := Lib.hid (p := Hol w5 (some ⟨g7, 0, none⟩) (lst 256 (hid (pmask L e0 s0) y.l))) ((own_brr HR7.out (Nat.zero_le _)).hol)
    have c05 : w5.cell? ⟨g, 0, none⟩ = some (.pointer (some ⟨X.c.gd, 0, none⟩)) := by have z := VAt.gd HV5.out.row; exact z
    obtain ⟨hl, hhl⟩ : ∃ hl, lst 256 (hid (pmask L e0 s0) y.l) = hl := ⟨_, rfl⟩
    have HHL := Lib.hid (p := hl.length = 256) (by rw [← hhl, lst_len])
    have HHE := Lib.hid hhl
    have HRL := Lib.hid (p := X.rs.length ≤ 1000000 ∧ X.ts.length ≤ 1000000) (by have z := H.out.lim; omega)
    rw [hhl] at HH7 HR8 ⊢
    go_wp2_with (go_at_call 114; refine (PD.write HV5.out.dsk m HMN.out.1 (some ⟨g7, 0, none⟩) 256 256 hl HHL.out.symm HHL.out HH7.out HRL.out.1 HRL.out.2).mono ?_; rintro e w6 ⟨x, rfl, hxl, FD6, hd6, hc6, hw6⟩)
    have lm := H.out.lim
    have lq := HQ.out
    have HXL := Lib.hid hxl.out
    have HV6 := Lib.hid (HV5.out.dturn hd6.out hc6.out hw6.out rfl (q' := q + 1) (Nat.le_succ _) ⟨HQ.out, by rw [List.length_append]; simp; omega, by rw [List.length_append]; simp; omega⟩)
    have fr : ∀ {p : Nat}, w.heap.size ≤ p → p ∉ FD := fun hp hx => by have := H.out.lt_d _ hx; omega
    have HR46 := Lib.hid (hc6.out.row HR45.out (fr HG4.out))
    have HR86 := Lib.hid (hc6.out.row HR8.out (fr (Nat.le_trans HSZ2.out HG8.out)))
    have HC6 := Lib.hid (p := Chg (vfoot g X.c FD FA) w w6) ((HC2.out.trans (Chg.of (F := []) HB5.out) (fun j hj => by cases hj)).trans hc6.out (fun j hj => .inl (H.out.in_d j hj)))
    have HW6 := Lib.hid (p := Wider w (vfoot g X.c FD FA) (vfoot g X.c FD6 FA)) (fun j hj => by
      rcases VB.wide_d (FA := FA) (g := g) (X := X) hw6.out j hj with h | h
      · exact .inl h
      · exact .inr (Nat.le_trans HSZ2.out (Nat.le_trans HB5.out.size h)))
    have HY6 := Lib.hid (p := Own8 b w6 y) ((HY2.out.below HB5.out).chg hc6.out (fun j hj => HV5.out.no _ (.inl rfl) j (HV5.out.in_d j hj)))
    clear hd6 hc6 hw6 hxl lm fr c05 hhl
    obtain ⟨AU, cU, hAU⟩ := own_sl HV6.out.us
    obtain ⟨nU, hnU⟩ : ∃ nU, X.ul.length = nU := ⟨_, rfl⟩
    have HNU := Lib.hid hnU
    have hus : X.c.us = .slice AU nU cU := by rw [← hnU]; exact hAU
    have HUS := Lib.hid hus
    have HOU := Lib.hid (p := w6.ownsRow b 111 3 (.slice AU nU cU) nU (X.ul.flatMap uc)) (by have z := HV6.out.us; have z2 : w6.ownsRow b 111 3 X.c.us X.ul.length (X.ul.flatMap uc) := z; rw [hus, hnU] at z2; exact z2)
    have HF6 := Lib.hid (p := ∀ w3, Below w6.heap.size w6 w3 → w3.cell? ⟨g, 5, none⟩ = some (.int .u32 (e0 : Int)) ∧ w3.cell? ⟨g, 6, none⟩ = some (.int .u32 (s0 : Int))) (fun w3 hb => by
      have h3 := HV6.out.row.kept hb
      have z2 := VAt.e h3
      have z3 := VAt.s h3
      rw [← HE.out.1, ← HE.out.2]
      exact ⟨z2, z3⟩)
    have HF51 := Lib.hid (p := ∀ w3, Below w6.heap.size w6 w3 → w3.cell? ⟨g, 51, none⟩ = some (.slice AU nU cU)) (fun w3 hb => by have z := VAt.us (HV6.out.row.kept hb); rw [← HUS.out]; exact z)
    clear hAU hnU hus
    have hbu := built_use e0 s0 y.A 256 y.c
    have c51d := HF51.out _ (below_drw w6)
    go_wp2_with fail
    refine wp_region_held_drew (S := fun W => W.cell? ⟨g, 5, none⟩ = some (.int .u32 (e0 : Int)) ∧ W.cell? ⟨g, 6, none⟩ = some (.int .u32 (s0 : Int))) (by kernel_rfl) (HF6.out _ (below_drw _)) (fun hHeld => ?_)
    refine wpAnyH_take (i := 0) (oi := ⟨some 44, .move (.tmp 0), _, _, _, _⟩) (v := .pointer (some ⟨g, 0, none⟩)) rfl (by kernel_rfl) (by kernel_rfl) (by kernel_rfl) (fun _ _ _ h => h) (.inl ⟨by rfl, fun w hSw => by go_simp⟩) (by assumption) ?_
    simp only [Act.put, List.setIfInBounds_toArray, List.set_cons_zero, List.set_cons_succ]
    refine wpAnyH_take (i := 1) (oi := ⟨some 45, .move (.tmp 0), _, _, _, _⟩) (v := .pointer (some ⟨g, 0, none⟩)) rfl (by kernel_rfl) (by kernel_rfl) (by kernel_rfl) (fun _ _ _ h => h) (.inl ⟨by rfl, fun w hSw => by go_simp⟩) (by assumption) ?_
    simp only [Act.put, List.setIfInBounds_toArray, List.set_cons_zero, List.set_cons_succ]
    refine wpAnyH_take (i := 2) (oi := ⟨some 46, .nilCheck (.tmp 45), _, _, _, _⟩) (v := .pointer (some ⟨g, 0, none⟩)) rfl (by kernel_rfl) (by kernel_rfl) (by kernel_rfl) (fun _ _ _ h => h) (.inl ⟨by rfl, fun w hSw => by go_simp⟩) (by assumption) ?_
    simp only [Act.put, List.setIfInBounds_toArray, List.set_cons_zero, List.set_cons_succ]
    refine wpAnyH_take (i := 3) (oi := ⟨some 47, .fieldAddr 90 (.tmp 46) 17, _, _, _, _⟩) (v := .pointer (some ⟨g, 51, none⟩)) rfl (by kernel_rfl) (by kernel_rfl) (by kernel_rfl) (fun _ _ _ h => h) (.inl ⟨by rfl, fun w hSw => by go_simp⟩) (by assumption) ?_
    simp only [Act.put, List.setIfInBounds_toArray, List.set_cons_zero, List.set_cons_succ]
    refine wpAnyH_take (i := 5) (oi := ⟨some 49, .move (.tmp 0), _, _, _, _⟩) (v := .pointer (some ⟨g, 0, none⟩)) rfl (by kernel_rfl) (by kernel_rfl) (by kernel_rfl) (fun _ _ _ h => h) (.inl ⟨by rfl, fun w hSw => by go_simp⟩) (by assumption) ?_
    simp only [Act.put, List.setIfInBounds_toArray, List.set_cons_zero, List.set_cons_succ]
    refine wpAnyH_take (i := 6) (oi := ⟨some 50, .nilCheck (.tmp 49), _, _, _, _⟩) (v := .pointer (some ⟨g, 0, none⟩)) rfl (by kernel_rfl) (by kernel_rfl) (by kernel_rfl) (fun _ _ _ h => h) (.inl ⟨by rfl, fun w hSw => by go_simp⟩) (by assumption) ?_
    simp only [Act.put, List.setIfInBounds_toArray, List.set_cons_zero, List.set_cons_succ]
    refine wpAnyH_take (i := 7) (oi := ⟨some 51, .fieldAddr 90 (.tmp 50) 5, _, _, _, _⟩) (v := .pointer (some ⟨g, 5, none⟩)) rfl (by kernel_rfl) (by kernel_rfl) (by kernel_rfl) (fun _ _ _ h => h) (.inl ⟨by rfl, fun w hSw => by go_simp⟩) (by assumption) ?_
    simp only [Act.put, List.setIfInBounds_toArray, List.set_cons_zero, List.set_cons_succ]
    refine wpAnyH_take (i := 8) (oi := ⟨some 52, .load 44 (.tmp 51), _, _, _, _⟩) (v := .int .u32 (e0 : Int)) rfl (by kernel_rfl) (by kernel_rfl) (by kernel_rfl) (fun _ _ _ h => h) (.inl ⟨by rfl, fun w hSw => by have z := hSw.1; go_simp⟩) (by assumption) ?_
    simp only [Act.put, List.setIfInBounds_toArray, List.set_cons_zero, List.set_cons_succ]
    refine wpAnyH_take (i := 9) (oi := ⟨some 53, .move (.tmp 0), _, _, _, _⟩) (v := .pointer (some ⟨g, 0, none⟩)) rfl (by kernel_rfl) (by kernel_rfl) (by kernel_rfl) (fun _ _ _ h => h) (.inl ⟨by rfl, fun w hSw => by go_simp⟩) (by assumption) ?_
    simp only [Act.put, List.setIfInBounds_toArray, List.set_cons_zero, List.set_cons_succ]
    refine wpAnyH_take (i := 10) (oi := ⟨some 54, .nilCheck (.tmp 53), _, _, _, _⟩) (v := .pointer (some ⟨g, 0, none⟩)) rfl (by kernel_rfl) (by kernel_rfl) (by kernel_rfl) (fun _ _ _ h => h) (.inl ⟨by rfl, fun w hSw => by go_simp⟩) (by assumption) ?_
    simp only [Act.put, List.setIfInBounds_toArray, List.set_cons_zero, List.set_cons_succ]
    refine wpAnyH_take (i := 11) (oi := ⟨some 55, .fieldAddr 90 (.tmp 54) 6, _, _, _, _⟩) (v := .pointer (some ⟨g, 6, none⟩)) rfl (by kernel_rfl) (by kernel_rfl) (by kernel_rfl) (fun _ _ _ h => h) (.inl ⟨by rfl, fun w hSw => by go_simp⟩) (by assumption) ?_
    simp only [Act.put, List.setIfInBounds_toArray, List.set_cons_zero, List.set_cons_succ]
    refine wpAnyH_take (i := 12) (oi := ⟨some 56, .load 44 (.tmp 55), _, _, _, _⟩) (v := .int .u32 (s0 : Int)) rfl (by kernel_rfl) (by kernel_rfl) (by kernel_rfl) (fun _ _ _ h => h) (.inl ⟨by rfl, fun w hSw => by have z := hSw.2; go_simp⟩) (by assumption) ?_
    simp only [Act.put, List.setIfInBounds_toArray, List.set_cons_zero, List.set_cons_succ]
    refine wpAnyH_take (i := 13) (oi := ⟨some 57, .move (.tmp 1), _, _, _, _⟩) (v := .slice y.A 256 y.c) rfl (by kernel_rfl) (by kernel_rfl) (by kernel_rfl) (fun _ _ _ h => h) (.inl ⟨by rfl, fun w hSw => by go_simp⟩) (by assumption) ?_
    simp only [Act.put, List.setIfInBounds_toArray, List.set_cons_zero, List.set_cons_succ]
    refine wpAnyH_take (i := 14) (oi := ⟨some 58, .build 111 #[(0, .tmp 52), (1, .tmp 56), (2, .tmp 57)], _, _, _, _⟩) (v := .agg #[.int .u32 (e0 : Int), .int .u32 (s0 : Int), .slice y.A 256 y.c]) rfl (by kernel_rfl) (by kernel_rfl) (by kernel_rfl) (fun _ _ _ h => h) (.inl ⟨by rfl, fun w hSw => by go_simp⟩) (by assumption) ?_
    simp only [Act.put, List.setIfInBounds_toArray, List.set_cons_zero, List.set_cons_succ]
    refine wpAnyH_ready (rs := [4, 15]) (by kernel_rfl) (by simp) ?_
    refine AllReadyH.cons (o := ⟨some 48, .load 46 (.tmp 47), _, _, _, _⟩) rfl (fun K hK => ?_) (AllReadyH.cons (o := ⟨some 59, .buildSlice 46 1 #[(0, .tmp 58)], _, _, _, _⟩) rfl (fun K hK => ?_) AllReadyH.nil)
    · skip
      go_simp
      refine hK.out _ _ (HF6.out _ (below_drw _)) (fun _hH => ?_)
      clear hK K
      refine wpAnyH_ready (rs := [15]) (by kernel_rfl) (by simp) ?_
      refine AllReadyH.cons (o := ⟨some 59, .buildSlice 46 1 #[(0, .tmp 58)], _, _, _, _⟩) rfl (fun K hK => ?_) AllReadyH.nil
      go_simp
      have HMS := Lib.hid (made_src w6.drew 111 [.int .u32 (e0 : Int), .int .u32 (s0 : Int), .slice y.A 256 y.c])
      have HB7 := Lib.hid (p := Below w6.heap.size w6 (w6.drew.alloc (.cells #[.int .u32 (e0 : Int), .int .u32 (s0 : Int), .slice y.A 256 y.c] 111))) ((below_drw w6).alloc (Nat.le_refl _) _)
      change K _ (w6.drew.alloc (.cells #[.int .u32 (e0 : Int), .int .u32 (s0 : Int), .slice y.A 256 y.c] 111))
      obtain ⟨w7, hw7⟩ : ∃ w7, w6.drew.alloc (.cells #[.int .u32 (e0 : Int), .int .u32 (s0 : Int), .slice y.A 256 y.c] 111) = w7 := ⟨_, rfl⟩
      rw [hw7] at HB7 HMS ⊢
      have c517 := HF51.out _ HB7.out
      clear hw7
      refine hK.out _ _ (HF6.out _ HB7.out) (fun _hH => ?_)
      clear hK K
      refine wpAnyH_ready (rs := [16]) (by kernel_rfl) (by simp) ?_
      refine AllReadyH.cons (o := ⟨some 60, .call ⟨.builtin .append, #[.tmp 48, .tmp 59], #[46, 46]⟩, _, _, _, _⟩) rfl (fun K hK => ?_) AllReadyH.nil
      refine step_join rfl (.tmp 48) (.tmp 59) rfl rec_use b (.slice AU nU cU) nU _ rfl (own_kept HOU.out HB7.out) (some ⟨w6.heap.size, 0, none⟩) 1 1 (uc (e0, s0, y)) rfl rfl (by
        have z := HMS.out
        have e1 : uc (e0, s0, y) = [.int .u32 (e0 : Int), .int .u32 (s0 : Int), .slice y.A 256 y.c] := by unfold uc bvv; rw [HY.out.2]
        rw [e1]
        exact z) (uc_one _) (by have z := HV6.out.lim.2.1; have z2 := HQ.out; have z3 := HNU.out; have z4 : X.ul.length ≤ q + 1 := z; omega) (Nat.le_trans HV6.out.base.le HB7.out.size) ?_
      intro v9 w9 hr9 hg9 hat9
      obtain ⟨A9, c9, rfl⟩ := own_sl hr9
      have HR9 := Lib.hid hr9
      have HG9 := Lib.hid hg9
      have HAT9 := Lib.hid (p := (Value.slice A9 (nU + 1) c9).ownBlock = (Value.slice AU nU cU).ownBlock ∨ ∃ q, (Value.slice A9 (nU + 1) c9).ownBlock = some q ∧ w6.heap.size ≤ q) (by rcases hat9 with h | h; exact .inl h; exact .inr ⟨_, h, HB7.out.size⟩)
      have HRG := Lib.hid (p := Row w9 g 90 _) ((HV6.out.row.kept HB7.out).grown hg9 (row_parted HV6.out.row HOU.out (by decide)).symm)
      have HF9 := Lib.hid (p := w9.cell? ⟨g, 5, none⟩ = some (.int .u32 (e0 : Int)) ∧ w9.cell? ⟨g, 6, none⟩ = some (.int .u32 (s0 : Int))) (by
        have z2 := VAt.e HRG.out
        have z3 := VAt.s HRG.out
        rw [← HE.out.1, ← HE.out.2]
        exact ⟨z2, z3⟩)
      have f519 : w9.frozen? ⟨g, 51, none⟩ = false := HRG.out.free 51
      have c519 : w9.cell? ⟨g, 51, none⟩ = some (.slice AU nU cU) := by have z := VAt.us HRG.out; rw [← HUS.out]; exact z
      have HR49 := Lib.hid ((HR46.out.kept HB7.out).grown hg9 (row_parted HR46.out HOU.out (by decide)).symm)
      have HR89 := Lib.hid ((HR86.out.kept HB7.out).grown hg9 (row_parted HR86.out HOU.out (by decide)).symm)
      clear hr9 hg9 hat9
      refine hK.out _ _ (HF9.out) (fun _hH => ?_)
      clear hK K
      refine wpAnyH_take (i := 17) (oi := ⟨some 61, .nilCheck (.tmp 44), _, _, _, _⟩) (v := .pointer (some ⟨g, 0, none⟩)) rfl (by kernel_rfl) (by kernel_rfl) (by kernel_rfl) (fun _ _ _ h => h) (.inl ⟨by rfl, fun w hSw => by go_simp⟩) (by assumption) ?_
      simp only [Act.put, List.setIfInBounds_toArray, List.set_cons_zero, List.set_cons_succ]
      refine wpAnyH_take (i := 18) (oi := ⟨some 62, .fieldAddr 90 (.tmp 61) 17, _, _, _, _⟩) (v := .pointer (some ⟨g, 51, none⟩)) rfl (by kernel_rfl) (by kernel_rfl) (by kernel_rfl) (fun _ _ _ h => h) (.inl ⟨by rfl, fun w hSw => by go_simp⟩) (by assumption) ?_
      simp only [Act.put, List.setIfInBounds_toArray, List.set_cons_zero, List.set_cons_succ]
      refine wpAnyH_ready (rs := [19]) (by kernel_rfl) (by simp) ?_
      refine AllReadyH.cons (o := ⟨none, .store 46 (.tmp 62) (.tmp 60), _, _, _, _⟩) rfl (fun K hK => ?_) AllReadyH.nil
      go_simp
      have HV10 := Lib.hid (p := VB b (w9.setCell ⟨g, 51, none⟩ (.slice A9 (nU + 1) c9)) FD6 FA g (q + 1) gv L { X with S := S8.putN X.S m 1, rs := X.rs ++ [(m, x)], E := more X.E m x, ts := X.ts ++ [(2, (m : Int), x)], c := { X.c with us := .slice A9 (nU + 1) c9 }, ul := X.ul ++ [(e0, s0, y)] }) (seal_uses HV6.out HUS.out HNU.out HRG.out HR9.out HG9.out HB7.out HAT9.out HY6.out (by rw [HY.out.2]; exact Nat.le_refl _) (by have z := HV5.out.lim.2.1; have z2 : X.ul.length ≤ q := z; have z3 := HNU.out; omega))
      have HF10 := Lib.hid (p := (w9.setCell ⟨g, 51, none⟩ (.slice A9 (nU + 1) c9)).cell? ⟨g, 5, none⟩ = some (.int .u32 (e0 : Int)) ∧ (w9.setCell ⟨g, 51, none⟩ (.slice A9 (nU + 1) c9)).cell? ⟨g, 6, none⟩ = some (.int .u32 (s0 : Int))) (by
        have z2 := VAt.e HV10.out.row
        have z3 := VAt.s HV10.out.row
        rw [← HE.out.1, ← HE.out.2]
        exact ⟨z2, z3⟩)
      refine hK.out _ _ HF10.out (fun _hH => ?_)
      clear hK K
      refine wpAnyH_done (by kernel_rfl) ?_ _
      obtain ⟨w10, hw10⟩ : ∃ w10, w9.setCell ⟨g, 51, none⟩ (.slice A9 (nU + 1) c9) = w10 := ⟨_, rfl⟩
      have HR410 := Lib.hid (p := Row w10 g4 87 rec0.cs) (by rw [← hw10]; exact HR49.out.grown (grown_set w9 ⟨g, 51, none⟩ _) (fun e => by have h1 : g4 = g := Option.some.inj e; have h2 := H.out.row.lt; have h3 := HG4.out; omega))
      have HR810 := Lib.hid (p := Row w10 g8 87 (sealR m e0 s0 hl).cs) (by rw [← hw10]; exact HR89.out.grown (grown_set w9 ⟨g, 51, none⟩ _) (fun e => by have h1 : g8 = g := Option.some.inj e; have h2 := H.out.row.lt; have h3 := HG8.out; have h4 := HSZ2.out; omega))
      have HC10 := Lib.hid (p := Chg (g :: X.c.us.ownBlock.toList) w6 w10) (by rw [← hw10, HUS.out]; exact (((Chg.of (F := g :: (Value.slice AU nU cU).ownBlock.toList) HB7.out)).grown HG9.out (fun k hk => .inl (by rw [hk]; simp))).setCell (p := ⟨g, 51, none⟩) (.inl (by simp)) _)
      have HW10 := Lib.hid (p := Wider w6 (vfoot g X.c FD6 FA) (vfoot g { X.c with us := .slice A9 (nU + 1) c9 } FD6 FA)) (fun j hj => by
        rcases mem_vfoot.1 hj with h | h | h
        · exact .inl (mem_vfoot.2 (.inl h))
        · exact .inl (mem_vfoot.2 (.inr (.inl h)))
        · rcases mem_vown.1 h with e | e | e | e | e | e
          · exact .inl (mem_vfoot.2 (.inr (.inr (mem_vown.2 (.inl e)))))
          · exact .inl (mem_vfoot.2 (.inr (.inr (mem_vown.2 (.inr (.inl e))))))
          · exact .inl (mem_vfoot.2 (.inr (.inr (mem_vown.2 (.inr (.inr (.inl e)))))))
          · exact .inl (mem_vfoot.2 (.inr (.inr (mem_vown.2 (.inr (.inr (.inr (.inl e))))))))
          · exact .inl (mem_vfoot.2 (.inr (.inr (mem_vown.2 (.inr (.inr (.inr (.inr (.inl e)))))))))
          · have e : (Value.slice A9 (nU + 1) c9).ownBlock = some j := e
            rcases HAT9.out with h1 | ⟨p, h1, h2⟩
            · exact .inl (mem_vfoot.2 (.inr (.inr (mem_vown.2 (.inr (.inr (.inr (.inr (.inr (by rw [HUS.out]; exact h1 ▸ e))))))))))
            · rw [h1] at e
              cases e
              exact .inr h2)
      rw [hw10] at HV10 HF10 ⊢
      have c610 := HF10.out.2
      have f610 := HV10.out.gfr 6
      clear hw10 c519 f519 c51d hbu
      have HV11 := Lib.hid (HV10.out.p_s (s0 + 1))
      have HR411 := Lib.hid (HR410.out.grown (grown_set w10 ⟨g, 6, none⟩ (.int .u32 ((s0 + 1 : Nat) : Int))) (fun e => by have h1 : g4 = g := Option.some.inj e; have h2 := H.out.row.lt; have h3 := HG4.out; omega))
      have HR811 := Lib.hid (HR810.out.grown (grown_set w10 ⟨g, 6, none⟩ (.int .u32 ((s0 + 1 : Nat) : Int))) (fun e => by have h1 : g8 = g := Option.some.inj e; have h2 := H.out.row.lt; have h3 := HG8.out; have h4 := HSZ2.out; omega))
      go_wp2_with (first
        | (refine step_load rfl 70 rfl 87 (.tmp 8) rfl g8 rfl (sealR m e0 s0 hl).cs _ HR811.out.all Tryz.underlying87 rfl (i35.out _) ?_)
        | (refine step_store rfl 87 (.tmp 4) (.tmp 70) rfl g4 rfl _ _ (sealR m e0 s0 hl).cs rfl HR411.out (by rw [RecV.cs_len, RecV.cs_len]) (i35.out _) (RecV.cs_one _) ?_; intro w12 hr12 hg12 hs12))
      refine bodyPost_ret (results_cell_row rfl _ _ g4 _ _ _ _ rfl hr12 Tryz.underlying87 rfl (by simpa using i35.out _)) rfl ?_
      refine ⟨x, .slice A9 (nU + 1) c9, by rw [HE.out.1, HE.out.2, HXL.out], Lib.hid (by rw [HE.out.1, HE.out.2, HXL.out]; exact HHE.out.symm), ?_⟩
      have hE2 : X.sealed m x y (.slice A9 (nU + 1) c9) = { X with S := S8.putN X.S m 1, rs := X.rs ++ [(m, x)], E := more X.E m x, ts := X.ts ++ [(2, (m : Int), x)], c := { X.c with s := s0 + 1, us := .slice A9 (nU + 1) c9 }, ul := X.ul ++ [(e0, s0, y)] } := by unfold VX.sealed; rw [HE.out.1, HE.out.2]
      rw [hE2]
      refine seal_end H.out HV11.out HR411.out HG4.out (no_in HR411.out HV11.out) hg12 ((HC6.out.trans HC10.out (fun j hj => ?_)).setCell (p := ⟨g, 6, none⟩) (.inl (H.out.in_v _ (mem_vown.2 (.inl rfl)))) _) (HW6.out.trans HW10.out HC6.out.size)
      rcases List.mem_cons.1 hj with rfl | hj
      · exact .inl (H.out.in_v _ (mem_vown.2 (.inl rfl)))
      · exact .inl (H.out.in_v _ (mem_vown.2 (.inr (.inr (.inr (.inr (.inr (by simpa [Option.mem_toList] using hj))))))))
    · skip
      go_simp
      have HMS := Lib.hid (made_src w6.drew 111 [.int .u32 (e0 : Int), .int .u32 (s0 : Int), .slice y.A 256 y.c])
      have HB7 := Lib.hid (p := Below w6.heap.size w6 (w6.drew.alloc (.cells #[.int .u32 (e0 : Int), .int .u32 (s0 : Int), .slice y.A 256 y.c] 111))) ((below_drw w6).alloc (Nat.le_refl _) _)
      change K _ (w6.drew.alloc (.cells #[.int .u32 (e0 : Int), .int .u32 (s0 : Int), .slice y.A 256 y.c] 111))
      obtain ⟨w7, hw7⟩ : ∃ w7, w6.drew.alloc (.cells #[.int .u32 (e0 : Int), .int .u32 (s0 : Int), .slice y.A 256 y.c] 111) = w7 := ⟨_, rfl⟩
      rw [hw7] at HB7 HMS ⊢
      have c517 := HF51.out _ HB7.out
      clear hw7
      refine hK.out _ _ (HF6.out _ HB7.out) (fun _hH => ?_)
      clear hK K
      refine wpAnyH_ready (rs := [4]) (by kernel_rfl) (by simp) ?_
      refine AllReadyH.cons (o := ⟨some 48, .load 46 (.tmp 47), _, _, _, _⟩) rfl (fun K hK => ?_) AllReadyH.nil
      go_simp
      refine hK.out _ _ (HF6.out _ HB7.out) (fun _hH => ?_)
      clear hK K
      refine wpAnyH_ready (rs := [16]) (by kernel_rfl) (by simp) ?_
      refine AllReadyH.cons (o := ⟨some 60, .call ⟨.builtin .append, #[.tmp 48, .tmp 59], #[46, 46]⟩, _, _, _, _⟩) rfl (fun K hK => ?_) AllReadyH.nil
      refine step_join rfl (.tmp 48) (.tmp 59) rfl rec_use b (.slice AU nU cU) nU _ rfl (own_kept HOU.out HB7.out) (some ⟨w6.heap.size, 0, none⟩) 1 1 (uc (e0, s0, y)) rfl rfl (by
        have z := HMS.out
        have e1 : uc (e0, s0, y) = [.int .u32 (e0 : Int), .int .u32 (s0 : Int), .slice y.A 256 y.c] := by unfold uc bvv; rw [HY.out.2]
        rw [e1]
        exact z) (uc_one _) (by have z := HV6.out.lim.2.1; have z2 := HQ.out; have z3 := HNU.out; have z4 : X.ul.length ≤ q + 1 := z; omega) (Nat.le_trans HV6.out.base.le HB7.out.size) ?_
      intro v9 w9 hr9 hg9 hat9
      obtain ⟨A9, c9, rfl⟩ := own_sl hr9
      have HR9 := Lib.hid hr9
      have HG9 := Lib.hid hg9
      have HAT9 := Lib.hid (p := (Value.slice A9 (nU + 1) c9).ownBlock = (Value.slice AU nU cU).ownBlock ∨ ∃ q, (Value.slice A9 (nU + 1) c9).ownBlock = some q ∧ w6.heap.size ≤ q) (by rcases hat9 with h | h; exact .inl h; exact .inr ⟨_, h, HB7.out.size⟩)
      have HRG := Lib.hid (p := Row w9 g 90 _) ((HV6.out.row.kept HB7.out).grown hg9 (row_parted HV6.out.row HOU.out (by decide)).symm)
      have HF9 := Lib.hid (p := w9.cell? ⟨g, 5, none⟩ = some (.int .u32 (e0 : Int)) ∧ w9.cell? ⟨g, 6, none⟩ = some (.int .u32 (s0 : Int))) (by
        have z2 := VAt.e HRG.out
        have z3 := VAt.s HRG.out
        rw [← HE.out.1, ← HE.out.2]
        exact ⟨z2, z3⟩)
      have f519 : w9.frozen? ⟨g, 51, none⟩ = false := HRG.out.free 51
      have c519 : w9.cell? ⟨g, 51, none⟩ = some (.slice AU nU cU) := by have z := VAt.us HRG.out; rw [← HUS.out]; exact z
      have HR49 := Lib.hid ((HR46.out.kept HB7.out).grown hg9 (row_parted HR46.out HOU.out (by decide)).symm)
      have HR89 := Lib.hid ((HR86.out.kept HB7.out).grown hg9 (row_parted HR86.out HOU.out (by decide)).symm)
      clear hr9 hg9 hat9
      refine hK.out _ _ (HF9.out) (fun _hH => ?_)
      clear hK K
      refine wpAnyH_take (i := 17) (oi := ⟨some 61, .nilCheck (.tmp 44), _, _, _, _⟩) (v := .pointer (some ⟨g, 0, none⟩)) rfl (by kernel_rfl) (by kernel_rfl) (by kernel_rfl) (fun _ _ _ h => h) (.inl ⟨by rfl, fun w hSw => by go_simp⟩) (by assumption) ?_
      simp only [Act.put, List.setIfInBounds_toArray, List.set_cons_zero, List.set_cons_succ]
      refine wpAnyH_take (i := 18) (oi := ⟨some 62, .fieldAddr 90 (.tmp 61) 17, _, _, _, _⟩) (v := .pointer (some ⟨g, 51, none⟩)) rfl (by kernel_rfl) (by kernel_rfl) (by kernel_rfl) (fun _ _ _ h => h) (.inl ⟨by rfl, fun w hSw => by go_simp⟩) (by assumption) ?_
      simp only [Act.put, List.setIfInBounds_toArray, List.set_cons_zero, List.set_cons_succ]
      refine wpAnyH_ready (rs := [19]) (by kernel_rfl) (by simp) ?_
      refine AllReadyH.cons (o := ⟨none, .store 46 (.tmp 62) (.tmp 60), _, _, _, _⟩) rfl (fun K hK => ?_) AllReadyH.nil
      go_simp
      have HV10 := Lib.hid (p := VB b (w9.setCell ⟨g, 51, none⟩ (.slice A9 (nU + 1) c9)) FD6 FA g (q + 1) gv L { X with S := S8.putN X.S m 1, rs := X.rs ++ [(m, x)], E := more X.E m x, ts := X.ts ++ [(2, (m : Int), x)], c := { X.c with us := .slice A9 (nU + 1) c9 }, ul := X.ul ++ [(e0, s0, y)] }) (seal_uses HV6.out HUS.out HNU.out HRG.out HR9.out HG9.out HB7.out HAT9.out HY6.out (by rw [HY.out.2]; exact Nat.le_refl _) (by have z := HV5.out.lim.2.1; have z2 : X.ul.length ≤ q := z; have z3 := HNU.out; omega))
      have HF10 := Lib.hid (p := (w9.setCell ⟨g, 51, none⟩ (.slice A9 (nU + 1) c9)).cell? ⟨g, 5, none⟩ = some (.int .u32 (e0 : Int)) ∧ (w9.setCell ⟨g, 51, none⟩ (.slice A9 (nU + 1) c9)).cell? ⟨g, 6, none⟩ = some (.int .u32 (s0 : Int))) (by
        have z2 := VAt.e HV10.out.row
        have z3 := VAt.s HV10.out.row
        rw [← HE.out.1, ← HE.out.2]
        exact ⟨z2, z3⟩)
      refine hK.out _ _ HF10.out (fun _hH => ?_)
      clear hK K
      refine wpAnyH_done (by kernel_rfl) ?_ _
      obtain ⟨w10, hw10⟩ : ∃ w10, w9.setCell ⟨g, 51, none⟩ (.slice A9 (nU + 1) c9) = w10 := ⟨_, rfl⟩
      have HR410 := Lib.hid (p := Row w10 g4 87 rec0.cs) (by rw [← hw10]; exact HR49.out.grown (grown_set w9 ⟨g, 51, none⟩ _) (fun e => by have h1 : g4 = g := Option.some.inj e; have h2 := H.out.row.lt; have h3 := HG4.out; omega))
      have HR810 := Lib.hid (p := Row w10 g8 87 (sealR m e0 s0 hl).cs) (by rw [← hw10]; exact HR89.out.grown (grown_set w9 ⟨g, 51, none⟩ _) (fun e => by have h1 : g8 = g := Option.some.inj e; have h2 := H.out.row.lt; have h3 := HG8.out; have h4 := HSZ2.out; omega))
      have HC10 := Lib.hid (p := Chg (g :: X.c.us.ownBlock.toList) w6 w10) (by rw [← hw10, HUS.out]; exact (((Chg.of (F := g :: (Value.slice AU nU cU).ownBlock.toList) HB7.out)).grown HG9.out (fun k hk => .inl (by rw [hk]; simp))).setCell (p := ⟨g, 51, none⟩) (.inl (by simp)) _)
      have HW10 := Lib.hid (p := Wider w6 (vfoot g X.c FD6 FA) (vfoot g { X.c with us := .slice A9 (nU + 1) c9 } FD6 FA)) (fun j hj => by
        rcases mem_vfoot.1 hj with h | h | h
        · exact .inl (mem_vfoot.2 (.inl h))
        · exact .inl (mem_vfoot.2 (.inr (.inl h)))
        · rcases mem_vown.1 h with e | e | e | e | e | e
          · exact .inl (mem_vfoot.2 (.inr (.inr (mem_vown.2 (.inl e)))))
          · exact .inl (mem_vfoot.2 (.inr (.inr (mem_vown.2 (.inr (.inl e))))))
          · exact .inl (mem_vfoot.2 (.inr (.inr (mem_vown.2 (.inr (.inr (.inl e)))))))
          · exact .inl (mem_vfoot.2 (.inr (.inr (mem_vown.2 (.inr (.inr (.inr (.inl e))))))))
          · exact .inl (mem_vfoot.2 (.inr (.inr (mem_vown.2 (.inr (.inr (.inr (.inr (.inl e)))))))))
          · have e : (Value.slice A9 (nU + 1) c9).ownBlock = some j := e
            rcases HAT9.out with h1 | ⟨p, h1, h2⟩
            · exact .inl (mem_vfoot.2 (.inr (.inr (mem_vown.2 (.inr (.inr (.inr (.inr (.inr (by rw [HUS.out]; exact h1 ▸ e))))))))))
            · rw [h1] at e
              cases e
              exact .inr h2)
      rw [hw10] at HV10 HF10 ⊢
      have c610 := HF10.out.2
      have f610 := HV10.out.gfr 6
      clear hw10 c519 f519 c51d hbu
      have HV11 := Lib.hid (HV10.out.p_s (s0 + 1))
      have HR411 := Lib.hid (HR410.out.grown (grown_set w10 ⟨g, 6, none⟩ (.int .u32 ((s0 + 1 : Nat) : Int))) (fun e => by have h1 : g4 = g := Option.some.inj e; have h2 := H.out.row.lt; have h3 := HG4.out; omega))
      have HR811 := Lib.hid (HR810.out.grown (grown_set w10 ⟨g, 6, none⟩ (.int .u32 ((s0 + 1 : Nat) : Int))) (fun e => by have h1 : g8 = g := Option.some.inj e; have h2 := H.out.row.lt; have h3 := HG8.out; have h4 := HSZ2.out; omega))
      go_wp2_with (first
        | (refine step_load rfl 70 rfl 87 (.tmp 8) rfl g8 rfl (sealR m e0 s0 hl).cs _ HR811.out.all Tryz.underlying87 rfl (i35.out _) ?_)
        | (refine step_store rfl 87 (.tmp 4) (.tmp 70) rfl g4 rfl _ _ (sealR m e0 s0 hl).cs rfl HR411.out (by rw [RecV.cs_len, RecV.cs_len]) (i35.out _) (RecV.cs_one _) ?_; intro w12 hr12 hg12 hs12))
      refine bodyPost_ret (results_cell_row rfl _ _ g4 _ _ _ _ rfl hr12 Tryz.underlying87 rfl (by simpa using i35.out _)) rfl ?_
      refine ⟨x, .slice A9 (nU + 1) c9, by rw [HE.out.1, HE.out.2, HXL.out], Lib.hid (by rw [HE.out.1, HE.out.2, HXL.out]; exact HHE.out.symm), ?_⟩
      have hE2 : X.sealed m x y (.slice A9 (nU + 1) c9) = { X with S := S8.putN X.S m 1, rs := X.rs ++ [(m, x)], E := more X.E m x, ts := X.ts ++ [(2, (m : Int), x)], c := { X.c with s := s0 + 1, us := .slice A9 (nU + 1) c9 }, ul := X.ul ++ [(e0, s0, y)] } := by unfold VX.sealed; rw [HE.out.1, HE.out.2]
      rw [hE2]
      refine seal_end H.out HV11.out HR411.out HG4.out (no_in HR411.out HV11.out) hg12 ((HC6.out.trans HC10.out (fun j hj => ?_)).setCell (p := ⟨g, 6, none⟩) (.inl (H.out.in_v _ (mem_vown.2 (.inl rfl)))) _) (HW6.out.trans HW10.out HC6.out.size)
      rcases List.mem_cons.1 hj with rfl | hj
      · exact .inl (H.out.in_v _ (mem_vown.2 (.inl rfl)))
      · exact .inl (H.out.in_v _ (mem_vown.2 (.inr (.inr (.inr (.inr (.inr (by simpa [Option.mem_toList] using hj))))))))
end
end Go.Proofs.YtpocccnhibjjcaaGreatDoor
