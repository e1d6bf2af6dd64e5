/- The law's Hold: Crash. Conditions: the Hold and its vault lie there. -/
import Derived.Test.YtpocccnhibjjcaaGreatDoorMgVpd
set_option linter.unusedVariables false
set_option maxRecDepth 20000
namespace Go.Proofs.YtpocccnhibjjcaaGreatDoor
open Go.RowKit

structure HS (b : Nat) (w : World) (gH : Nat) (G : List Nat) (n gd ga gv g q : Nat) (L : Nat → Nat → List UInt8) (old : Value) (m : Nat) (FD FA : List Nat) (X : VX) : Prop where
  row : Row w gH 64 (hCs n gd ga gv g old)
  vb : VB b w FD FA g q gv L X
  gd_ : X.c.gd = gd
  ga_ : X.c.ga = ga
  far : gH ∉ vfoot g X.c FD FA
  own : ∃ xs, w.ownsRow b 111 3 old m xs
  ofar : ∀ j, old.ownBlock = some j → j ∉ vfoot g X.c FD FA
  gf : ∀ j, j ∈ G ↔ j = gH ∨ old.ownBlock = some j ∨ j ∈ vfoot g X.c FD FA
  gb : b ≤ gH
  vl : VeilAt w G gv L
theorem ho_cell {w : World} {gH n gd ga gv g : Nat} {old : Value} (hH : Row w gH 64 (hCs n gd ga gv g old)) : w.cell? ⟨gH, 5, none⟩ = some old := (hH.cell 5).trans rfl
theorem hd_cell {w : World} {gH n gd ga gv g : Nat} {old : Value} (hH : Row w gH 64 (hCs n gd ga gv g old)) : w.cell? ⟨gH, 1, none⟩ = some (.pointer (some ⟨gd, 0, none⟩)) := (hH.cell 1).trans rfl
def hG (gH : Nat) (old : Value) (F : List Nat) : List Nat := gH :: (old.ownBlock.toList ++ F)
theorem mem_hG {gH : Nat} {old : Value} {F : List Nat} {j : Nat} : j ∈ hG gH old F ↔ j = gH ∨ old.ownBlock = some j ∨ j ∈ F := by simp [hG, Option.mem_toList]
section
variable {b : Nat} {w w' : World} {FD FA G : List Nat} {g q gv gH : Nat} {L : Nat → Nat → List UInt8} {X : VX} {n E k m : Nat} {c : Nat → List UInt8} {gd ga : Nat} {old : Value}
def HCr (b : Nat) (w : World) (gH : Nat) (G : List Nat) (n gd ga gv q : Nat) (L : Nat → Nat → List UInt8) (c : Nat → List UInt8) (E m : Nat) (e : Ending) (w' : World) : Prop :=
  e = .returned (.bool true) ∧ ∃ G' g old FD FA X, HS b w' gH G' n gd ga gv g q L old m FD FA X ∧ Hid (MPh g L n c E 50 X) ∧ Hid (Chg G w w') ∧ Hid (Wider w G G')
theorem HS.vb_far (h : HS b w gH G n gd ga gv g q L old m FD FA X) (hc : Chg (hG gH old []) w w') : VB b w' FD FA g q gv L X := by
  obtain ⟨xs, ho⟩ := h.own
  have key : ∀ j ∈ hG gH old [], j ∉ vfoot g X.c FD FA ∧ b ≤ j ∧ ∃ cs t fr, w.heap[j]? = some (.cells cs t fr) ∧ t ≠ 5 ∧ t ≠ 99 := fun j hj => by
    rcases mem_hG.1 hj with rfl | hj | hj
    · exact ⟨h.far, h.gb, _, _, _, h.row.heap, by decide, by decide⟩
    · refine ⟨h.ofar j hj, (ho.lt j hj).1, ?_⟩
      rcases ho.2 with ⟨rfl, _⟩ | ⟨p, cap, cur, rfl, _, hp, _⟩
      · cases hj
      · cases hj
        exact ⟨_, _, _, hp, by decide, by decide⟩
    · cases hj
  refine h.vb.far hc (fun j hj => (key j hj).1) (fun j hj => ?_) (fun j hj => ?_) (fun j hj => ?_) (fun j hj => (key j hj).2.1) ?_
  · obtain ⟨_, _, cs, t, fr, e, h1, _⟩ := key j hj
    intro cs' fr' e'
    rw [e] at e'
    injection e' with e'
    injection e' with _ e'
    exact h1 e'
  · obtain ⟨_, _, cs, t, fr, e, _, h1⟩ := key j hj
    intro cs' fr' e'
    rw [e] at e'
    injection e' with e'
    injection e' with _ e'
    exact h1 e'
  · obtain ⟨_, _, cs, t, fr, e, _⟩ := key j hj
    exact ⟨_, _, _, e⟩
  · exact h.vl.chg hc (fun j hj => .inl ((h.gf j).2 (by rcases mem_hG.1 hj with e | e | e; exact .inl e; exact .inr (.inl e); cases e))) (fun j hj => .inl ((h.gf j).2 (.inr (.inr hj))))
theorem HS.old_ {w5 w9 w10 : World} {old9 : Value} {m9 : Nat} {ys : List Value} (h : HS b w gH G n gd ga gv g q L old m FD FA X) (hb : Below w.heap.size w w5) (ho : w9.ownsRow b 111 3 old9 m9 ys) (hg9 : w5.grownBy w9 old.ownBlock) (hat : old9.ownBlock = old.ownBlock ∨ old9.ownBlock = some w5.heap.size) (hr : Row w10 gH 64 (hCs n gd ga gv g old9)) (hw : w10 = w9.setCell ⟨gH, 5, none⟩ old9) (hr9 : Row w9 gH 64 (hCs n gd ga gv g old)) :
    HS b w10 gH (hG gH old9 (vfoot g X.c FD FA)) n gd ga gv g q L old9 m9 FD FA X ∧ Chg G w w10 ∧ Wider w G (hG gH old9 (vfoot g X.c FD FA)) := by
  have hc0 : Chg (hG gH old []) w w10 := by
    rw [hw]
    exact ((Chg.of (F := hG gH old []) hb).grown hg9 (fun k hk => .inl (mem_hG.2 (.inr (.inl hk))))).setCell (p := ⟨gH, 5, none⟩) (.inl (mem_hG.2 (.inl rfl))) _
  have hin : ∀ j ∈ hG gH old [], j ∈ G := fun j hj => (h.gf j).2 (by rcases mem_hG.1 hj with e | e | e; exact .inl e; exact .inr (.inl e); cases e)
  have hc : Chg G w w10 := (Chg.refl G w).trans hc0 (fun j hj => .inl (hin j hj))
  have hnew : ∀ j, old9.ownBlock = some j → old.ownBlock = some j ∨ w.heap.size ≤ j := fun j hj => by
    rcases hat with e | e
    · exact .inl (e ▸ hj)
    · rw [e] at hj
      cases hj
      exact .inr hb.size
  have hwd : Wider w G (hG gH old9 (vfoot g X.c FD FA)) := fun j hj => by
    rcases mem_hG.1 hj with e | e | e
    · exact .inl ((h.gf j).2 (.inl e))
    · rcases hnew j e with e | e
      · exact .inl ((h.gf j).2 (.inr (.inl e)))
      · exact .inr e
    · exact .inl ((h.gf j).2 (.inr (.inr e)))
  refine ⟨⟨hr, h.vb_far hc0, h.gd_, h.ga_, h.far, ⟨ys, ?_⟩, fun j hj hx => ?_, fun j => mem_hG, h.gb, h.vl.chg hc0 (fun j hj => .inl (hin j hj)) hwd⟩, hc, hwd⟩
  · rw [hw]
    exact own_put ho hr9 (by decide) old9
  · rcases hnew j hj with e | e
    · exact h.ofar j e hx
    · have := (h.vb.g_lt j hx).2
      omega
theorem hcr_mk {w10 w11 wd w12 w13 : World} {g2 gs gn gh gc : Nat} {FD2 : List Nat} {un : Value} {kl : List Bool} (hs : HS b w10 gH G n gd ga gv g q L old m FD FA X) (hca : CA L n c X) (hD : PD b w11 gd FD2 (syncK (fun i => kl.getD i false) X.rs X.ss X.rs.length) [] X.E X.ts) (hc : Chg FD w10 w11) (hw : Wider w10 FD FD2) (hbd : Below w11.heap.size w11 wd)
    (hN : NewF wd w12 g2 gd ga (some ⟨gv, 0, none⟩) n (syncK (fun i => kl.getD i false) X.rs X.ss X.rs.length).length gs gn gh gc un) (hw13 : w13 = w12.setCell ⟨gH, 4, none⟩ (.pointer (some ⟨g2, 0, none⟩))) : HCr b w10 gH G n gd ga gv q L c (X.ae + 1) m (.returned (.bool true)) w13 := by
  have hcd : Chg FD w10 wd := hc.trans (Chg.of (F := []) hbd) (fun j hj => by cases hj)
  have hwd : Wider w10 FD FD2 := hw
  have hD7 := hD.kept hbd
  have hsz := hcd.size
  obtain ⟨k, hk, hA⟩ := hs.vb.anc
  rw [hs.ga_] at hA
  have hAd : AnAt b wd ga FA X.ae X.ar k := hA.chg hcd (fun j hj => (hs.vb.da j hj).1)
  have hFD : ∀ j ∈ FD, j ∈ G := fun j hj => (hs.gf j).2 (.inr (.inr (hs.vb.in_d j hj)))
  have hFA : ∀ j ∈ FA, j ∈ G := fun j hj => (hs.gf j).2 (.inr (.inr (hs.vb.in_a j hj)))
  have hV : VeilAt wd (FD2 ++ FA) gv L := hs.vl.chg hcd (fun j hj => .inl (hFD j hj)) (fun j hj => by
    rcases List.mem_append.1 hj with hj | hj
    · rcases hw j hj with e | e
      · exact .inl (hFD j e)
      · exact .inr e
    · exact .inl (hFA j hj))
  have hB : BaseT b wd := hs.vb.base.chg hcd (fun j hj => (hs.vb.dsk.lt j hj).1)
  have hda : ∀ j ∈ FD2, j ∉ FA := fun j hj hx => by
    rcases hw j hj with e | e
    · exact (hs.vb.da j e).1 hx
    · have := hs.vb.lt_a j hx
      omega
  obtain ⟨hVB, hb8, hF⟩ := vb_new (q := q) (rs := []) hN hD7 ⟨k, hk, hAd⟩ hV hB hda ⟨hca.n1, hca.n3⟩ ⟨hs.vb.lim.1, Nat.zero_le _, hs.vb.lim.2.2.2⟩
  obtain ⟨N0, hMI⟩ := hca.new (fun i => kl.getD i false) (newC gd ga (some ⟨gv, 0, none⟩) n gs gn gh gc un (stV 41 g2)) rfl rfl rfl rfl X.E X.ts
  have s12 := hb8.size
  have hgl := hs.row.lt
  have hgFD : gH ∉ FD := fun hx => hs.far (hs.vb.in_d _ hx)
  have hgFA : gH ∉ FA := fun hx => hs.far (hs.vb.in_a _ hx)
  have hr12 : Row w12 gH 64 (hCs n gd ga gv g old) := (hcd.row hs.row hgFD).kept hb8
  have hc12 : Chg FD w10 w12 := hcd.trans (Chg.of (F := []) hb8) (fun j hj => by cases hj)
  have notF : ∀ j, j < w10.heap.size → j ∉ FD → j ∉ FA → j ∉ vfoot g2 (newC gd ga (some ⟨gv, 0, none⟩) n gs gn gh gc un (stV 41 g2)) FD2 FA := fun j hj h1 h2 hx => by
    rcases hF j hx with e | e | e
    · rcases hw j e with e | e
      · exact h1 e
      · omega
    · exact h2 e
    · omega
  obtain ⟨xs, ho⟩ := hs.own
  have hofd : ∀ j, old.ownBlock = some j → j ∉ FD := fun j hj hx => hs.ofar j hj (hs.vb.in_d _ hx)
  have hofa : ∀ j, old.ownBlock = some j → j ∉ FA := fun j hj hx => hs.ofar j hj (hs.vb.in_a _ hx)
  have ho12 : w12.ownsRow b 111 3 old m xs := hc12.own ho hofd
  have hgG : gH ∈ G := (hs.gf _).2 (.inl rfl)
  have hc13 : Chg G w10 w13 := by
    rw [hw13]
    exact ((Chg.refl G w10).trans hc12 (fun j hj => .inl (hFD j hj))).setCell (p := ⟨gH, 4, none⟩) (.inl hgG) _
  have hwG : Wider w10 G (hG gH old (vfoot g2 (newC gd ga (some ⟨gv, 0, none⟩) n gs gn gh gc un (stV 41 g2)) FD2 FA)) := fun j hj => by
    rcases mem_hG.1 hj with e | e | e
    · exact .inl (e ▸ hgG)
    · exact .inl ((hs.gf j).2 (.inr (.inl e)))
    · rcases hF j e with e | e | e
      · rcases hw j e with e | e
        · exact .inl (hFD j e)
        · exact .inr e
      · exact .inl (hFA j e)
      · exact .inr (by omega)
  have hv13 : VeilAt w13 (hG gH old (vfoot g2 (newC gd ga (some ⟨gv, 0, none⟩) n gs gn gh gc un (stV 41 g2)) FD2 FA)) gv L := hs.vl.chg hc13 (fun j hj => .inl hj) hwG
  have hfar := notF gH hgl hgFD hgFA
  have hsub : ∀ j ∈ vfoot g2 (newC gd ga (some ⟨gv, 0, none⟩) n gs gn gh gc un (stV 41 g2)) FD2 FA, j ∈ hG gH old (vfoot g2 (newC gd ga (some ⟨gv, 0, none⟩) n gs gn gh gc un (stV 41 g2)) FD2 FA) := fun j hj => mem_hG.2 (.inr (.inr hj))
  have hvv : VeilAt w13 (vfoot g2 (newC gd ga (some ⟨gv, 0, none⟩) n gs gn gh gc un (stV 41 g2)) FD2 FA) gv L := hv13.chg (G := []) (Chg.refl _ _) (fun j hj => by cases hj) (fun j hj => .inl (hsub j hj))
  have hVB13 := hVB.far (w' := w13) (G := [gH]) (by rw [hw13]; exact (Chg.refl [gH] w12).setCell (p := ⟨gH, 4, none⟩) (.inl (List.mem_singleton.2 rfl)) _) (fun j hj => by rw [List.mem_singleton] at hj; subst hj; exact hfar) (fun j hj => by rw [List.mem_singleton] at hj; subst hj; exact row_noT hr12 (by decide)) (fun j hj => by rw [List.mem_singleton] at hj; subst hj; exact row_noT hr12 (by decide)) (fun j hj => by rw [List.mem_singleton] at hj; subst hj; exact ⟨_, _, _, hr12.heap⟩) (fun j hj => by rw [List.mem_singleton] at hj; subst hj; exact hs.gb) hvv
  refine ⟨rfl, _, g2, old, FD2, FA, _, ⟨?_, hVB13, rfl, rfl, hfar, ⟨xs, ?_⟩, fun j hj => ?_, fun j => mem_hG, hs.gb, hv13⟩, Lib.hid (.inl ⟨N0, hMI, rfl, rfl, ?_⟩), Lib.hid hc13, Lib.hid hwG⟩
  · have z := hr12.put 4 (.pointer (some ⟨g2, 0, none⟩))
    rw [hw13]
    exact z
  · rw [hw13]
    exact own_put ho12 hr12 (by decide) _
  · exact notF j (ho.lt j hj).2 (hofd j hj) (hofa j hj)
  · rw [allN_len, P7.al_len]
    have := (plcs_pw hca.n1 hca.n3).2.2
    omega
theorem HCr.trans {w10 : World} {G10 : List Nat} {mm : Nat} {e : Ending} (hc : Chg G w w10) (hw : Wider w G G10) (h : HCr b w10 gH G10 n gd ga gv q L c E mm e w') : HCr b w gH G n gd ga gv q L c E mm e w' := by
  obtain ⟨he, G', g', old', FD', FA', X', h1, h2, h3, h4⟩ := h
  exact ⟨he, G', g', old', FD', FA', X', h1, h2, Lib.hid (hc.trans h3.out hw), Lib.hid (hw.trans h4.out hc.size)⟩
theorem enB_of {NB : Nat} (h1 : 1 ≤ n) (h3 : n ≤ 3) (h : 2 * (plcs n).length ≤ NB) : enB (n : Int) (NB : Int) = true ∧ 1 ≤ NB := by
  have e := plcs_pw h1 h3
  have ep := P7.pw_pos n
  refine ⟨?_, by omega⟩
  unfold enB
  rw [P7.sl_of h1 (by omega), P7.lv_of h1 (by omega)]
  simp
  omega
set_option maxHeartbeats 2000000 in
theorem hcrash (h : HS b w gH G n gd ga gv g q L old m FD FA X) (hca : CA L n c X) (hm : m + X.ul.length ≤ 1000000) (KA : Option Addr) (kc : Nat) (kl : List Bool) (hK : HolV w KA (kl.map Value.bool)) (hKn : ∀ g0 o, KA = some ⟨g0, o, none⟩ → kl.map Value.bool ≠ [] → g0 ∉ G) :
    Calls Tryz.prog 32 #[.pointer (some ⟨gH, 0, none⟩), .slice KA kl.length kc] w (HCr b w gH G n gd ga gv q L c (X.ae + 1) (m + X.ul.length)) := by
  have H := Lib.hid h
  have HCA := Lib.hid hca
  have HM := Lib.hid hm
  have HK := Lib.hid hK
  have HKN := Lib.hid hKn
  obtain ⟨nU, hnU⟩ : ∃ nU, X.ul.length = nU := ⟨_, rfl⟩
  have HU := Lib.hid (p := ∀ w2, Below w.heap.size w w2 → Calls Tryz.prog 26 #[.pointer (some ⟨g, 0, none⟩)] w2 (UsesP w2 nU)) (fun w2 hb => by rw [← hnU]; exact vuses (h.vb.below hb))
  have HF := Lib.hid (p := ∀ w2, Below w.heap.size w w2 → Row w2 gH 64 (hCs n gd ga gv g old)) (fun w2 hb => h.row.kept hb)
  have HOW := Lib.hid h.own
  rw [hnU] at HM ⊢
  clear h hca hm hK hKn
  obtain ⟨xs, HO⟩ := HOW.out
  have HO := Lib.hid HO
  have c5d := ho_cell (HF.out _ (below_drw w))
  go_enter Tryz.func32, Tryz.ntmps32
  go_wp2_with fail
  refine wp_region_held_drew (S := fun W => W.cell? ⟨gH, 4, none⟩ = some (.pointer (some ⟨g, 0, none⟩))) (by kernel_rfl) (hv_cell (HF.out _ (below_drw _))) (fun hHeld => ?_)
  refine wpAnyH_take (i := 0) (oi := ⟨some 7, .move (.tmp 0), _, _, _, _⟩) (v := .pointer (some ⟨gH, 0, none⟩)) rfl (by kernel_rfl) (by kernel_rfl) (by kernel_rfl) (fun _ _ _ h => h) (.inl ⟨by rfl, fun w hSw => by go_simp⟩) (by assumption) ?_
  simp only [Act.put, List.setIfInBounds_toArray, List.set_cons_zero, List.set_cons_succ]
  refine wpAnyH_take (i := 1) (oi := ⟨some 8, .move (.tmp 0), _, _, _, _⟩) (v := .pointer (some ⟨gH, 0, none⟩)) rfl (by kernel_rfl) (by kernel_rfl) (by kernel_rfl) (fun _ _ _ h => h) (.inl ⟨by rfl, fun w hSw => by go_simp⟩) (by assumption) ?_
  simp only [Act.put, List.setIfInBounds_toArray, List.set_cons_zero, List.set_cons_succ]
  refine wpAnyH_take (i := 2) (oi := ⟨some 9, .nilCheck (.tmp 8), _, _, _, _⟩) (v := .pointer (some ⟨gH, 0, none⟩)) rfl (by kernel_rfl) (by kernel_rfl) (by kernel_rfl) (fun _ _ _ h => h) (.inl ⟨by rfl, fun w hSw => by go_simp⟩) (by assumption) ?_
  simp only [Act.put, List.setIfInBounds_toArray, List.set_cons_zero, List.set_cons_succ]
  refine wpAnyH_take (i := 3) (oi := ⟨some 10, .fieldAddr 64 (.tmp 9) 5, _, _, _, _⟩) (v := .pointer (some ⟨gH, 5, none⟩)) rfl (by kernel_rfl) (by kernel_rfl) (by kernel_rfl) (fun _ _ _ h => h) (.inl ⟨by rfl, fun w hSw => by go_simp⟩) (by assumption) ?_
  simp only [Act.put, List.setIfInBounds_toArray, List.set_cons_zero, List.set_cons_succ]
  refine wpAnyH_take (i := 5) (oi := ⟨some 12, .move (.tmp 0), _, _, _, _⟩) (v := .pointer (some ⟨gH, 0, none⟩)) rfl (by kernel_rfl) (by kernel_rfl) (by kernel_rfl) (fun _ _ _ h => h) (.inl ⟨by rfl, fun w hSw => by go_simp⟩) (by assumption) ?_
  simp only [Act.put, List.setIfInBounds_toArray, List.set_cons_zero, List.set_cons_succ]
  refine wpAnyH_take (i := 6) (oi := ⟨some 13, .nilCheck (.tmp 12), _, _, _, _⟩) (v := .pointer (some ⟨gH, 0, none⟩)) rfl (by kernel_rfl) (by kernel_rfl) (by kernel_rfl) (fun _ _ _ h => h) (.inl ⟨by rfl, fun w hSw => by go_simp⟩) (by assumption) ?_
  simp only [Act.put, List.setIfInBounds_toArray, List.set_cons_zero, List.set_cons_succ]
  refine wpAnyH_take (i := 7) (oi := ⟨some 14, .fieldAddr 64 (.tmp 13) 4, _, _, _, _⟩) (v := .pointer (some ⟨gH, 4, none⟩)) rfl (by kernel_rfl) (by kernel_rfl) (by kernel_rfl) (fun _ _ _ h => h) (.inl ⟨by rfl, fun w hSw => by go_simp⟩) (by assumption) ?_
  simp only [Act.put, List.setIfInBounds_toArray, List.set_cons_zero, List.set_cons_succ]
  refine wpAnyH_take (i := 8) (oi := ⟨some 15, .load 27 (.tmp 14), _, _, _, _⟩) (v := .pointer (some ⟨g, 0, none⟩)) rfl (by kernel_rfl) (by kernel_rfl) (by kernel_rfl) (fun _ _ _ h => h) (.inl ⟨by rfl, fun w hSw => by have z := hSw; go_simp⟩) (by assumption) ?_
  simp only [Act.put, List.setIfInBounds_toArray, List.set_cons_zero, List.set_cons_succ]
  refine wpAnyH_ready (rs := [4, 9]) (by kernel_rfl) (by simp) ?_
  refine AllReadyH.cons (o := ⟨some 11, .load 46 (.tmp 10), _, _, _, _⟩) rfl (fun K hK => ?_) (AllReadyH.cons (o := ⟨some 16, .call ⟨.value (.func 26), #[.tmp 15], _⟩, _, _, _, _⟩) rfl (fun K hK => ?_) AllReadyH.nil)
  · skip
    go_simp
    refine hK.out _ _ (hv_cell (HF.out _ (below_drw _))) (fun _hH => ?_)
    clear hK K
    refine wpAnyH_ready (rs := [9]) (by kernel_rfl) (by simp) ?_
    refine AllReadyH.cons (o := ⟨some 16, .call ⟨.value (.func 26), #[.tmp 15], _⟩, _, _, _, _⟩) rfl (fun K hK => ?_) AllReadyH.nil
    go_simp
    refine (HU.out _ (below_drw w)).mono ?_
    rintro e5 w5 ⟨B5, d5, xs5, rfl, HU5, HX5, HB5⟩
    have HB6 := Lib.hid (p := Below w.heap.size w w5) (below_nxt HB5.out (below_drw w))
    have c55 := ho_cell (HF.out _ HB6.out)
    refine hK.out _ _ (hv_cell (HF.out _ HB6.out)) (fun _hH => ?_)
    clear hK K
    refine wpAnyH_ready (rs := [10]) (by kernel_rfl) (by simp) ?_
    refine AllReadyH.cons (o := ⟨some 17, .call ⟨.builtin .append, #[.tmp 11, .tmp 16], #[46, 46]⟩, _, _, _, _⟩) rfl (fun K hK => ?_) AllReadyH.nil
    refine step_join rfl (.tmp 11) (.tmp 16) rfl rec_use b old m xs rfl (own_kept HO.out HB6.out) B5 nU d5 xs5 rfl HU5.out.1 (own_src HU5.out) HX5.out (by have := HM.out; omega) (Nat.le_trans H.out.vb.base.le HB6.out.size) ?_
    intro v9 w9 hr9 hg9 hat9
    obtain ⟨A9, c9, rfl⟩ := own_sl hr9
    have HO9 := Lib.hid hr9
    have HG9 := Lib.hid hg9
    have HAT9 := Lib.hid hat9
    have HR9 := Lib.hid (p := Row w9 gH 64 (hCs n gd ga gv g old)) ((HF.out _ HB6.out).grown hg9 (row_parted H.out.row HO.out (by decide)).symm)
    have c59 := ho_cell HR9.out
    have f59 : w9.frozen? ⟨gH, 5, none⟩ = false := HR9.out.free 5
    clear hr9 hg9 hat9
    refine hK.out _ _ (hv_cell HR9.out) (fun _hH => ?_)
    clear hK K
    refine wpAnyH_take (i := 11) (oi := ⟨some 18, .nilCheck (.tmp 7), _, _, _, _⟩) (v := .pointer (some ⟨gH, 0, none⟩)) rfl (by kernel_rfl) (by kernel_rfl) (by kernel_rfl) (fun _ _ _ h => h) (.inl ⟨by rfl, fun w hSw => by go_simp⟩) (by assumption) ?_
    simp only [Act.put, List.setIfInBounds_toArray, List.set_cons_zero, List.set_cons_succ]
    refine wpAnyH_take (i := 12) (oi := ⟨some 19, .fieldAddr 64 (.tmp 18) 5, _, _, _, _⟩) (v := .pointer (some ⟨gH, 5, none⟩)) rfl (by kernel_rfl) (by kernel_rfl) (by kernel_rfl) (fun _ _ _ h => h) (.inl ⟨by rfl, fun w hSw => by go_simp⟩) (by assumption) ?_
    simp only [Act.put, List.setIfInBounds_toArray, List.set_cons_zero, List.set_cons_succ]
    refine wpAnyH_ready (rs := [13]) (by kernel_rfl) (by simp) ?_
    refine AllReadyH.cons (o := ⟨none, .store 46 (.tmp 19) (.tmp 17), _, _, _, _⟩) rfl (fun K hK => ?_) AllReadyH.nil
    go_simp
    have HR10 := Lib.hid (HR9.out.put 5 (.slice A9 (m + nU) c9))
    refine hK.out _ _ (hv_cell HR10.out) (fun _hH => ?_)
    clear hK K
    refine wpAnyH_done (by kernel_rfl) ?_ _
    obtain ⟨hs10, hc10, hw10⟩ := H.out.old_ HB6.out HO9.out HG9.out HAT9.out (by have z := HR10.out; exact z) rfl HR9.out
    have HS10 := Lib.hid hs10
    have HC10 := Lib.hid hc10
    have HW10 := Lib.hid hw10
    clear hs10 hc10 hw10 c59 f59
    obtain ⟨w10, hw10⟩ : ∃ w10, w9.setCell ⟨gH, 5, none⟩ (.slice A9 (m + nU) c9) = w10 := ⟨_, rfl⟩
    rw [hw10] at HS10 HC10 ⊢
    clear hw10 HR10
    have c1 := hd_cell HS10.out.row
    go_wp2_with (go_at_call 61
                 have hd0 := HS10.out.vb.dsk
                 rw [HS10.out.gd_] at hd0
                 refine (hd0.crash (by have := HS10.out.vb.lim; omega) KA kl.length kc kl rfl (HK.out.chg HC10.out HKN.out) (fun g0 o e1 e2 hx => by
                   have h1 := HKN.out g0 o e1 e2
                   exact h1 ((H.out.gf g0).2 (.inr (.inr (H.out.vb.in_d g0 hx)))))).mono ?_
                 rintro e w11 ⟨rfl, FD2, HD2, HCD, HWD⟩
                 clear hd0)
    have HR11 := Lib.hid (p := ∀ W, Below w11.heap.size w11 W → Row W gH 64 (hCs n gd ga gv g (.slice A9 (m + nU) c9))) (fun W hb => (HCD.out.row HS10.out.row (fun hx => HS10.out.far (HS10.out.vb.in_d _ hx))).kept hb)
    have HF3 := Lib.hid (p := ∀ W, Below w11.heap.size w11 W → W.cell? ⟨gH, 1, none⟩ = some (.pointer (some ⟨gd, 0, none⟩)) ∧ W.cell? ⟨gH, 2, none⟩ = some (.pointer (some ⟨ga, 0, none⟩)) ∧ W.cell? ⟨gH, 3, none⟩ = some (.pointer (some ⟨gv, 0, none⟩)) ∧ W.cell? ⟨gH, 0, none⟩ = some (.int .i64 (n : Int))) (fun W hb => ⟨((HR11.out W hb).cell 1).trans rfl, ((HR11.out W hb).cell 2).trans rfl, ((HR11.out W hb).cell 3).trans rfl, ((HR11.out W hb).cell 0).trans rfl⟩)
    have HTB := Lib.hid (p := ∀ W, Below w11.heap.size w11 W → S8.Tab W) (fun W hb => (HS10.out.vb.base.chg (HCD.out.trans (Chg.of (F := []) hb) (fun j hj => by cases hj)) (fun j hj => (HS10.out.vb.dsk.lt j hj).1)).tab)
    have HSL := Lib.hid (p := (syncK (fun i => kl.getD i false) X.rs X.ss X.rs.length).length = X.ss.length) (syncK_len _ _ _ _)
    have HEN := Lib.hid (enB_of HCA.out.n1 HCA.out.n3 HCA.out.room)
    clear c1
    refine wp_region_held_drew (S := fun W => W.cell? ⟨gH, 1, none⟩ = some (.pointer (some ⟨gd, 0, none⟩)) ∧ W.cell? ⟨gH, 2, none⟩ = some (.pointer (some ⟨ga, 0, none⟩)) ∧ W.cell? ⟨gH, 3, none⟩ = some (.pointer (some ⟨gv, 0, none⟩)) ∧ W.cell? ⟨gH, 0, none⟩ = some (.int .i64 (n : Int))) (by kernel_rfl) (HF3.out _ (below_drw _)) (fun hHeld => ?_)
    refine wpAnyH_take (i := 0) (oi := ⟨some 27, .move (.tmp 0), _, _, _, _⟩) (v := .pointer (some ⟨gH, 0, none⟩)) rfl (by kernel_rfl) (by kernel_rfl) (by kernel_rfl) (fun _ _ _ h => h) (.inl ⟨by rfl, fun w hSw => by go_simp⟩) (by assumption) ?_
    simp only [Act.put, List.setIfInBounds_toArray, List.set_cons_zero, List.set_cons_succ]
    refine wpAnyH_take (i := 1) (oi := ⟨some 28, .nilCheck (.tmp 27), _, _, _, _⟩) (v := .pointer (some ⟨gH, 0, none⟩)) rfl (by kernel_rfl) (by kernel_rfl) (by kernel_rfl) (fun _ _ _ h => h) (.inl ⟨by rfl, fun w hSw => by go_simp⟩) (by assumption) ?_
    simp only [Act.put, List.setIfInBounds_toArray, List.set_cons_zero, List.set_cons_succ]
    refine wpAnyH_take (i := 2) (oi := ⟨some 29, .fieldAddr 64 (.tmp 28) 1, _, _, _, _⟩) (v := .pointer (some ⟨gH, 1, none⟩)) rfl (by kernel_rfl) (by kernel_rfl) (by kernel_rfl) (fun _ _ _ h => h) (.inl ⟨by rfl, fun w hSw => by go_simp⟩) (by assumption) ?_
    simp only [Act.put, List.setIfInBounds_toArray, List.set_cons_zero, List.set_cons_succ]
    refine wpAnyH_take (i := 3) (oi := ⟨some 30, .load 23 (.tmp 29), _, _, _, _⟩) (v := .pointer (some ⟨gd, 0, none⟩)) rfl (by kernel_rfl) (by kernel_rfl) (by kernel_rfl) (fun _ _ _ h => h) (.inl ⟨by rfl, fun w hSw => by have z := hSw.1; go_simp⟩) (by assumption) ?_
    simp only [Act.put, List.setIfInBounds_toArray, List.set_cons_zero, List.set_cons_succ]
    refine wpAnyH_take (i := 4) (oi := ⟨some 31, .move (.tmp 0), _, _, _, _⟩) (v := .pointer (some ⟨gH, 0, none⟩)) rfl (by kernel_rfl) (by kernel_rfl) (by kernel_rfl) (fun _ _ _ h => h) (.inl ⟨by rfl, fun w hSw => by go_simp⟩) (by assumption) ?_
    simp only [Act.put, List.setIfInBounds_toArray, List.set_cons_zero, List.set_cons_succ]
    refine wpAnyH_take (i := 5) (oi := ⟨some 32, .nilCheck (.tmp 31), _, _, _, _⟩) (v := .pointer (some ⟨gH, 0, none⟩)) rfl (by kernel_rfl) (by kernel_rfl) (by kernel_rfl) (fun _ _ _ h => h) (.inl ⟨by rfl, fun w hSw => by go_simp⟩) (by assumption) ?_
    simp only [Act.put, List.setIfInBounds_toArray, List.set_cons_zero, List.set_cons_succ]
    refine wpAnyH_take (i := 6) (oi := ⟨some 33, .fieldAddr 64 (.tmp 32) 2, _, _, _, _⟩) (v := .pointer (some ⟨gH, 2, none⟩)) rfl (by kernel_rfl) (by kernel_rfl) (by kernel_rfl) (fun _ _ _ h => h) (.inl ⟨by rfl, fun w hSw => by go_simp⟩) (by assumption) ?_
    simp only [Act.put, List.setIfInBounds_toArray, List.set_cons_zero, List.set_cons_succ]
    refine wpAnyH_take (i := 7) (oi := ⟨some 34, .load 30 (.tmp 33), _, _, _, _⟩) (v := .pointer (some ⟨ga, 0, none⟩)) rfl (by kernel_rfl) (by kernel_rfl) (by kernel_rfl) (fun _ _ _ h => h) (.inl ⟨by rfl, fun w hSw => by have z := hSw.2.1; go_simp⟩) (by assumption) ?_
    simp only [Act.put, List.setIfInBounds_toArray, List.set_cons_zero, List.set_cons_succ]
    refine wpAnyH_take (i := 8) (oi := ⟨some 35, .move (.tmp 0), _, _, _, _⟩) (v := .pointer (some ⟨gH, 0, none⟩)) rfl (by kernel_rfl) (by kernel_rfl) (by kernel_rfl) (fun _ _ _ h => h) (.inl ⟨by rfl, fun w hSw => by go_simp⟩) (by assumption) ?_
    simp only [Act.put, List.setIfInBounds_toArray, List.set_cons_zero, List.set_cons_succ]
    refine wpAnyH_take (i := 9) (oi := ⟨some 36, .nilCheck (.tmp 35), _, _, _, _⟩) (v := .pointer (some ⟨gH, 0, none⟩)) rfl (by kernel_rfl) (by kernel_rfl) (by kernel_rfl) (fun _ _ _ h => h) (.inl ⟨by rfl, fun w hSw => by go_simp⟩) (by assumption) ?_
    simp only [Act.put, List.setIfInBounds_toArray, List.set_cons_zero, List.set_cons_succ]
    refine wpAnyH_take (i := 10) (oi := ⟨some 37, .fieldAddr 64 (.tmp 36) 3, _, _, _, _⟩) (v := .pointer (some ⟨gH, 3, none⟩)) rfl (by kernel_rfl) (by kernel_rfl) (by kernel_rfl) (fun _ _ _ h => h) (.inl ⟨by rfl, fun w hSw => by go_simp⟩) (by assumption) ?_
    simp only [Act.put, List.setIfInBounds_toArray, List.set_cons_zero, List.set_cons_succ]
    refine wpAnyH_take (i := 11) (oi := ⟨some 38, .load 62 (.tmp 37), _, _, _, _⟩) (v := .pointer (some ⟨gv, 0, none⟩)) rfl (by kernel_rfl) (by kernel_rfl) (by kernel_rfl) (fun _ _ _ h => h) (.inl ⟨by rfl, fun w hSw => by have z := hSw.2.2.1; go_simp⟩) (by assumption) ?_
    simp only [Act.put, List.setIfInBounds_toArray, List.set_cons_zero, List.set_cons_succ]
    refine wpAnyH_take (i := 12) (oi := ⟨some 39, .move (.tmp 0), _, _, _, _⟩) (v := .pointer (some ⟨gH, 0, none⟩)) rfl (by kernel_rfl) (by kernel_rfl) (by kernel_rfl) (fun _ _ _ h => h) (.inl ⟨by rfl, fun w hSw => by go_simp⟩) (by assumption) ?_
    simp only [Act.put, List.setIfInBounds_toArray, List.set_cons_zero, List.set_cons_succ]
    refine wpAnyH_take (i := 13) (oi := ⟨some 40, .nilCheck (.tmp 39), _, _, _, _⟩) (v := .pointer (some ⟨gH, 0, none⟩)) rfl (by kernel_rfl) (by kernel_rfl) (by kernel_rfl) (fun _ _ _ h => h) (.inl ⟨by rfl, fun w hSw => by go_simp⟩) (by assumption) ?_
    simp only [Act.put, List.setIfInBounds_toArray, List.set_cons_zero, List.set_cons_succ]
    refine wpAnyH_take (i := 14) (oi := ⟨some 41, .fieldAddr 64 (.tmp 40) 0, _, _, _, _⟩) (v := .pointer (some ⟨gH, 0, none⟩)) rfl (by kernel_rfl) (by kernel_rfl) (by kernel_rfl) (fun _ _ _ h => h) (.inl ⟨by rfl, fun w hSw => by go_simp⟩) (by assumption) ?_
    simp only [Act.put, List.setIfInBounds_toArray, List.set_cons_zero, List.set_cons_succ]
    refine wpAnyH_take (i := 15) (oi := ⟨some 42, .load 3 (.tmp 41), _, _, _, _⟩) (v := .int .i64 (n : Int)) rfl (by kernel_rfl) (by kernel_rfl) (by kernel_rfl) (fun _ _ _ h => h) (.inl ⟨by rfl, fun w hSw => by have z := hSw.2.2.2; go_simp⟩) (by assumption) ?_
    simp only [Act.put, List.setIfInBounds_toArray, List.set_cons_zero, List.set_cons_succ]
    refine wpAnyH_ready (rs := [16]) (by kernel_rfl) (by simp) ?_
    refine AllReadyH.cons (o := ⟨some 43, .call ⟨.value (.func 9), #[.tmp 30, .tmp 34, .tmp 38, .tmp 42], _⟩, _, _, _, _⟩) rfl (fun K hK => ?_) AllReadyH.nil
    go_simp
    refine (vnew (ga := ga) (some ⟨gv, 0, none⟩) (HD2.out.kept (below_drw w11)) n HCA.out.n1 (by have := HCA.out.n3; omega) (by rw [HSL.out]; exact HEN.out.1) (by rw [HSL.out]; exact HEN.out.2) (by rw [HSL.out]; exact HCA.out.nb) (HTB.out _ (below_drw _))).mono ?_
    rintro e w12 ⟨g2, gs, gn, gh, gc, un, rfl, hN⟩
    have HN2 := Lib.hid hN
    clear hN
    have HB12 := Lib.hid (p := Below w11.heap.size w11 w12) (below_nxt HN2.out.below (below_drw w11))
    have c412 := hv_cell (HR11.out _ HB12.out)
    have f412 : w12.frozen? ⟨gH, 4, none⟩ = false := (HR11.out _ HB12.out).free 4
    refine hK.out _ _ (HF3.out _ HB12.out) (fun _hH3 => ?_)
    clear hK K
    refine wpAnyH_take (i := 17) (oi := ⟨some 26, .move (.tmp 43), _, _, _, _⟩) (v := .tuple #[.pointer (some ⟨g2, 0, none⟩), .int .i64 0]) rfl (by kernel_rfl) (by kernel_rfl) (by kernel_rfl) (fun _ _ _ h => h) (.inl ⟨by rfl, fun w hSw => by go_simp⟩) (by assumption) ?_
    simp only [Act.put, List.setIfInBounds_toArray, List.set_cons_zero, List.set_cons_succ]
    refine wpAnyH_take (i := 18) (oi := ⟨some 44, .extract (.tmp 26) 0, _, _, _, _⟩) (v := .pointer (some ⟨g2, 0, none⟩)) rfl (by kernel_rfl) (by kernel_rfl) (by kernel_rfl) (fun _ _ _ h => h) (.inl ⟨by rfl, fun w hSw => by go_simp⟩) (by assumption) ?_
    simp only [Act.put, List.setIfInBounds_toArray, List.set_cons_zero, List.set_cons_succ]
    refine wpAnyH_take (i := 19) (oi := ⟨some 45, .extract (.tmp 26) 1, _, _, _, _⟩) (v := .int .i64 0) rfl (by kernel_rfl) (by kernel_rfl) (by kernel_rfl) (fun _ _ _ h => h) (.inl ⟨by rfl, fun w hSw => by go_simp⟩) (by assumption) ?_
    simp only [Act.put, List.setIfInBounds_toArray, List.set_cons_zero, List.set_cons_succ]
    refine wpAnyH_take (i := 20) (oi := ⟨some 5, .assign (.tmp 44), _, _, _, _⟩) (v := .pointer (some ⟨g2, 0, none⟩)) rfl (by kernel_rfl) (by kernel_rfl) (by kernel_rfl) (fun _ _ _ h => h) (.inl ⟨by rfl, fun w hSw => by go_simp⟩) (by assumption) ?_
    simp only [Act.put, List.setIfInBounds_toArray, List.set_cons_zero, List.set_cons_succ]
    refine wpAnyH_take (i := 21) (oi := ⟨some 6, .assign (.tmp 45), _, _, _, _⟩) (v := .int .i64 0) rfl (by kernel_rfl) (by kernel_rfl) (by kernel_rfl) (fun _ _ _ h => h) (.inl ⟨by rfl, fun w hSw => by go_simp⟩) (by assumption) ?_
    simp only [Act.put, List.setIfInBounds_toArray, List.set_cons_zero, List.set_cons_succ]
    refine wpAnyH_done (by kernel_rfl) ?_ _
    go_wp2
    go_ret
    exact HCr.trans HC10.out HW10.out (hcr_mk HS10.out HCA.out HD2.out HCD.out HWD.out (below_drw w11) HN2.out rfl)
  · skip
    go_simp
    refine (HU.out _ (below_drw w)).mono ?_
    rintro e5 w5 ⟨B5, d5, xs5, rfl, HU5, HX5, HB5⟩
    have HB6 := Lib.hid (p := Below w.heap.size w w5) (below_nxt HB5.out (below_drw w))
    have c55 := ho_cell (HF.out _ HB6.out)
    refine hK.out _ _ (hv_cell (HF.out _ HB6.out)) (fun _hH => ?_)
    clear hK K
    refine wpAnyH_ready (rs := [4]) (by kernel_rfl) (by simp) ?_
    refine AllReadyH.cons (o := ⟨some 11, .load 46 (.tmp 10), _, _, _, _⟩) rfl (fun K hK => ?_) AllReadyH.nil
    go_simp
    refine hK.out _ _ (hv_cell (HF.out _ HB6.out)) (fun _hH => ?_)
    clear hK K
    refine wpAnyH_ready (rs := [10]) (by kernel_rfl) (by simp) ?_
    refine AllReadyH.cons (o := ⟨some 17, .call ⟨.builtin .append, #[.tmp 11, .tmp 16], #[46, 46]⟩, _, _, _, _⟩) rfl (fun K hK => ?_) AllReadyH.nil
    refine step_join rfl (.tmp 11) (.tmp 16) rfl rec_use b old m xs rfl (own_kept HO.out HB6.out) B5 nU d5 xs5 rfl HU5.out.1 (own_src HU5.out) HX5.out (by have := HM.out; omega) (Nat.le_trans H.out.vb.base.le HB6.out.size) ?_
    intro v9 w9 hr9 hg9 hat9
    obtain ⟨A9, c9, rfl⟩ := own_sl hr9
    have HO9 := Lib.hid hr9
    have HG9 := Lib.hid hg9
    have HAT9 := Lib.hid hat9
    have HR9 := Lib.hid (p := Row w9 gH 64 (hCs n gd ga gv g old)) ((HF.out _ HB6.out).grown hg9 (row_parted H.out.row HO.out (by decide)).symm)
    have c59 := ho_cell HR9.out
    have f59 : w9.frozen? ⟨gH, 5, none⟩ = false := HR9.out.free 5
    clear hr9 hg9 hat9
    refine hK.out _ _ (hv_cell HR9.out) (fun _hH => ?_)
    clear hK K
    refine wpAnyH_take (i := 11) (oi := ⟨some 18, .nilCheck (.tmp 7), _, _, _, _⟩) (v := .pointer (some ⟨gH, 0, none⟩)) rfl (by kernel_rfl) (by kernel_rfl) (by kernel_rfl) (fun _ _ _ h => h) (.inl ⟨by rfl, fun w hSw => by go_simp⟩) (by assumption) ?_
    simp only [Act.put, List.setIfInBounds_toArray, List.set_cons_zero, List.set_cons_succ]
    refine wpAnyH_take (i := 12) (oi := ⟨some 19, .fieldAddr 64 (.tmp 18) 5, _, _, _, _⟩) (v := .pointer (some ⟨gH, 5, none⟩)) rfl (by kernel_rfl) (by kernel_rfl) (by kernel_rfl) (fun _ _ _ h => h) (.inl ⟨by rfl, fun w hSw => by go_simp⟩) (by assumption) ?_
    simp only [Act.put, List.setIfInBounds_toArray, List.set_cons_zero, List.set_cons_succ]
    refine wpAnyH_ready (rs := [13]) (by kernel_rfl) (by simp) ?_
    refine AllReadyH.cons (o := ⟨none, .store 46 (.tmp 19) (.tmp 17), _, _, _, _⟩) rfl (fun K hK => ?_) AllReadyH.nil
    go_simp
    have HR10 := Lib.hid (HR9.out.put 5 (.slice A9 (m + nU) c9))
    refine hK.out _ _ (hv_cell HR10.out) (fun _hH => ?_)
    clear hK K
    refine wpAnyH_done (by kernel_rfl) ?_ _
    obtain ⟨hs10, hc10, hw10⟩ := H.out.old_ HB6.out HO9.out HG9.out HAT9.out (by have z := HR10.out; exact z) rfl HR9.out
    have HS10 := Lib.hid hs10
    have HC10 := Lib.hid hc10
    have HW10 := Lib.hid hw10
    clear hs10 hc10 hw10 c59 f59
    obtain ⟨w10, hw10⟩ : ∃ w10, w9.setCell ⟨gH, 5, none⟩ (.slice A9 (m + nU) c9) = w10 := ⟨_, rfl⟩
    rw [hw10] at HS10 HC10 ⊢
    clear hw10 HR10
    have c1 := hd_cell HS10.out.row
    go_wp2_with (go_at_call 61
                 have hd0 := HS10.out.vb.dsk
                 rw [HS10.out.gd_] at hd0
                 refine (hd0.crash (by have := HS10.out.vb.lim; omega) KA kl.length kc kl rfl (HK.out.chg HC10.out HKN.out) (fun g0 o e1 e2 hx => by
                   have h1 := HKN.out g0 o e1 e2
                   exact h1 ((H.out.gf g0).2 (.inr (.inr (H.out.vb.in_d g0 hx)))))).mono ?_
                 rintro e w11 ⟨rfl, FD2, HD2, HCD, HWD⟩
                 clear hd0)
    have HR11 := Lib.hid (p := ∀ W, Below w11.heap.size w11 W → Row W gH 64 (hCs n gd ga gv g (.slice A9 (m + nU) c9))) (fun W hb => (HCD.out.row HS10.out.row (fun hx => HS10.out.far (HS10.out.vb.in_d _ hx))).kept hb)
    have HF3 := Lib.hid (p := ∀ W, Below w11.heap.size w11 W → W.cell? ⟨gH, 1, none⟩ = some (.pointer (some ⟨gd, 0, none⟩)) ∧ W.cell? ⟨gH, 2, none⟩ = some (.pointer (some ⟨ga, 0, none⟩)) ∧ W.cell? ⟨gH, 3, none⟩ = some (.pointer (some ⟨gv, 0, none⟩)) ∧ W.cell? ⟨gH, 0, none⟩ = some (.int .i64 (n : Int))) (fun W hb => ⟨((HR11.out W hb).cell 1).trans rfl, ((HR11.out W hb).cell 2).trans rfl, ((HR11.out W hb).cell 3).trans rfl, ((HR11.out W hb).cell 0).trans rfl⟩)
    have HTB := Lib.hid (p := ∀ W, Below w11.heap.size w11 W → S8.Tab W) (fun W hb => (HS10.out.vb.base.chg (HCD.out.trans (Chg.of (F := []) hb) (fun j hj => by cases hj)) (fun j hj => (HS10.out.vb.dsk.lt j hj).1)).tab)
    have HSL := Lib.hid (p := (syncK (fun i => kl.getD i false) X.rs X.ss X.rs.length).length = X.ss.length) (syncK_len _ _ _ _)
    have HEN := Lib.hid (enB_of HCA.out.n1 HCA.out.n3 HCA.out.room)
    clear c1
    refine wp_region_held_drew (S := fun W => W.cell? ⟨gH, 1, none⟩ = some (.pointer (some ⟨gd, 0, none⟩)) ∧ W.cell? ⟨gH, 2, none⟩ = some (.pointer (some ⟨ga, 0, none⟩)) ∧ W.cell? ⟨gH, 3, none⟩ = some (.pointer (some ⟨gv, 0, none⟩)) ∧ W.cell? ⟨gH, 0, none⟩ = some (.int .i64 (n : Int))) (by kernel_rfl) (HF3.out _ (below_drw _)) (fun hHeld => ?_)
    refine wpAnyH_take (i := 0) (oi := ⟨some 27, .move (.tmp 0), _, _, _, _⟩) (v := .pointer (some ⟨gH, 0, none⟩)) rfl (by kernel_rfl) (by kernel_rfl) (by kernel_rfl) (fun _ _ _ h => h) (.inl ⟨by rfl, fun w hSw => by go_simp⟩) (by assumption) ?_
    simp only [Act.put, List.setIfInBounds_toArray, List.set_cons_zero, List.set_cons_succ]
    refine wpAnyH_take (i := 1) (oi := ⟨some 28, .nilCheck (.tmp 27), _, _, _, _⟩) (v := .pointer (some ⟨gH, 0, none⟩)) rfl (by kernel_rfl) (by kernel_rfl) (by kernel_rfl) (fun _ _ _ h => h) (.inl ⟨by rfl, fun w hSw => by go_simp⟩) (by assumption) ?_
    simp only [Act.put, List.setIfInBounds_toArray, List.set_cons_zero, List.set_cons_succ]
    refine wpAnyH_take (i := 2) (oi := ⟨some 29, .fieldAddr 64 (.tmp 28) 1, _, _, _, _⟩) (v := .pointer (some ⟨gH, 1, none⟩)) rfl (by kernel_rfl) (by kernel_rfl) (by kernel_rfl) (fun _ _ _ h => h) (.inl ⟨by rfl, fun w hSw => by go_simp⟩) (by assumption) ?_
    simp only [Act.put, List.setIfInBounds_toArray, List.set_cons_zero, List.set_cons_succ]
    refine wpAnyH_take (i := 3) (oi := ⟨some 30, .load 23 (.tmp 29), _, _, _, _⟩) (v := .pointer (some ⟨gd, 0, none⟩)) rfl (by kernel_rfl) (by kernel_rfl) (by kernel_rfl) (fun _ _ _ h => h) (.inl ⟨by rfl, fun w hSw => by have z := hSw.1; go_simp⟩) (by assumption) ?_
    simp only [Act.put, List.setIfInBounds_toArray, List.set_cons_zero, List.set_cons_succ]
    refine wpAnyH_take (i := 4) (oi := ⟨some 31, .move (.tmp 0), _, _, _, _⟩) (v := .pointer (some ⟨gH, 0, none⟩)) rfl (by kernel_rfl) (by kernel_rfl) (by kernel_rfl) (fun _ _ _ h => h) (.inl ⟨by rfl, fun w hSw => by go_simp⟩) (by assumption) ?_
    simp only [Act.put, List.setIfInBounds_toArray, List.set_cons_zero, List.set_cons_succ]
    refine wpAnyH_take (i := 5) (oi := ⟨some 32, .nilCheck (.tmp 31), _, _, _, _⟩) (v := .pointer (some ⟨gH, 0, none⟩)) rfl (by kernel_rfl) (by kernel_rfl) (by kernel_rfl) (fun _ _ _ h => h) (.inl ⟨by rfl, fun w hSw => by go_simp⟩) (by assumption) ?_
    simp only [Act.put, List.setIfInBounds_toArray, List.set_cons_zero, List.set_cons_succ]
    refine wpAnyH_take (i := 6) (oi := ⟨some 33, .fieldAddr 64 (.tmp 32) 2, _, _, _, _⟩) (v := .pointer (some ⟨gH, 2, none⟩)) rfl (by kernel_rfl) (by kernel_rfl) (by kernel_rfl) (fun _ _ _ h => h) (.inl ⟨by rfl, fun w hSw => by go_simp⟩) (by assumption) ?_
    simp only [Act.put, List.setIfInBounds_toArray, List.set_cons_zero, List.set_cons_succ]
    refine wpAnyH_take (i := 7) (oi := ⟨some 34, .load 30 (.tmp 33), _, _, _, _⟩) (v := .pointer (some ⟨ga, 0, none⟩)) rfl (by kernel_rfl) (by kernel_rfl) (by kernel_rfl) (fun _ _ _ h => h) (.inl ⟨by rfl, fun w hSw => by have z := hSw.2.1; go_simp⟩) (by assumption) ?_
    simp only [Act.put, List.setIfInBounds_toArray, List.set_cons_zero, List.set_cons_succ]
    refine wpAnyH_take (i := 8) (oi := ⟨some 35, .move (.tmp 0), _, _, _, _⟩) (v := .pointer (some ⟨gH, 0, none⟩)) rfl (by kernel_rfl) (by kernel_rfl) (by kernel_rfl) (fun _ _ _ h => h) (.inl ⟨by rfl, fun w hSw => by go_simp⟩) (by assumption) ?_
    simp only [Act.put, List.setIfInBounds_toArray, List.set_cons_zero, List.set_cons_succ]
    refine wpAnyH_take (i := 9) (oi := ⟨some 36, .nilCheck (.tmp 35), _, _, _, _⟩) (v := .pointer (some ⟨gH, 0, none⟩)) rfl (by kernel_rfl) (by kernel_rfl) (by kernel_rfl) (fun _ _ _ h => h) (.inl ⟨by rfl, fun w hSw => by go_simp⟩) (by assumption) ?_
    simp only [Act.put, List.setIfInBounds_toArray, List.set_cons_zero, List.set_cons_succ]
    refine wpAnyH_take (i := 10) (oi := ⟨some 37, .fieldAddr 64 (.tmp 36) 3, _, _, _, _⟩) (v := .pointer (some ⟨gH, 3, none⟩)) rfl (by kernel_rfl) (by kernel_rfl) (by kernel_rfl) (fun _ _ _ h => h) (.inl ⟨by rfl, fun w hSw => by go_simp⟩) (by assumption) ?_
    simp only [Act.put, List.setIfInBounds_toArray, List.set_cons_zero, List.set_cons_succ]
    refine wpAnyH_take (i := 11) (oi := ⟨some 38, .load 62 (.tmp 37), _, _, _, _⟩) (v := .pointer (some ⟨gv, 0, none⟩)) rfl (by kernel_rfl) (by kernel_rfl) (by kernel_rfl) (fun _ _ _ h => h) (.inl ⟨by rfl, fun w hSw => by have z := hSw.2.2.1; go_simp⟩) (by assumption) ?_
    simp only [Act.put, List.setIfInBounds_toArray, List.set_cons_zero, List.set_cons_succ]
    refine wpAnyH_take (i := 12) (oi := ⟨some 39, .move (.tmp 0), _, _, _, _⟩) (v := .pointer (some ⟨gH, 0, none⟩)) rfl (by kernel_rfl) (by kernel_rfl) (by kernel_rfl) (fun _ _ _ h => h) (.inl ⟨by rfl, fun w hSw => by go_simp⟩) (by assumption) ?_
    simp only [Act.put, List.setIfInBounds_toArray, List.set_cons_zero, List.set_cons_succ]
    refine wpAnyH_take (i := 13) (oi := ⟨some 40, .nilCheck (.tmp 39), _, _, _, _⟩) (v := .pointer (some ⟨gH, 0, none⟩)) rfl (by kernel_rfl) (by kernel_rfl) (by kernel_rfl) (fun _ _ _ h => h) (.inl ⟨by rfl, fun w hSw => by go_simp⟩) (by assumption) ?_
    simp only [Act.put, List.setIfInBounds_toArray, List.set_cons_zero, List.set_cons_succ]
    refine wpAnyH_take (i := 14) (oi := ⟨some 41, .fieldAddr 64 (.tmp 40) 0, _, _, _, _⟩) (v := .pointer (some ⟨gH, 0, none⟩)) rfl (by kernel_rfl) (by kernel_rfl) (by kernel_rfl) (fun _ _ _ h => h) (.inl ⟨by rfl, fun w hSw => by go_simp⟩) (by assumption) ?_
    simp only [Act.put, List.setIfInBounds_toArray, List.set_cons_zero, List.set_cons_succ]
    refine wpAnyH_take (i := 15) (oi := ⟨some 42, .load 3 (.tmp 41), _, _, _, _⟩) (v := .int .i64 (n : Int)) rfl (by kernel_rfl) (by kernel_rfl) (by kernel_rfl) (fun _ _ _ h => h) (.inl ⟨by rfl, fun w hSw => by have z := hSw.2.2.2; go_simp⟩) (by assumption) ?_
    simp only [Act.put, List.setIfInBounds_toArray, List.set_cons_zero, List.set_cons_succ]
    refine wpAnyH_ready (rs := [16]) (by kernel_rfl) (by simp) ?_
    refine AllReadyH.cons (o := ⟨some 43, .call ⟨.value (.func 9), #[.tmp 30, .tmp 34, .tmp 38, .tmp 42], _⟩, _, _, _, _⟩) rfl (fun K hK => ?_) AllReadyH.nil
    go_simp
    refine (vnew (ga := ga) (some ⟨gv, 0, none⟩) (HD2.out.kept (below_drw w11)) n HCA.out.n1 (by have := HCA.out.n3; omega) (by rw [HSL.out]; exact HEN.out.1) (by rw [HSL.out]; exact HEN.out.2) (by rw [HSL.out]; exact HCA.out.nb) (HTB.out _ (below_drw _))).mono ?_
    rintro e w12 ⟨g2, gs, gn, gh, gc, un, rfl, hN⟩
    have HN2 := Lib.hid hN
    clear hN
    have HB12 := Lib.hid (p := Below w11.heap.size w11 w12) (below_nxt HN2.out.below (below_drw w11))
    have c412 := hv_cell (HR11.out _ HB12.out)
    have f412 : w12.frozen? ⟨gH, 4, none⟩ = false := (HR11.out _ HB12.out).free 4
    refine hK.out _ _ (HF3.out _ HB12.out) (fun _hH3 => ?_)
    clear hK K
    refine wpAnyH_take (i := 17) (oi := ⟨some 26, .move (.tmp 43), _, _, _, _⟩) (v := .tuple #[.pointer (some ⟨g2, 0, none⟩), .int .i64 0]) rfl (by kernel_rfl) (by kernel_rfl) (by kernel_rfl) (fun _ _ _ h => h) (.inl ⟨by rfl, fun w hSw => by go_simp⟩) (by assumption) ?_
    simp only [Act.put, List.setIfInBounds_toArray, List.set_cons_zero, List.set_cons_succ]
    refine wpAnyH_take (i := 18) (oi := ⟨some 44, .extract (.tmp 26) 0, _, _, _, _⟩) (v := .pointer (some ⟨g2, 0, none⟩)) rfl (by kernel_rfl) (by kernel_rfl) (by kernel_rfl) (fun _ _ _ h => h) (.inl ⟨by rfl, fun w hSw => by go_simp⟩) (by assumption) ?_
    simp only [Act.put, List.setIfInBounds_toArray, List.set_cons_zero, List.set_cons_succ]
    refine wpAnyH_take (i := 19) (oi := ⟨some 45, .extract (.tmp 26) 1, _, _, _, _⟩) (v := .int .i64 0) rfl (by kernel_rfl) (by kernel_rfl) (by kernel_rfl) (fun _ _ _ h => h) (.inl ⟨by rfl, fun w hSw => by go_simp⟩) (by assumption) ?_
    simp only [Act.put, List.setIfInBounds_toArray, List.set_cons_zero, List.set_cons_succ]
    refine wpAnyH_take (i := 20) (oi := ⟨some 5, .assign (.tmp 44), _, _, _, _⟩) (v := .pointer (some ⟨g2, 0, none⟩)) rfl (by kernel_rfl) (by kernel_rfl) (by kernel_rfl) (fun _ _ _ h => h) (.inl ⟨by rfl, fun w hSw => by go_simp⟩) (by assumption) ?_
    simp only [Act.put, List.setIfInBounds_toArray, List.set_cons_zero, List.set_cons_succ]
    refine wpAnyH_take (i := 21) (oi := ⟨some 6, .assign (.tmp 45), _, _, _, _⟩) (v := .int .i64 0) rfl (by kernel_rfl) (by kernel_rfl) (by kernel_rfl) (fun _ _ _ h => h) (.inl ⟨by rfl, fun w hSw => by go_simp⟩) (by assumption) ?_
    simp only [Act.put, List.setIfInBounds_toArray, List.set_cons_zero, List.set_cons_succ]
    refine wpAnyH_done (by kernel_rfl) ?_ _
    go_wp2
    go_ret
    exact HCr.trans HC10.out HW10.out (hcr_mk HS10.out HCA.out HD2.out HCD.out HWD.out (below_drw w11) HN2.out rfl)
end
end Go.Proofs.YtpocccnhibjjcaaGreatDoor
