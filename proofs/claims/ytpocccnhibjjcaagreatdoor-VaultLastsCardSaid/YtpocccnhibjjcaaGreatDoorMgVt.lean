/- A vault in memory, one of its parts turned: its disk, its anchor, one of its maps, its space, its uses. Conditions: those named. -/
import Derived.Test.YtpocccnhibjjcaaGreatDoorMgVw
set_option linter.unusedVariables false
set_option maxRecDepth 20000
namespace Go.Proofs.YtpocccnhibjjcaaGreatDoor
open Go.RowKit

def VTo (b : Nat) (w : World) (F : List Nat) (w' : World) (g q gv : Nat) (L : Nat → Nat → List UInt8) (X : VX) : Prop :=
  ∃ FD FA, Hid (VB b w' FD FA g q gv L X) ∧ Hid (Chg F w w') ∧ Hid (Wider w F (vfoot g X.c FD FA))
theorem VTo.of {b : Nat} {w w' : World} {FD' FA' : List Nat} {g q gv : Nat} {L : Nat → Nat → List UInt8} {X : VX} {F : List Nat} (h : VB b w' FD' FA' g q gv L X) (hc : Chg F w w') (hw : Wider w F (vfoot g X.c FD' FA')) : VTo b w F w' g q gv L X := ⟨FD', FA', Lib.hid h, Lib.hid hc, Lib.hid hw⟩
theorem VTo.trans {b : Nat} {w w1 w2 : World} {F F1 : List Nat} {g q gv : Nat} {L : Nat → Nat → List UInt8} {X : VX} (hc : Chg F w w1) (hw : Wider w F F1) (k : VTo b w1 F1 w2 g q gv L X) : VTo b w F w2 g q gv L X := by
  obtain ⟨FD, FA, h1, h2, h3⟩ := k
  exact ⟨FD, FA, h1, Lib.hid (hc.trans h2.out hw), Lib.hid (hw.trans h3.out hc.size)⟩
section
variable {b : Nat} {w w' : World} {FD FA : List Nat} {g q gv : Nat} {L : Nat → Nat → List UInt8} {X : VX}
theorem VB.in_d (h : VB b w FD FA g q gv L X) : ∀ j ∈ FD, j ∈ vfoot g X.c FD FA := fun j hj => mem_vfoot.2 (.inl hj)
theorem VB.in_a (h : VB b w FD FA g q gv L X) : ∀ j ∈ FA, j ∈ vfoot g X.c FD FA := fun j hj => mem_vfoot.2 (.inr (.inl hj))
theorem VB.in_v (h : VB b w FD FA g q gv L X) : ∀ j ∈ vown g X.c, j ∈ vfoot g X.c FD FA := fun j hj => mem_vfoot.2 (.inr (.inr hj))
theorem VB.lt_v (h : VB b w FD FA g q gv L X) : ∀ j ∈ vown g X.c, j < w.heap.size := fun j hj => (h.g_lt j (h.in_v j hj)).2
theorem VB.lt_d (h : VB b w FD FA g q gv L X) : ∀ j ∈ FD, j < w.heap.size := fun j hj => (h.g_lt j (h.in_d j hj)).2
theorem VB.lt_a (h : VB b w FD FA g q gv L X) : ∀ j ∈ FA, j < w.heap.size := fun j hj => (h.g_lt j (h.in_a j hj)).2
theorem VB.wide_d {FD' : List Nat} (hw : Wider w FD FD') : Wider w (vfoot g X.c FD FA) (vfoot g X.c FD' FA) := fun j hj => by
  rcases mem_vfoot.1 hj with hj | hj | hj
  · rcases hw j hj with h | h
    · exact .inl (mem_vfoot.2 (.inl h))
    · exact .inr h
  · exact .inl (mem_vfoot.2 (.inr (.inl hj)))
  · exact .inl (mem_vfoot.2 (.inr (.inr hj)))
theorem VB.wide_a {FA' : List Nat} (hw : Wider w FA FA') : Wider w (vfoot g X.c FD FA) (vfoot g X.c FD FA') := fun j hj => by
  rcases mem_vfoot.1 hj with hj | hj | hj
  · exact .inl (mem_vfoot.2 (.inl hj))
  · rcases hw j hj with h | h
    · exact .inl (mem_vfoot.2 (.inr (.inl h)))
    · exact .inr h
  · exact .inl (mem_vfoot.2 (.inr (.inr hj)))
theorem goi_far {F F' : List Nat} {c : VC} {G : Nat → Option BV} (h : c.go = .map none ∨ ∃ gg, c.go = .map (some gg) ∧ MI w' gg q G ∧ gg ∉ F) (hlt : ∀ gg, MI w' gg q G → c.go = .map (some gg) → gg < w.heap.size) (hw : Wider w F F') {q' : Nat} (hq : q ≤ q') :
    c.go = .map none ∨ ∃ gg, c.go = .map (some gg) ∧ MI w' gg q' G ∧ gg ∉ F' := by
  rcases h with h | ⟨gg, e, hm, hn⟩
  · exact .inl h
  · refine .inr ⟨gg, e, hm.mono hq, fun hx => ?_⟩
    rcases hw gg hx with h | h
    · exact hn h
    · have := hlt gg hm e
      omega
theorem VB.go_lt (h : VB b w FD FA g q gv L X) : ∀ gg, X.c.go = .map (some gg) → gg < w.heap.size := fun gg e => by
  rcases h.goi with h1 | ⟨g2, e2, hm, _⟩
  · rw [h1] at e
    cases e
  · rw [e2] at e
    cases e
    exact hm.lt
theorem anc_monoA {w : World} {ga : Nat} {e : Nat} {r : RecV} {q q' : Nat} (h : ∃ k, k ≤ q ∧ AnAt b w ga FA e r k) (hq : q ≤ q') : ∃ k, k ≤ q' ∧ AnAt b w ga FA e r k := by
  obtain ⟨k, hk, ha⟩ := h
  exact ⟨k, Nat.le_trans hk hq, ha⟩
theorem VB.dturn (h : VB b w FD FA g q gv L X) {FD' : List Nat} {ss' : List BV} {rs' : List (Nat × BV)} {E' : Nat → List BV} {ts' : List (Int × Int × BV)} (hD : PD b w' X.c.gd FD' ss' rs' E' ts') (hc : Chg FD w w') (hw : Wider w FD FD') (hl : ss'.length = X.ss.length) {q' : Nat} (hq : q ≤ q')
    (hlim : q' ≤ 900000 ∧ rs'.length ≤ q' ∧ ts'.length ≤ q') : VB b w' FD' FA g q' gv L { X with ss := ss', rs := rs', E := E', ts := ts' } := by
  have k := h.keep hc h.in_d
  have nv : ∀ {j : Nat}, j ∈ vown g X.c → j ∉ FD := fun hj hx => (h.da _ hx).2 hj
  have hlm := h.lim
  have hsp := k.spc (nv (mem_vown.2 (.inr (.inr (.inr (.inr (.inl rfl)))))))
  rw [← hl] at hsp
  have hda : ∀ j ∈ FD', j ∉ FA ∧ j ∉ vown g X.c := fun j hj => by
    rcases hw j hj with hx | hx
    · exact h.da j hx
    · exact ⟨fun hy => by have := h.lt_a j hy; omega, fun hy => by have := h.lt_v j hy; omega⟩
  exact { row := k.row (nv (mem_vown.2 (.inl rfl))), nodes := (k.nodes (nv (mem_vown.2 (.inr (.inl rfl))))).mono hq, held := (k.held (nv (mem_vown.2 (.inr (.inr (.inl rfl)))))).mono hq, chd := (k.chd (nv (mem_vown.2 (.inr (.inr (.inr (.inl rfl))))))).mono hq, un := k.un, rt := k.rt, goi := goi_far k.goi (fun gg _ e => h.go_lt gg e) (VB.wide_d hw) hq, us := k.us (fun j hj => nv (mem_vown.2 (.inr (.inr (.inr (.inr (.inr hj))))))), ub := k.ub, ul := h.ul, spc := hsp, anc := anc_monoA (k.anc (fun j hj => (h.da j hj).1)) hq, dsk := hD, hb := k.hb, cb := k.cb, gb := k.gb, base := k.base, vl := k.vl _ (fun j hj => VB.wide_d hw j hj), vv := h.vv, da := hda, av := h.av, nh := h.nh, nc := h.nc, hc := h.hc, lo := h.lo, dep := h.dep, lim := ⟨hlim.1, Nat.le_trans hlm.2.1 hq, hlim.2.1, hlim.2.2⟩ }
theorem VB.aturn (h : VB b w FD FA g q gv L X) {FA' : List Nat} {e : Nat} {r : RecV} {m : Nat} (hA : AnAt b w' X.c.ga FA' e r m) (hc : Chg FA w w') (hw : Wider w FA FA') {q' : Nat} (hq : q ≤ q') (hm : m ≤ q') (hlim : q' ≤ 900000) : VB b w' FD FA' g q' gv L { X with ae := e, ar := r } := by
  have k := h.keep hc h.in_a
  have nv : ∀ {j : Nat}, j ∈ vown g X.c → j ∉ FA := fun hj hx => h.av _ hx hj
  have hlm := h.lim
  have hda : ∀ j ∈ FD, j ∉ FA' ∧ j ∉ vown g X.c := fun j hj => ⟨fun hy => by
    rcases hw j hy with hx | hx
    · exact (h.da j hj).1 hx
    · have := h.lt_d j hj
      omega, (h.da j hj).2⟩
  have hav : ∀ j ∈ FA', j ∉ vown g X.c := fun j hj hy => by
    rcases hw j hj with hx | hx
    · exact h.av j hx hy
    · have := h.lt_v j hy
      omega
  exact { row := k.row (nv (mem_vown.2 (.inl rfl))), nodes := (k.nodes (nv (mem_vown.2 (.inr (.inl rfl))))).mono hq, held := (k.held (nv (mem_vown.2 (.inr (.inr (.inl rfl)))))).mono hq, chd := (k.chd (nv (mem_vown.2 (.inr (.inr (.inr (.inl rfl))))))).mono hq, un := k.un, rt := k.rt, goi := goi_far k.goi (fun gg _ e => h.go_lt gg e) (VB.wide_a hw) hq, us := k.us (fun j hj => nv (mem_vown.2 (.inr (.inr (.inr (.inr (.inr hj))))))), ub := k.ub, ul := h.ul, spc := k.spc (nv (mem_vown.2 (.inr (.inr (.inr (.inr (.inl rfl))))))), anc := ⟨m, hm, hA⟩, dsk := k.dsk (fun j hj hx => (h.da j hx).1 hj), hb := k.hb, cb := k.cb, gb := k.gb, base := k.base, vl := k.vl _ (fun j hj => VB.wide_a hw j hj), vv := h.vv, da := hda, av := hav, nh := h.nh, nc := h.nc, hc := h.hc, lo := h.lo, dep := h.dep, lim := ⟨hlim, Nat.le_trans hlm.2.1 hq, Nat.le_trans hlm.2.2.1 hq, Nat.le_trans hlm.2.2.2 hq⟩ }
theorem one_in {p : Nat} (h : VB b w FD FA g q gv L X) (hp : p ∈ vown g X.c) : ∀ j ∈ [p], j ∈ vfoot g X.c FD FA := fun j hj => by
  rw [List.mem_singleton] at hj
  subst hj
  exact h.in_v _ hp
theorem no1 {p j : Nat} (h : j ≠ p) : j ∉ [p] := fun hx => h (List.mem_singleton.1 hx)
theorem VB.gh_ne (h : VB b w FD FA g q gv L X) : g ≠ X.c.gh := fun e => h.held.no_cells _ _ _ (e ▸ h.row.heap)
theorem VB.gc_ne (h : VB b w FD FA g q gv L X) : g ≠ X.c.gc := fun e => h.chd.no_cells _ _ _ (e ▸ h.row.heap)
theorem VB.gn_ne (h : VB b w FD FA g q gv L X) : g ≠ X.c.gn := fun e => h.nodes.no_cells _ _ _ (e ▸ h.row.heap)
theorem VB.gs_ne (h : VB b w FD FA g q gv L X) : g ≠ X.c.gs := h.row.ne_ h.spc.row (by decide)
theorem VB.us_ne (h : VB b w FD FA g q gv L X) {p : Nat} (hp : X.c.us.ownBlock = some p) : ∃ cs fr, w.heap[p]? = some (.cells cs 111 fr) := by
  rcases h.us.2 with ⟨e, _⟩ | ⟨g', cap, cur, e, _, hg, _⟩
  · rw [e] at hp
    cases hp
  · rw [e] at hp
    cases hp
    exact ⟨_, _, hg⟩
theorem VB.map_us (h : VB b w FD FA g q gv L X) {p : Nat} (hm : ∀ cs t fr, w.heap[p]? ≠ some (.cells cs t fr)) : ∀ j, X.c.us.ownBlock = some j → j ∉ [p] := fun j hj hx => by
  rw [List.mem_singleton] at hx
  subst hx
  obtain ⟨cs, fr, e⟩ := h.us_ne hj
  exact hm _ _ _ e
theorem VB.map_gs (h : VB b w FD FA g q gv L X) {p : Nat} (hm : ∀ cs t fr, w.heap[p]? ≠ some (.cells cs t fr)) : X.c.gs ≠ p := fun e => hm _ _ _ (e ▸ h.spc.row.heap)
theorem VB.own_a (h : VB b w FD FA g q gv L X) {p : Nat} (hp : p ∈ vown g X.c) : ∀ j ∈ [p], j ∉ FA := fun j hj hx => by
  rw [List.mem_singleton] at hj
  subst hj
  exact h.av _ hx hp
theorem VB.own_d (h : VB b w FD FA g q gv L X) {p : Nat} (hp : p ∈ vown g X.c) : ∀ j ∈ [p], j ∉ FD := fun j hj hx => by
  rw [List.mem_singleton] at hj
  subst hj
  exact (h.da _ hx).2 hp
theorem goi_mono {w : World} {F : List Nat} {c : VC} {G : Nat → Option BV} {q q' : Nat} (h : c.go = .map none ∨ ∃ gg, c.go = .map (some gg) ∧ MI w gg q G ∧ gg ∉ F) (hq : q ≤ q') : c.go = .map none ∨ ∃ gg, c.go = .map (some gg) ∧ MI w gg q' G ∧ gg ∉ F := by
  rcases h with h | ⟨gg, e, hm, hn⟩
  · exact .inl h
  · exact .inr ⟨gg, e, hm.mono hq, hn⟩
theorem anc_mono {w : World} {ga : Nat} {e : Nat} {r : RecV} {q q' : Nat} (h : ∃ k, k ≤ q ∧ AnAt b w ga FA e r k) (hq : q ≤ q') : ∃ k, k ≤ q' ∧ AnAt b w ga FA e r k := by
  obtain ⟨k, hk, ha⟩ := h
  exact ⟨k, Nat.le_trans hk hq, ha⟩
theorem VB.hturn (h : VB b w FD FA g q gv L X) {H' : Nat → Option BV} {q' : Nat} (hm : MI w' X.c.gh q' H') (hc : Chg [X.c.gh] w w') (hb : OwnM b w' H') (hq : q ≤ q') (hlim : q' ≤ 900000) : VB b w' FD FA g q' gv L { X with H := H' } := by
  have hin : X.c.gh ∈ vown g X.c := mem_vown.2 (.inr (.inr (.inl rfl)))
  have k := h.keep hc (one_in h hin)
  have hlm := h.lim
  have nc := h.held.no_cells
  exact { row := k.row (no1 h.gh_ne), nodes := (k.nodes (no1 h.nh)).mono hq, held := hm, chd := (k.chd (no1 h.hc.symm)).mono hq, un := k.un, rt := k.rt, goi := goi_mono k.goi hq, us := k.us (h.map_us nc), ub := k.ub, ul := h.ul, spc := k.spc (no1 (h.map_gs nc)), anc := anc_mono (k.anc (h.own_a hin)) hq, dsk := k.dsk (h.own_d hin), hb := hb, cb := k.cb, gb := k.gb, base := k.base, vl := k.vl _ (fun j hj => .inl hj), vv := h.vv, da := h.da, av := h.av, nh := h.nh, nc := h.nc, hc := h.hc, lo := h.lo, dep := h.dep, lim := ⟨hlim, Nat.le_trans hlm.2.1 hq, Nat.le_trans hlm.2.2.1 hq, Nat.le_trans hlm.2.2.2 hq⟩ }
theorem VB.cturn (h : VB b w FD FA g q gv L X) {C' : Nat → Option BV} {q' : Nat} (hm : MI w' X.c.gc q' C') (hc : Chg [X.c.gc] w w') (hb : OwnM b w' C') (hq : q ≤ q') (hlim : q' ≤ 900000) : VB b w' FD FA g q' gv L { X with C := C' } := by
  have hin : X.c.gc ∈ vown g X.c := mem_vown.2 (.inr (.inr (.inr (.inl rfl))))
  have k := h.keep hc (one_in h hin)
  have hlm := h.lim
  have nc := h.chd.no_cells
  exact { row := k.row (no1 h.gc_ne), nodes := (k.nodes (no1 h.nc)).mono hq, held := (k.held (no1 h.hc)).mono hq, chd := hm, un := k.un, rt := k.rt, goi := goi_mono k.goi hq, us := k.us (h.map_us nc), ub := k.ub, ul := h.ul, spc := k.spc (no1 (h.map_gs nc)), anc := anc_mono (k.anc (h.own_a hin)) hq, dsk := k.dsk (h.own_d hin), hb := k.hb, cb := hb, gb := k.gb, base := k.base, vl := k.vl _ (fun j hj => .inl hj), vv := h.vv, da := h.da, av := h.av, nh := h.nh, nc := h.nc, hc := h.hc, lo := h.lo, dep := h.dep, lim := ⟨hlim, Nat.le_trans hlm.2.1 hq, Nat.le_trans hlm.2.2.1 hq, Nat.le_trans hlm.2.2.2 hq⟩ }
theorem VB.nturn (h : VB b w FD FA g q gv L X) {N' : Nat → Nat → Nat → RecV} {q' : Nat} (hm : MN w' X.c.gn q' N') (hc : Chg [X.c.gn] w w') (hq : q ≤ q') (hlim : q' ≤ 900000) : VB b w' FD FA g q' gv L { X with N := N' } := by
  have hin : X.c.gn ∈ vown g X.c := mem_vown.2 (.inr (.inl rfl))
  have k := h.keep hc (one_in h hin)
  have hlm := h.lim
  have nc := h.nodes.no_cells
  exact { row := k.row (no1 h.gn_ne), nodes := hm, held := (k.held (no1 h.nh.symm)).mono hq, chd := (k.chd (no1 h.nc.symm)).mono hq, un := k.un, rt := k.rt, goi := goi_mono k.goi hq, us := k.us (h.map_us nc), ub := k.ub, ul := h.ul, spc := k.spc (no1 (h.map_gs nc)), anc := anc_mono (k.anc (h.own_a hin)) hq, dsk := k.dsk (h.own_d hin), hb := k.hb, cb := k.cb, gb := k.gb, base := k.base, vl := k.vl _ (fun j hj => .inl hj), vv := h.vv, da := h.da, av := h.av, nh := h.nh, nc := h.nc, hc := h.hc, lo := h.lo, dep := h.dep, lim := ⟨hlim, Nat.le_trans hlm.2.1 hq, Nat.le_trans hlm.2.2.1 hq, Nat.le_trans hlm.2.2.2 hq⟩ }
theorem VB.mono (h : VB b w FD FA g q gv L X) {q' : Nat} (hq : q ≤ q') (hlim : q' ≤ 900000) : VB b w FD FA g q' gv L X := by
  have hlm := h.lim
  exact { h with nodes := h.nodes.mono hq, held := h.held.mono hq, chd := h.chd.mono hq, goi := goi_mono h.goi hq, anc := anc_mono h.anc hq, lim := ⟨hlim, Nat.le_trans hlm.2.1 hq, Nat.le_trans hlm.2.2.1 hq, Nat.le_trans hlm.2.2.2 hq⟩ }
theorem VB.sturn (h : VB b w FD FA g q gv L X) {S' : Nat → Nat} (hs : S8.Spc w' X.c.gs X.ss.length S') (hc : Chg [X.c.gs] w w') : VB b w' FD FA g q gv L { X with S := S' } := by
  have hin : X.c.gs ∈ vown g X.c := mem_vown.2 (.inr (.inr (.inr (.inr (.inl rfl)))))
  have k := h.keep hc (one_in h hin)
  have ne : ∀ {p : Nat}, (∀ cs t fr, w.heap[p]? ≠ some (.cells cs t fr)) → p ∉ [X.c.gs] := fun hm => no1 (h.map_gs hm).symm
  exact { row := k.row (no1 h.gs_ne), nodes := k.nodes (ne h.nodes.no_cells), held := k.held (ne h.held.no_cells), chd := k.chd (ne h.chd.no_cells), un := k.un, rt := k.rt, goi := k.goi, us := k.us (fun j hj hx => by rw [List.mem_singleton] at hx; subst hx; exact row_parted h.spc.row h.us (by decide) hj), ub := k.ub, ul := h.ul, spc := hs, anc := k.anc (h.own_a hin), dsk := k.dsk (h.own_d hin), hb := k.hb, cb := k.cb, gb := k.gb, base := k.base, vl := k.vl _ (fun j hj => .inl hj), vv := h.vv, da := h.da, av := h.av, nh := h.nh, nc := h.nc, hc := h.hc, lo := h.lo, dep := h.dep, lim := h.lim }
end
end Go.Proofs.YtpocccnhibjjcaaGreatDoor
/- What a vault's Get, Put, Fetch leave; what opens a record. Conditions: the vault lies there; what is read has the record's digest. -/
set_option linter.unusedVariables false
set_option maxRecDepth 20000
namespace Go.Proofs.YtpocccnhibjjcaaGreatDoor
open Go.RowKit

section
variable {b : Nat} {w w' : World} {FD FA : List Nat} {g q gv : Nat} {L : Nat → Nat → List UInt8} {X : VX}
theorem vget (h : VB b w FD FA g q gv L X) (hr : X.c.rd = true) (i : Nat) (hi : i < 4 ^ X.c.n) (hk : vkn X i = true) : Calls Tryz.prog 15 #[.pointer (some ⟨g, 0, none⟩), .int .i64 (i : Int)] w fun e w' => ∃ g', e = .returned (.tuple #[.slice (some ⟨g', 0, none⟩) 256 256, .bool true]) ∧ Hid (Row w' g' 5 (brr 256 (wh (bytesOf (X.H i))))) ∧ Hid (w.heap.size ≤ g') ∧ Hid (Below w.heap.size w w') := by
  have HK := Lib.hid (vknown h hr i hi)
  rw [hk] at HK
  have H := Lib.hid h
  have HI := Lib.hid hi
  clear h hi hk
  go_enter Tryz.func15, Tryz.ntmps15
  go_wp2_with (first
    | (go_at_call 20; refine HK.out.mono ?_; rintro e w4 ⟨rfl, hb4⟩; have HB4 := Lib.hid hb4; clear hb4)
    | (go_at_call 43; refine (vholds (H.out.below HB4.out) i HI.out).mono ?_; rintro e w5 ⟨g', rfl, h1, h2, h3⟩))
  go_ret2
  exact ⟨g', rfl, h1, Lib.hid (Nat.le_trans HB4.out.size h2.out), Lib.hid (below_nxt h3.out HB4.out)⟩
def VPut (b : Nat) (w : World) (F : List Nat) (g q gv : Nat) (L : Nat → Nat → List UInt8) (X : VX) (i : Nat) (l : List UInt8) (e : Ending) (w' : World) : Prop :=
  ∃ y : BV, e = .returned (.int .i64 0) ∧ Hid (y.l = l) ∧ VTo b w F w' g q gv L { X with H := upC X.H i y, C := upC X.C i y }
theorem vput (h : VB b w FD FA g q gv L X) (hr : X.c.rd = true) (i : Nat) (hi : i < 4 ^ X.c.n) (x : BV) (bb : Nat) (hx : Own8 bb w x) (hl : x.l.length = 256 ∨ x.l = []) (hq : q + 1 ≤ 900000) : Calls Tryz.prog 18 #[.pointer (some ⟨g, 0, none⟩), .int .i64 (i : Int), .slice x.A x.l.length x.c] w (VPut b w (vfoot g X.c FD FA) g (q + 1) gv L X i x.l) := by
  have HM := Lib.hid (vmay h hr i hi)
  have H := Lib.hid h
  have hi2 : i < 256 := by have := pow_le3 h.dep.2; omega
  have HI := Lib.hid hi2
  have HQ := Lib.hid hq
  have HC := Lib.hid (clone8 x bb w hx (by rcases hl with h | h <;> rw [h] <;> simp))
  have HL := Lib.hid hl
  have HBL := Lib.hid h.base.le
  obtain ⟨n, hn⟩ : ∃ n, x.l.length = n := ⟨_, rfl⟩
  have hn2 : n = 256 ∨ n = 0 := by rcases hl with h | h <;> rw [h] at hn; exact .inl hn.symm; exact .inr hn.symm
  rw [hn] at HC ⊢
  have HN := Lib.hid hn
  clear h hi hi2 hl hx hq hn
  have fin : ∀ (y : BV) (w4 : World), y.l = x.l → Own8 w.heap.size w4 y → Below w.heap.size w w4 →
      ∃ w5, (Instr.mapUpdate 83 (.map (some X.c.gh)) (.int .i64 (i : Int)) (bvv y)).run Tryz.prog w4 = .ok () w5 ∧ w5.cell? ⟨g, 47, none⟩ = some (.map (some X.c.gc)) ∧
        ∃ w6, (Instr.mapUpdate 83 (.map (some X.c.gc)) (.int .i64 (i : Int)) (bvv y)).run Tryz.prog w5 = .ok () w6 ∧ VPut b w (vfoot g X.c FD FA) g (q + 1) gv L X i x.l (.returned (.int .i64 0)) w6 := fun y w4 hy ho hb => by
    have h4 := H.out.below hb
    have hyl : y.l.length = 256 ∨ y.l = [] := by rw [hy]; exact HL.out
    have ho4 : Own8 b w4 y := ho.lower HBL.out
    obtain ⟨w5, r5, m5, g5⟩ := h4.held.put HI.out (by have := HQ.out; unfold maxLen; omega) y
    have c5 : Chg [X.c.gh] w4 w5 := (Chg.refl _ _).grown g5 (fun k hk => by injection hk with hk; subst hk; exact .inl (List.mem_singleton.2 rfl))
    have n5 : NoBytes w4 [X.c.gh] := fun j hj cs fr => by rw [List.mem_singleton] at hj; subst hj; exact h4.held.no_cells _ _ _
    have h5 := h4.hturn (q' := q + 1) m5 c5 ((h4.hb.chg c5 n5).up (ho4.chg c5 n5) hyl) (Nat.le_succ _) HQ.out
    obtain ⟨w6, r6, m6, g6⟩ := (h4.keep c5 (one_in h4 (mem_vown.2 (.inr (.inr (.inl rfl)))))).chd (no1 h4.hc.symm) |>.put HI.out (by have := HQ.out; unfold maxLen; omega) y
    have c6 : Chg [X.c.gc] w5 w6 := (Chg.refl _ _).grown g6 (fun k hk => by injection hk with hk; subst hk; exact .inl (List.mem_singleton.2 rfl))
    have n6 : NoBytes w5 [X.c.gc] := fun j hj cs fr => by rw [List.mem_singleton] at hj; subst hj; exact h5.chd.no_cells _ _ _
    have h6 := h5.cturn (q' := q + 1) m6 c6 ((h5.cb.chg c6 n6).up ((ho4.chg c5 n5).chg c6 n6) hyl) (Nat.le_refl _) HQ.out
    refine ⟨w5, r5, VAt.gc h5.row, w6, r6, y, rfl, Lib.hid hy, VTo.of h6 ?_ (Wider.refl _ _)⟩
    exact ((Chg.of (F := vfoot g X.c FD FA) hb).trans c5 (fun j hj => .inl (one_in h4 (mem_vown.2 (.inr (.inr (.inl rfl)))) j hj))).trans c6 (fun j hj => .inl (one_in h4 (mem_vown.2 (.inr (.inr (.inr (.inl rfl))))) j hj))
  have FIN := Lib.hid fin
  clear fin
  rcases hn2 with rfl | rfl
  all_goals
    go_enter Tryz.func18, Tryz.ntmps18
    go_wp2_with (first
      | (go_at_call 44; refine HM.out.mono ?_; rintro e w4 ⟨rfl, rfl⟩)
      | (go_at_call 50; refine HC.out.mono ?_; rintro e w4 ⟨y, rfl, hy, ho, hb⟩
         have c46 : w4.cell? ⟨g, 46, none⟩ = some (.map (some X.c.gh)) := VAt.gh (H.out.row.kept hb.out)
         obtain ⟨w5, r5, c47, w6, r6, hp⟩ := FIN.out y w4 hy.out ho.out hb.out
         unfold bvv at r5 r6
         have HP := Lib.hid hp
         clear hp))
    go_ret
    exact HP.out
def VOpen (b : Nat) (w : World) (F : List Nat) (g q gv : Nat) (L : Nat → Nat → List UInt8) (X : VX) (l : List UInt8) (e : Ending) (w' : World) : Prop :=
  ∃ y : BV, e = .returned (.tuple #[.slice y.A 256 y.c, .int .i64 0]) ∧ Hid (y.l = l ∧ y.l.length = 256) ∧ Hid (Own8 w.heap.size w' y) ∧ VTo b w F w' g q gv L X
def VX.read (X : VX) (k : Nat) : VX := { X with ts := X.ts ++ [(1, (k : Int), nowV X.ss X.rs k)] }
def unhid (L : Nat → Nat → List UInt8) (r : RecV) (l : List UInt8) : List UInt8 := lst 256 (hid (pmask L r.e r.s) l)
theorem own_brr {w : World} {g b : Nat} {f : Nat → UInt8} (h : Row w g 5 (brr 256 f)) (hb : b ≤ g) : Own8 b w ⟨some ⟨g, 0, none⟩, 256, lst 256 f⟩ := by
  have hl : (lst 256 f).length = 256 := lst_len _ _
  have e1 : brr 256 f = brr 256 (wh (lst 256 f)) := by
    refine brr_congr fun j hj => ?_
    unfold wh lst
    rw [List.getD_eq_getElem?_getD, List.getElem?_map, List.getElem?_range hj]
    rfl
  rw [e1] at h
  have h2 := own_fresh h hb
  rwa [pad_of hl] at h2
theorem Own8.addr_lt {b : Nat} {w : World} {x : BV} (h : Own8 b w x) : ∀ ad, x.A = some ad → ad.block < w.heap.size := fun ad hd => by
  obtain ⟨A, c, l⟩ := x
  subst hd
  rcases h.2 with ⟨e0, _⟩ | ⟨g, cap, cur, e0, _, hg, _⟩
  · simp [bvv] at e0
  · simp only [bvv, Value.slice.injEq, Option.some.injEq] at e0
    rw [e0.1]
    exact (Array.getElem?_eq_some_iff.1 hg).1
set_option maxHeartbeats 1000000 in
theorem vopen (h : VB b w FD FA g q gv L X) (r : RecV) (k : Nat) (hk : r.a = (k : Int) + 1) (hkl : k < X.ss.length) (hok : r.Ok) (hd : (lst 32 (shaF (nonB r.e r.s ++ (nowV X.ss X.rs k).l)) == lst 32 r.f) = true) (hq : q + 1 ≤ 900000) :
    Calls Tryz.prog 45 #[.pointer (some ⟨g, 0, none⟩), .agg r.cs.toArray, .func (.func 49) #[.pointer (some ⟨X.c.gd, 0, none⟩)] #[]] w (VOpen b w (vfoot g X.c FD FA) g (q + 1) gv L (X.read k) (unhid L r (nowV X.ss X.rs k).l)) := by
  have i35 := Lib.hid (p := ∀ r : RecV, (Tryz.prog.info? 87).map (·.size) = some r.cs.length) (fun r => by rw [r.cs_len]; exact info_rec)
  have H := Lib.hid h
  have HK := Lib.hid hk
  have HKL := Lib.hid hkl
  have HOK := Lib.hid hok
  have HD := Lib.hid hd
  have HQ := Lib.hid hq
  have HK2 := Lib.hid (p := k ≤ 1024) (by have := h.spc.le; omega)
  clear h hk hkl hok hd hq
  go_enter Tryz.func45, Tryz.ntmps45
  go_wp2_with (first
    | (refine step_box rfl 4 rfl 87 _ rfl r.cs rfl ?_; intro g4 w1 hr1 hg1 hb1 hs1; have HR1 := Lib.hid hr1; have HB1 := Lib.hid hb1; have HG1 := Lib.hid (p := w.heap.size ≤ g4) (Nat.le_of_eq hg1.out.symm); clear hr1 hb1 hg1 hs1)
    | (refine step_load rfl 12 rfl 87 (.tmp 4) rfl g4 rfl r.cs _ HR1.out.all Tryz.underlying87 rfl (i35.out _) ?_)
    | (go_at_call 73; refine (vblock r k HK.out HK2.out _).mono ?_; rintro e w2 ⟨rfl, hb2⟩; have HB2 := Lib.hid (below_nxt hb2 HB1.out); have HR2 := Lib.hid (HR1.out.kept hb2); clear hb2)
    | (go_at_call 49; refine (PD.read (H.out.below HB2.out).dsk k HKL.out (by have := H.out.lim; omega) (by have := H.out.lim; omega)).mono ?_; rintro e w3 ⟨⟨x3, rfl, hx3, ho3⟩, FD3, hd3, hc3, hw3⟩; have hn3 : x3.l.length = 256 := (by rw [hx3.out]; exact (H.out.dsk.now8 k HKL.out).2); rw [hn3]))
  have h2 := H.out.below HB2.out
  have l3 := h2.lim
  have h3 : VB b w3 FD3 FA g (q + 1) gv L (X.read k) := h2.dturn hd3.out hc3.out hw3.out rfl (q' := q + 1) (Nat.le_succ _) ⟨HQ.out, by omega, by rw [List.length_append]; simp; omega⟩
  have H3 := Lib.hid h3
  have HX3 := Lib.hid (p := x3.l = (nowV X.ss X.rs k).l ∧ x3.l.length = 256) ⟨hx3.out, hn3⟩
  have HO3 := Lib.hid ho3.out
  have HR3 := Lib.hid (hc3.out.row HR2.out (fun hx => by have := H.out.lt_d _ hx; have := HG1.out; omega))
  have HC3 := Lib.hid (p := Chg (vfoot g X.c FD FA) w w3) ((Chg.of (F := vfoot g X.c FD FA) HB2.out).trans hc3.out (fun j hj => .inl (H.out.in_d j hj)))
  have HW3 := Lib.hid (p := Wider w (vfoot g X.c FD FA) (vfoot g X.c FD3 FA)) (fun j hj => by
    rcases VB.wide_d (FA := FA) (g := g) (X := X) hw3.out j hj with h | h
    · exact .inl h
    · exact .inr (Nat.le_trans HB2.out.size h))
  have c2 : w3.cell? ⟨g, 2, none⟩ = some (X.read k).c.vv := VAt.vv h3.row
  rw [h3.vv] at c2
  have C2 := Lib.hid c2
  have HO2 := Lib.hid (p := w.heap.size ≤ w2.heap.size) HB2.out.size
  clear h2 h3 hd3 hc3 hw3 ho3 hx3 l3 c2 hn3
  refine wp_region_held_drew (S := fun W => W.cell? ⟨g, 2, none⟩ = some (.pointer (some ⟨gv, 0, none⟩)) ∧ W.rangeAt g4 0 r.cs) (by kernel_rfl) ⟨C2.out, HR3.out.drew.all⟩ (fun hHeld => ?_)
  refine wpAnyH_take (i := 0) (oi := ⟨some 19, .move (.tmp 0), _, _, _, _⟩) (v := .pointer (some ⟨g, 0, none⟩)) rfl (by kernel_rfl) (by kernel_rfl) (by kernel_rfl) (fun _ _ _ h => h) (.inl ⟨by rfl, fun w hSw => by go_simp⟩) (by assumption) ?_
  simp only [Act.put, List.setIfInBounds_toArray, List.set_cons_zero, List.set_cons_succ]
  refine wpAnyH_take (i := 1) (oi := ⟨some 20, .nilCheck (.tmp 19), _, _, _, _⟩) (v := .pointer (some ⟨g, 0, none⟩)) rfl (by kernel_rfl) (by kernel_rfl) (by kernel_rfl) (fun _ _ _ h => h) (.inl ⟨by rfl, fun w hSw => by go_simp⟩) (by assumption) ?_
  simp only [Act.put, List.setIfInBounds_toArray, List.set_cons_zero, List.set_cons_succ]
  refine wpAnyH_take (i := 2) (oi := ⟨some 21, .fieldAddr 90 (.tmp 20) 2, _, _, _, _⟩) (v := .pointer (some ⟨g, 2, none⟩)) rfl (by kernel_rfl) (by kernel_rfl) (by kernel_rfl) (fun _ _ _ h => h) (.inl ⟨by rfl, fun w hSw => by go_simp⟩) (by assumption) ?_
  simp only [Act.put, List.setIfInBounds_toArray, List.set_cons_zero, List.set_cons_succ]
  refine wpAnyH_take (i := 3) (oi := ⟨some 22, .load 62 (.tmp 21), _, _, _, _⟩) (v := .pointer (some ⟨gv, 0, none⟩)) rfl (by kernel_rfl) (by kernel_rfl) (by kernel_rfl) (fun _ _ _ h => h) (.inl ⟨by rfl, fun w hSw => by have z := hSw.1; go_simp⟩) (by assumption) ?_
  simp only [Act.put, List.setIfInBounds_toArray, List.set_cons_zero, List.set_cons_succ]
  refine wpAnyH_take (i := 4) (oi := ⟨some 23, .load 87 (.tmp 4), _, _, _, _⟩) (v := .agg r.cs.toArray) rfl (by kernel_rfl) (by kernel_rfl) (by kernel_rfl) (fun _ _ _ h => h) (yieldsIf_load_mid (by rfl) 87 (.tmp 4) rfl g4 0 rfl r.cs _ (fun w hSw => hSw.2) Tryz.underlying87 rfl (i35.out _)) (by assumption) ?_
  simp only [Act.put, List.setIfInBounds_toArray, List.set_cons_zero, List.set_cons_succ]
  refine wpAnyH_take (i := 5) (oi := ⟨some 24, .move (.tmp 8), _, _, _, _⟩) (v := .slice x3.A 256 x3.c) rfl (by kernel_rfl) (by kernel_rfl) (by kernel_rfl) (fun _ _ _ h => h) (.inl ⟨by rfl, fun w hSw => by go_simp⟩) (by assumption) ?_
  simp only [Act.put, List.setIfInBounds_toArray, List.set_cons_zero, List.set_cons_succ]
  refine wpAnyH_ready (rs := [6]) (by kernel_rfl) (by simp) ?_
  refine AllReadyH.cons (o := ⟨some 25, .call ⟨.value (.func 74), #[.tmp 22, .tmp 23, .tmp 24], _⟩, _, _, _, _⟩) rfl (fun K hK => ?_) AllReadyH.nil
  go_simp
  refine (open_any gv (pmask L) r HOK.out (RecV.leads_yes (by have := HK.out; omega) (by have := HK.out; have := HK2.out; have := H.out.spc.le; have := HKL.out; omega)) x3.A x3.c x3.l HX3.out.2 (by have := HO3.out.cap; have := HX3.out.2; omega) _ (HO3.out.hol.below (below_drw _)) (fun ad hd => HO3.out.addr_lt ad hd) (H3.out.base.tabs.below (below_drw _)) (H3.out.vl.mask.below (below_drw _)) (by rw [HX3.out.1]; exact HD.out)).mono ?_
  rintro x w5 ⟨g5, rfl, hr5, hg5, hb5⟩
  have hb35 : Below w3.heap.size w3 w5 := below_nxt hb5.out (below_drw _)
  have HR5 := Lib.hid hr5.out
  have HB5 := Lib.hid hb35
  have HG5 := Lib.hid (p := w3.heap.size ≤ g5) hg5.out
  refine hK.out _ _ ⟨(hb35.cell (p := ⟨g, 2, none⟩) H3.out.row.lt).trans C2.out, (HR3.out.kept hb35).all⟩ (fun hH2 => ?_)
  clear hK K
  refine wpAnyH_take (i := 7) (oi := ⟨some 26, .extract (.tmp 25) 0, _, _, _, _⟩) (v := .slice (some ⟨g5, 0, none⟩) 256 256) rfl (by kernel_rfl) (by kernel_rfl) (by kernel_rfl) (fun _ _ _ h => h) (.inl ⟨by rfl, fun w hSw => by go_simp⟩) (by assumption) ?_
  simp only [Act.put, List.setIfInBounds_toArray, List.set_cons_zero, List.set_cons_succ]
  refine wpAnyH_take (i := 8) (oi := ⟨some 27, .extract (.tmp 25) 1, _, _, _, _⟩) (v := .int .i64 0) rfl (by kernel_rfl) (by kernel_rfl) (by kernel_rfl) (fun _ _ _ h => h) (.inl ⟨by rfl, fun w hSw => by go_simp⟩) (by assumption) ?_
  simp only [Act.put, List.setIfInBounds_toArray, List.set_cons_zero, List.set_cons_succ]
  refine wpAnyH_take (i := 9) (oi := ⟨some 6, .assign (.tmp 26), _, _, _, _⟩) (v := .slice (some ⟨g5, 0, none⟩) 256 256) rfl (by kernel_rfl) (by kernel_rfl) (by kernel_rfl) (fun _ _ _ h => h) (.inl ⟨by rfl, fun w hSw => by go_simp⟩) (by assumption) ?_
  simp only [Act.put, List.setIfInBounds_toArray, List.set_cons_zero, List.set_cons_succ]
  refine wpAnyH_take (i := 10) (oi := ⟨some 7, .assign (.tmp 27), _, _, _, _⟩) (v := .int .i64 0) rfl (by kernel_rfl) (by kernel_rfl) (by kernel_rfl) (fun _ _ _ h => h) (.inl ⟨by rfl, fun w hSw => by go_simp⟩) (by assumption) ?_
  simp only [Act.put, List.setIfInBounds_toArray, List.set_cons_zero, List.set_cons_succ]
  refine wpAnyH_done (by kernel_rfl) ?_ _
  go_wp2
  go_ret2
  refine ⟨⟨some ⟨g5, 0, none⟩, 256, lst 256 (hid (pmask L r.e r.s) x3.l)⟩, rfl, Lib.hid ⟨by unfold unhid; rw [HX3.out.1], lst_len _ _⟩, Lib.hid ((own_brr HR5.out HG5.out).lower (Nat.le_trans ?_ (Nat.le_refl _))), VTo.of (H3.out.below HB5.out) (HC3.out.trans (Chg.of (F := vfoot g X.c FD FA) HB5.out) (fun j hj => .inl hj)) HW3.out⟩
  exact HC3.out.size
end
end Go.Proofs.YtpocccnhibjjcaaGreatDoor
/- What a vault's Fetch leaves. Conditions: the vault lies there; what is read has the record's digest. -/
set_option linter.unusedVariables false
set_option maxRecDepth 20000
namespace Go.Proofs.YtpocccnhibjjcaaGreatDoor
open Go.RowKit

section
variable {b : Nat} {w w' : World} {FD FA : List Nat} {g q gv : Nat} {L : Nat → Nat → List UInt8} {X : VX}
structure Right (L : Nat → Nat → List UInt8) (X : VX) (r : RecV) (k : Nat) : Prop where
  a : r.a = (k : Int) + 1
  lt : k < X.ss.length
  ok : r.Ok
  d : (lst 32 (shaF (nonB r.e r.s ++ (nowV X.ss X.rs k).l)) == lst 32 r.f) = true
theorem vfetch_known (h : VB b w FD FA g q gv L X) (hr : X.c.rd = true) (i : Nat) (hi : i < 4 ^ X.c.n) (hk : vkn X i = true) : Calls Tryz.prog 17 #[.pointer (some ⟨g, 0, none⟩), .int .i64 (i : Int)] w fun e w' => e = .returned (.int .i64 0) ∧ Below w.heap.size w w' := by
  have HK := Lib.hid (vknown h hr i hi)
  rw [hk] at HK
  have HM := Lib.hid (vmay h hr i hi)
  clear h hi hk
  go_enter Tryz.func17, Tryz.ntmps17
  go_wp2_with (first
    | (go_at_call 44; refine HM.out.mono ?_; rintro e w4 ⟨rfl, rfl⟩)
    | (go_at_call 20; refine HK.out.mono ?_; rintro e w4 ⟨rfl, hb4⟩))
  go_ret
  exact ⟨rfl, hb4⟩
def VFet (b : Nat) (w : World) (F : List Nat) (g q gv : Nat) (L : Nat → Nat → List UInt8) (X : VX) (i k : Nat) (l : List UInt8) (e : Ending) (w' : World) : Prop :=
  ∃ y : BV, e = .returned (.int .i64 0) ∧ Hid (y.l = l) ∧ VTo b w F w' g q gv L { X.read k with H := upC X.H i y }
set_option maxHeartbeats 1000000 in
theorem vfetch (h : VB b w FD FA g q gv L X) (hr : X.c.rd = true) (i : Nat) (hi : i < 4 ^ X.c.n) (hk : vkn X i = false) (k : Nat) (hR : Right L X (tr X.c.top X.N X.c.n i) k) (hq : q + 2 ≤ 900000) :
    Calls Tryz.prog 17 #[.pointer (some ⟨g, 0, none⟩), .int .i64 (i : Int)] w (VFet b w (vfoot g X.c FD FA) g (q + 2) gv L X i k (unhid L (tr X.c.top X.N X.c.n i) (nowV X.ss X.rs k).l)) := by
  have HK := Lib.hid (vknown h hr i hi)
  rw [hk] at HK
  have HM := Lib.hid (vmay h hr i hi)
  have H := Lib.hid h
  have HR := Lib.hid hR
  have HQ := Lib.hid hq
  have hi2 : i < 64 := by have := pow_le3 h.dep.2; omega
  have HI := Lib.hid hi2
  clear h hi hk hR hq hi2
  go_enter Tryz.func17, Tryz.ntmps17
  go_wp2_with (first
    | (go_at_call 44; refine HM.out.mono ?_; rintro e w4 ⟨rfl, rfl⟩)
    | (go_at_call 20; refine HK.out.mono ?_; rintro e w4 ⟨rfl, hb4⟩))
  have h4 := H.out.below hb4
  have H4 := Lib.hid h4
  have HB4 := Lib.hid hb4
  have c0 := h4.row.gd
  have C0 := Lib.hid (p := ∀ w5, Below w4.heap.size w4 w5 → w5.cell? ⟨g, 0, none⟩ = some (.pointer (some ⟨X.c.gd, 0, none⟩))) (fun w5 hb => VAt.gd (h4.row.kept hb))
  clear h4 hb4 c0
  refine wp_region_held_drew (S := fun W => W.cell? ⟨g, 0, none⟩ = some (.pointer (some ⟨X.c.gd, 0, none⟩))) (by kernel_rfl) (C0.out _ (below_drw _)) (fun hHeld => ?_)
  refine wpAnyH_take (i := 0) (oi := ⟨some 20, .move (.tmp 0), _, _, _, _⟩) (v := .pointer (some ⟨g, 0, none⟩)) rfl (by kernel_rfl) (by kernel_rfl) (by kernel_rfl) (fun _ _ _ h => h) (.inl ⟨by rfl, fun w hSw => by go_simp⟩) (by assumption) ?_
  simp only [Act.put, List.setIfInBounds_toArray, List.set_cons_zero, List.set_cons_succ]
  refine wpAnyH_take (i := 1) (oi := ⟨some 21, .move (.tmp 0), _, _, _, _⟩) (v := .pointer (some ⟨g, 0, none⟩)) rfl (by kernel_rfl) (by kernel_rfl) (by kernel_rfl) (fun _ _ _ h => h) (.inl ⟨by rfl, fun w hSw => by go_simp⟩) (by assumption) ?_
  simp only [Act.put, List.setIfInBounds_toArray, List.set_cons_zero, List.set_cons_succ]
  refine wpAnyH_take (i := 2) (oi := ⟨some 22, .move (.tmp 0), _, _, _, _⟩) (v := .pointer (some ⟨g, 0, none⟩)) rfl (by kernel_rfl) (by kernel_rfl) (by kernel_rfl) (fun _ _ _ h => h) (.inl ⟨by rfl, fun w hSw => by go_simp⟩) (by assumption) ?_
  simp only [Act.put, List.setIfInBounds_toArray, List.set_cons_zero, List.set_cons_succ]
  refine wpAnyH_take (i := 3) (oi := ⟨some 23, .move (.tmp 1), _, _, _, _⟩) (v := .int .i64 (i : Int)) rfl (by kernel_rfl) (by kernel_rfl) (by kernel_rfl) (fun _ _ _ h => h) (.inl ⟨by rfl, fun w hSw => by go_simp⟩) (by assumption) ?_
  simp only [Act.put, List.setIfInBounds_toArray, List.set_cons_zero, List.set_cons_succ]
  refine wpAnyH_take (i := 6) (oi := ⟨some 26, .move (.tmp 0), _, _, _, _⟩) (v := .pointer (some ⟨g, 0, none⟩)) rfl (by kernel_rfl) (by kernel_rfl) (by kernel_rfl) (fun _ _ _ h => h) (.inl ⟨by rfl, fun w hSw => by go_simp⟩) (by assumption) ?_
  simp only [Act.put, List.setIfInBounds_toArray, List.set_cons_zero, List.set_cons_succ]
  refine wpAnyH_take (i := 7) (oi := ⟨some 27, .nilCheck (.tmp 26), _, _, _, _⟩) (v := .pointer (some ⟨g, 0, none⟩)) rfl (by kernel_rfl) (by kernel_rfl) (by kernel_rfl) (fun _ _ _ h => h) (.inl ⟨by rfl, fun w hSw => by go_simp⟩) (by assumption) ?_
  simp only [Act.put, List.setIfInBounds_toArray, List.set_cons_zero, List.set_cons_succ]
  refine wpAnyH_take (i := 8) (oi := ⟨some 28, .fieldAddr 90 (.tmp 27) 0, _, _, _, _⟩) (v := .pointer (some ⟨g, 0, none⟩)) rfl (by kernel_rfl) (by kernel_rfl) (by kernel_rfl) (fun _ _ _ h => h) (.inl ⟨by rfl, fun w hSw => by go_simp⟩) (by assumption) ?_
  simp only [Act.put, List.setIfInBounds_toArray, List.set_cons_zero, List.set_cons_succ]
  refine wpAnyH_take (i := 9) (oi := ⟨some 29, .load 23 (.tmp 28), _, _, _, _⟩) (v := .pointer (some ⟨X.c.gd, 0, none⟩)) rfl (by kernel_rfl) (by kernel_rfl) (by kernel_rfl) (fun _ _ _ h => h) (.inl ⟨by rfl, fun w hSw => by have z := hSw; go_simp⟩) (by assumption) ?_
  simp only [Act.put, List.setIfInBounds_toArray, List.set_cons_zero, List.set_cons_succ]
  refine wpAnyH_take (i := 10) (oi := ⟨some 30, .makeFunc (.func 49) #[.tmp 29] #[], _, _, _, _⟩) (v := .func (.func 49) #[.pointer (some ⟨X.c.gd, 0, none⟩)] #[]) rfl (by kernel_rfl) (by kernel_rfl) (by kernel_rfl) (fun _ _ _ h => h) (.inl ⟨by rfl, fun w hSw => by go_simp⟩) (by assumption) ?_
  simp only [Act.put, List.setIfInBounds_toArray, List.set_cons_zero, List.set_cons_succ]
  refine wpAnyH_ready (rs := [4]) (by kernel_rfl) (by simp) ?_
  refine AllReadyH.cons (o := ⟨some 24, .call ⟨.value (.func 47), #[.tmp 22, .tmp 23], _⟩, _, _, _, _⟩) rfl (fun K hK => ?_) AllReadyH.nil
  go_simp
  refine (vplace g X.c i _ (H4.out.row.kept (below_drw _))).mono ?_
  rintro e w5 ⟨rfl, hb5⟩
  have HB5 := Lib.hid (p := Below w4.heap.size w4 w5) (below_nxt hb5 (below_drw _))
  clear hb5
  refine hK.out _ _ (C0.out _ HB5.out) (fun hH5 => ?_)
  clear hK K
  refine wpAnyH_ready (rs := [5]) (by kernel_rfl) (by simp) ?_
  refine AllReadyH.cons (o := ⟨some 25, .call ⟨.value (.func 46), #[.tmp 21, .tmp 24], _⟩, _, _, _, _⟩) rfl (fun K hK => ?_) AllReadyH.nil
  go_simp
  refine (vrecord g X.c q X.N X.c.n i (by have := H4.out.dep; omega) (by have := HI.out; omega) _ (H4.out.row.kept HB5.out) (H4.out.nodes.below HB5.out)).mono ?_
  rintro e w6 ⟨rfl, hb6⟩
  have HB6 := Lib.hid (p := Below w4.heap.size w4 w6) (below_nxt hb6 HB5.out)
  clear hb6
  refine hK.out _ _ (C0.out _ HB6.out) (fun hH6 => ?_)
  clear hK K
  refine wpAnyH_ready (rs := [11]) (by kernel_rfl) (by simp) ?_
  refine AllReadyH.cons (o := ⟨some 31, .call ⟨.value (.func 45), #[.tmp 20, .tmp 25, .tmp 30], _⟩, _, _, _, _⟩) rfl (fun K hK => ?_) AllReadyH.nil
  go_simp
  refine (vopen (H4.out.below HB6.out) (tr X.c.top X.N X.c.n i) k HR.out.a HR.out.lt HR.out.ok HR.out.d (by have := HQ.out; omega)).mono ?_
  rintro e w7 ⟨y, rfl, hy, ho, FD7, FA7, h7, hc7, hw7⟩
  have H7 := Lib.hid h7.out
  have HY := Lib.hid hy.out
  have HO := Lib.hid ho.out
  have HC7 := Lib.hid (p := Chg (vfoot g X.c FD FA) w w7) ((Chg.of (F := vfoot g X.c FD FA) (below_nxt HB6.out HB4.out)).trans hc7.out (fun j hj => .inl hj))
  have HS7 := Lib.hid (p := w.heap.size ≤ w6.heap.size) (Nat.le_trans HB4.out.size HB6.out.size)
  have HW7 := Lib.hid hw7.out
  have C7 := Lib.hid (p := w7.cell? ⟨g, 0, none⟩ = some (.pointer (some ⟨X.c.gd, 0, none⟩))) (VAt.gd h7.out.row)
  clear h7 hy ho hc7 hw7
  refine hK.out _ _ C7.out (fun hH7 => ?_)
  clear hK K
  refine wpAnyH_take (i := 12) (oi := ⟨some 19, .move (.tmp 31), _, _, _, _⟩) (v := .tuple #[.slice y.A 256 y.c, .int .i64 0]) rfl (by kernel_rfl) (by kernel_rfl) (by kernel_rfl) (fun _ _ _ h => h) (.inl ⟨by rfl, fun w hSw => by go_simp⟩) (by assumption) ?_
  simp only [Act.put, List.setIfInBounds_toArray, List.set_cons_zero, List.set_cons_succ]
  refine wpAnyH_take (i := 13) (oi := ⟨some 32, .extract (.tmp 19) 0, _, _, _, _⟩) (v := .slice y.A 256 y.c) rfl (by kernel_rfl) (by kernel_rfl) (by kernel_rfl) (fun _ _ _ h => h) (.inl ⟨by rfl, fun w hSw => by go_simp⟩) (by assumption) ?_
  simp only [Act.put, List.setIfInBounds_toArray, List.set_cons_zero, List.set_cons_succ]
  refine wpAnyH_take (i := 14) (oi := ⟨some 33, .extract (.tmp 19) 1, _, _, _, _⟩) (v := .int .i64 0) rfl (by kernel_rfl) (by kernel_rfl) (by kernel_rfl) (fun _ _ _ h => h) (.inl ⟨by rfl, fun w hSw => by go_simp⟩) (by assumption) ?_
  simp only [Act.put, List.setIfInBounds_toArray, List.set_cons_zero, List.set_cons_succ]
  refine wpAnyH_take (i := 15) (oi := ⟨some 6, .assign (.tmp 32), _, _, _, _⟩) (v := .slice y.A 256 y.c) rfl (by kernel_rfl) (by kernel_rfl) (by kernel_rfl) (fun _ _ _ h => h) (.inl ⟨by rfl, fun w hSw => by go_simp⟩) (by assumption) ?_
  simp only [Act.put, List.setIfInBounds_toArray, List.set_cons_zero, List.set_cons_succ]
  refine wpAnyH_take (i := 16) (oi := ⟨some 7, .assign (.tmp 33), _, _, _, _⟩) (v := .int .i64 0) rfl (by kernel_rfl) (by kernel_rfl) (by kernel_rfl) (fun _ _ _ h => h) (.inl ⟨by rfl, fun w hSw => by go_simp⟩) (by assumption) ?_
  simp only [Act.put, List.setIfInBounds_toArray, List.set_cons_zero, List.set_cons_succ]
  refine wpAnyH_done (by kernel_rfl) ?_ _
  have c46 : w7.cell? ⟨g, 46, none⟩ = some (.map (some X.c.gh)) := VAt.gh H7.out.row
  obtain ⟨w8, r8, m8, g8⟩ := H7.out.held.put (a := i) (by have := HI.out; omega) (by have := HQ.out; unfold maxLen; omega) y
  have c8 : Chg [X.c.gh] w7 w8 := (Chg.refl _ _).grown g8 (fun k hk => by injection hk with hk; subst hk; exact .inl (List.mem_singleton.2 rfl))
  have n8 : NoBytes w7 [X.c.gh] := fun j hj cs fr => by rw [List.mem_singleton] at hj; subst hj; exact H7.out.held.no_cells _ _ _
  have h8 := H7.out.hturn (q' := q + 2) m8 c8 ((H7.out.hb.chg c8 n8).up ((HO.out.lower (Nat.le_trans H.out.base.le HS7.out)).chg c8 n8) (.inl HY.out.2)) (Nat.le_succ _) HQ.out
  have hp : VFet b w (vfoot g X.c FD FA) g (q + 2) gv L X i k (unhid L (tr X.c.top X.N X.c.n i) (nowV X.ss X.rs k).l) (.returned (.int .i64 0)) w8 :=
    ⟨y, rfl, Lib.hid HY.out.1, VTo.of h8 (HC7.out.trans c8 (fun j hj => by
      rw [List.mem_singleton] at hj
      subst hj
      exact .inl (H.out.in_v _ (mem_vown.2 (.inr (.inr (.inl rfl))))))) (fun j hj => by
      rcases HW7.out j hj with h | h
      · exact .inl h
      · exact .inr (Nat.le_trans HS7.out h))⟩
  have HP := Lib.hid hp
  have e256 := HY.out.2
  unfold bvv at r8
  rw [e256] at r8
  change (Instr.mapUpdate 83 (.map (some X.c.gh)) (.int .i64 (i : Int)) (.slice y.A 256 y.c)).run Tryz.prog w7 = .ok () w8 at r8
  clear hp h8 n8 c8 g8 m8 e256
  go_wp2
  go_ret
  exact HP.out
end
end Go.Proofs.YtpocccnhibjjcaaGreatDoor
