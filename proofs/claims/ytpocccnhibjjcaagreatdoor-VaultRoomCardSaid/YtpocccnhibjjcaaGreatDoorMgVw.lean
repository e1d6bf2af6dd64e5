/- A vault in memory with all that it leans on: its parts, the blocks that its calls may write, and what becomes of it when other blocks are written. Conditions: those named. -/
import Derived.Test.YtpocccnhibjjcaaGreatDoorMgUnsh
import Derived.Test.YtpocccnhibjjcaaGreatDoorMgVan
import Derived.Test.YtpocccnhibjjcaaGreatDoorMgPSettle
import Derived.Test.YtpocccnhibjjcaaGreatDoorMgSx
import Derived.Test.YtpocccnhibjjcaaGreatDoorMgTab
import Derived.Test.YtpocccnhibjjcaaGreatDoorMgDig
import Derived.Test.YtpocccnhibjjcaaGreatDoorOpen
import Derived.Lib.SliceRun
import Derived.Laws.EntriesVeiled
import Derived.Test.YtpocccnhibjjcaaGreatDoorMgPm
set_option linter.unusedVariables false
set_option maxRecDepth 20000
namespace Go.Proofs.YtpocccnhibjjcaaGreatDoor
open Go.RowKit

def NoT (w : World) (F : List Nat) (t : TypeId) : Prop := ∀ x ∈ F, ∀ cs fr, w.heap[x]? ≠ some (.cells cs t fr)
theorem PD.noSpot {b : Nat} {w : World} {g : Nat} {F : List Nat} {ss : List BV} {rs : List (Nat × BV)} {E : Nat → List BV} {ts : List (Int × Int × BV)} (h : PD b w g F ss rs E ts) : NoT w F 99 := fun k hk => by
  obtain ⟨v1, v2, gm, v4, ev, n, hn, h⟩ := h
  rcases (h.fx k).1 hk with rfl | rfl | e | e | e | ⟨a, ha, e⟩
  · exact (NotT.row h.cells (by decide)).no
  · exact (NotT.map h.om _).no
  · have := NotT.own (e := 99) h.o1 (by decide)
    rw [e] at this
    exact this.no
  · have := NotT.own (e := 99) h.o2 (by decide)
    rw [e] at this
    exact this.no
  · have := NotT.own (e := 99) h.o4 (by decide)
    rw [e] at this
    exact this.no
  · have := NotT.own (e := 99) (h.oe a ha) (by decide)
    rw [e] at this
    exact this.no
theorem AnAt.noSpot {b : Nat} {w : World} {ga : Nat} {FA : List Nat} {e : Nat} {r : RecV} {k : Nat} (h : AnAt b w ga FA e r k) : NoT w FA 99 := fun j hj => by
  obtain ⟨v, xs, h1, h2, h3, h4⟩ := h
  rcases (h3 j).1 hj with rfl | hj
  · exact (NotT.row h1 (by decide)).no
  · have := NotT.own (e := 99) h2 (by decide)
    rw [hj] at this
    exact this.no

def HolP (w : World) (A : Option Addr) (l : List (Nat × Nat)) : Prop :=
  l = [] ∨ ∃ g o cs fr, A = some ⟨g, o, none⟩ ∧ w.heap[g]? = some (.cells cs 99 fr) ∧ ∀ j x, l[j]? = some x → cs[o + j * 2]? = some (.int .i64 (x.1 : Int)) ∧ cs[o + j * 2 + 1]? = some (.int .i64 (x.2 : Int))
def PS (w : World) (v : Value) (l : List (Nat × Nat)) : Prop := ∃ A c, v = .slice A l.length c ∧ l.length ≤ c ∧ HolP w A l
theorem HolP.chg {G : List Nat} {w w' : World} {A : Option Addr} {l : List (Nat × Nat)} (h : HolP w A l) (hc : Chg G w w') (hG : NoT w G 99) : HolP w' A l := by
  rcases h with h | ⟨g, o, cs, fr, rfl, hb, h⟩
  · exact .inl h
  · exact .inr ⟨g, o, cs, fr, rfl, (hc.block g (Array.getElem?_eq_some_iff.1 hb).1 (fun hx => hG _ hx _ _ hb)).trans hb, h⟩
theorem PS.chg {G : List Nat} {w w' : World} {v : Value} {l : List (Nat × Nat)} (h : PS w v l) (hc : Chg G w w') (hG : NoT w G 99) : PS w' v l := by
  obtain ⟨A, c, rfl, hl, h⟩ := h
  exact ⟨A, c, rfl, hl, h.chg hc hG⟩
theorem PS.below {w w' : World} {v : Value} {l : List (Nat × Nat)} (h : PS w v l) (hb : Below w.heap.size w w') : PS w' v l := h.chg (G := []) (.of hb) (fun x hx => by cases hx)
theorem PS.nil (w : World) : PS w (.slice none 0 0) [] := ⟨none, 0, rfl, Nat.le_refl _, .inl rfl⟩
theorem PS.head {w : World} {v : Value} {x : Nat × Nat} {l : List (Nat × Nat)} (h : PS w v (x :: l)) : ∃ g o c, v = .slice (some ⟨g, o, none⟩) (l.length + 1) c ∧ l.length + 1 ≤ c ∧ g < w.heap.size ∧ w.cell? ⟨g, o, none⟩ = some (.int .i64 (x.1 : Int)) ∧ w.cell? ⟨g, o + 1, none⟩ = some (.int .i64 (x.2 : Int)) := by
  obtain ⟨A, c, rfl, hl, h⟩ := h
  rcases h with h | ⟨g, o, cs, fr, rfl, hb, h⟩
  · cases h
  · obtain ⟨h1, h2⟩ := h 0 x rfl
    refine ⟨g, o, c, rfl, hl, (Array.getElem?_eq_some_iff.1 hb).1, ?_, ?_⟩
    · rw [cell_of_row w g o cs _ fr hb]
      simpa using h1
    · rw [cell_of_row w g (o + 1) cs _ fr hb]
      simpa using h2
theorem PS.tail {w : World} {g o c : Nat} {x : Nat × Nat} {l : List (Nat × Nat)} (h : PS w (.slice (some ⟨g, o, none⟩) (l.length + 1) c) (x :: l)) : PS w (.slice (if c = 1 then some ⟨g, o, none⟩ else some ⟨g, o + 2, none⟩) l.length (c - 1)) l := by
  obtain ⟨A, c', e, hl, h⟩ := h
  simp only [Value.slice.injEq, List.length_cons, true_and] at e hl
  obtain ⟨rfl, rfl⟩ := e
  refine ⟨_, _, rfl, by omega, ?_⟩
  by_cases hc : c = 1
  · exact .inl (List.eq_nil_of_length_eq_zero (by omega))
  · rw [if_neg hc]
    rcases h with h | ⟨g', o', cs, fr, e, hb, h⟩
    · cases h
    · simp only [Option.some.injEq, Addr.mk.injEq, and_true] at e
      obtain ⟨rfl, rfl⟩ := e
      refine .inr ⟨_, _, cs, fr, rfl, hb, fun j y hy => ?_⟩
      have := h (j + 1) y (by simpa using hy)
      rw [show o + (j + 1) * 2 = o + 2 + j * 2 by omega] at this
      exact this
def pcs (x : Nat × Nat) : List Value := [.int .i64 (x.1 : Int), .int .i64 (x.2 : Int)]
theorem PS.own {w : World} {b : Nat} {v : Value} {l : List (Nat × Nat)} (h : w.ownsRow b 99 2 v l.length (l.flatMap pcs)) : PS w v l := by
  rcases h.2 with ⟨rfl, h0⟩ | ⟨g, cap, cur, rfl, hb, hg, hc, _⟩
  · have : l = [] := List.eq_nil_of_length_eq_zero h0
    subst this
    exact PS.nil w
  · refine ⟨_, _, rfl, by omega, .inr ⟨g, 0, cur, _, rfl, hg, fun j x hx => ?_⟩⟩
    have c1 := h.cells (g := g) rfl (j * 2) (.int .i64 (x.1 : Int)) (by rw [← Nat.add_zero (j * 2), flat_get (f := pcs) (k := 2) (fun _ => rfl) hx 0 (by omega)]; rfl)
    have c2 := h.cells (g := g) rfl (j * 2 + 1) (.int .i64 (x.2 : Int)) (by rw [flat_get (f := pcs) (k := 2) (fun _ => rfl) hx 1 (by omega)]; rfl)
    rw [Addr.add_lit, cell_of_row w g _ cur _ _ hg] at c1 c2
    exact ⟨by simpa using c1, by simpa [Nat.add_assoc] using c2⟩

theorem rec_use : Rec Tryz.prog 46 111 3 := rec_of (z := .agg #[.int .u32 0, .int .u32 0, .slice none 0 0]) (n := 32) Tryz.underlying46 (by kernel_rfl) (by decide) rfl (by decide)
def uc (u : Nat × Nat × BV) : List Value := [.int .u32 (u.1 : Int), .int .u32 (u.2.1 : Int), bvv u.2.2]
theorem uc_one (u : Nat × Nat × BV) : ∀ v ∈ uc u, v.oneCell' = true := by intro v hv; simp [uc, bvv] at hv; rcases hv with rfl | rfl | rfl <;> rfl

structure VX where
  c : VC
  N : Nat → Nat → Nat → RecV
  H : Nat → Option BV
  C : Nat → Option BV
  un : List (Nat × Nat)
  G : Nat → Option BV
  rt : List (Nat × Nat)
  ul : List (Nat × Nat × BV)
  S : Nat → Nat
  ae : Nat
  ar : RecV
  ss : List BV
  rs : List (Nat × BV)
  E : Nat → List BV
  ts : List (Int × Int × BV)
def vown (g : Nat) (c : VC) : List Nat := [g, c.gn, c.gh, c.gc, c.gs] ++ c.us.ownBlock.toList
def vfoot (g : Nat) (c : VC) (FD FA : List Nat) : List Nat := FD ++ (FA ++ vown g c)
theorem mem_vown {g : Nat} {c : VC} {j : Nat} : j ∈ vown g c ↔ j = g ∨ j = c.gn ∨ j = c.gh ∨ j = c.gc ∨ j = c.gs ∨ c.us.ownBlock = some j := by
  simp [vown, Option.mem_toList]
theorem mem_vfoot {g : Nat} {c : VC} {FD FA : List Nat} {j : Nat} : j ∈ vfoot g c FD FA ↔ j ∈ FD ∨ j ∈ FA ∨ j ∈ vown g c := by simp [vfoot]
def OwnM (b : Nat) (w : World) (H : Nat → Option BV) : Prop := ∀ a x, H a = some x → Own8 b w x ∧ (x.l.length = 256 ∨ x.l = [])
theorem OwnM.chg {b : Nat} {w w' : World} {H : Nat → Option BV} {G : List Nat} (h : OwnM b w H) (hc : Chg G w w') (hG : NoBytes w G) : OwnM b w' H := fun a x hx => ⟨(h a x hx).1.chg hc hG, (h a x hx).2⟩
theorem OwnM.up {b : Nat} {w : World} {H : Nat → Option BV} (h : OwnM b w H) {a : Nat} {x : BV} (hx : Own8 b w x) (hl : x.l.length = 256 ∨ x.l = []) : OwnM b w (upC H a x) := fun a' x' hx' => by
  by_cases e : a' = a
  · subst e
    rw [upC_same] at hx'
    cases hx'
    exact ⟨hx, hl⟩
  · rw [upC_other _ _ e] at hx'
    exact h a' x' hx'
def VeilAt (w : World) (F : List Nat) (gv : Nat) (L : Nat → Nat → List UInt8) : Prop := ∃ B wv, IdealAt B wv gv L ∧ Kept B wv w ∧ (∀ j ∈ F, j < B ∨ wv.heap.size ≤ j)
theorem VeilAt.mask {w : World} {F : List Nat} {gv : Nat} {L : Nat → Nat → List UInt8} (h : VeilAt w F gv L) : MaskAt w gv (pmask L) := by
  obtain ⟨B, wv, h1, h2, h3⟩ := h
  exact (h1.kept h2).mask
theorem VeilAt.chg {w w' : World} {F F' G : List Nat} {gv : Nat} {L : Nat → Nat → List UInt8} (h : VeilAt w F gv L) (hc : Chg G w w') (hG : ∀ j ∈ G, j ∈ F ∨ w.heap.size ≤ j) (hF : ∀ j ∈ F', j ∈ F ∨ w.heap.size ≤ j) : VeilAt w' F' gv L := by
  obtain ⟨B, wv, h1, h2, h3⟩ := h
  refine ⟨B, wv, h1, ⟨Nat.le_trans h2.1 hc.size, fun j hB hj => (hc.block j (Nat.lt_of_lt_of_le hj h2.1) (fun hx => ?_)).trans (h2.2 j hB hj)⟩, fun j hj => ?_⟩
  · rcases hG j hx with h | h
    · rcases h3 j h with h | h <;> omega
    · have := h2.1
      omega
  · rcases hF j hj with h | h
    · exact h3 j h
    · exact .inr (Nat.le_trans h2.1 h)
def BaseT (b : Nat) (w : World) : Prop := ∃ w0 : World, w0.heap.size = b ∧ Below b w0 w ∧ Tabs w0 ∧ S8.Tab w0
theorem BaseT.tabs {b : Nat} {w : World} (h : BaseT b w) : Tabs w := by
  obtain ⟨w0, rfl, h1, h2, h3⟩ := h
  exact h2.below h1
theorem BaseT.tab {b : Nat} {w : World} (h : BaseT b w) : S8.Tab w := by
  obtain ⟨w0, rfl, h1, h2, h3⟩ := h
  exact h3.below h1 h3.lt
theorem BaseT.lt {b : Nat} {w : World} (h : BaseT b w) : 2 < b := by
  obtain ⟨w0, rfl, h1, h2, h3⟩ := h
  exact h3.lt
theorem BaseT.le {b : Nat} {w : World} (h : BaseT b w) : b ≤ w.heap.size := by
  obtain ⟨w0, rfl, h1, h2, h3⟩ := h
  exact h1.size
theorem BaseT.chg {b : Nat} {w w' : World} {G : List Nat} (h : BaseT b w) (hc : Chg G w w') (hG : ∀ j ∈ G, b ≤ j) : BaseT b w' := by
  have hle := h.le
  obtain ⟨w0, h0, h1, h2, h3⟩ := h
  exact ⟨w0, h0, h1.trans (hc.below hle hG), h2, h3⟩
structure VB (b : Nat) (w : World) (FD FA : List Nat) (g q gv : Nat) (L : Nat → Nat → List UInt8) (X : VX) : Prop where
  row : VAt w g X.c
  nodes : MN w X.c.gn q X.N
  held : MI w X.c.gh q X.H
  chd : MI w X.c.gc q X.C
  un : PS w X.c.un X.un
  rt : PS w X.c.rt X.rt
  goi : X.c.go = .map none ∨ ∃ gg, X.c.go = .map (some gg) ∧ MI w gg q X.G ∧ gg ∉ vfoot g X.c FD FA
  us : w.ownsRow b 111 3 X.c.us X.ul.length (X.ul.flatMap uc)
  ub : ∀ u ∈ X.ul, Own8 b w u.2.2
  ul : ∀ u ∈ X.ul, u.2.2.l.length ≤ 256
  spc : S8.Spc w X.c.gs X.ss.length X.S
  anc : ∃ k, k ≤ q ∧ AnAt b w X.c.ga FA X.ae X.ar k
  dsk : PD b w X.c.gd FD X.ss X.rs X.E X.ts
  hb : OwnM b w X.H
  cb : OwnM b w X.C
  gb : OwnM b w X.G
  base : BaseT b w
  vl : VeilAt w (vfoot g X.c FD FA) gv L
  vv : X.c.vv = .pointer (some ⟨gv, 0, none⟩)
  da : ∀ j ∈ FD, j ∉ FA ∧ j ∉ vown g X.c
  av : ∀ j ∈ FA, j ∉ vown g X.c
  nh : X.c.gn ≠ X.c.gh
  nc : X.c.gn ≠ X.c.gc
  hc : X.c.gh ≠ X.c.gc
  lo : ∀ j ∈ vown g X.c, b ≤ j
  dep : 1 ≤ X.c.n ∧ X.c.n ≤ 3
  lim : q ≤ 900000 ∧ X.ul.length ≤ q ∧ X.rs.length ≤ q ∧ X.ts.length ≤ q
theorem row_noT {w : World} {g : Nat} {t t' : TypeId} {cs : List Value} (h : Row w g t cs) (hne : t ≠ t') : ∀ cs' fr, w.heap[g]? ≠ some (.cells cs' t' fr) := (NotT.row h hne).no
section
variable {b : Nat} {w w' : World} {FD FA : List Nat} {g q gv : Nat} {L : Nat → Nat → List UInt8} {X : VX}
theorem VB.g_lt (h : VB b w FD FA g q gv L X) : ∀ j ∈ vfoot g X.c FD FA, b ≤ j ∧ j < w.heap.size := fun j hj => by
  rcases mem_vfoot.1 hj with hj | hj | hj
  · exact h.dsk.lt j hj
  · obtain ⟨k, _, ha⟩ := h.anc
    exact ha.lt j hj
  · refine ⟨h.lo j hj, ?_⟩
    rcases mem_vown.1 hj with rfl | rfl | rfl | rfl | rfl | hj
    · exact h.row.lt
    · exact h.nodes.lt
    · exact h.held.lt
    · exact h.chd.lt
    · exact h.spc.lt
    · exact (h.us.lt j hj).2
theorem VB.no (h : VB b w FD FA g q gv L X) (t : TypeId) (h5 : t = 5 ∨ t = 99) : NoT w (vfoot g X.c FD FA) t := fun j hj => by
  have own : ∀ {g : Nat} {t' : TypeId} {cs : List Value}, Row w g t' cs → t' ≠ t → ∀ cs' fr, w.heap[g]? ≠ some (.cells cs' t fr) := fun h hne => (NotT.row h hne).no
  rcases mem_vfoot.1 hj with hj | hj | hj
  · rcases h5 with rfl | rfl
    · exact h.dsk.noBytes j hj
    · exact h.dsk.noSpot j hj
  · obtain ⟨k, _, ha⟩ := h.anc
    rcases h5 with rfl | rfl
    · exact ha.noBytes j hj
    · exact ha.noSpot j hj
  · rcases mem_vown.1 hj with rfl | rfl | rfl | rfl | rfl | hj
    · exact own h.row (by rcases h5 with rfl | rfl <;> decide)
    · exact fun cs fr => h.nodes.no_cells cs t fr
    · exact fun cs fr => h.held.no_cells cs t fr
    · exact fun cs fr => h.chd.no_cells cs t fr
    · exact own h.spc.row (by rcases h5 with rfl | rfl <;> decide)
    · have := NotT.own (e := t) h.us (by rcases h5 with rfl | rfl <;> decide)
      rw [hj] at this
      exact this.no
structure Keep (b : Nat) (w' : World) (G FD FA : List Nat) (g q gv : Nat) (L : Nat → Nat → List UInt8) (X : VX) : Prop where
  row : g ∉ G → VAt w' g X.c
  nodes : X.c.gn ∉ G → MN w' X.c.gn q X.N
  held : X.c.gh ∉ G → MI w' X.c.gh q X.H
  chd : X.c.gc ∉ G → MI w' X.c.gc q X.C
  un : PS w' X.c.un X.un
  rt : PS w' X.c.rt X.rt
  goi : X.c.go = .map none ∨ ∃ gg, X.c.go = .map (some gg) ∧ MI w' gg q X.G ∧ gg ∉ vfoot g X.c FD FA
  us : (∀ k, X.c.us.ownBlock = some k → k ∉ G) → w'.ownsRow b 111 3 X.c.us X.ul.length (X.ul.flatMap uc)
  ub : ∀ u ∈ X.ul, Own8 b w' u.2.2
  spc : X.c.gs ∉ G → S8.Spc w' X.c.gs X.ss.length X.S
  anc : (∀ j ∈ G, j ∉ FA) → ∃ k, k ≤ q ∧ AnAt b w' X.c.ga FA X.ae X.ar k
  dsk : (∀ j ∈ G, j ∉ FD) → PD b w' X.c.gd FD X.ss X.rs X.E X.ts
  hb : OwnM b w' X.H
  cb : OwnM b w' X.C
  gb : OwnM b w' X.G
  base : BaseT b w'
  vl : ∀ F', (∀ j ∈ F', j ∈ vfoot g X.c FD FA ∨ w.heap.size ≤ j) → VeilAt w' F' gv L
theorem VB.keep (h : VB b w FD FA g q gv L X) {G : List Nat} (hc : Chg G w w') (hG : ∀ j ∈ G, j ∈ vfoot g X.c FD FA) : Keep (w := w) b w' G FD FA g q gv L X := by
  have n8 : NoBytes w G := fun j hj => h.no 5 (.inl rfl) j (hG j hj)
  have nS : NoT w G 99 := fun j hj => h.no 99 (.inr rfl) j (hG j hj)
  have hlo : ∀ j ∈ G, b ≤ j := fun j hj => (h.g_lt j (hG j hj)).1
  have htb : 2 ∉ G := fun hx => by
    have h1 := hlo _ hx
    have h2 := h.base.lt
    omega
  refine ⟨fun hn => hc.row h.row hn, fun hn => h.nodes.chg hc hn, fun hn => h.held.chg hc hn, fun hn => h.chd.chg hc hn, h.un.chg hc nS, h.rt.chg hc nS, ?_, fun hn => hc.own h.us hn, fun u hu => (h.ub u hu).chg hc n8, ?_, fun hn => ?_, fun hn => h.dsk.chg hc hn n8, h.hb.chg hc n8, h.cb.chg hc n8, h.gb.chg hc n8, h.base.chg hc hlo, fun F' hF => h.vl.chg hc (fun j hj => .inl (hG j hj)) hF⟩
  · rcases h.goi with e | ⟨gg, e, hm, hn⟩
    · exact .inl e
    · exact .inr ⟨gg, e, hm.chg hc (fun hx => hn (hG _ hx)), hn⟩
  · intro hn
    exact ⟨hc.row h.spc.row hn, h.spc.le, h.spc.st, fun j hj => hc.cell (h.spc.tab j hj) htb, h.spc.ne⟩
  · obtain ⟨k, hk, ha⟩ := h.anc
    exact ⟨k, hk, ha.chg hc hn⟩
theorem VB.below (h : VB b w FD FA g q gv L X) (hb : Below w.heap.size w w') : VB b w' FD FA g q gv L X := by
  have k := h.keep (G := []) (.of hb) (fun j hj => by cases hj)
  have nil : ∀ {p : Nat}, p ∉ ([] : List Nat) := fun hx => by cases hx
  exact { row := k.row nil, nodes := k.nodes nil, held := k.held nil, chd := k.chd nil, un := k.un, rt := k.rt, goi := k.goi, us := k.us (fun _ _ => nil), ub := k.ub, ul := h.ul, spc := k.spc nil, anc := k.anc (fun j hj => by cases hj), dsk := k.dsk (fun j hj => by cases hj), hb := k.hb, cb := k.cb, gb := k.gb, base := k.base, vl := k.vl _ (fun j hj => .inl hj), vv := h.vv, da := h.da, av := h.av, nh := h.nh, nc := h.nc, hc := h.hc, lo := h.lo, dep := h.dep, lim := h.lim }
end
end Go.Proofs.YtpocccnhibjjcaaGreatDoor
/- Bytes cloned. No conditions. -/
set_option linter.unusedVariables false
namespace Go.Proofs.YtpocccnhibjjcaaGreatDoor
open Go.RowKit

set_option maxRecDepth 20000 in
theorem clone8 (x : BV) (b : Nat) (w : World) (hx : Own8 b w x) (hl : x.l.length ≤ 140737488355328) :
    Calls Tryz.prog 50 #[.slice x.A x.l.length x.c] w fun e w' => ∃ y : BV, e = .returned (.slice y.A y.l.length y.c) ∧ Hid (y.l = x.l) ∧ Hid (Own8 w.heap.size w' y) ∧ Hid (Below w.heap.size w w') := by
  obtain ⟨i, U⟩ := u8_tab
  have hnil : ∀ (w : World) (a : Option Addr) (n c : Nat), (binOp .eql 35 (.slice a n c) (.slice none 0 0)).run Tryz.prog w = .ok (.bool a.isNone) w := fun w a n c => Lib.run_eql_slice_nil w _ _ a n c 0 0 Tryz.underlying35
  have HX := Lib.hid hx
  have HL := Lib.hid hl
  rcases hx.2 with ⟨e0, h0⟩ | ⟨g, cap, cur, e0, _⟩
  · obtain ⟨A, c, l⟩ := x
    simp only [bvv, Value.slice.injEq] at e0
    obtain ⟨rfl, h1, rfl⟩ := e0
    obtain rfl : l = [] := List.eq_nil_of_length_eq_zero h1
    clear hx hl h0
    go_enter Tryz.func50, Tryz.ntmps50
    go_wp2
    go_ret
    exact ⟨noBV, rfl, Lib.hid rfl, Lib.hid (Own8.none_ _ _), Lib.hid (Below.refl _ _)⟩
  · obtain ⟨A, c, l⟩ := x
    simp only [bvv, Value.slice.injEq] at e0
    obtain ⟨rfl, _, rfl⟩ := e0
    have HH := Lib.hid hx.hol
    clear hx hl
    go_enter Tryz.func50, Tryz.ntmps50
    go_wp2_with (first
      | (at_builtin; refine wpList_app _ rfl _ _ _ rfl 5 i U w.heap.size (.slice (some ⟨w.heap.size, 0, none⟩) 0 0) 0 [] rfl (void_own w _ 1 _ (Nat.le_refl _)) _ l.length c l rfl rfl (HH.out.below ((Below.refl _ _).alloc (Nat.le_refl _) _)) (by have h9 : l.length ≤ 140737488355328 := HL.out; omega) (by simp) ?_
         intro v2' w2 hown2 hg2 hat2
         rw [List.nil_append, Nat.zero_add] at hown2
         obtain ⟨Ax, cx, rfl⟩ := own_sl hown2
         have hb2 : Below w.heap.size w w2 := ((Below.refl _ _).alloc (Nat.le_refl _) _).grown hg2 (by simp) (fun q hq => by have h0 : some w.heap.size = some q := hq; injection h0 with h0; omega)
         have HX2 := Lib.hid hown2
         have HB2 := Lib.hid hb2
         clear hown2 hg2 hat2 hb2))
    go_ret
    exact ⟨⟨Ax, cx, l⟩, rfl, Lib.hid rfl, HX2, HB2⟩
theorem uc_len (u : Nat × Nat × BV) : (uc u).length = 3 := rfl
end Go.Proofs.YtpocccnhibjjcaaGreatDoor
/- A vault's own cells written; what asks of a vault and writes nothing. Conditions: the vault lies there. -/
set_option linter.unusedVariables false
set_option maxRecDepth 20000
namespace Go.Proofs.YtpocccnhibjjcaaGreatDoor
open Go.RowKit

def stV (f g : Nat) : Value := .func (.func f) #[.pointer (some ⟨g, 0, none⟩)] #[]
section
variable {b : Nat} {w w' : World} {FD FA : List Nat} {g q gv : Nat} {L : Nat → Nat → List UInt8} {X : VX}
theorem VB.rowd (h : VB b w FD FA g q gv L X) {e s : Nat} {top : RecV} {mf un : Value} {rd : Bool} {pf go rt : Value} {U R : List (Nat × Nat)} {G' : Nat → Option BV}
    (hr : VAt w' g { X.c with e := e, s := s, top := top, mf := mf, un := un, rd := rd, pf := pf, go := go, rt := rt }) (hc : Chg [g] w w') (hun : PS w' un U) (hrt : PS w' rt R)
    (hgo : go = .map none ∨ ∃ gg, go = .map (some gg) ∧ MI w' gg q G' ∧ gg ∉ vfoot g X.c FD FA) (hgb : OwnM b w' G') :
    VB b w' FD FA g q gv L { X with c := { X.c with e := e, s := s, top := top, mf := mf, un := un, rd := rd, pf := pf, go := go, rt := rt }, un := U, rt := R, G := G' } := by
  have hg : g ∈ vown g X.c := mem_vown.2 (.inl rfl)
  have k := h.keep hc (fun j hj => by rw [List.mem_singleton] at hj; subst hj; exact mem_vfoot.2 (.inr (.inr hg)))
  have ne : ∀ {p : Nat}, p ≠ g → p ∉ [g] := fun hx hy => hx (List.mem_singleton.1 hy)
  have mne : ∀ {p : Nat}, (∀ cs t fr, w.heap[p]? ≠ some (.cells cs t fr)) → p ≠ g := fun hm e => hm _ _ _ (e ▸ h.row.heap)
  exact { row := hr, nodes := k.nodes (ne (mne h.nodes.no_cells)), held := k.held (ne (mne h.held.no_cells)), chd := k.chd (ne (mne h.chd.no_cells)), un := hun, rt := hrt, goi := hgo, us := k.us (fun p hp hx => by rw [List.mem_singleton] at hx; subst hx; exact row_parted h.row h.us (by decide) hp), ub := k.ub, ul := h.ul, spc := k.spc (ne (h.spc.row.ne_ h.row (by decide))), anc := k.anc (fun j hj hx => by rw [List.mem_singleton] at hj; subst hj; exact h.av _ hx hg), dsk := k.dsk (fun j hj hx => by rw [List.mem_singleton] at hj; subst hj; exact (h.da _ hx).2 hg), hb := k.hb, cb := k.cb, gb := hgb, base := k.base, vl := k.vl _ (fun j hj => .inl hj), vv := h.vv, da := h.da, av := h.av, nh := h.nh, nc := h.nc, hc := h.hc, lo := h.lo, dep := h.dep, lim := h.lim }
theorem VB.gfr (h : VB b w FD FA g q gv L X) (i : Nat) : w.frozen? ⟨g, i, none⟩ = false := h.row.free i
theorem chg_g (w : World) (g i : Nat) (v : Value) : Chg [g] w (w.setCell ⟨g, i, none⟩ v) := (Chg.refl [g] w).setCell (p := ⟨g, i, none⟩) (.inl (List.mem_singleton.2 rfl)) v
theorem VB.keep1 (h : VB b w FD FA g q gv L X) {i : Nat} {v : Value} : Keep (w := w) b (w.setCell ⟨g, i, none⟩ v) [g] FD FA g q gv L X :=
  h.keep (chg_g w g i v) (fun j hj => by rw [List.mem_singleton] at hj; subst hj; exact mem_vfoot.2 (.inr (.inr (mem_vown.2 (.inl rfl)))))
theorem VB.p_mf (h : VB b w FD FA g q gv L X) (v : Value) : VB b (w.setCell ⟨g, 43, none⟩ (v)) FD FA g q gv L { X with c := { X.c with mf := v } } := by
  have k := h.keep1 (i := 43) (v := v)
  exact h.rowd (G' := X.G) (by have hr := h.row.put 43 (v); rw [VC.set_mf] at hr; exact hr) (chg_g _ _ _ _) k.un k.rt k.goi k.gb
theorem VB.p_rd (h : VB b w FD FA g q gv L X) (v : Bool) : VB b (w.setCell ⟨g, 45, none⟩ (.bool v)) FD FA g q gv L { X with c := { X.c with rd := v } } := by
  have k := h.keep1 (i := 45) (v := .bool v)
  exact h.rowd (G' := X.G) (by have hr := h.row.put 45 (.bool v); rw [VC.set_rd] at hr; exact hr) (chg_g _ _ _ _) k.un k.rt k.goi k.gb
theorem VB.p_pf (h : VB b w FD FA g q gv L X) (v : Value) : VB b (w.setCell ⟨g, 48, none⟩ (v)) FD FA g q gv L { X with c := { X.c with pf := v } } := by
  have k := h.keep1 (i := 48) (v := v)
  exact h.rowd (G' := X.G) (by have hr := h.row.put 48 (v); rw [VC.set_pf] at hr; exact hr) (chg_g _ _ _ _) k.un k.rt k.goi k.gb
theorem VB.p_e (h : VB b w FD FA g q gv L X) (v : Nat) : VB b (w.setCell ⟨g, 5, none⟩ (.int .u32 (v : Int))) FD FA g q gv L { X with c := { X.c with e := v } } := by
  have k := h.keep1 (i := 5) (v := .int .u32 (v : Int))
  exact h.rowd (G' := X.G) (by have hr := h.row.put 5 (.int .u32 (v : Int)); rw [VC.set_e] at hr; exact hr) (chg_g _ _ _ _) k.un k.rt k.goi k.gb
theorem VB.p_s (h : VB b w FD FA g q gv L X) (v : Nat) : VB b (w.setCell ⟨g, 6, none⟩ (.int .u32 (v : Int))) FD FA g q gv L { X with c := { X.c with s := v } } := by
  have k := h.keep1 (i := 6) (v := .int .u32 (v : Int))
  exact h.rowd (G' := X.G) (by have hr := h.row.put 6 (.int .u32 (v : Int)); rw [VC.set_s] at hr; exact hr) (chg_g _ _ _ _) k.un k.rt k.goi k.gb
theorem VB.p_un (h : VB b w FD FA g q gv L X) (v : Value) {U : List (Nat × Nat)} (hu : PS w v U) : VB b (w.setCell ⟨g, 44, none⟩ v) FD FA g q gv L { X with c := { X.c with un := v }, un := U } := by
  have k := h.keep1 (i := 44) (v := v)
  exact h.rowd (G' := X.G) (by have hr := h.row.put 44 v; rw [VC.set_un] at hr; exact hr) (chg_g _ _ _ _) (hu.chg (chg_g _ _ _ _) (fun x hx => by rw [List.mem_singleton] at hx; subst hx; exact row_noT h.row (by decide))) k.rt k.goi k.gb
theorem VB.p_rt (h : VB b w FD FA g q gv L X) (v : Value) {U : List (Nat × Nat)} (hu : PS w v U) : VB b (w.setCell ⟨g, 50, none⟩ v) FD FA g q gv L { X with c := { X.c with rt := v }, rt := U } := by
  have k := h.keep1 (i := 50) (v := v)
  exact h.rowd (G' := X.G) (by have hr := h.row.put 50 v; rw [VC.set_rt] at hr; exact hr) (chg_g _ _ _ _) k.un (hu.chg (chg_g _ _ _ _) (fun x hx => by rw [List.mem_singleton] at hx; subst hx; exact row_noT h.row (by decide))) k.goi k.gb
theorem VB.p_nogo (h : VB b w FD FA g q gv L X) : VB b (w.setCell ⟨g, 49, none⟩ (.map none)) FD FA g q gv L { X with c := { X.c with go := .map none } } := by
  have k := h.keep1 (i := 49) (v := .map none)
  exact h.rowd (G' := X.G) (by have hr := h.row.put 49 (.map none); rw [VC.set_go] at hr; exact hr) (chg_g _ _ _ _) k.un k.rt (.inl rfl) k.gb
theorem VB.p_go (h : VB b w FD FA g q gv L X) (gg : Nat) (G' : Nat → Option BV) (hm : MI w gg q G') (hgb : OwnM b w G') (hn : gg ∉ vfoot g X.c FD FA) : VB b (w.setCell ⟨g, 49, none⟩ (.map (some gg))) FD FA g q gv L { X with c := { X.c with go := .map (some gg) }, G := G' } := by
  have k := h.keep1 (i := 49) (v := .map (some gg))
  exact h.rowd (G' := G') (by have hr := h.row.put 49 (.map (some gg)); rw [VC.set_go] at hr; exact hr) (chg_g _ _ _ _) k.un k.rt (.inr ⟨gg, rfl, hm.chg (chg_g _ _ _ _) (fun hx => hn (by rw [List.mem_singleton] at hx; subst hx; exact mem_vfoot.2 (.inr (.inr (mem_vown.2 (.inl rfl)))))), hn⟩) (hgb.chg (chg_g _ _ _ _) (fun x hx => by rw [List.mem_singleton] at hx; subst hx; exact row_noT h.row (by decide)))
theorem fn_nil (fn : Fn) (a c : Array Value) (w : World) : (binOp .neq 88 (.func fn a c) .nilFunc).run Tryz.prog w = .ok (.bool true) w := by kernel_rfl
theorem nil_nil (w : World) : (binOp .neq 88 .nilFunc .nilFunc).run Tryz.prog w = .ok (.bool false) w := by kernel_rfl
theorem vrise (h : VB b w FD FA g q gv L X) : Calls Tryz.prog 98 #[.pointer (some ⟨g, 0, none⟩)] w fun e w' => e = .returned (.tuple #[.bool true, .int .i64 0]) ∧ Hid (VB b w' FD FA g q gv L { X with c := { X.c with rd := true, mf := stV 98 g } }) ∧ Hid (Chg [g] w w') := by
  have c45 := h.row.rd
  have f45 := h.gfr 45
  have c43 := h.row.mf
  have f43 := h.gfr 43
  have H := Lib.hid h
  clear h
  go_enter Tryz.func98, Tryz.ntmps98
  go_wp2
  go_ret2
  exact ⟨rfl, Lib.hid ((H.out.p_rd true).p_mf _), Lib.hid ((chg_g _ _ _ _).setCell (p := ⟨g, 43, none⟩) (.inl (List.mem_singleton.2 rfl)) _)⟩
theorem vready (h : VB b w FD FA g q gv L X) : Calls Tryz.prog 19 #[.pointer (some ⟨g, 0, none⟩)] w fun e w' => e = .returned (.bool X.c.rd) ∧ w = w' := by
  have c45 := h.row.rd
  clear h
  go_enter Tryz.func19, Tryz.ntmps19
  go_wp2
  go_ret
  exact ⟨rfl, rfl⟩
theorem vgoing (h : VB b w FD FA g q gv L X) (f : Nat) (hp : X.c.pf = stV f g) : Calls Tryz.prog 22 #[.pointer (some ⟨g, 0, none⟩)] w fun e w' => e = .returned (.bool true) ∧ w = w' := by
  have c48 := h.row.pf
  rw [hp] at c48
  unfold stV at c48
  have hfn := fn_nil
  clear h
  go_enter Tryz.func22, Tryz.ntmps22
  go_wp2
  go_ret
  exact ⟨rfl, rfl⟩
theorem vgoing_not (h : VB b w FD FA g q gv L X) (hp : X.c.pf = .nilFunc) : Calls Tryz.prog 22 #[.pointer (some ⟨g, 0, none⟩)] w fun e w' => e = .returned (.bool false) ∧ w = w' := by
  have c48 := h.row.pf
  rw [hp] at c48
  have hfn := nil_nil
  clear h
  go_enter Tryz.func22, Tryz.ntmps22
  go_wp2
  go_ret
  exact ⟨rfl, rfl⟩
theorem vepoch (h : VB b w FD FA g q gv L X) : Calls Tryz.prog 24 #[.pointer (some ⟨g, 0, none⟩)] w fun e w' => e = .returned (.int .u32 (X.c.e : Int)) ∧ w = w' := by
  have c5 := h.row.e
  clear h
  go_enter Tryz.func24, Tryz.ntmps24
  go_wp2
  go_ret
  exact ⟨rfl, rfl⟩
theorem vchanged (h : VB b w FD FA g q gv L X) : Calls Tryz.prog 23 #[.pointer (some ⟨g, 0, none⟩)] w fun e w' => (∃ m : Nat, e = .returned (.int .i64 (m : Int)) ∧ (m = 0 ↔ ∀ a, a < 256 → X.C a = none)) ∧ w = w' := by
  have c47 := h.row.gc
  have hlen := h.chd.len_
  have H := Lib.hid h
  clear h
  go_enter Tryz.func23, Tryz.ntmps23
  obtain ⟨m, hl, h0, _⟩ := hlen 3
  have H0 := Lib.hid h0
  clear h0
  go_wp2
  go_ret
  exact ⟨⟨m, rfl, H0.out⟩, rfl⟩
theorem vfree (h : VB b w FD FA g q gv L X) : Calls Tryz.prog 25 #[.pointer (some ⟨g, 0, none⟩)] w fun e w' => e = .returned (.int .i64 (S8.nFree X.ss.length X.S : Int)) ∧ w = w' := by
  have c4 := h.row.gs
  have H := Lib.hid h
  clear h
  go_enter Tryz.func25, Tryz.ntmps25
  go_wp2_with (go_at_call 57; refine (S8.free_any H.out.spc).mono ?_; rintro e w4 ⟨rfl, rfl⟩)
  go_ret
  exact ⟨rfl, rfl⟩
theorem vmay (h : VB b w FD FA g q gv L X) (hr : X.c.rd = true) (i : Nat) (hi : i < 4 ^ X.c.n) : Calls Tryz.prog 44 #[.pointer (some ⟨g, 0, none⟩), .int .i64 (i : Int)] w fun e w' => e = .returned (.int .i64 0) ∧ w = w' := by
  have c3 := h.row.n
  have H := Lib.hid h
  have hsl := P7.slots_any (X.c.n : Int)
  rw [P7.sl_of h.dep.1 (by have := h.dep; omega)] at hsl
  unfold P7.pw at hsl
  obtain ⟨P, hP⟩ : ∃ P, 4 ^ X.c.n = P := ⟨_, rfl⟩
  rw [hP] at hi hsl
  have d0 : decide ((i : Int) < 0) = false := decide_eq_false (by omega)
  have d1 : decide ((P : Int) ≤ (i : Int)) = false := decide_eq_false (by omega)
  have d2 : decide (P ≤ i) = false := decide_eq_false (by omega)
  have HS := Lib.hid hsl
  have HR := Lib.hid (vready h)
  rw [hr] at HR
  clear h hi hP hsl
  go_enter Tryz.func44, Tryz.ntmps44
  go_wp2_with (first
    | (go_at_call 19; refine HR.out.mono ?_; rintro e w4 ⟨rfl, rfl⟩)
    | (go_at_call 63; refine (HS.out _).mono ?_; rintro e w4 ⟨rfl, rfl⟩))
  go_ret
  exact ⟨rfl, rfl⟩
theorem pow_le3 {n : Nat} (h : n ≤ 3) : 4 ^ n ≤ 64 := Nat.pow_le_pow_right (by decide) h
def vkn (X : VX) (i : Nat) : Bool := (X.H i).isSome || !(tr X.c.top X.N X.c.n i).ld
theorem vknown (h : VB b w FD FA g q gv L X) (hr : X.c.rd = true) (i : Nat) (hi : i < 4 ^ X.c.n) : Calls Tryz.prog 20 #[.pointer (some ⟨g, 0, none⟩), .int .i64 (i : Int)] w fun e w' => e = .returned (.bool (vkn X i)) ∧ Below w.heap.size w w' := by
  have c46 := h.row.gh
  have hi2 : i ≤ 1024 := by have := pow_le3 h.dep.2; omega
  have hlook := h.held.look_ok hi2
  have H := Lib.hid h
  have HM := Lib.hid (vmay h hr i hi)
  have HI := Lib.hid hi2
  have HP := Lib.hid (p := ∀ w', Below w.heap.size w w' → Calls Tryz.prog 47 #[.pointer (some ⟨g, 0, none⟩), .int .i64 (i : Int)] w' fun e w'' => e = .returned (pv X.c.n i) ∧ Below w'.heap.size w' w'') (fun w' hb => vplace g X.c i w' (h.row.kept hb))
  have HR := Lib.hid (p := ∀ w', Below w.heap.size w w' → Calls Tryz.prog 46 #[.pointer (some ⟨g, 0, none⟩), pv X.c.n i] w' fun e w'' => e = .returned (.agg (tr X.c.top X.N X.c.n i).cs.toArray) ∧ Below w'.heap.size w' w'') (fun w' hb => vrecord g X.c q X.N X.c.n i (by have := h.dep; omega) hi2 w' (h.row.kept hb) (h.nodes.below hb))
  clear hi hi2
  unfold vkn
  cases hh : X.H i with
  | some x =>
    rw [hh] at hlook
    unfold bvo bvv at hlook
    clear h
    go_enter Tryz.func20, Tryz.ntmps20
    go_wp2_with (first
      | (go_at_call 44; refine HM.out.mono ?_; rintro e w4 ⟨rfl, rfl⟩))
    go_ret
    exact ⟨rfl, Below.refl _ _⟩
  | none =>
    rw [hh] at hlook
    unfold bvo at hlook
    clear h
    go_enter Tryz.func20, Tryz.ntmps20
    go_wp2_with (first
      | (go_at_call 44; refine HM.out.mono ?_; rintro e w4 ⟨rfl, rfl⟩)
      | (go_at_call 47; refine (HP.out _ (Below.refl _ _)).mono ?_; rintro e w5 ⟨rfl, hb5⟩)
      | (go_at_call 46; refine (HR.out _ hb5).mono ?_; rintro e w6 ⟨rfl, hb6⟩)
      | (go_at_call 51; refine (vleads _ _).mono ?_; rintro e w7 ⟨rfl, hb7⟩))
    go_ret
    exact ⟨rfl, below_nxt hb7 (below_nxt hb6 hb5)⟩
def bytesOf (o : Option BV) : List UInt8 := match o with | some x => x.l | none => []
theorem vholds (h : VB b w FD FA g q gv L X) (i : Nat) (hi : i < 4 ^ X.c.n) : Calls Tryz.prog 43 #[.pointer (some ⟨g, 0, none⟩), .int .i64 (i : Int)] w fun e w' => ∃ g', e = .returned (.slice (some ⟨g', 0, none⟩) 256 256) ∧ Hid (Row w' g' 5 (brr 256 (wh (bytesOf (X.H i))))) ∧ Hid (w.heap.size ≤ g') ∧ Hid (Below w.heap.size w w') := by
  obtain ⟨ii, U⟩ := u8_tab
  have H := Lib.hid h
  have HI := Lib.hid (p := i ≤ 1024) (by have := pow_le3 h.dep.2; omega)
  obtain ⟨A, c, l, hv, hl, hA⟩ : ∃ A c l, bvo (X.H i) = .slice A l.length c ∧ bytesOf (X.H i) = l ∧ Hol w A l := by
    cases hh : X.H i with
    | none => exact ⟨none, 0, [], rfl, rfl, .inl rfl⟩
    | some x => exact ⟨x.A, x.c, x.l, rfl, rfl, (h.hb i x hh).1.hol⟩
  have HL := Lib.hid hl
  have HA := Lib.hid hA
  have HV := Lib.hid hv
  have c46 := h.row.gh
  clear h hi hA hl hv
  go_enter Tryz.func43, Tryz.ntmps43
  go_wp2_with (first
    | (refine step_make rfl _ _ 35 5 ii U rfl 256 rfl rfl (by omega) ?_; intro g1 w1 hr1 hg1 hb1 hs1
       have c46b := VAt.gh (H.out.row.kept hb1)
       have hlook := (H.out.held.below hb1).look HI.out
       rw [HV.out] at hlook
       have HR1 := Lib.hid hr1
       have HB1 := Lib.hid hb1
       have HG1 := Lib.hid hg1.out.symm
       clear hr1 hb1 hg1 hs1)
    | (refine wp_copy rfl _ _ 35 35 rfl 5 U.ht info8t g1 0 256 256 256 5 (fun _ => 0) rfl HR1.out A _ c l rfl rfl (HA.out.below HB1.out) (by rw [Nat.zero_add]; exact Nat.min_le_right _ _) ?_; intro w2 k hr2 hu2))
  go_ret
  refine ⟨g1, rfl, Lib.hid ?_, Lib.hid (Nat.le_of_eq HG1.out), Lib.hid (HB1.out.grown hu2.out.by_ HB1.out.size (fun k hk => by injection hk with hk; rw [← hk]; exact Nat.le_of_eq HG1.out))⟩
  rw [HL.out]
  have e1 : brr 256 (ov 0 (l.take 256) fun _ => 0) = brr 256 (wh l) := brr_congr fun j hj => by
    unfold wh
    by_cases hx : j < l.length
    · rw [ov_in (by omega) (by rw [List.length_take]; omega)]
      simp [List.getElem?_take, hj]
    · rw [ov_out (by rw [List.length_take]; omega), List.getD_eq_getElem?_getD, List.getElem?_eq_none (by omega)]
      rfl
  rw [← e1]
  exact hr2
end
end Go.Proofs.YtpocccnhibjjcaaGreatDoor
