/- The program's disk in memory: its parts, and what becomes of them when one is written. Conditions: the disk lies there. -/
import Derived.Test.YtnajlineipapdaaMgDsync
set_option linter.unusedVariables false
namespace Go.Proofs.Ytnajlineipapdaa
open Go.RowKit

theorem rec_write : Rec Try.prog 71 79 2 := rec_of (z := .agg #[.int .i64 0, .slice none 0 0]) (n := 32) Try.underlying71 (by kernel_rfl) (by decide) rfl (by decide)
/-- The blocks that a disk's calls may write. -/
def pfoot (g gm : Nat) (v1 v2 v4 : Value) (ev : Nat → Value) : List Nat := g :: gm :: ([v1, v2, v4] ++ (List.range 1024).map ev).filterMap Value.ownBlock
def InFoot (g gm : Nat) (v1 v2 v4 : Value) (ev : Nat → Value) (k : Nat) : Prop := k = g ∨ k = gm ∨ v1.ownBlock = some k ∨ v2.ownBlock = some k ∨ v4.ownBlock = some k ∨ ∃ a, a < 1024 ∧ (ev a).ownBlock = some k
theorem mem_pfoot {g gm : Nat} {v1 v2 v4 : Value} {ev : Nat → Value} {k : Nat} : k ∈ pfoot g gm v1 v2 v4 ev ↔ InFoot g gm v1 v2 v4 ev k := by
  unfold pfoot InFoot
  simp only [List.mem_cons, List.mem_filterMap, List.mem_append, List.mem_map, List.mem_range, List.not_mem_nil, or_false]
  constructor
  · rintro (h | h | ⟨v, (h | ⟨a, ha, rfl⟩), hv⟩)
    · exact .inl h
    · exact .inr (.inl h)
    · rcases h with rfl | rfl | rfl
      · exact .inr (.inr (.inl hv))
      · exact .inr (.inr (.inr (.inl hv)))
      · exact .inr (.inr (.inr (.inr (.inl hv))))
    · exact .inr (.inr (.inr (.inr (.inr ⟨a, ha, hv⟩))))
  · rintro (h | h | h | h | h | ⟨a, ha, h⟩)
    · exact .inl h
    · exact .inr (.inl h)
    · exact .inr (.inr ⟨v1, .inl (.inl rfl), h⟩)
    · exact .inr (.inr ⟨v2, .inl (.inr (.inl rfl)), h⟩)
    · exact .inr (.inr ⟨v4, .inl (.inr (.inr rfl)), h⟩)
    · exact .inr (.inr ⟨ev a, .inr ⟨a, ha, rfl⟩, h⟩)
/-- A disk as it lies: block g; the blocks F that its calls may write; its rows, its map. -/
structure PDisk (b : Nat) (w : World) (g : Nat) (F : List Nat) (v1 v2 : Value) (gm : Nat) (v4 : Value) (ev : Nat → Value) (n : Nat) (ss : List BV) (rs : List (Nat × BV)) (E : Nat → List BV) (ts : List (Int × Int × BV)) : Prop where
  cells : Row w g 73 [v1, v2, .map (some gm), v4]
  o1 : w.ownsRow b 32 1 v1 ss.length (ss.flatMap sc)
  o2 : w.ownsRow b 79 2 v2 rs.length (rs.flatMap wcs)
  o4 : w.ownsRow b 77 3 v4 ts.length (ts.flatMap tc)
  om : ElAt w gm n ev
  oe : ∀ a, a < 1024 → w.ownsRow b 32 1 (ev a) (E a).length ((E a).flatMap sc)
  sep1 : ∀ a, a < 1024 → (ev a).ownBlock = none ∨ (ev a).ownBlock ≠ v1.ownBlock
  sepe : ∀ a a', a < 1024 → a' < 1024 → a ≠ a' → (ev a).ownBlock = none ∨ (ev a).ownBlock ≠ (ev a').ownBlock
  m1 : ∀ x ∈ ss, Own8 b w x ∧ x.l.length = 256
  m2 : ∀ p ∈ rs, Own8 b w p.2 ∧ p.2.l.length = 256 ∧ p.1 < ss.length
  m4 : ∀ t ∈ ts, Own8 b w t.2.2
  me : ∀ a, a < 1024 → ∀ x ∈ E a, Own8 b w x ∧ x.l.length = 256
  le : ∀ a, a < 1024 → (E a).length ≤ n
  most : ss.length ≤ 1024
  fx : ∀ k, k ∈ F ↔ InFoot g gm v1 v2 v4 ev k
  fl : ∀ k ∈ F, b ≤ k ∧ k < w.heap.size
/-- .. whatever its parts' values are. -/
def PD (b : Nat) (w : World) (g : Nat) (F : List Nat) (ss : List BV) (rs : List (Nat × BV)) (E : Nat → List BV) (ts : List (Int × Int × BV)) : Prop :=
  ∃ v1 v2 gm v4 ev n, n ≤ ts.length ∧ PDisk b w g F v1 v2 gm v4 ev n ss rs E ts
/-- The blocks that may be written, behind a call: those, or new ones. -/
def Wider (w : World) (F F' : List Nat) : Prop := ∀ k ∈ F', k ∈ F ∨ w.heap.size ≤ k
theorem Wider.refl (w : World) (F : List Nat) : Wider w F F := fun k hk => .inl hk
theorem Wider.trans {w w' : World} {F F' F'' : List Nat} (h : Wider w F F') (k : Wider w' F' F'') (hs : w.heap.size ≤ w'.heap.size) : Wider w F F'' := fun x hx => by
  rcases k x hx with h1 | h1
  · exact h x h1
  · exact .inr (Nat.le_trans hs h1)
/-- The row that is turned holds no records of that type. -/
def NotT (w : World) (row : Option Nat) (e : TypeId) : Prop := ∀ k, row = some k → ∀ cs fr, w.heap[k]? ≠ some (.cells cs e fr)
theorem NotT.none_ (w : World) (e : TypeId) : NotT w none e := fun k h => by cases h
theorem NotT.row {w : World} {g : Nat} {t e : TypeId} {cs : List Value} (h : Row w g t cs) (hne : t ≠ e) : NotT w (some g) e := fun k hk cs' fr h' => by
  injection hk with hk
  subst hk
  rw [h.heap] at h'
  injection h' with h'
  injection h' with _ h' _
  exact hne h'
theorem NotT.own {w : World} {b n size : Nat} {t e : TypeId} {v : Value} {xs : List Value} (h : w.ownsRow b t size v n xs) (hne : t ≠ e) : NotT w v.ownBlock e := fun k hk cs' fr h' => by
  rcases h.2 with ⟨rfl, _⟩ | ⟨g', cap', cur', rfl, _, hg', _⟩
  · cases hk
  · injection hk with hk
    subst hk
    rw [show ({ block := g', off := 0, spot := none } : Addr).block = g' from rfl, hg'] at h'
    injection h' with h'
    injection h' with _ h' _
    exact hne h'
theorem NotT.map {w : World} {gm n : Nat} {ev : Nat → Value} (h : ElAt w gm n ev) (e : TypeId) : NotT w (some gm) e := fun k hk cs' fr h' => by
  injection hk with hk
  subst hk
  exact h.no_cells _ _ _ h'
theorem own_turn {w w' : World} {row : Option Nat} {b n size : Nat} {e : TypeId} {v : Value} {xs : List Value} (h : w.ownsRow b e size v n xs) (hg : w.grownBy w' row) (hn : NotT w row e) : w'.ownsRow b e size v n xs := by
  refine h.kept hg ?_
  rcases h.2 with ⟨rfl, _⟩ | ⟨g', cap', cur', rfl, _, hg', _⟩
  · exact .inl rfl
  · exact .inr fun e0 => hn g' e0.symm _ _ hg'
theorem Own8.turn {w w' : World} {row : Option Nat} {b : Nat} {x : BV} (h : Own8 b w x) (hg : w.grownBy w' row) (hn : NotT w row 5) : Own8 b w' x := own_turn h hg hn
theorem map_turn {w w' : World} {row : Option Nat} {gm n : Nat} {ev : Nat → Value} (h : ElAt w gm n ev) (hg : w.grownBy w' row) (hc : ∀ k, row = some k → ∃ cs t fr, w.heap[k]? = some (.cells cs t fr)) : ElAt w' gm n ev := by
  refine h.grown hg fun e => ?_
  obtain ⟨cs, t, fr, hk⟩ := hc gm e.symm
  exact h.no_cells _ _ _ hk
theorem own_is {w : World} {b n size : Nat} {t : TypeId} {v : Value} {xs : List Value} (h : w.ownsRow b t size v n xs) : ∀ k, v.ownBlock = some k → ∃ cs t fr, w.heap[k]? = some (.cells cs t fr) := fun k hk => by
  rcases h.2 with ⟨rfl, _⟩ | ⟨g', cap', cur', rfl, _, hg', _⟩
  · cases hk
  · injection hk with hk
    subst hk
    exact ⟨_, _, _, hg'⟩
theorem row_is {w : World} {g : Nat} {t : TypeId} {cs : List Value} (h : Row w g t cs) : ∀ k, some g = some k → ∃ cs t fr, w.heap[k]? = some (.cells cs t fr) := fun k hk => by
  injection hk with hk
  subst hk
  exact ⟨_, _, _, h.heap⟩
theorem row_turn {w w' : World} {row : Option Nat} {g : Nat} {t : TypeId} {cs : List Value} (h : Row w g t cs) (hg : w.grownBy w' row) (hn : NotT w row t) : Row w' g t cs := h.grown hg fun e => hn g e.symm _ _ h.heap

section
variable {b : Nat} {w w' : World} {g gm : Nat} {F : List Nat} {v1 v2 v4 : Value} {ev : Nat → Value} {n : Nat} {ss : List BV} {rs : List (Nat × BV)} {E : Nat → List BV} {ts : List (Int × Int × BV)}
theorem PDisk.fg (h : PDisk b w g F v1 v2 gm v4 ev n ss rs E ts) : g ∈ F := (h.fx _).2 (.inl rfl)
theorem PDisk.fm (h : PDisk b w g F v1 v2 gm v4 ev n ss rs E ts) : gm ∈ F := (h.fx _).2 (.inr (.inl rfl))
theorem PDisk.f1 (h : PDisk b w g F v1 v2 gm v4 ev n ss rs E ts) : ∀ k, v1.ownBlock = some k → k ∈ F := fun k hk => (h.fx _).2 (.inr (.inr (.inl hk)))
theorem PDisk.f2 (h : PDisk b w g F v1 v2 gm v4 ev n ss rs E ts) : ∀ k, v2.ownBlock = some k → k ∈ F := fun k hk => (h.fx _).2 (.inr (.inr (.inr (.inl hk))))
theorem PDisk.f4 (h : PDisk b w g F v1 v2 gm v4 ev n ss rs E ts) : ∀ k, v4.ownBlock = some k → k ∈ F := fun k hk => (h.fx _).2 (.inr (.inr (.inr (.inr (.inl hk)))))
theorem PDisk.fe (h : PDisk b w g F v1 v2 gm v4 ev n ss rs E ts) : ∀ a, a < 1024 → ∀ k, (ev a).ownBlock = some k → k ∈ F := fun a ha k hk => (h.fx _).2 (.inr (.inr (.inr (.inr (.inr ⟨a, ha, hk⟩)))))
theorem NotT.no {w : World} {k : Nat} {e : TypeId} (h : NotT w (some k) e) : ∀ cs fr, w.heap[k]? ≠ some (.cells cs e fr) := h k rfl
/-- They hold no bytes. -/
theorem PDisk.noBytes (h : PDisk b w g F v1 v2 gm v4 ev n ss rs E ts) : NoBytes w F := fun k hk => by
  rcases (h.fx k).1 hk with rfl | rfl | e | e | e | ⟨a, ha, e⟩
  · exact (NotT.row h.cells (by decide)).no
  · exact (NotT.map h.om _).no
  · have := NotT.own (e := 5) h.o1 (by decide)
    rw [e] at this
    exact this.no
  · have := NotT.own (e := 5) h.o2 (by decide)
    rw [e] at this
    exact this.no
  · have := NotT.own (e := 5) h.o4 (by decide)
    rw [e] at this
    exact this.no
  · have := NotT.own (e := 5) (h.oe a ha) (by decide)
    rw [e] at this
    exact this.no
theorem PDisk.c0 (h : PDisk b w g F v1 v2 gm v4 ev n ss rs E ts) : w.cell? ⟨g, 0, none⟩ = some v1 := by rw [h.cells.cell]; rfl
theorem PDisk.c1 (h : PDisk b w g F v1 v2 gm v4 ev n ss rs E ts) : w.cell? ⟨g, 1, none⟩ = some v2 := by rw [h.cells.cell]; rfl
theorem PDisk.c2 (h : PDisk b w g F v1 v2 gm v4 ev n ss rs E ts) : w.cell? ⟨g, 2, none⟩ = some (.map (some gm)) := by rw [h.cells.cell]; rfl
theorem PDisk.c3 (h : PDisk b w g F v1 v2 gm v4 ev n ss rs E ts) : w.cell? ⟨g, 3, none⟩ = some v4 := by rw [h.cells.cell]; rfl
/-- What turns a row that none of its lists of records lies in. -/
theorem PDisk.turn {row : Option Nat} (h : PDisk b w g F v1 v2 gm v4 ev n ss rs E ts) (hg : w.grownBy w' row) (hD : NotT w row 73) (h8 : NotT w row 5) (hS : NotT w row 32) (hW : NotT w row 79) (hT : NotT w row 77)
    (hm : some gm ≠ row) : PDisk b w' g F v1 v2 gm v4 ev n ss rs E ts where
  cells := row_turn h.cells hg hD
  o1 := own_turn h.o1 hg hS
  o2 := own_turn h.o2 hg hW
  o4 := own_turn h.o4 hg hT
  om := h.om.grown hg hm
  oe := fun a ha => own_turn (h.oe a ha) hg hS
  sep1 := h.sep1
  sepe := h.sepe
  m1 := fun x hx => ⟨(h.m1 x hx).1.turn hg h8, (h.m1 x hx).2⟩
  m2 := fun p hp => ⟨(h.m2 p hp).1.turn hg h8, (h.m2 p hp).2⟩
  m4 := fun t ht => (h.m4 t ht).turn hg h8
  me := fun a ha x hx => ⟨(h.me a ha x hx).1.turn hg h8, (h.me a ha x hx).2⟩
  le := h.le
  most := h.most
  fx := h.fx
  fl := fun k hk => ⟨(h.fl k hk).1, Nat.lt_of_lt_of_le (h.fl k hk).2 hg.size⟩
theorem PDisk.kept (h : PDisk b w g F v1 v2 gm v4 ev n ss rs E ts) (hb : Below w.heap.size w w') : PDisk b w' g F v1 v2 gm v4 ev n ss rs E ts :=
  h.turn (row := none) (grown_of_below hb) (.none_ _ _) (.none_ _ _) (.none_ _ _) (.none_ _ _) (.none_ _ _) (by simp)
/-- What lies in other blocks may be turned. -/
theorem PDisk.chg {G : List Nat} (h : PDisk b w g F v1 v2 gm v4 ev n ss rs E ts) (hc : Chg G w w') (hG : ∀ k ∈ G, k ∉ F) (h8 : NoBytes w G) : PDisk b w' g F v1 v2 gm v4 ev n ss rs E ts where
  cells := hc.row h.cells (fun hx => hG _ hx h.fg)
  o1 := hc.own h.o1 (fun k hk hx => hG _ hx (h.f1 k hk))
  o2 := hc.own h.o2 (fun k hk hx => hG _ hx (h.f2 k hk))
  o4 := hc.own h.o4 (fun k hk hx => hG _ hx (h.f4 k hk))
  om := by
    obtain ⟨D, ⟨es, clock, hb, r⟩, k⟩ := h.om
    exact ⟨D, ⟨es, clock, (hc.block gm (Array.getElem?_eq_some_iff.1 hb).1 (fun hx => hG _ hx h.fm)).trans hb, r⟩, k⟩
  oe := fun a ha => hc.own (h.oe a ha) (fun k hk hx => hG _ hx (h.fe a ha k hk))
  sep1 := h.sep1
  sepe := h.sepe
  m1 := fun x hx => ⟨(h.m1 x hx).1.chg hc h8, (h.m1 x hx).2⟩
  m2 := fun p hp => ⟨(h.m2 p hp).1.chg hc h8, (h.m2 p hp).2⟩
  m4 := fun t ht => (h.m4 t ht).chg hc h8
  me := fun a ha x hx => ⟨(h.me a ha x hx).1.chg hc h8, (h.me a ha x hx).2⟩
  le := h.le
  most := h.most
  fx := h.fx
  fl := fun k hk => ⟨(h.fl k hk).1, Nat.lt_of_lt_of_le (h.fl k hk).2 hc.size⟩
end
end Go.Proofs.Ytnajlineipapdaa
