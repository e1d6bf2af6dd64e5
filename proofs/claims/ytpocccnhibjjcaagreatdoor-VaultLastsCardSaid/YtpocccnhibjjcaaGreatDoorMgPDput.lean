/- The program's disk, with one of its parts written. Conditions: the disk lies there. -/
import Derived.Test.YtpocccnhibjjcaaGreatDoorMgUnsh
import Derived.RangeFuncNested
import Derived.RangeFuncBound
import Derived.RangeFuncCalls
import Derived.RangeFuncLeaves
import Derived.Shelf.Abstract
import Derived.Shelf.RegionOpen
import Derived.WalkKit
import Derived.OwnWalkIn
import Derived.TacticsInMore
import Derived.LoopNIn
import Derived.LoopIn
set_option linter.unusedVariables false
namespace Go.Proofs.YtpocccnhibjjcaaGreatDoor
open Go.RowKit

theorem set_size (w : World) (p : Addr) (u : Value) : (w.setCell p u).heap.size = w.heap.size := by simp
section
variable {b : Nat} {w w2 : World} {g gm : Nat} {F : List Nat} {v1 v2 v4 v : Value} {ev : Nat → Value} {n : Nat} {ss : List BV} {rs : List (Nat × BV)} {E : Nat → List BV} {ts : List (Int × Int × BV)}
theorem PDisk.wider_put (h : PDisk b w g F v1 v2 gm v4 ev n ss rs E ts) {u : Value} (hg : w.grownBy w2 u.ownBlock) (hu : ∀ k, u.ownBlock = some k → k ∈ F) (i : Nat) : Chg F w (w2.setCell ⟨g, i, none⟩ v) :=
  ((Chg.refl F w).grown hg (fun k hk => .inl (hu k hk))).setCell (p := ⟨g, i, none⟩) (.inl h.fg) v
theorem PDisk.touch (h : PDisk b w g F v1 v2 gm v4 ev n ss rs E ts) (t : Int × Int × BV) (ht : Own8 b w t.2.2) (hr : w2.ownsRow b 157 3 v (ts.length + 1) (ts.flatMap tc ++ tc t)) (hg : w.grownBy w2 v4.ownBlock) (hat : v.ownBlock = v4.ownBlock ∨ v.ownBlock = some w.heap.size) :
    PDisk b (w2.setCell ⟨g, 3, none⟩ v) g (pfoot g gm v1 v2 v ev) v1 v2 gm v ev n ss rs E (ts ++ [t]) ∧ Chg F w (w2.setCell ⟨g, 3, none⟩ v) ∧ Wider w F (pfoot g gm v1 v2 v ev) := by
  have hc2 : Row w2 g 77 [v1, v2, .map (some gm), v4] := row_turn h.cells hg (NotT.own h.o4 (by decide))
  have hs := grown_set w2 ⟨g, 3, none⟩ v
  have k8 : ∀ {x : BV}, Own8 b w x → Own8 b (w2.setCell ⟨g, 3, none⟩ v) x := fun hx => (hx.turn hg (NotT.own h.o4 (by decide))).turn hs (NotT.row hc2 (by decide))
  refine ⟨{ cells := hc2.put 3 v
            o1 := own_turn (own_turn h.o1 hg (NotT.own h.o4 (by decide))) hs (NotT.row hc2 (by decide))
            o2 := own_turn (own_turn h.o2 hg (NotT.own h.o4 (by decide))) hs (NotT.row hc2 (by decide))
            o4 := by rw [flat_snoc, List.length_append]; exact own_turn hr hs (NotT.row hc2 (by decide))
            om := map_turn (map_turn h.om hg (own_is h.o4)) hs (row_is hc2)
            oe := fun a ha => own_turn (own_turn (h.oe a ha) hg (NotT.own h.o4 (by decide))) hs (NotT.row hc2 (by decide))
            sep1 := h.sep1, sepe := h.sepe
            m1 := fun x hx => ⟨k8 (h.m1 x hx).1, (h.m1 x hx).2⟩
            m2 := fun p hp => ⟨k8 (h.m2 p hp).1, (h.m2 p hp).2⟩
            m4 := fun x hx => by
              rcases List.mem_append.1 hx with hx | hx
              · exact k8 (h.m4 x hx)
              · simp at hx
                subst hx
                exact k8 ht
            me := fun a ha x hx => ⟨k8 (h.me a ha x hx).1, (h.me a ha x hx).2⟩
            le := h.le
            most := h.most
            fx := fun k => mem_pfoot
            fl := fun k hk => by
              rw [set_size]
              have old : k ∈ F → b ≤ k ∧ k < w2.heap.size := fun hF => ⟨(h.fl k hF).1, Nat.lt_of_lt_of_le (h.fl k hF).2 hg.size⟩
              rcases mem_pfoot.1 hk with rfl | rfl | e | e | e | ⟨a, ha, e⟩
              · exact old h.fg
              · exact old h.fm
              · exact old (h.f1 _ e)
              · exact old (h.f2 _ e)
              · exact hr.lt k e
              · exact old (h.fe a ha _ e) }, h.wider_put hg h.f4 3, fun k hk => ?_⟩
  rcases mem_pfoot.1 hk with rfl | rfl | e | e | e | ⟨a, ha, e⟩
  · exact .inl h.fg
  · exact .inl h.fm
  · exact .inl (h.f1 _ e)
  · exact .inl (h.f2 _ e)
  · rcases hat with e' | e'
    · exact .inl (h.f4 _ (e' ▸ e))
    · rw [e'] at e
      injection e with e
      exact .inr (by omega)
  · exact .inl (h.fe a ha _ e)
theorem PDisk.waits {rs' : List (Nat × BV)} (h : PDisk b w g F v1 v2 gm v4 ev n ss rs E ts) (hr : w2.ownsRow b 165 2 v rs'.length (rs'.flatMap wcs)) (hg : w.grownBy w2 v2.ownBlock) (hat : v.ownBlock = v2.ownBlock ∨ v.ownBlock = some w.heap.size ∨ v.ownBlock = none)
    (hm : ∀ p ∈ rs', Own8 b w p.2 ∧ p.2.l.length = 256 ∧ p.1 < ss.length) :
    PDisk b (w2.setCell ⟨g, 1, none⟩ v) g (pfoot g gm v1 v v4 ev) v1 v gm v4 ev n ss rs' E ts ∧ Chg F w (w2.setCell ⟨g, 1, none⟩ v) ∧ Wider w F (pfoot g gm v1 v v4 ev) := by
  have hc2 : Row w2 g 77 [v1, v2, .map (some gm), v4] := row_turn h.cells hg (NotT.own h.o2 (by decide))
  have hs := grown_set w2 ⟨g, 1, none⟩ v
  have k8 : ∀ {x : BV}, Own8 b w x → Own8 b (w2.setCell ⟨g, 1, none⟩ v) x := fun hx => (hx.turn hg (NotT.own h.o2 (by decide))).turn hs (NotT.row hc2 (by decide))
  refine ⟨{ cells := hc2.put 1 v
            o1 := own_turn (own_turn h.o1 hg (NotT.own h.o2 (by decide))) hs (NotT.row hc2 (by decide))
            o2 := own_turn hr hs (NotT.row hc2 (by decide))
            o4 := own_turn (own_turn h.o4 hg (NotT.own h.o2 (by decide))) hs (NotT.row hc2 (by decide))
            om := map_turn (map_turn h.om hg (own_is h.o2)) hs (row_is hc2)
            oe := fun a ha => own_turn (own_turn (h.oe a ha) hg (NotT.own h.o2 (by decide))) hs (NotT.row hc2 (by decide))
            sep1 := h.sep1, sepe := h.sepe
            m1 := fun x hx => ⟨k8 (h.m1 x hx).1, (h.m1 x hx).2⟩
            m2 := fun p hp => ⟨k8 (hm p hp).1, (hm p hp).2⟩
            m4 := fun x hx => k8 (h.m4 x hx)
            me := fun a ha x hx => ⟨k8 (h.me a ha x hx).1, (h.me a ha x hx).2⟩
            le := h.le, most := h.most
            fx := fun k => mem_pfoot
            fl := fun k hk => by
              rw [set_size]
              have old : k ∈ F → b ≤ k ∧ k < w2.heap.size := fun hF => ⟨(h.fl k hF).1, Nat.lt_of_lt_of_le (h.fl k hF).2 hg.size⟩
              rcases mem_pfoot.1 hk with rfl | rfl | e | e | e | ⟨a, ha, e⟩
              · exact old h.fg
              · exact old h.fm
              · exact old (h.f1 _ e)
              · exact hr.lt k e
              · exact old (h.f4 _ e)
              · exact old (h.fe a ha _ e) }, h.wider_put hg h.f2 1, fun k hk => ?_⟩
  rcases mem_pfoot.1 hk with rfl | rfl | e | e | e | ⟨a, ha, e⟩
  · exact .inl h.fg
  · exact .inl h.fm
  · exact .inl (h.f1 _ e)
  · rcases hat with e' | e' | e'
    · exact .inl (h.f2 _ (e' ▸ e))
    · rw [e'] at e
      injection e with e
      exact .inr (by omega)
    · rw [e'] at e
      cases e
  · exact .inl (h.f4 _ e)
  · exact .inl (h.fe a ha _ e)
theorem PDisk.sync {g1 k1 : Nat} (h : PDisk b w g F (.slice (some ⟨g1, 0, none⟩) ss.length k1) v2 gm v4 ev n ss rs E ts) (a : Nat) (x : BV) (ha : a < ss.length) (hx : Own8 b w x ∧ x.l.length = 256) :
    PDisk b (w.setCell ⟨g1, a, none⟩ (bvv x)) g F (.slice (some ⟨g1, 0, none⟩) ss.length k1) v2 gm v4 ev n (ss.set a x) rs E ts ∧ Chg F w (w.setCell ⟨g1, a, none⟩ (bvv x)) := by
  have hs := grown_set w ⟨g1, a, none⟩ (bvv x)
  have hN : ∀ {e : TypeId}, 35 ≠ e → NotT w (some g1) e := fun hne => NotT.own h.o1 hne
  have k8 : ∀ {y : BV}, Own8 b w y → Own8 b (w.setCell ⟨g1, a, none⟩ (bvv x)) y := fun hy => hy.turn hs (hN (by decide))
  refine ⟨{ cells := row_turn h.cells hs (hN (by decide))
            o1 := by
              have h1 := (h.o1.stored a (bvv x)).1
              rw [flat_sc] at h1 ⊢
              rw [List.length_set, List.map_set]
              exact h1
            o2 := own_turn h.o2 hs (hN (by decide))
            o4 := own_turn h.o4 hs (hN (by decide))
            om := map_turn h.om hs (own_is h.o1)
            oe := fun a' ha' => (h.oe a' ha').kept hs (h.sep1 a' ha')
            sep1 := h.sep1, sepe := h.sepe
            m1 := fun y hy => by
              rcases List.mem_or_eq_of_mem_set hy with hy | rfl
              · exact ⟨k8 (h.m1 y hy).1, (h.m1 y hy).2⟩
              · exact ⟨k8 hx.1, hx.2⟩
            m2 := fun p hp => ⟨k8 (h.m2 p hp).1, (h.m2 p hp).2.1, by rw [List.length_set]; exact (h.m2 p hp).2.2⟩
            m4 := fun t ht => k8 (h.m4 t ht)
            me := fun a ha x hx => ⟨k8 (h.me a ha x hx).1, (h.me a ha x hx).2⟩
            le := h.le, most := by rw [List.length_set]; exact h.most
            fx := h.fx
            fl := fun k hk => by rw [set_size]; exact h.fl k hk }, (Chg.refl F w).setCell (p := ⟨g1, a, none⟩) (.inl (h.f1 g1 rfl)) _⟩
def more (E : Nat → List BV) (a : Nat) (x : BV) : Nat → List BV := fun a' => if a' = a then E a ++ [x] else E a'
theorem more_same (E : Nat → List BV) (a : Nat) (x : BV) : more E a x a = E a ++ [x] := if_pos rfl
theorem more_other (E : Nat → List BV) {a a' : Nat} (x : BV) (h : a' ≠ a) : more E a x a' = E a' := if_neg h
theorem PDisk.elder {w3 : World} (h : PDisk b w g F v1 v2 gm v4 ev n ss rs E ts) (a : Nat) (ha : a < ss.length) (x : BV) (hx : Own8 b w x ∧ x.l.length = 256) (hr : w2.ownsRow b 35 1 v ((E a).length + 1) ((E a).flatMap sc ++ sc x)) (hg : w.grownBy w2 (ev a).ownBlock)
    (hat : v.ownBlock = (ev a).ownBlock ∨ v.ownBlock = some w.heap.size) (hm : ElAt w3 gm (n + 1) (evs ev a v)) (hg3 : w2.grownBy w3 (some gm)) :
    PDisk b w3 g (pfoot g gm v1 v2 v4 (evs ev a v)) v1 v2 gm v4 (evs ev a v) (n + 1) ss rs (more E a x) ts ∧ Chg F w w3 ∧ Wider w F (pfoot g gm v1 v2 v4 (evs ev a v)) := by
  have ha' : a < 1024 := Nat.lt_of_lt_of_le ha h.most
  have hN : ∀ {e : TypeId}, 35 ≠ e → NotT w (ev a).ownBlock e := fun hne => NotT.own (h.oe a ha') hne
  have hm2 : ElAt w2 gm n ev := map_turn h.om hg (own_is (h.oe a ha'))
  have hM : ∀ {e : TypeId}, NotT w2 (some gm) e := fun {e} => NotT.map hm2 e
  have k8 : ∀ {y : BV}, Own8 b w y → Own8 b w3 y := fun hy => (hy.turn hg (hN (by decide))).turn hg3 hM
  have hnew : ∀ k, v.ownBlock = some k → (ev a).ownBlock = some k ∨ w.heap.size ≤ k := fun k hk => by
    rcases hat with e | e
    · exact .inl (e ▸ hk)
    · rw [e] at hk
      injection hk with hk
      exact .inr (by omega)
  have old1 : ∀ {y : Value} {m : Nat} {e : TypeId} {sz : Nat} {xs : List Value}, w.ownsRow b e sz y m xs → ((ev a).ownBlock = none ∨ (ev a).ownBlock ≠ y.ownBlock) → (v.ownBlock = none ∨ v.ownBlock ≠ y.ownBlock) := fun {y m e sz xs} hy hne => by
    cases hv : v.ownBlock with
    | none => exact .inl rfl
    | some k =>
      refine .inr fun e0 => ?_
      rcases hnew k hv with h1 | h1
      · rcases hne with h2 | h2
        · rw [h2] at h1
          cases h1
        · exact h2 (h1.trans e0)
      · have := (hy.lt k e0.symm).2
        omega
  refine ⟨{ cells := row_turn (row_turn h.cells hg (hN (by decide))) hg3 hM
            o1 := own_turn (h.o1.kept hg (by
              rcases h.sep1 a ha' with e | e
              · cases hv : v1.ownBlock with
                | none => exact .inl rfl
                | some k => exact .inr (by rw [e]; simp)
              · exact .inr (fun e0 => e e0.symm))) hg3 hM
            o2 := own_turn (own_turn h.o2 hg (hN (by decide))) hg3 hM
            o4 := own_turn (own_turn h.o4 hg (hN (by decide))) hg3 hM
            om := hm
            oe := fun a' ha'' => by
              by_cases e : a' = a
              · subst e
                rw [evs_same, more_same, flat_snoc, List.length_append]
                exact own_turn hr hg3 hM
              · rw [evs_other _ _ e, more_other _ _ e]
                refine own_turn ((h.oe a' ha'').kept hg ?_) hg3 hM
                exact h.sepe a' a ha'' ha' e
            sep1 := fun a' ha'' => by
              by_cases e : a' = a
              · subst e
                rw [evs_same]
                exact old1 h.o1 (h.sep1 a' ha')
              · rw [evs_other _ _ e]
                exact h.sep1 a' ha''
            sepe := fun a1 a2 h1 h2 hne => by
              by_cases e1 : a1 = a
              · subst e1
                rw [evs_same, evs_other _ _ (fun e => hne e.symm)]
                exact old1 (h.oe a2 h2) (h.sepe a1 a2 h1 h2 hne)
              · rw [evs_other _ _ e1]
                by_cases e2 : a2 = a
                · subst e2
                  rw [evs_same]
                  rcases old1 (h.oe a1 h1) (h.sepe a2 a1 h2 h1 (fun e => hne e.symm)) with h3 | h3
                  · cases hv : (ev a1).ownBlock with
                    | none => exact .inl rfl
                    | some k => exact .inr (by rw [h3]; simp)
                  · exact .inr (fun e => h3 e.symm)
                · rw [evs_other _ _ e2]
                  exact h.sepe a1 a2 h1 h2 hne
            m1 := fun y hy => ⟨k8 (h.m1 y hy).1, (h.m1 y hy).2⟩
            m2 := fun p hp => ⟨k8 (h.m2 p hp).1, (h.m2 p hp).2⟩
            m4 := fun t ht => k8 (h.m4 t ht)
            me := fun a' ha'' y hy => by
              by_cases e : a' = a
              · subst e
                rw [more_same] at hy
                rcases List.mem_append.1 hy with hy | hy
                · exact ⟨k8 (h.me a' ha' y hy).1, (h.me a' ha' y hy).2⟩
                · simp at hy
                  subst hy
                  exact ⟨k8 hx.1, hx.2⟩
              · rw [more_other _ _ e] at hy
                exact ⟨k8 (h.me a' ha'' y hy).1, (h.me a' ha'' y hy).2⟩
            le := fun a' ha'' => by
              by_cases e : a' = a
              · subst e
                rw [more_same, List.length_append]
                have := h.le a' ha'
                simp
                omega
              · rw [more_other _ _ e]
                have := h.le a' ha''
                omega
            most := h.most
            fx := fun k => mem_pfoot
            fl := fun k hk => by
              have old : k ∈ F → b ≤ k ∧ k < w3.heap.size := fun hF => ⟨(h.fl k hF).1, Nat.lt_of_lt_of_le (Nat.lt_of_lt_of_le (h.fl k hF).2 hg.size) hg3.size⟩
              rcases mem_pfoot.1 hk with rfl | rfl | e | e | e | ⟨a', ha'', e⟩
              · exact old h.fg
              · exact old h.fm
              · exact old (h.f1 _ e)
              · exact old (h.f2 _ e)
              · exact old (h.f4 _ e)
              · by_cases e1 : a' = a
                · subst e1
                  rw [evs_same] at e
                  exact ⟨(hr.lt k e).1, Nat.lt_of_lt_of_le (hr.lt k e).2 hg3.size⟩
                · rw [evs_other _ _ e1] at e
                  exact old (h.fe a' ha'' _ e) },
    ((Chg.refl F w).grown hg (fun k hk => .inl (h.fe a ha' k hk))).grown hg3 (fun k hk => by injection hk with hk; rw [← hk]; exact .inl h.fm), fun k hk => ?_⟩
  rcases mem_pfoot.1 hk with rfl | rfl | e | e | e | ⟨a', ha'', e⟩
  · exact .inl h.fg
  · exact .inl h.fm
  · exact .inl (h.f1 _ e)
  · exact .inl (h.f2 _ e)
  · exact .inl (h.f4 _ e)
  · by_cases e1 : a' = a
    · subst e1
      rw [evs_same] at e
      rcases hnew k e with h1 | h1
      · exact .inl (h.fe a' ha' k h1)
      · exact .inr h1
    · rw [evs_other _ _ e1] at e
      exact .inl (h.fe a' ha'' _ e)
end
end Go.Proofs.YtpocccnhibjjcaaGreatDoor
/- The last waiting write of a block, as the program looks for it (a range over a function). Conditions: the disk's waiting writes lie there. -/
set_option linter.unusedVariables false
namespace Go.Proofs.YtpocccnhibjjcaaGreatDoor
open Go.RowKit Go.Shelf

attribute [local go_sem] Oper.semAt_some

abbrev WV := Nat × BV
def came (rs : List WV) (k : Nat) : List (Nat × WV) := (List.range k).map fun j => (rs.length - 1 - j, rs.getD (rs.length - 1 - j) (0, noBV))
theorem came_succ (rs : List WV) (k : Nat) : came rs (k + 1) = came rs k ++ [(rs.length - 1 - k, rs.getD (rs.length - 1 - k) (0, noBV))] := by simp [came, List.range_succ]
theorem came_len (rs : List WV) (k : Nat) : (came rs k).length = k := by simp [came]
def encW (x : Nat × WV) : Array Value := #[.int .i64 (x.1 : Int), .agg #[.int .i64 (x.2.1 : Int), .slice x.2.2.A x.2.2.l.length x.2.2.c]]
def Writes (n0 : Nat) (W : World) (A : Option Addr) (rs : List WV) : Prop :=
  rs = [] ∨ ∃ g, A = some ⟨g, 0, none⟩ ∧ g < n0 ∧ ∀ j p, rs[j]? = some p → W.cell? ⟨g, j * 2, none⟩ = some (.int .i64 (p.1 : Int)) ∧ W.cell? ⟨g, j * 2 + 1, none⟩ = some (.slice p.2.A p.2.l.length p.2.c)
theorem Writes.below {n0 : Nat} {W W' : World} {A : Option Addr} {rs : List WV} (hb : Below n0 W W') : Writes n0 W A rs → Writes n0 W' A rs
  | .inl e => .inl e
  | .inr ⟨g, e, hg, hc⟩ => .inr ⟨g, e, hg, fun j p hp => ⟨(hb.cell (p := ⟨g, j * 2, none⟩) hg).trans (hc j p hp).1, (hb.cell (p := ⟨g, j * 2 + 1, none⟩) hg).trans (hc j p hp).2⟩⟩
theorem Writes.lift {w W : World} {A : Option Addr} {rs : List WV} (h : Writes w.heap.size w A rs) (hb : Below w.heap.size w W) : Writes W.heap.size W A rs := by
  rcases h.below hb with e | ⟨g, e, hg, hc⟩
  · exact .inl e
  · exact .inr ⟨g, e, Nat.lt_of_lt_of_le hg hb.size, hc⟩
theorem writes_of {w : World} {b : Nat} {A : Option Addr} {c : Nat} {rs : List WV} (h : w.ownsRow b 165 2 (.slice A rs.length c) rs.length (rs.flatMap wcs)) : Writes w.heap.size w A rs := by
  cases hrs : rs with
  | nil => exact .inl rfl
  | cons p t =>
    rw [← hrs]
    obtain ⟨g, c', e1, hlt, _, hc⟩ := own_rec wcs_len h (j := 0) (x := p) (by rw [hrs]; rfl) (by omega)
    simp only [Value.slice.injEq] at e1
    obtain ⟨rfl, _, _⟩ := e1
    refine .inr ⟨g, rfl, hlt, fun j q hq => ?_⟩
    obtain ⟨g', c'', e1, _, _, hc'⟩ := own_rec wcs_len h hq (by omega)
    simp only [Value.slice.injEq, Option.some.injEq, Addr.mk.injEq] at e1
    obtain ⟨⟨rfl, _⟩, _, _⟩ := e1
    have h0 := hc' 0 _ rfl
    have h1 := hc' 1 _ rfl
    exact ⟨h0, h1⟩

set_option maxRecDepth 100000 in
set_option maxHeartbeats 2000000 in
theorem back1_in (F : Fence) (n : Nat) (h7 : F.fn 160) (hro : F.round = none) (hn : 1 ≤ n) (l Bs n0 : Nat) (A : Option Addr) (c : Nat) (rs : List WV) (hbig : rs.length ≤ 1000000) (J Jx : List (Nat × WV) → World → Prop)
    (hY : ∀ pre x W, J pre W → pre.length < rs.length → YieldAt F (n - 1) Tryz.prog l (encW x) W fun e W' =>
      (e = .returned (.bool true) ∧ J (pre ++ [x]) W' ∧ Below n0 W W') ∨ (e = .returned (.bool false) ∧ Jx (pre ++ [x]) W'))
    (W : World) (hBs : W.cell? ⟨Bs, 0, none⟩ = some (.slice A rs.length c)) (hB0 : Bs < n0) (hW : Writes n0 W A rs) (h0 : J [] W) :
    CallsIn F n Tryz.prog 160 #[.func (.yield l) #[] #[], .pointer (some ⟨Bs, 0, none⟩)] W fun e W' => (∃ v, e = .returned v) ∧
      ((∃ ys, ys = came rs rs.length ∧ J ys W') ∨ (∃ pre, (∃ k, k ≤ rs.length ∧ pre = came rs k) ∧ Jx pre W')) := by
  have HBIG := Lib.hid hbig
  have HWR := Lib.hid hW
  clear hbig hW
  refine callsIn_of_wp Tryz.func160 rfl h7 ?_ hro
  simp only [Tryz.ntmps160, List.size_toArray, List.length_cons, List.length_nil, Nat.reduceAdd, Nat.reduceSub, Array.replicate_succ, Array.replicate_zero, List.push_toArray, List.append_toArray, List.nil_append, List.cons_append]
  have hl2 : wrap64 ((rs.length : Int) - 1) = (rs.length : Int) - 1 := by unfold wrap64; have := HBIG.out; omega
  obtain ⟨z0, hz0⟩ : ∃ z0 : Int, (rs.length : Int) - 1 = z0 := ⟨_, rfl⟩
  rw [hz0] at hl2
  have hl3 : IntKind.i64.wrap ((rs.length : Int) - 1) = z0 := by rw [IntKind.wrap_i64]; have := HBIG.out; omega
  gi_wp2
  gi_loopw [3] (fun i wr => ∃ (k : Nat) (z : Int), k ≤ rs.length ∧ i = .int .i64 z ∧ Hid (z = (rs.length : Int) - 1 - (k : Int)) ∧ J (came rs k) wr ∧ Below n0 W wr)
    (fun i _ => (intOf i + 1).toNat)
  case atStart => exact ⟨0, _, Nat.zero_le _, rfl, Lib.hid (by omega), h0, Below.refl _ _⟩
  case round =>
    clear hz0 hl3 hl2
    obtain ⟨k, z, hk, rfl, hz, hJs, hnx⟩ := hrel
    have cB : wr.cell? ⟨Bs, 0, none⟩ = some (.slice A rs.length c) := (hnx.cell (p := ⟨Bs, 0, none⟩) hB0).trans hBs
    by_cases hlt : k < rs.length
    · obtain ⟨m, hm⟩ := Int.eq_ofNat_of_zero_le (by have := hz.out; omega : 0 ≤ z)
      obtain rfl : z = (m : Int) := hm
      obtain ⟨p, hp⟩ : ∃ p, rs[m]? = some p := ⟨_, List.getElem?_eq_getElem (by have := hz.out; omega)⟩
      have hpm : rs.getD (rs.length - 1 - k) (0, noBV) = p := by
        rw [show rs.length - 1 - k = m by have := hz.out; omega, List.getD_eq_getElem?_getD, hp]
        rfl
      have hkm : rs.length - 1 - k = m := by have := hz.out; omega
      obtain ⟨fn, tmps, assign, body, hy, hR⟩ := hY (came rs k) (m, p) wr hJs (by rw [came_len]; exact hlt)
      dsimp only [encW] at hy
      have hm0 : (0 : Int) ≤ (m : Int) := by omega
      have hm1 : (m : Int) < (rs.length : Int) := by have := hz.out; omega
      have hm2 : wrap64 ((m : Int) - 1) = (m : Int) - 1 := by unfold wrap64; have := HBIG.out; omega
      have HZ := hz
      rcases HWR.out.below hnx with e0 | ⟨g, rfl, hg, hc⟩
      · rw [e0] at hlt
        cases hlt
      obtain ⟨d0, d1⟩ := hc m p hp
      have HP := Lib.hid hpm
      have HKM := Lib.hid hkm
      have HM2 := Lib.hid hm2
      have HX := Lib.hid hnx
      clear hp hpm hkm hc hm2 hnx hz HWR
      gi_wp2
      refine hR.mono ?_
      rintro e W3 (⟨rfl, hJ3, hk3⟩ | ⟨rfl, hJx3⟩)
      · have HM3 := HM2.out
        clear hy hR
        gi_wp2
        go_roundw
        case rel => exact ⟨k + 1, _, by omega, rfl, Lib.hid (by have := HZ.out; omega), by rw [came_succ, HP.out, HKM.out]; exact hJ3, HX.out.trans hk3⟩
        case measure => simp [intOf]; omega
      · gi_wp2
        refine bodyPost_ret (results_none rfl _ _ _) rfl ?_
        exact ⟨⟨_, rfl⟩, .inr ⟨_, ⟨k + 1, by omega, by rw [came_succ, HP.out, HKM.out]⟩, hJx3⟩⟩
    · obtain rfl : k = rs.length := by omega
      obtain rfl : z = -1 := by have := hz.out; omega
      have HX := Lib.hid hnx
      clear hz hnx
      gi_wp2
      go_end0
      exact ⟨⟨_, rfl⟩, .inl ⟨_, rfl, hJs⟩⟩

theorem back_stops (F : Fence) (n : Nat) (h7 : F.fn 160) (hro : F.round = none) (hn : 1 ≤ n) (Bs n0 : Nat) (A : Option Addr) (c : Nat) (rs : List WV) (hbig : rs.length ≤ 1000000) (w : World) (hBs : Bs < n0) (hn0 : n0 ≤ w.heap.size)
    (hc : w.cell? ⟨Bs, 0, none⟩ = some (.slice A rs.length c)) (hW : Writes n0 w A rs) :
    SeqStopsK F n Tryz.prog 160 #[.pointer (some ⟨Bs, 0, none⟩)] encW (Below n0) (fun ys => ys = came rs rs.length) (fun pre => ∃ k, k ≤ rs.length ∧ pre = came rs k) rs.length w := fun l J Jx W hb _ _ hY h0 =>
  back1_in F n h7 hro hn l Bs n0 A c rs hbig J Jx hY W ((hb.cell (p := ⟨Bs, 0, none⟩) (by show Bs < w.heap.size; omega)).trans hc) hBs (hW.below (hb.mono hn0)) h0
theorem back_in (F : Fence) (n : Nat) (h5 : F.fn 127) (hro : F.round = none) (a : Option Addr) (len cap : Nat) (w : World) :
    CallsIn F n Tryz.prog 127 #[.slice a len cap] w fun e w' => e = .returned (.func (.func 160) #[] #[.pointer (some ⟨w.heap.size, 0, none⟩)]) ∧ w' = w.alloc (.cells #[.slice a len cap] 74) := by
  refine callsIn_of_wp Tryz.func127 rfl h5 ?_ hro
  simp only [Tryz.ntmps127, List.size_toArray, List.length_cons, List.length_nil, Nat.reduceAdd, Nat.reduceSub, Array.replicate_succ, Array.replicate_zero, List.push_toArray, List.append_toArray, List.nil_append, List.cons_append]
  gi_wp2
  go_ret
  exact ⟨rfl, rfl⟩

def lastI (rs : List WV) (a : Nat) : Nat → Int
  | 0 => -1
  | k + 1 => if (rs.getD k (0, noBV)).1 = a then (k : Int) else lastI rs a k
def Unmet (a : Nat) (pre : List (Nat × WV)) : Prop := ∀ q ∈ pre, q.2.1 ≠ a
theorem last_none {rs : List WV} {a : Nat} : ∀ n, (∀ k, k < n → (rs.getD k (0, noBV)).1 ≠ a) → lastI rs a n = -1
  | 0, _ => rfl
  | n + 1, h => by rw [lastI, if_neg (h n (by omega))]; exact last_none n (fun k hk => h k (by omega))
theorem last_some {rs : List WV} {a m : Nat} (hm : (rs.getD m (0, noBV)).1 = a) : ∀ n, m < n → (∀ k, m < k → k < n → (rs.getD k (0, noBV)).1 ≠ a) → lastI rs a n = (m : Int)
  | 0, h, _ => absurd h (Nat.not_lt_zero _)
  | n + 1, h, ha => by
    rw [lastI]
    by_cases e : m = n
    · rw [if_pos (by rw [← e]; exact hm), e]
    · rw [if_neg (ha n (by omega) (by omega))]
      exact last_some hm n (by omega) (fun k h1 h2 => ha k h1 (by omega))
theorem unmet_came {rs : List WV} {a k : Nat} (hk : k ≤ rs.length) (h : Unmet a (came rs k)) : ∀ m, rs.length - k ≤ m → m < rs.length → (rs.getD m (0, noBV)).1 ≠ a := by
  intro m h1 h2
  exact h (m, rs.getD m (0, noBV)) (by
    unfold came
    rw [List.mem_map]
    exact ⟨rs.length - 1 - m, List.mem_range.2 (by omega), by rw [show rs.length - 1 - (rs.length - 1 - m) = m by omega]⟩)

set_option maxRecDepth 100000 in
set_option maxHeartbeats 4000000 in
theorem last_any (g gc : Nat) (A : Option Addr) (c : Nat) (rs : List WV) (a : Nat) (hbig : rs.length ≤ 1000000) (w : World) (h1c : w.cell? ⟨g, 1, none⟩ = some (.slice A rs.length c)) (hgc : w.cell? ⟨gc, 0, none⟩ = some (.int .i64 (a : Int))) (hW : Writes w.heap.size w A rs) :
    Calls Tryz.prog 103 #[.pointer (some ⟨g, 0, none⟩), .func (.func 128) #[] #[.pointer (some ⟨gc, 0, none⟩)]] w fun e w' => e = .returned (.int .i64 (lastI rs a rs.length)) ∧ Below w.heap.size w w' := by
  have HBIG := Lib.hid hbig
  have HW := Lib.hid hW
  have hgc1 := World.block_lt_of_cell? w _ hgc
  have hg1 := World.block_lt_of_cell? w _ h1c
  clear hbig hW
  refine (callsIn_wide (n := 3)).1 ?_
  refine callsIn_of_wp_marks Tryz.func103 rfl trivial ?_ rfl
  simp only [Tryz.ntmps103, List.size_toArray, List.length_cons, List.length_nil, Nat.reduceAdd, Nat.reduceSub, Array.replicate_succ, Array.replicate_zero, List.push_toArray, List.append_toArray, List.nil_append, List.cons_append]
  gi_wp2_with (refine ⟨trivial, ?_⟩; gi_at_call 127; refine (back_in Fence.wide _ trivial rfl _ _ _ _).mono ?_; rintro e w' ⟨rfl, rfl⟩)
  have bI := ((Boxed.new w 162 (.func (.func 128) #[] #[.pointer (some ⟨gc, 0, none⟩)])).alloc (.cells #[.int .i64 0] 3)).alloc (.cells #[.slice A rs.length c] 74)
  have bR := (Boxed.new (w.alloc (.cells #[.func (.func 128) #[] #[.pointer (some ⟨gc, 0, none⟩)]] 162)) 3 (.int .i64 0)).alloc (.cells #[.slice A rs.length c] 74)
  have bS := Boxed.new ((w.alloc (.cells #[.func (.func 128) #[] #[.pointer (some ⟨gc, 0, none⟩)]] 162)).alloc (.cells #[.int .i64 0] 3)) 74 (.slice A rs.length c)
  simp only [World.size_alloc] at bR bS
  have hB0 : Below w.heap.size w (((w.alloc (.cells #[.func (.func 128) #[] #[.pointer (some ⟨gc, 0, none⟩)]] 162)).alloc (.cells #[.int .i64 0] 3)).alloc (.cells #[.slice A rs.length c] 74)) := (((Below.refl _ w).alloc (Nat.le_refl _) _).alloc (by simp) _).alloc (by simp; omega) _
  have hsz : (((w.alloc (.cells #[.func (.func 128) #[] #[.pointer (some ⟨gc, 0, none⟩)]] 162)).alloc (.cells #[.int .i64 0] 3)).alloc (.cells #[.slice A rs.length c] 74)).heap.size = w.heap.size + 3 := by simp
  obtain ⟨W0, hW0⟩ : ∃ W0, ((w.alloc (.cells #[.func (.func 128) #[] #[.pointer (some ⟨gc, 0, none⟩)]] 162)).alloc (.cells #[.int .i64 0] 3)).alloc (.cells #[.slice A rs.length c] 74) = W0 := ⟨_, rfl⟩
  rw [hW0] at bI bR bS hB0 hsz ⊢
  clear hW0
  have HSZ := Lib.hid hsz
  refine wpIn_rangeFunc_ownH rfl (by omega) (gf := 160) (lb := #[.pointer (some ⟨w.heap.size + 1 + 1, 0, none⟩)]) rfl trivial (enters_of Tryz.func160 (by kernel_rfl) rfl)
    (back_stops Fence.wide _ trivial rfl (by omega) (w.heap.size + 1 + 1) W0.heap.size A c rs HBIG.out W0 (by omega) (Nat.le_refl _) bS.cell (Writes.lift HW.out hB0)) belowK_t (belowK_b (Nat.le_refl _)) (Below.refl _ _) (fun _ => rfl)
    (fun pre W => Unmet a pre ∧ Below W0.heap.size W0 W)
    (fun cd pre W => ((cd = .ret ∧ ∃ ini lst, pre = ini ++ [lst] ∧ Unmet a ini ∧ lst.2.1 = a ∧ Boxed W (w.heap.size + 1) 3 (.int .i64 (lst.1 : Int)))) ∧ Below w.heap.size w W)
    (OwnFrom.and (ownFrom_pure _ _) (ownFrom_below (Nat.le_refl _) (Nat.le_refl _)))
    (fun cd => OwnFrom.and (Own.from (fun s X Y row hs hg hr => by
      obtain ⟨e0, ini, lst, e1, e2, e3, e4⟩ := hs
      exact ⟨e0, ini, lst, e1, e2, e3, boxed_own (w.heap.size + 1) 3 (fun (_ : Unit) => Value.int .i64 (lst.1 : Int)) () X Y row e4 hg hr⟩) _) (ownFrom_below (Nat.le_refl _) (by omega)))
    ⟨fun q hq => by simp at hq, Below.refl _ _⟩
    (fun x a' W => ∃ Bx, W0.heap.size ≤ Bx ∧ Row W Bx 165 (wcs x.2) ∧ a' = { tmps := #[.pointer (some ⟨g, 0, none⟩), .func (.func 128) #[] #[.pointer (some ⟨gc, 0, none⟩)], undef, .pointer (some ⟨w.heap.size, 0, none⟩), .pointer (some ⟨w.heap.size + 1, 0, none⟩), .int .i64 (x.1 : Int), .pointer (some ⟨Bx, 0, none⟩), .pointer (some ⟨g, 0, none⟩), .pointer (some ⟨g, 0, none⟩), .pointer (some ⟨g, 1, none⟩), .slice A rs.length c, .func (.func 160) #[] #[.pointer (some ⟨w.heap.size + 1 + 1, 0, none⟩)], .int .i64 (x.1 : Int), .agg #[.int .i64 (x.2.1 : Int), .slice x.2.2.A x.2.2.l.length x.2.2.c], undef, undef, undef, undef], defers := [] })
    (fun x a' _ X Y row hs hg hr => by
      obtain ⟨Bx, e1, e2, e3⟩ := hs
      refine ⟨Bx, e1, e2.grown hg (fun e => ?_), e3⟩
      obtain ⟨_, o, ho, hcells⟩ := hr Bx e.symm
      rw [show X.heap[Bx]? = _ from e2] at ho
      cases ho
      cases hcells)
    ?assign ?body ?done ?stop
  case assign =>
    rintro l pre x W K ⟨hp, hB1⟩ hK
    dsimp only [encW]
    have hSZ1 := hB1.size
    gi_wp2
    exact hK _ _ ((KeepsOthers.alloc _ _).from _) ((Below.refl _ W).alloc hSZ1 _) ⟨hp, hB1.alloc hSZ1 _⟩ ⟨W.heap.size, hSZ1, Row.made W 165 (wcs x.2), rfl⟩
  case body =>
    rintro l pre x a' W hl ⟨r, hr⟩ ⟨hp, hB1⟩ ⟨Bx, hBx, bX, rfl⟩ hlt
    have hSZ1 := hB1.size
    have hSZ0 := HSZ.out
    have cI : W.cell? ⟨w.heap.size, 0, none⟩ = some (.func (.func 128) #[] #[.pointer (some ⟨gc, 0, none⟩)]) := (hB1.cell (p := ⟨w.heap.size, 0, none⟩) bI.lt).trans bI.cell
    have cG : W.cell? ⟨gc, 0, none⟩ = some (.int .i64 (a : Int)) := (hB1.cell (p := ⟨gc, 0, none⟩) (by show gc < W0.heap.size; omega)).trans ((hB0.cell (p := ⟨gc, 0, none⟩) hgc1).trans hgc)
    have bR1 : Boxed W (w.heap.size + 1) 3 (.int .i64 0) := (hB1.block _ bR.lt).trans bR
    have x0 : W.cell? ⟨Bx, 0, none⟩ = some (.int .i64 (x.2.1 : Int)) := by rw [bX.cell]; rfl
    have x1 : W.cell? ⟨Bx, 1, none⟩ = some (.slice x.2.2.A x.2.2.l.length x.2.2.c) := by rw [bX.cell]; rfl
    have bR2 := bR1.alloc (.cells #[.int .i64 (x.2.1 : Int), .slice x.2.2.A x.2.2.l.length x.2.2.c] 165)
    have cR := bR2.cell
    have fR := bR2.frozen
    have HB1 := Lib.hid hB1
    by_cases hxa : x.2.1 = a
    · have hxb : ((x.2.1 : Int) == (a : Int)) = true := by rw [hxa]; simp
      have HXA := Lib.hid hxa
      clear hxa hB1 hr hSZ0
      gi_wp2_with (refine ⟨trivial, ?_⟩; gi_at_call 128; refine (CallsIn.inRound l (callsIn_wide.2 (of1_any (x.2.1 : Int) (a : Int) _ gc _ cG))).mono ?_; rintro e w' ⟨rfl, rfl⟩)
      exact ⟨((KeepsOthers.alloc _ _).trans (KeepsOthers.setCell _ _ _)).from _, ⟨rfl, pre, x, rfl, hp, HXA.out, bR2.set _⟩, ((hB0.trans (HB1.out.mono (by have := HSZ.out; omega))).alloc (by have := HSZ.out; omega) _).setCell (p := ⟨w.heap.size + 1, 0, none⟩) (Nat.le_succ _) _⟩
    · have hxb : ((x.2.1 : Int) == (a : Int)) = false := beq_false_of_ne (by omega)
      have HXA := Lib.hid hxa
      clear hxa hB1 hr hSZ0
      gi_wp2_with (refine ⟨trivial, ?_⟩; gi_at_call 128; refine (CallsIn.inRound l (callsIn_wide.2 (of1_any (x.2.1 : Int) (a : Int) _ gc _ cG))).mono ?_; rintro e w' ⟨rfl, rfl⟩)
      exact ⟨(KeepsOthers.alloc _ _).from _, (Below.refl _ W).alloc hSZ1 _, fun q hq => (List.mem_append.1 hq).elim (hp q) (fun e => by simp at e; subst e; exact HXA.out), HB1.out.alloc hSZ1 _⟩
  case done =>
    rintro D ys W hD rfl ⟨hp, hB1⟩ hK
    have bR1 : Boxed W (w.heap.size + 1) 3 (.int .i64 0) := (hB1.block _ bR.lt).trans bR
    have cR := bR1.cell
    have fR := bR1.frozen
    have HP := Lib.hid hp
    have HB1 := Lib.hid hB1
    have HKD := Lib.hid hK
    have HD := Lib.hid hD
    clear hp hB1 hK hD
    gi_wp2
    have hK' := (KeepsOthers.setCell W ⟨w.heap.size + 1, 0, none⟩ (.int .i64 (-1))).same D _ HKD.out rfl
    refine ⟨by simp, .inl ⟨_, _, rfl, run_takeDeferred hK', ?_⟩⟩
    have hc5 := cell_kept (bR1.set (.int .i64 (-1))).cell (grownBy_putObj' _ D (.deferred none)) (fun r e => by cases e; exact ⟨_, hK', rfl⟩)
    refine ⟨.int .i64 (-1), ?_, by rw [last_none rs.length (fun k hk => unmet_came (Nat.le_refl _) HP.out k (by omega) hk)], ((hB0.trans (HB1.out.mono (by have := HSZ.out; omega))).setCell (p := ⟨w.heap.size + 1, 0, none⟩) (Nat.le_succ _) _).trans (belowK_b (w := w) (Nat.le_refl _) _ D _ _ (by have := HD.out; have := HSZ.out; omega) hK' rfl rfl)⟩
    simp [results, Tryz.f103, go_sem, hc5]
  case stop =>
    rintro D cd pre W hD ⟨k, hk, rfl⟩ ⟨⟨rfl, ini, lst, e1, e2, e3, e4⟩, hB1⟩ hK
    have HD := Lib.hid hD
    have HB1 := Lib.hid hB1
    have HKD := Lib.hid hK
    have H1 := Lib.hid e1
    have H3 := Lib.hid e3
    clear hD hB1 hK e1 e3
    gi_wp2
    refine ⟨by simp, .inl ⟨_, _, rfl, run_takeDeferred HKD.out, ?_⟩⟩
    have hc5 := cell_kept e4.cell (grownBy_putObj' _ D (.deferred none)) (fun r e => by cases e; exact ⟨_, HKD.out, rfl⟩)
    have hm : lst.1 < rs.length ∧ (rs.getD lst.1 (0, noBV)).1 = a ∧ ∀ k, lst.1 < k → k < rs.length → (rs.getD k (0, noBV)).1 ≠ a := by
      have e1 := H1.out
      obtain ⟨k', rfl⟩ : ∃ k', k = k' + 1 := by
        cases k with
        | zero => simp [came] at e1
        | succ k' => exact ⟨k', rfl⟩
      rw [came_succ] at e1
      obtain ⟨rfl, e5⟩ := List.append_inj' e1 rfl
      simp only [List.cons.injEq, and_true] at e5
      subst e5
      exact ⟨by omega, H3.out, fun m h1 h2 => unmet_came (by omega) e2 m (by simp only at h1; omega) h2⟩
    refine ⟨.int .i64 (lst.1 : Int), ?_, by rw [last_some hm.2.1 rs.length hm.1 hm.2.2], HB1.out.trans (belowK_b (w := w) (Nat.le_refl _) W D _ _ (by have := HD.out; have := HSZ.out; omega) HKD.out rfl rfl)⟩
    simp [results, Tryz.f103, go_sem, hc5]
end Go.Proofs.YtpocccnhibjjcaaGreatDoor
