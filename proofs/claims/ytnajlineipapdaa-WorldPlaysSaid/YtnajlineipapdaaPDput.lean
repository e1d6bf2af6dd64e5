/- The program's disk, with one of its parts written. Conditions: the disk lies there. -/
import Derived.Test.YtnajlineipapdaaPDisk
set_option linter.unusedVariables false
namespace Go.Proofs.Ytnajlineipapdaa
open Go.RowKit

theorem set_size (w : World) (p : Addr) (u : Value) : (w.setCell p u).heap.size = w.heap.size := by simp
section
variable {b : Nat} {w w2 : World} {g gm : Nat} {F : List Nat} {v1 v2 v4 v : Value} {ev : Nat → Value} {n : Nat} {ss : List BV} {rs : List (Nat × BV)} {E : Nat → List BV} {ts : List (Int × Int × BV)}
/-- A row of the disk's grown, or cut, and told. -/
theorem PDisk.wider_put (h : PDisk b w g F v1 v2 gm v4 ev n ss rs E ts) {u : Value} (hg : w.grownBy w2 u.ownBlock) (hu : ∀ k, u.ownBlock = some k → k ∈ F) (i : Nat) : Chg F w (w2.setCell ⟨g, i, none⟩ v) :=
  ((Chg.refl F w).grown hg (fun k hk => .inl (hu k hk))).setCell (p := ⟨g, i, none⟩) (.inl h.fg) v
/-- A touch more. -/
theorem PDisk.touch (h : PDisk b w g F v1 v2 gm v4 ev n ss rs E ts) (t : Int × Int × BV) (ht : Own8 b w t.2.2) (hr : w2.ownsRow b 77 3 v (ts.length + 1) (ts.flatMap tc ++ tc t)) (hg : w.grownBy w2 v4.ownBlock) (hat : v.ownBlock = v4.ownBlock ∨ v.ownBlock = some w.heap.size) :
    PDisk b (w2.setCell ⟨g, 3, none⟩ v) g (pfoot g gm v1 v2 v ev) v1 v2 gm v ev n ss rs E (ts ++ [t]) ∧ Chg F w (w2.setCell ⟨g, 3, none⟩ v) ∧ Wider w F (pfoot g gm v1 v2 v ev) := by
  have hc2 : Row w2 g 73 [v1, v2, .map (some gm), v4] := row_turn h.cells hg (NotT.own h.o4 (by decide))
  have hs := grown_set w2 ⟨g, 3, none⟩ v
  have k8 : ∀ {x : BV}, Own8 b w x → Own8 b (w2.setCell ⟨g, 3, none⟩ v) x := fun hx => (hx.turn hg (NotT.own h.o4 (by decide))).turn hs (NotT.row hc2 (by decide))
  refine ⟨{ cells := hc2.put 3 v
            o1 := own_turn (own_turn h.o1 hg (NotT.own h.o4 (by decide))) hs (NotT.row hc2 (by decide))
            o2 := own_turn (own_turn h.o2 hg (NotT.own h.o4 (by decide))) hs (NotT.row hc2 (by decide))
            o4 := by rw [flat_snoc, List.length_append]; exact own_turn hr hs (NotT.row hc2 (by decide))
            om := map_turn (map_turn h.om hg (own_is h.o4)) hs (row_is hc2)
            oe := fun a ha => own_turn (own_turn (h.oe a ha) hg (NotT.own h.o4 (by decide))) hs (NotT.row hc2 (by decide))
            sep1 := h.sep1, sepe := h.sepe
            m1 := fun x hx => ⟨k8 (h.m1 x hx).1, (h.m1 x hx).2⟩
            m2 := fun p hp => ⟨k8 (h.m2 p hp).1, (h.m2 p hp).2⟩
            m4 := fun x hx => by
              rcases List.mem_append.1 hx with hx | hx
              · exact k8 (h.m4 x hx)
              · simp at hx
                subst hx
                exact k8 ht
            me := fun a ha x hx => ⟨k8 (h.me a ha x hx).1, (h.me a ha x hx).2⟩
            le := h.le
            most := h.most
            fx := fun k => mem_pfoot
            fl := fun k hk => by
              rw [set_size]
              have old : k ∈ F → b ≤ k ∧ k < w2.heap.size := fun hF => ⟨(h.fl k hF).1, Nat.lt_of_lt_of_le (h.fl k hF).2 hg.size⟩
              rcases mem_pfoot.1 hk with rfl | rfl | e | e | e | ⟨a, ha, e⟩
              · exact old h.fg
              · exact old h.fm
              · exact old (h.f1 _ e)
              · exact old (h.f2 _ e)
              · exact hr.lt k e
              · exact old (h.fe a ha _ e) }, h.wider_put hg h.f4 3, fun k hk => ?_⟩
  rcases mem_pfoot.1 hk with rfl | rfl | e | e | e | ⟨a, ha, e⟩
  · exact .inl h.fg
  · exact .inl h.fm
  · exact .inl (h.f1 _ e)
  · exact .inl (h.f2 _ e)
  · rcases hat with e' | e'
    · exact .inl (h.f4 _ (e' ▸ e))
    · rw [e'] at e
      injection e with e
      exact .inr (by omega)
  · exact .inl (h.fe a ha _ e)
/-- Another row of waiting writes. -/
theorem PDisk.waits {rs' : List (Nat × BV)} (h : PDisk b w g F v1 v2 gm v4 ev n ss rs E ts) (hr : w2.ownsRow b 79 2 v rs'.length (rs'.flatMap wcs)) (hg : w.grownBy w2 v2.ownBlock) (hat : v.ownBlock = v2.ownBlock ∨ v.ownBlock = some w.heap.size ∨ v.ownBlock = none)
    (hm : ∀ p ∈ rs', Own8 b w p.2 ∧ p.2.l.length = 256 ∧ p.1 < ss.length) :
    PDisk b (w2.setCell ⟨g, 1, none⟩ v) g (pfoot g gm v1 v v4 ev) v1 v gm v4 ev n ss rs' E ts ∧ Chg F w (w2.setCell ⟨g, 1, none⟩ v) ∧ Wider w F (pfoot g gm v1 v v4 ev) := by
  have hc2 : Row w2 g 73 [v1, v2, .map (some gm), v4] := row_turn h.cells hg (NotT.own h.o2 (by decide))
  have hs := grown_set w2 ⟨g, 1, none⟩ v
  have k8 : ∀ {x : BV}, Own8 b w x → Own8 b (w2.setCell ⟨g, 1, none⟩ v) x := fun hx => (hx.turn hg (NotT.own h.o2 (by decide))).turn hs (NotT.row hc2 (by decide))
  refine ⟨{ cells := hc2.put 1 v
            o1 := own_turn (own_turn h.o1 hg (NotT.own h.o2 (by decide))) hs (NotT.row hc2 (by decide))
            o2 := own_turn hr hs (NotT.row hc2 (by decide))
            o4 := own_turn (own_turn h.o4 hg (NotT.own h.o2 (by decide))) hs (NotT.row hc2 (by decide))
            om := map_turn (map_turn h.om hg (own_is h.o2)) hs (row_is hc2)
            oe := fun a ha => own_turn (own_turn (h.oe a ha) hg (NotT.own h.o2 (by decide))) hs (NotT.row hc2 (by decide))
            sep1 := h.sep1, sepe := h.sepe
            m1 := fun x hx => ⟨k8 (h.m1 x hx).1, (h.m1 x hx).2⟩
            m2 := fun p hp => ⟨k8 (hm p hp).1, (hm p hp).2⟩
            m4 := fun x hx => k8 (h.m4 x hx)
            me := fun a ha x hx => ⟨k8 (h.me a ha x hx).1, (h.me a ha x hx).2⟩
            le := h.le, most := h.most
            fx := fun k => mem_pfoot
            fl := fun k hk => by
              rw [set_size]
              have old : k ∈ F → b ≤ k ∧ k < w2.heap.size := fun hF => ⟨(h.fl k hF).1, Nat.lt_of_lt_of_le (h.fl k hF).2 hg.size⟩
              rcases mem_pfoot.1 hk with rfl | rfl | e | e | e | ⟨a, ha, e⟩
              · exact old h.fg
              · exact old h.fm
              · exact old (h.f1 _ e)
              · exact hr.lt k e
              · exact old (h.f4 _ e)
              · exact old (h.fe a ha _ e) }, h.wider_put hg h.f2 1, fun k hk => ?_⟩
  rcases mem_pfoot.1 hk with rfl | rfl | e | e | e | ⟨a, ha, e⟩
  · exact .inl h.fg
  · exact .inl h.fm
  · exact .inl (h.f1 _ e)
  · rcases hat with e' | e' | e'
    · exact .inl (h.f2 _ (e' ▸ e))
    · rw [e'] at e
      injection e with e
      exact .inr (by omega)
    · rw [e'] at e
      cases e
  · exact .inl (h.f4 _ e)
  · exact .inl (h.fe a ha _ e)
/-- One block synced. -/
theorem PDisk.sync {g1 k1 : Nat} (h : PDisk b w g F (.slice (some ⟨g1, 0, none⟩) ss.length k1) v2 gm v4 ev n ss rs E ts) (a : Nat) (x : BV) (ha : a < ss.length) (hx : Own8 b w x ∧ x.l.length = 256) :
    PDisk b (w.setCell ⟨g1, a, none⟩ (bvv x)) g F (.slice (some ⟨g1, 0, none⟩) ss.length k1) v2 gm v4 ev n (ss.set a x) rs E ts ∧ Chg F w (w.setCell ⟨g1, a, none⟩ (bvv x)) := by
  have hs := grown_set w ⟨g1, a, none⟩ (bvv x)
  have hN : ∀ {e : TypeId}, 32 ≠ e → NotT w (some g1) e := fun hne => NotT.own h.o1 hne
  have k8 : ∀ {y : BV}, Own8 b w y → Own8 b (w.setCell ⟨g1, a, none⟩ (bvv x)) y := fun hy => hy.turn hs (hN (by decide))
  refine ⟨{ cells := row_turn h.cells hs (hN (by decide))
            o1 := by
              have h1 := (h.o1.stored a (bvv x)).1
              rw [flat_sc] at h1 ⊢
              rw [List.length_set, List.map_set]
              exact h1
            o2 := own_turn h.o2 hs (hN (by decide))
            o4 := own_turn h.o4 hs (hN (by decide))
            om := map_turn h.om hs (own_is h.o1)
            oe := fun a' ha' => (h.oe a' ha').kept hs (h.sep1 a' ha')
            sep1 := h.sep1, sepe := h.sepe
            m1 := fun y hy => by
              rcases List.mem_or_eq_of_mem_set hy with hy | rfl
              · exact ⟨k8 (h.m1 y hy).1, (h.m1 y hy).2⟩
              · exact ⟨k8 hx.1, hx.2⟩
            m2 := fun p hp => ⟨k8 (h.m2 p hp).1, (h.m2 p hp).2.1, by rw [List.length_set]; exact (h.m2 p hp).2.2⟩
            m4 := fun t ht => k8 (h.m4 t ht)
            me := fun a ha x hx => ⟨k8 (h.me a ha x hx).1, (h.me a ha x hx).2⟩
            le := h.le, most := by rw [List.length_set]; exact h.most
            fx := h.fx
            fl := fun k hk => by rw [set_size]; exact h.fl k hk }, (Chg.refl F w).setCell (p := ⟨g1, a, none⟩) (.inl (h.f1 g1 rfl)) _⟩
/-- Elder bytes more: of block a, the list behind that it had and x. -/
def more (E : Nat → List BV) (a : Nat) (x : BV) : Nat → List BV := fun a' => if a' = a then E a ++ [x] else E a'
theorem more_same (E : Nat → List BV) (a : Nat) (x : BV) : more E a x a = E a ++ [x] := if_pos rfl
theorem more_other (E : Nat → List BV) {a a' : Nat} (x : BV) (h : a' ≠ a) : more E a x a' = E a' := if_neg h
/-- Elder bytes more, the map written. -/
theorem PDisk.elder {w3 : World} (h : PDisk b w g F v1 v2 gm v4 ev n ss rs E ts) (a : Nat) (ha : a < ss.length) (x : BV) (hx : Own8 b w x ∧ x.l.length = 256) (hr : w2.ownsRow b 32 1 v ((E a).length + 1) ((E a).flatMap sc ++ sc x)) (hg : w.grownBy w2 (ev a).ownBlock)
    (hat : v.ownBlock = (ev a).ownBlock ∨ v.ownBlock = some w.heap.size) (hm : ElAt w3 gm (n + 1) (evs ev a v)) (hg3 : w2.grownBy w3 (some gm)) :
    PDisk b w3 g (pfoot g gm v1 v2 v4 (evs ev a v)) v1 v2 gm v4 (evs ev a v) (n + 1) ss rs (more E a x) ts ∧ Chg F w w3 ∧ Wider w F (pfoot g gm v1 v2 v4 (evs ev a v)) := by
  have ha' : a < 1024 := Nat.lt_of_lt_of_le ha h.most
  have hN : ∀ {e : TypeId}, 32 ≠ e → NotT w (ev a).ownBlock e := fun hne => NotT.own (h.oe a ha') hne
  have hm2 : ElAt w2 gm n ev := map_turn h.om hg (own_is (h.oe a ha'))
  have hM : ∀ {e : TypeId}, NotT w2 (some gm) e := fun {e} => NotT.map hm2 e
  have k8 : ∀ {y : BV}, Own8 b w y → Own8 b w3 y := fun hy => (hy.turn hg (hN (by decide))).turn hg3 hM
  have hnew : ∀ k, v.ownBlock = some k → (ev a).ownBlock = some k ∨ w.heap.size ≤ k := fun k hk => by
    rcases hat with e | e
    · exact .inl (e ▸ hk)
    · rw [e] at hk
      injection hk with hk
      exact .inr (by omega)
  have old1 : ∀ {y : Value} {m : Nat} {e : TypeId} {sz : Nat} {xs : List Value}, w.ownsRow b e sz y m xs → ((ev a).ownBlock = none ∨ (ev a).ownBlock ≠ y.ownBlock) → (v.ownBlock = none ∨ v.ownBlock ≠ y.ownBlock) := fun {y m e sz xs} hy hne => by
    cases hv : v.ownBlock with
    | none => exact .inl rfl
    | some k =>
      refine .inr fun e0 => ?_
      rcases hnew k hv with h1 | h1
      · rcases hne with h2 | h2
        · rw [h2] at h1
          cases h1
        · exact h2 (h1.trans e0)
      · have := (hy.lt k e0.symm).2
        omega
  refine ⟨{ cells := row_turn (row_turn h.cells hg (hN (by decide))) hg3 hM
            o1 := own_turn (h.o1.kept hg (by
              rcases h.sep1 a ha' with e | e
              · cases hv : v1.ownBlock with
                | none => exact .inl rfl
                | some k => exact .inr (by rw [e]; simp)
              · exact .inr (fun e0 => e e0.symm))) hg3 hM
            o2 := own_turn (own_turn h.o2 hg (hN (by decide))) hg3 hM
            o4 := own_turn (own_turn h.o4 hg (hN (by decide))) hg3 hM
            om := hm
            oe := fun a' ha'' => by
              by_cases e : a' = a
              · subst e
                rw [evs_same, more_same, flat_snoc, List.length_append]
                exact own_turn hr hg3 hM
              · rw [evs_other _ _ e, more_other _ _ e]
                refine own_turn ((h.oe a' ha'').kept hg ?_) hg3 hM
                exact h.sepe a' a ha'' ha' e
            sep1 := fun a' ha'' => by
              by_cases e : a' = a
              · subst e
                rw [evs_same]
                exact old1 h.o1 (h.sep1 a' ha')
              · rw [evs_other _ _ e]
                exact h.sep1 a' ha''
            sepe := fun a1 a2 h1 h2 hne => by
              by_cases e1 : a1 = a
              · subst e1
                rw [evs_same, evs_other _ _ (fun e => hne e.symm)]
                exact old1 (h.oe a2 h2) (h.sepe a1 a2 h1 h2 hne)
              · rw [evs_other _ _ e1]
                by_cases e2 : a2 = a
                · subst e2
                  rw [evs_same]
                  rcases old1 (h.oe a1 h1) (h.sepe a2 a1 h2 h1 (fun e => hne e.symm)) with h3 | h3
                  · cases hv : (ev a1).ownBlock with
                    | none => exact .inl rfl
                    | some k => exact .inr (by rw [h3]; simp)
                  · exact .inr (fun e => h3 e.symm)
                · rw [evs_other _ _ e2]
                  exact h.sepe a1 a2 h1 h2 hne
            m1 := fun y hy => ⟨k8 (h.m1 y hy).1, (h.m1 y hy).2⟩
            m2 := fun p hp => ⟨k8 (h.m2 p hp).1, (h.m2 p hp).2⟩
            m4 := fun t ht => k8 (h.m4 t ht)
            me := fun a' ha'' y hy => by
              by_cases e : a' = a
              · subst e
                rw [more_same] at hy
                rcases List.mem_append.1 hy with hy | hy
                · exact ⟨k8 (h.me a' ha' y hy).1, (h.me a' ha' y hy).2⟩
                · simp at hy
                  subst hy
                  exact ⟨k8 hx.1, hx.2⟩
              · rw [more_other _ _ e] at hy
                exact ⟨k8 (h.me a' ha'' y hy).1, (h.me a' ha'' y hy).2⟩
            le := fun a' ha'' => by
              by_cases e : a' = a
              · subst e
                rw [more_same, List.length_append]
                have := h.le a' ha'
                simp
                omega
              · rw [more_other _ _ e]
                have := h.le a' ha''
                omega
            most := h.most
            fx := fun k => mem_pfoot
            fl := fun k hk => by
              have old : k ∈ F → b ≤ k ∧ k < w3.heap.size := fun hF => ⟨(h.fl k hF).1, Nat.lt_of_lt_of_le (Nat.lt_of_lt_of_le (h.fl k hF).2 hg.size) hg3.size⟩
              rcases mem_pfoot.1 hk with rfl | rfl | e | e | e | ⟨a', ha'', e⟩
              · exact old h.fg
              · exact old h.fm
              · exact old (h.f1 _ e)
              · exact old (h.f2 _ e)
              · exact old (h.f4 _ e)
              · by_cases e1 : a' = a
                · subst e1
                  rw [evs_same] at e
                  exact ⟨(hr.lt k e).1, Nat.lt_of_lt_of_le (hr.lt k e).2 hg3.size⟩
                · rw [evs_other _ _ e1] at e
                  exact old (h.fe a' ha'' _ e) },
    ((Chg.refl F w).grown hg (fun k hk => .inl (h.fe a ha' k hk))).grown hg3 (fun k hk => by injection hk with hk; rw [← hk]; exact .inl h.fm), fun k hk => ?_⟩
  rcases mem_pfoot.1 hk with rfl | rfl | e | e | e | ⟨a', ha'', e⟩
  · exact .inl h.fg
  · exact .inl h.fm
  · exact .inl (h.f1 _ e)
  · exact .inl (h.f2 _ e)
  · exact .inl (h.f4 _ e)
  · by_cases e1 : a' = a
    · subst e1
      rw [evs_same] at e
      rcases hnew k e with h1 | h1
      · exact .inl (h.fe a' ha' k h1)
      · exact .inr h1
    · rw [evs_other _ _ e1] at e
      exact .inl (h.fe a' ha'' _ e)
end
end Go.Proofs.Ytnajlineipapdaa
