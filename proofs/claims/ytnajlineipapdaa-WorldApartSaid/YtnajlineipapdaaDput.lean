/- The reference's disk, with one of its lists grown. Conditions: the disk lies there. -/
import Derived.Test.YtnajlineipapdaaGrow
set_option linter.unusedVariables false
namespace Go.Proofs.Ytnajlineipapdaa
open Go.RowKit

section
variable {b : Nat} {w : World} {g : Nat} {v1 v2 v3 v4 : Value} {ss : List BV} {rs al : List (Nat × BV)} {ts : List (Int × Int × BV)}
theorem RDisk.kept {w' : World} (h : RDisk b w g v1 v2 v3 v4 ss rs al ts) (hb : Below w.heap.size w w') : RDisk b w' g v1 v2 v3 v4 ss rs al ts :=
  ⟨h.cells.kept hb, own_kept h.o1 hb, own_kept h.o2 hb, own_kept h.o3 hb, own_kept h.o4 hb, h.sep, h.lo, fun x hx => ⟨(h.m1 x hx).1.below hb, (h.m1 x hx).2⟩, fun p hp => ⟨(h.m2 p hp).1.below hb, (h.m2 p hp).2⟩, fun p hp => ⟨(h.m3 p hp).1.below hb, (h.m3 p hp).2⟩, fun t ht => (h.m4 t ht).below hb⟩
theorem RDisk.ne (h : RDisk b w g v1 v2 v3 v4 ss rs al ts) : v1.ownBlock ≠ some g ∧ v2.ownBlock ≠ some g ∧ v3.ownBlock ≠ some g ∧ v4.ownBlock ≠ some g :=
  ⟨row_parted h.cells h.o1 (by decide), row_parted h.cells h.o2 (by decide), row_parted h.cells h.o3 (by decide), row_parted h.cells h.o4 (by decide)⟩
theorem Own8.grownBy {w' : World} {x : BV} {bb n size : Nat} {e : TypeId} {v : Value} {xs : List Value} {base : Nat} (h : Own8 base w x) (hg : w.grownBy w' v.ownBlock) (hv : w.ownsRow bb e size v n xs) (he : 5 ≠ e) : Own8 base w' x :=
  World.ownsRow.kept h hg (own_parted h hv he)
theorem Own8.put {w : World} {x : BV} {g o : Nat} {t : TypeId} {cs : List Value} {base : Nat} (h : Own8 base w x) (hr : Row w g t cs) (he : 5 ≠ t) (u : Value) : Own8 base (w.setCell ⟨g, o, none⟩ u) x :=
  World.ownsRow.kept h (grown_set w ⟨g, o, none⟩ u) (.inr (row_parted hr h (fun e => he e.symm)))
theorem own_put {w : World} {base size n : Nat} {e : TypeId} {v : Value} {xs : List Value} {g o : Nat} {t : TypeId} {cs : List Value} (h : w.ownsRow base e size v n xs) (hr : Row w g t cs) (he : t ≠ e) (u : Value) : (w.setCell ⟨g, o, none⟩ u).ownsRow base e size v n xs :=
  World.ownsRow.kept h (grown_set w ⟨g, o, none⟩ u) (.inr (row_parted hr h he))
theorem foot_g (g : Nat) (v1 v2 v3 v4 : Value) : g ∈ foot g v1 v2 v3 v4 := by simp [foot]
theorem foot_v4 {g : Nat} {v1 v2 v3 v4 : Value} {k : Nat} (h : v4.ownBlock = some k) : k ∈ foot g v1 v2 v3 v4 := by simp [foot, List.mem_filterMap]; exact .inr (.inr (.inr (.inr h)))
theorem foot_v3 {g : Nat} {v1 v2 v3 v4 : Value} {k : Nat} (h : v3.ownBlock = some k) : k ∈ foot g v1 v2 v3 v4 := by simp [foot, List.mem_filterMap]; exact .inr (.inr (.inr (.inl h)))
theorem foot_v1 {g : Nat} {v1 v2 v3 v4 : Value} {k : Nat} (h : v1.ownBlock = some k) : k ∈ foot g v1 v2 v3 v4 := by simp [foot, List.mem_filterMap]; exact .inr (.inl h)
/-- A touch more. -/
theorem RDisk.touch {w2 : World} {v : Value} (h : RDisk b w g v1 v2 v3 v4 ss rs al ts) (t : Int × Int × BV) (ht : Own8 b w t.2.2) (hr : w2.ownsRow b 77 3 v (ts.length + 1) (ts.flatMap tc ++ tc t)) (hg : w.grownBy w2 v4.ownBlock) :
    RDisk b (w2.setCell ⟨g, 3, none⟩ v) g v1 v2 v3 v ss rs al (ts ++ [t]) ∧ Chg (foot g v1 v2 v3 v4) w (w2.setCell ⟨g, 3, none⟩ v) := by
  have hc2 : Row w2 g 49 [v1, v2, v3, v4] := h.cells.grown hg (fun e => h.ne.2.2.2 e.symm)
  refine ⟨⟨hc2.put 3 v, ?_, ?_, ?_, ?_, h.sep, h.lo, ?_, ?_, ?_, ?_⟩, ((Chg.refl (foot g v1 v2 v3 v4) w).grown hg (fun k hk => .inl (foot_v4 hk))).setCell (p := ⟨g, 3, none⟩) (.inl (foot_g g v1 v2 v3 v4)) v⟩
  · exact own_put (h.o1.kept hg (own_parted h.o1 h.o4 (by decide))) hc2 (by decide) v
  · exact own_put (h.o2.kept hg (own_parted h.o2 h.o4 (by decide))) hc2 (by decide) v
  · exact own_put (h.o3.kept hg (own_parted h.o3 h.o4 (by decide))) hc2 (by decide) v
  · rw [flat_snoc, List.length_append]
    exact own_put hr hc2 (by decide) v
  · exact fun x hx => ⟨((h.m1 x hx).1.grownBy hg h.o4 (by decide)).put hc2 (by decide) v, (h.m1 x hx).2⟩
  · exact fun p hp => ⟨((h.m2 p hp).1.grownBy hg h.o4 (by decide)).put hc2 (by decide) v, (h.m2 p hp).2⟩
  · exact fun p hp => ⟨((h.m3 p hp).1.grownBy hg h.o4 (by decide)).put hc2 (by decide) v, (h.m3 p hp).2⟩
  · intro x hx
    rcases List.mem_append.1 hx with hx | hx
    · exact ((h.m4 x hx).grownBy hg h.o4 (by decide)).put hc2 (by decide) v
    · simp at hx
      subst hx
      exact (ht.grownBy hg h.o4 (by decide)).put hc2 (by decide) v
/-- A write more among all. -/
theorem RDisk.wrote {w2 : World} {v : Value} (h : RDisk b w g v1 v2 v3 v4 ss rs al ts) (p : Nat × BV) (ht : Own8 b w p.2) (hl : p.2.l.length = 256) (hp : p.1 < ss.length) (hr : w2.ownsRow b 81 2 v (al.length + 1) (al.flatMap wcs ++ wcs p)) (hg : w.grownBy w2 v3.ownBlock)
    (hat : v.ownBlock = v3.ownBlock ∨ v.ownBlock = some w.heap.size) :
    RDisk b (w2.setCell ⟨g, 2, none⟩ v) g v1 v2 v v4 ss rs (al ++ [p]) ts ∧ Chg (foot g v1 v2 v3 v4) w (w2.setCell ⟨g, 2, none⟩ v) := by
  have hc2 : Row w2 g 49 [v1, v2, v3, v4] := h.cells.grown hg (fun e => h.ne.2.2.1 e.symm)
  have hsep : v2.ownBlock = none ∨ v2.ownBlock ≠ v.ownBlock := by
    rcases hat with e | e
    · rw [e]; exact h.sep
    · cases hv : v2.ownBlock with
      | none => exact .inl rfl
      | some k =>
        refine .inr (fun e2 => ?_)
        rw [e] at e2
        injection e2 with e2
        have := (h.o2.lt k hv).2
        omega
  refine ⟨⟨hc2.put 2 v, ?_, ?_, ?_, ?_, hsep, h.lo, ?_, ?_, ?_, ?_⟩, ((Chg.refl (foot g v1 v2 v3 v4) w).grown hg (fun k hk => .inl (foot_v3 hk))).setCell (p := ⟨g, 2, none⟩) (.inl (foot_g g v1 v2 v3 v4)) v⟩
  · exact own_put (h.o1.kept hg (own_parted h.o1 h.o3 (by decide))) hc2 (by decide) v
  · exact own_put (h.o2.kept hg h.sep) hc2 (by decide) v
  · rw [flat_snoc, List.length_append]
    exact own_put hr hc2 (by decide) v
  · exact own_put (h.o4.kept hg (own_parted h.o4 h.o3 (by decide))) hc2 (by decide) v
  · exact fun x hx => ⟨((h.m1 x hx).1.grownBy hg h.o3 (by decide)).put hc2 (by decide) v, (h.m1 x hx).2⟩
  · exact fun p hp => ⟨((h.m2 p hp).1.grownBy hg h.o3 (by decide)).put hc2 (by decide) v, (h.m2 p hp).2⟩
  · intro x hx
    rcases List.mem_append.1 hx with hx | hx
    · exact ⟨((h.m3 x hx).1.grownBy hg h.o3 (by decide)).put hc2 (by decide) v, (h.m3 x hx).2⟩
    · simp at hx
      subst hx
      exact ⟨(ht.grownBy hg h.o3 (by decide)).put hc2 (by decide) v, hl, hp⟩
  · exact fun t ht => ((h.m4 t ht).grownBy hg h.o3 (by decide)).put hc2 (by decide) v
/-- Another row of waiting writes: a new one. -/
theorem RDisk.waits {v : Value} {rs' : List (Nat × BV)} (h : RDisk b w g v1 v2 v3 v4 ss rs al ts) (hr : w.ownsRow b 81 2 v rs'.length (rs'.flatMap wcs)) (hsep : v.ownBlock = none ∨ v.ownBlock ≠ v3.ownBlock)
    (hm : ∀ p ∈ rs', Own8 b w p.2 ∧ p.2.l.length = 256 ∧ p.1 < ss.length) :
    RDisk b (w.setCell ⟨g, 1, none⟩ v) g v1 v v3 v4 ss rs' al ts ∧ Chg (foot g v1 v2 v3 v4) w (w.setCell ⟨g, 1, none⟩ v) := by
  have hc2 := h.cells
  refine ⟨⟨hc2.put 1 v, ?_, ?_, ?_, ?_, hsep, h.lo, ?_, ?_, ?_, ?_⟩, (Chg.refl (foot g v1 v2 v3 v4) w).setCell (p := ⟨g, 1, none⟩) (.inl (foot_g g v1 v2 v3 v4)) v⟩
  · exact own_put h.o1 hc2 (by decide) v
  · exact own_put hr hc2 (by decide) v
  · exact own_put h.o3 hc2 (by decide) v
  · exact own_put h.o4 hc2 (by decide) v
  · exact fun x hx => ⟨(h.m1 x hx).1.put hc2 (by decide) v, (h.m1 x hx).2⟩
  · exact fun p hp => ⟨(hm p hp).1.put hc2 (by decide) v, (hm p hp).2⟩
  · exact fun p hp => ⟨(h.m3 p hp).1.put hc2 (by decide) v, (h.m3 p hp).2⟩
  · exact fun t ht => (h.m4 t ht).put hc2 (by decide) v
end
theorem touch_src (w : World) (t : Int × Int × BV) : (1 : Nat) = 0 ∧ (some (⟨w.heap.size, 0, none⟩ : Addr)) = none ∨ ∃ ad, some (⟨w.heap.size, 0, none⟩ : Addr) = some ad ∧ ∀ j u, (tc t)[j]? = some u → (w.alloc (.cells (tc t).toArray 77)).cell? (ad.add j) = some u :=
  .inr ⟨_, rfl, fun j u hu => by rw [Addr.add_lit, Nat.zero_add, (Row.made w 77 (tc t)).cell]; exact hu⟩
theorem wait_src (w : World) (p : Nat × BV) : (1 : Nat) = 0 ∧ (some (⟨w.heap.size, 0, none⟩ : Addr)) = none ∨ ∃ ad, some (⟨w.heap.size, 0, none⟩ : Addr) = some ad ∧ ∀ j u, (wcs p)[j]? = some u → (w.alloc (.cells (wcs p).toArray 81)).cell? (ad.add j) = some u :=
  .inr ⟨_, rfl, fun j u hu => by rw [Addr.add_lit, Nat.zero_add, (Row.made w 81 (wcs p)).cell]; exact hu⟩
theorem below_a1 (w : World) (o : Obj) : Below w.heap.size w (w.drew.alloc o) := (below_drw w).alloc (Nat.le_refl _) o
theorem below_a2 (w : World) (o o' : Obj) : Below w.heap.size w ((w.drew.alloc o).alloc o') := (below_a1 w o).alloc (below_a1 w o).size o'
theorem below_then {w W w5 : World} {row : Option Nat} (h : Below w.heap.size w W) (hg : W.grownBy w5 row) (hr : ∀ q, row = some q → w.heap.size ≤ q) : Below w.heap.size w w5 := h.grown hg h.size hr
theorem row_src {w : World} {g : Nat} {t : TypeId} {cs : List Value} (h : Row w g t cs) : (1 : Nat) = 0 ∧ (some (⟨g, 0, none⟩ : Addr)) = none ∨ ∃ ad, some (⟨g, 0, none⟩ : Addr) = some ad ∧ ∀ j u, cs[j]? = some u → w.cell? (ad.add j) = some u :=
  .inr ⟨_, rfl, fun j u hu => by rw [Addr.add_lit, Nat.zero_add, h.cell]; exact hu⟩
theorem size_a1 (w : World) (o : Obj) : (w.drew.alloc o).heap.size = w.heap.size + 1 := by simp
theorem row_made2 (w : World) (o : Obj) (t : TypeId) (cs : List Value) : Row ((w.drew.alloc o).alloc (.cells cs.toArray t)) (w.heap.size + 1) t cs := by
  have h := Row.made (w.drew.alloc o) t cs
  rw [size_a1] at h
  exact h
theorem row_made1 (w : World) (o : Obj) (t : TypeId) (cs : List Value) : Row ((w.drew.alloc (.cells cs.toArray t)).alloc o) w.heap.size t cs := (Row.made w.drew t cs).alloc o
theorem void_own2 (w : World) (o : Obj) (e : TypeId) (k b : Nat) (hb : b ≤ w.heap.size) : ((w.drew.alloc o).alloc (.cells #[] e)).ownsRow b e k (.slice (some ⟨w.heap.size + 1, 0, none⟩) 0 0) 0 [] := by
  have h := void_own (w.drew.alloc o) e k b (Nat.le_trans hb (below_a1 w o).size)
  rw [size_a1] at h
  exact h
theorem void_own1 (w : World) (o : Obj) (e : TypeId) (k b : Nat) (hb : b ≤ w.heap.size) : ((w.drew.alloc (.cells #[] e)).alloc o).ownsRow b e k (.slice (some ⟨w.heap.size, 0, none⟩) 0 0) 0 [] := (void_own w.drew e k b hb).alloc o
theorem ne_self_succ (n : Nat) : some (n + 1) ≠ some n := fun h => by injection h with h; omega
theorem ne_succ_self (n : Nat) : some n ≠ some (n + 1) := fun h => by injection h with h; omega
theorem foot_all {g n : Nat} {v1 v2 v3 v4 : Value} {F : List Nat} (hg : g ∈ F ∨ n ≤ g) (h1 : ∀ q, v1.ownBlock = some q → q ∈ F ∨ n ≤ q) (h2 : ∀ q, v2.ownBlock = some q → q ∈ F ∨ n ≤ q) (h3 : ∀ q, v3.ownBlock = some q → q ∈ F ∨ n ≤ q) (h4 : ∀ q, v4.ownBlock = some q → q ∈ F ∨ n ≤ q) :
    ∀ x ∈ foot g v1 v2 v3 v4, x ∈ F ∨ n ≤ x := by
  intro x hx
  unfold foot at hx
  rcases List.mem_cons.1 hx with rfl | hx
  · exact hg
  · obtain ⟨v, hv, hy⟩ := List.mem_filterMap.1 hx
    simp at hv
    rcases hv with rfl | rfl | rfl | rfl
    · exact h1 x hy
    · exact h2 x hy
    · exact h3 x hy
    · exact h4 x hy
end Go.Proofs.Ytnajlineipapdaa
