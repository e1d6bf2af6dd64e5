/- Elder bytes: a map in memory from blocks' numbers to slices of slices: what is looked up, what is laid in. No conditions but those named. -/
import Derived.Test.YtnajlineipapdaaDsync
import Derived.Maps.OwnSet
import Derived.WalkKit
import Derived.WalkMore
set_option linter.unusedVariables false
namespace Go.Proofs.Ytnajlineipapdaa
open Go.RowKit Go.Maps

/-- Every element reads as itself. -/
def itself (v : Value) : Option (DataW Value × List MemPlace) := some (.held v, [])
/-- No slices, nil. -/
def nos : Value := .slice none 0 0
theorem int_key : Keyed Try.prog 3 := Maps.int_keyed Try.underlying3
theorem nat_wf {a : Nat} (h : a ≤ 1024) : (Lit.int .i64 (a : Int)).wf = true := by
  simp [Lit.wf, IntKind.min, IntKind.max, IntKind.bits, IntKind.signed]
  omega
theorem key_of {a : Nat} (h : a ≤ 1024) : keyOf Try.prog 3 (.int .i64 (a : Int)) = some (.int .i64 (a : Int)) := Maps.keyOf_int_mk Try.underlying3 (nat_wf h)
theorem key_ne {a a' : Nat} (h : a ≠ a') : Lit.int .i64 (a : Int) ≠ Lit.int .i64 (a' : Int) := by
  intro e
  injection e with _ e
  omega
/-- Block b is a map of at most n entries, which tells ev of each number up to 1024. -/
def ElAt (w : World) (b n : Nat) (ev : Nat → Value) : Prop :=
  ∃ D : DataW Value, w.ownsMap Try.prog 3 itself b n D ∧ ∀ a : Nat, a ≤ 1024 → D.atKey (.int .i64 (a : Int)) (.held nos) = .held (ev a)
section
variable {w w' : World} {b n : Nat} {ev : Nat → Value}
theorem ElAt.lt (h : ElAt w b n ev) : b < w.heap.size := by obtain ⟨D, h, _⟩ := h; exact h.lt
theorem ElAt.grown {row : Option Nat} (h : ElAt w b n ev) (hg : w.grownBy w' row) (hne : some b ≠ row) : ElAt w' b n ev := by
  obtain ⟨D, h, k⟩ := h
  exact ⟨D, h.kept hg hne, k⟩
theorem ElAt.below (h : ElAt w b n ev) (hb : Below w.heap.size w w') : ElAt w' b n ev := h.grown (row := none) (grown_of_below hb) (by simp)
theorem ElAt.mono (h : ElAt w b n ev) {n' : Nat} (hn : n ≤ n') : ElAt w b n' ev := by
  obtain ⟨D, h, k⟩ := h
  exact ⟨D, h.mono hn, k⟩
theorem ElAt.made (w : World) : ElAt (w.alloc (.map #[] 0)) w.heap.size 0 fun _ => nos :=
  ⟨_, World.ownsMap_made w _ _ _, fun a ha => rfl⟩
theorem nos_zero (w : World) : (zeroValue 45).run Try.prog w = .ok nos w := by kernel_rfl
theorem ElAt.look (h : ElAt w b n ev) {a : Nat} (ha : a ≤ 1024) : (Instr.lookup 70 (.map (some b)) (.int .i64 (a : Int)) false).run Try.prog w = .ok (ev a) w := by
  obtain ⟨D, h, k⟩ := h
  obtain ⟨v, ps, hrun, hv⟩ := h.lookup int_key Try.underlying70 (nos_zero w) (zd := .held nos) (zp := []) rfl (key_of ha)
  rw [k a ha] at hv
  simp only [itself, Option.some.injEq, Prod.mk.injEq, DataW.held.injEq] at hv
  rw [hrun, hv.1]
/-- One more. -/
def evs (ev : Nat → Value) (a : Nat) (v : Value) : Nat → Value := fun a' => if a' = a then v else ev a'
theorem evs_same (ev : Nat → Value) (a : Nat) (v : Value) : evs ev a v a = v := if_pos rfl
theorem evs_other (ev : Nat → Value) {a a' : Nat} (v : Value) (h : a' ≠ a) : evs ev a v a' = ev a' := if_neg h
theorem ElAt.put (h : ElAt w b n ev) {a : Nat} (ha : a ≤ 1024) (hn : n < maxLen) (v : Value) :
    ∃ w', (Instr.mapUpdate 70 (.map (some b)) (.int .i64 (a : Int)) v).run Try.prog w = .ok () w' ∧ ElAt w' b (n + 1) (evs ev a v) ∧ w.grownBy w' (some b) := by
  obtain ⟨D, h, k⟩ := h
  obtain ⟨w', hrun, hown, hg⟩ := h.update int_key Try.underlying70 hn (key_of ha) (val := v) (d := .held v) (ps := []) rfl
  have hm := h.isMap
  have hkey := int_key.key (key_of ha)
  refine ⟨w', hrun, ⟨_, hown, fun a' ha' => ?_⟩, hg⟩
  by_cases hes : a' = a
  · subst hes
    rw [atKey_put_same hm hkey, evs_same]
  · rw [atKey_put_other (key_ne hes), evs_other _ _ hes]
    exact k a' ha'
/-- It is no row of cells. -/
theorem ElAt.no_cells (h : ElAt w b n ev) : ∀ cs t fr, w.heap[b]? ≠ some (.cells cs t fr) := by
  obtain ⟨D, ⟨es, clock, hb, r⟩, k⟩ := h
  intro cs t fr e
  rw [hb] at e
  cases e
end
end Go.Proofs.Ytnajlineipapdaa
