/- Words for memory: a world that has new blocks and is else as it was, with nothing frozen anew. No conditions. -/
import Derived.Test.YtpobppoaidngeaaRows2
set_option linter.unusedVariables false
namespace Go.Proofs.Ytpobppoaidngeaa
open Go.RowKit

/-- Behind the call there are new blocks; all else is as it was. -/
structure Calm (w w' : World) : Prop where
  below : Below w.heap.size w w'
  thaw : ∀ a, w'.frozen? a = w.frozen? a
theorem Calm.refl (w : World) : Calm w w := ⟨Below.refl _ _, fun _ => rfl⟩
theorem Calm.size {w w' : World} (h : Calm w w') : w.heap.size ≤ w'.heap.size := h.below.size
theorem Calm.trans {a b c : World} (h : Calm a b) (k : Calm b c) : Calm a c := ⟨h.below.trans (k.below.mono h.size), fun x => (k.thaw x).trans (h.thaw x)⟩
theorem Calm.grown {w w' : World} (h : Calm w w') : Grown w w' := ⟨h.below.frame _, h.thaw, h.size⟩
theorem Calm.drew {a w : World} (h : Calm a w) : Calm a w.drew := ⟨h.below.drew, h.thaw⟩
theorem Calm.drewN {a w : World} (h : Calm a w) (k : Nat) : Calm a (w.drewN k) := ⟨below_drewN h.below k, h.thaw⟩
theorem Calm.setCell {a w : World} (h : Calm a w) {p : Addr} (hp : a.heap.size ≤ p.block) (u : Value) : Calm a (w.setCell p u) := ⟨h.below.setCell hp u, fun x => (World.frozen?_setCell _ _ _ _).trans (h.thaw x)⟩
theorem Calm.alloc {a w : World} (h : Calm a w) (c : Array Value) (t : TypeId) : Calm a (w.alloc (.cells c t)) := ⟨h.below.alloc h.size _, fun x => (frozen?_alloc_cells _ _ _ x).trans (h.thaw x)⟩
theorem Calm.of {a w w' : World} (h : Calm a w) (k : Hid (Calm w w')) : Calm a w' := h.trans k.out
theorem Row.calm {w w' : World} {g : Nat} {t : TypeId} {cs : List Value} (h : Row w g t cs) (k : Calm w w') : Row w' g t cs := h.kept k.below
theorem frozen_setRow (w : World) (g : Nat) (cells : Array Value) (t : TypeId) (old : Array Value) (hg : w.heap[g]? = some (.cells old t (0, 0))) (a : Addr) : (w.setRow g cells).frozen? a = w.frozen? a := by
  by_cases h : a.block = g
  · have h1 := setRow_heap w g old cells t (0, 0) hg
    unfold World.frozen?
    rw [h, h1, hg]
  · have h1 := setRow_other w g a.block cells h
    unfold World.frozen?
    rw [h1]

/-- Behind the call there are new blocks, and block g may have been written; all else is as it was. -/
structure Upon (g : Nat) (w w' : World) : Prop where
  by_ : w.grownBy w' (some g)
  thaw : ∀ a, w'.frozen? a = w.frozen? a
theorem Upon.refl (g : Nat) (w : World) : Upon g w w := ⟨⟨rfl, rfl, rfl, Nat.le_refl _, fun _ _ _ => rfl⟩, fun _ => rfl⟩
theorem Upon.size {g : Nat} {w w' : World} (h : Upon g w w') : w.heap.size ≤ w'.heap.size := h.by_.size
theorem Upon.trans {g : Nat} {a b c : World} (h : Upon g a b) (k : Upon g b c) : Upon g a c :=
  ⟨⟨k.by_.os.trans h.by_.os, k.by_.tape.trans h.by_.tape, k.by_.output.trans h.by_.output, Nat.le_trans h.size k.size, fun i hi hne => (k.by_.block i (Nat.lt_of_lt_of_le hi h.size) hne).trans (h.by_.block i hi hne)⟩, fun x => (k.thaw x).trans (h.thaw x)⟩
theorem Calm.upon {w w' : World} (h : Calm w w') (g : Nat) : Upon g w w' := ⟨⟨h.below.os, h.below.tape, h.below.output, h.below.size, fun k hk _ => h.below.block k hk⟩, h.thaw⟩
theorem Upon.calm {g : Nat} {w0 w w' : World} (h : Upon g w w') (h0 : Calm w0 w) (hg : w0.heap.size ≤ g) : Calm w0 w' :=
  ⟨h0.below.grown h.by_ h0.size (fun k hk => by injection hk with hk; omega), fun x => (h.thaw x).trans (h0.thaw x)⟩
theorem Upon.put {g : Nat} {w w' : World} (h : Upon g w w') {p : Addr} (hp : p.block = g) (u : Value) : Upon g w (w'.setCell p u) :=
  h.trans ⟨⟨rfl, rfl, rfl, by simp [World.setCell], fun k _ hne => Below.heap_setCell _ _ _ _ (fun e => hne (by rw [e, hp]))⟩, fun x => World.frozen?_setCell _ _ _ _⟩
theorem Upon.putAt {g off : Nat} {w w' : World} (h : Upon g w w') (u : Value) : Upon g w (w'.setCell ⟨g, off, none⟩ u) := h.put rfl u
theorem Upon.far {g : Nat} {w w' : World} (h : Upon g w w') {p : Addr} (hp : w.heap.size ≤ p.block) (u : Value) : Upon g w (w'.setCell p u) :=
  ⟨⟨h.by_.os, h.by_.tape, h.by_.output, Nat.le_trans h.size (by simp [World.setCell]), fun k hk hne => (Below.heap_setCell _ _ _ _ (by omega)).trans (h.by_.block k hk hne)⟩, fun x => (World.frozen?_setCell _ _ _ _).trans (h.thaw x)⟩
theorem Upon.drew {g : Nat} {w w' : World} (h : Upon g w w') : Upon g w w'.drew := ⟨⟨h.by_.os, h.by_.tape, h.by_.output, h.by_.size, h.by_.block⟩, h.thaw⟩
theorem Upon.drewN {g : Nat} {w w' : World} (h : Upon g w w') (n : Nat) : Upon g w (w'.drewN n) := ⟨⟨h.by_.os, h.by_.tape, h.by_.output, h.by_.size, h.by_.block⟩, h.thaw⟩
theorem Upon.after {g : Nat} {w w1 w2 : World} (h : Upon g w w1) (k : Calm w1 w2) : Upon g w w2 := h.trans (k.upon g)
theorem Upon.stored {g g8 : Nat} {w w1 w2 : World} (h : Upon g w w1) (k : Upon g8 w1 w2) (h8 : w.heap.size ≤ g8) : Upon g w w2 :=
  ⟨⟨k.by_.os.trans h.by_.os, k.by_.tape.trans h.by_.tape, k.by_.output.trans h.by_.output, Nat.le_trans h.size k.size, fun i hi hne => (k.by_.block i (Nat.lt_of_lt_of_le hi h.size) (fun e => by injection e with e; omega)).trans (h.by_.block i hi hne)⟩, fun x => (k.thaw x).trans (h.thaw x)⟩
theorem Row.upon {w w' : World} {g g' : Nat} {t : TypeId} {cs : List Value} (h : Row w g t cs) (k : Upon g' w w') (hne : g ≠ g') : Row w' g t cs := h.grown k.by_ (fun e => hne (by injection e))

section
variable {P : Program} {ops : Array Oper} {rest : List Oper} {o : Oper} {a : Act} {w : World} {Q : Exit → Act → World → Prop}
/-- A variable of a row's type, made. -/
theorem calm_alloc (hgd : o.guard = none) (d : Tmp) (hd : o.dst = some d) (t : TypeId) (ho : o.op = .alloc t) (cs : List Value) (hz : ∀ w : World, (zeroValue t).run P w = .ok (.agg cs.toArray) w)
    (h : ∀ g w', Row w' g t cs → Hid (g = w.heap.size) → Hid (Calm w w') → Hid (w'.heap.size = w.heap.size + 1) → wpList P ops Q rest (a.put o.dst (.pointer (some ⟨g, 0, none⟩))) w') : wpList P ops Q (o :: rest) a w := by
  refine wpList_plain hgd fun K hK => ?_
  unfold Oper.wp execOp
  simp only [ho]
  simp [Instr.alloc, hz, newVar, go_sem]
  exact hK _ _ (h _ _ (Row.made w t cs) (show _ = _ from rfl) ((Calm.refl w).alloc _ _) (show _ = _ by simp))
/-- A row's value, laid into a new variable. -/
theorem calm_box (hgd : o.guard = none) (d : Tmp) (hd : o.dst = some d) (t : TypeId) (x : Operand) (ho : o.op = .box t x) (cs : List Value) (hx : a.eval x = .agg cs.toArray)
    (h : ∀ g w', Row w' g t cs → Hid (g = w.heap.size) → Hid (Calm w w') → Hid (w'.heap.size = w.heap.size + 1) → wpList P ops Q rest (a.put o.dst (.pointer (some ⟨g, 0, none⟩))) w') : wpList P ops Q (o :: rest) a w := by
  refine wpList_plain hgd fun K hK => ?_
  unfold Oper.wp execOp
  simp only [ho, hx]
  simp [Instr.box, newVar, go_sem]
  exact hK _ _ (h _ _ (Row.made w t cs) (show _ = _ from rfl) ((Calm.refl w).alloc _ _) (show _ = _ by simp))
/-- A whole row, stored over one of as many cells that the call made itself. -/
theorem calm_store (hgd : o.guard = none) (ty : TypeId) (x y : Operand) (ho : o.op = .store ty x y) (g : Nat) (hx : a.eval x = .pointer (some ⟨g, 0, none⟩)) (t : TypeId) (old cs : List Value) (hy : a.eval y = .agg cs.toArray)
    (hr : Row w g t old) (hl : old.length = cs.length) (hi : (P.info? ty).map (·.size) = some cs.length) (h1 : ∀ v ∈ cs, v.oneCell' = true)
    (h : ∀ w', Row w' g t cs → Hid (∀ w0, Calm w0 w → w0.heap.size ≤ g → Calm w0 w') → Hid (w'.heap.size = w.heap.size) → Hid (Upon g w w') → wpList P ops Q rest (a.put o.dst undef) w') : wpList P ops Q (o :: rest) a w := by
  refine wpList_store_row hgd ty x y ho g cs.toArray hx hy t old.toArray hr (by simpa using hi) (by simpa using hl) (all_oneCell_toArray h1) ?_
  have hgb : w.grownBy (w.setRow g cs.toArray) (some g) := ⟨rfl, rfl, rfl, by simp, fun k hk hne => setRow_other w g k _ (fun e => hne (by rw [e]))⟩
  exact h _ (setRow_heap w g _ _ t _ hr) (fun w0 h0 hg => ⟨h0.below.grown hgb h0.size (fun k hk => by injection hk with hk; omega), fun x => (frozen_setRow w g _ t _ hr x).trans (h0.thaw x)⟩) (show _ = _ by simp) ⟨hgb, fun x => frozen_setRow w g _ t _ hr x⟩
end
end Go.Proofs.Ytpobppoaidngeaa
