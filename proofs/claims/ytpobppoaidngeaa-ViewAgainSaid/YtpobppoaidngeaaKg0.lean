/- Steps of a walk: a new variable of one cell; a map cleared. No conditions but those named. -/
import Derived.Test.YtpobppoaidngeaaKb
set_option linter.unusedVariables false
namespace Go.Proofs.Ytpobppoaidngeaa
open Go.RowKit

section
variable {P : Program} {ops : Array Oper} {rest : List Oper} {o : Oper} {a : Act} {w : World} {Q : Exit → Act → World → Prop}
/-- A variable of one cell, made. -/
theorem step_new (hgd : o.guard = none) (t : TypeId) (ho : o.op = .alloc t) (z : Value) (hz : ∀ w : World, (zeroValue t).run P w = .ok z w) (hc : z.cells = #[z])
    (h : ∀ g w', Row w' g t [z] → Hid (g = w.heap.size) → Below w.heap.size w w' → wpList P ops Q rest (a.put o.dst (.pointer (some ⟨g, 0, none⟩))) w') : wpList P ops Q (o :: rest) a w := by
  refine wpList_plain hgd fun K hK => ?_
  unfold Oper.wp execOp
  simp only [ho]
  simp [Instr.alloc, hz, newVar, go_sem]
  exact hK _ _ (h _ _ (cast (congrArg (fun c : Array Value => Row (w.alloc (.cells c t)) w.heap.size t [z]) hc.symm) (Row.made w t [z])) (show _ = _ from rfl) ((Below.refl _ _).alloc (Nat.le_refl _) _))
/-- A value of one cell, laid into a new variable. -/
theorem step_box1 (hgd : o.guard = none) (t : TypeId) (x : Operand) (ho : o.op = .box t x) (z : Value) (hx : a.eval x = z) (hc : z.cells = #[z])
    (h : ∀ g w', Row w' g t [z] → Hid (g = w.heap.size) → Below w.heap.size w w' → wpList P ops Q rest (a.put o.dst (.pointer (some ⟨g, 0, none⟩))) w') : wpList P ops Q (o :: rest) a w := by
  refine wpList_plain hgd fun K hK => ?_
  unfold Oper.wp execOp
  simp only [ho, hx]
  simp [Instr.box, newVar, go_sem]
  exact hK _ _ (h _ _ (cast (congrArg (fun c : Array Value => Row (w.alloc (.cells c t)) w.heap.size t [z]) hc.symm) (Row.made w t [z])) (show _ = _ from rfl) ((Below.refl _ _).alloc (Nat.le_refl _) _))
end
section
variable {ops : Array Oper} {rest : List Oper} {o : Oper} {a : Act} {w : World} {Q : Exit → Act → World → Prop}
/-- A map, cleared. -/
theorem wp_clear (hgd : o.guard = none) (x : Operand) (ho : o.op = .call { callee := .builtin .clear, args := #[x], argTypes := #[53] }) (b n : Nat) (C : Int → Option BV) (hx : a.eval x = .map (some b)) (hm : MC w b n C)
    (h : ∀ w', MC w' b 0 (fun _ => none) → w.grownBy w' (some b) → wpList Try.prog ops Q rest (a.put o.dst (.tuple #[])) w') : wpList Try.prog ops Q (o :: rest) a w := by
  refine wpList_plain hgd fun K hK => ?_
  obtain ⟨w', hr, h1, h2⟩ := hm.clear_ o.type
  unfold Oper.wp execOp
  simp only [ho, resolve, invoke, builtin, Sem.run_bind, Sem.run_pure, Result.andThen_ok, List.map_toArray, List.map_cons, List.map_nil, hx, hr]
  exact hK _ _ (h w' h1 h2)
end
/-- One record more. -/
theorem row_more {α : Type} {f : α → List Value} {k : Nat} {B : Nat} {W w w' : World} {A : Option Addr} {n c : Nat} {e : TypeId} {xs : List α} {x : α} {v' : Value} {o : Obj} (hb : Below B W w) (hB : B ≤ w.heap.size)
    (hown : w.ownsRow B e k (.slice A n c) n (xs.flatMap f)) (h1 : w'.ownsRow B e k v' (n + 1) (xs.flatMap f ++ f x)) (hg : (w.alloc o).grownBy w' (Value.slice A n c).ownBlock) :
    ∃ A' c', v' = .slice A' (n + 1) c' ∧ w'.ownsRow B e k (.slice A' (n + 1) c') (n + 1) ((xs ++ [x]).flatMap f) ∧ Below B W w' := by
  obtain ⟨A', c', rfl⟩ := own_sl h1
  refine ⟨A', c', rfl, by rw [flat_snoc]; exact h1, ?_⟩
  exact (hb.alloc hB o).grown hg (by simp; omega) (fun k hk => (hown.lt k hk).1)
/-- Bytes of the call's own stay when a row of records grows. -/
theorem own8_more {B b : Nat} {w w' : World} {A : Option Addr} {n c k : Nat} {e : TypeId} {xs : List Value} {x : BV} {o : Obj} (he : 5 ≠ e) (hown : w.ownsRow B e k (.slice A n c) n xs) (h : Own8 b w x) (hg : (w.alloc o).grownBy w' (Value.slice A n c).ownBlock) : Own8 b w' x :=
  World.ownsRow.kept (World.ownsRow.kept h (World.grownBy_alloc w o none) (by cases hx : (bvv x).ownBlock with | none => exact .inl rfl | some k => exact .inr (by simp))) hg (own_parted h hown he)
end Go.Proofs.Ytpobppoaidngeaa
