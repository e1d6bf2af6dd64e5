/- A space and the document's own answer, side by side in one memory. Conditions: those named. -/
import Derived.Test.YtkmnmmenjpkkpaaDoorSr
set_option linter.unusedVariables false
namespace Go.Proofs.YtkmnmmenjpkkpaaDoor
open Go.RowKit

/-- Both, at the same states. -/
structure Two (W w : World) (g r h N : Nat) (S S' : Nat → Nat) : Prop where
  o : Own W w g N S
  p : RSp w r h N S'
  ne : g ≠ r ∧ g ≠ h ∧ W.heap.size ≤ r ∧ W.heap.size ≤ h
  t : 0 < W.heap.size
section
variable {W w w' : World} {g r h N : Nat} {S S1 S2 : Nat → Nat}
theorem Two.kept (k : Two W w g r h N S S1) (hb : Below w.heap.size w w') : Two W w' g r h N S S1 := ⟨k.o.kept hb, k.p.kept hb, k.ne, k.t⟩
theorem Two.drewN (k : Two W w g r h N S S1) (q : Nat) : Two W (w.drewN q) g r h N S S1 := ⟨k.o.drewN q, k.p.drewN q, k.ne, k.t⟩
theorem Two.left (k : Two W w g r h N S S1) (ho : Own W w' g N S2) (hg : w.grownBy w' (some g)) : Two W w' g r h N S2 S1 := ⟨ho, k.p.far hg k.ne.1 k.ne.2.1, k.ne, k.t⟩
theorem Two.right (k : Two W w g r h N S S1) (hp : RSp w' r h N S2) (hg : w.grownBy w' (some h)) : Two W w' g r h N S S2 :=
  ⟨k.o.far hg (fun e => k.ne.2.1 (by injection e)) k.t (fun x hx => by injection hx with hx; rw [← hx]; exact k.ne.2.2.2), hp, k.ne, k.t⟩
/-- A cell of a third block stays. -/
theorem cell_third {g d i : Nat} {v : Value} (hg : w.grownBy w' (some g)) (hd : d ≠ g) (hc : w.cell? ⟨d, i, none⟩ = some v) : w'.cell? ⟨d, i, none⟩ = some v := hg.cell hc (fun e => hd (by injection e))

theorem two_take (k : Two W w g r h N S S1) : Calls Tryd.prog 11 #[.pointer (some ⟨g, 0, none⟩)] w fun e w' => e = .returned (.tuple #[.int .i64 (tkA (ft N S)), .int .i64 (tkE (ft N S))]) ∧ Two W w' g r h N (tkS S (ft N S)) S1 ∧ w.grownBy w' (some g) :=
  (own_take k.o).mono fun e w' ⟨he, ho, hg⟩ => ⟨he, k.left ho hg, hg⟩
theorem two_rtake (k : Two W w g r h N S2 S) : Calls Tryd.prog 12 #[.pointer (some ⟨r, 0, none⟩)] w fun e w' => e = .returned (.tuple #[.int .i64 (tkA (ft N S)), .int .i64 (tkE (ft N S))]) ∧ Two W w' g r h N S2 (tkS S (ft N S)) ∧ w.grownBy w' (some h) :=
  (rtake_any k.p).mono fun e w' ⟨he, hp, hg⟩ => ⟨he, k.right hp hg, hg⟩
theorem two_settle (k : Two W w g r h N S S1) : Calls Tryd.prog 17 #[.pointer (some ⟨g, 0, none⟩)] w fun e w' => e = .returned (.int .i64 (nBack N S : Int)) ∧ Two W w' g r h N (seS S) S1 ∧ w.grownBy w' (some g) :=
  (own_settle k.o).mono fun e w' ⟨he, ho, hg⟩ => ⟨he, k.left ho hg, hg⟩
theorem two_rsettle (k : Two W w g r h N S2 S) : Calls Tryd.prog 18 #[.pointer (some ⟨r, 0, none⟩)] w fun e w' => e = .returned (.int .i64 (nBack N S : Int)) ∧ Two W w' g r h N S2 (seS S) ∧ w.grownBy w' (some h) :=
  (rsettle_any k.p).mono fun e w' ⟨he, hp, hg⟩ => ⟨he, k.right hp hg, hg⟩
theorem two_mark (k : Two W w g r h N S S1) (z : Int) {x : Int} {T : Nat → Nat} (hx : mv N S z 0 = x) (hT : chS N S z 0 1 = T) : Calls Tryd.prog 13 #[.pointer (some ⟨g, 0, none⟩), .int .i64 z] w fun e w' => e = .returned (.int .i64 x) ∧ Two W w' g r h N T S1 ∧ w.grownBy w' (some g) := by
  subst hx hT
  exact (own_mark k.o z).mono fun e w' ⟨he, ho, hg⟩ => ⟨he, k.left ho hg, hg⟩
theorem two_give (k : Two W w g r h N S S1) (z : Int) {x : Int} {T : Nat → Nat} (hx : mv N S z 1 = x) (hT : chS N S z 1 2 = T) : Calls Tryd.prog 15 #[.pointer (some ⟨g, 0, none⟩), .int .i64 z] w fun e w' => e = .returned (.int .i64 x) ∧ Two W w' g r h N T S1 ∧ w.grownBy w' (some g) := by
  subst hx hT
  exact (own_give k.o z).mono fun e w' ⟨he, ho, hg⟩ => ⟨he, k.left ho hg, hg⟩
theorem two_undo (k : Two W w g r h N S S1) (z : Int) {x : Int} {T : Nat → Nat} (hx : mv N S z 1 = x) (hT : chS N S z 1 0 = T) : Calls Tryd.prog 16 #[.pointer (some ⟨g, 0, none⟩), .int .i64 z] w fun e w' => e = .returned (.int .i64 x) ∧ Two W w' g r h N T S1 ∧ w.grownBy w' (some g) := by
  subst hx hT
  exact (own_undo k.o z).mono fun e w' ⟨he, ho, hg⟩ => ⟨he, k.left ho hg, hg⟩
theorem two_change (k : Two W w g r h N S2 S) (z : Int) {a b : Nat} {x : Int} {T : Nat → Nat} (hx : mv N S z a = x) (hT : chS N S z a b = T) : Calls Tryd.prog 14 #[.pointer (some ⟨r, 0, none⟩), .int .i64 z, .int .i64 (a : Int), .int .i64 (b : Int)] w fun e w' => e = .returned (.int .i64 x) ∧ Two W w' g r h N S2 T ∧ w.grownBy w' (some h) := by
  subst hx hT
  exact (rchange_any k.p z a b).mono fun e w' ⟨he, hp, hg⟩ => ⟨he, k.right hp hg, hg⟩
/-- What is asked behind each step. -/
theorem two_free (k : Two W w g r h N S S) {c : Nat} (hc : nFree N S = c) : Calls Tryd.prog 19 #[.pointer (some ⟨g, 0, none⟩)] w fun e w' => e = .returned (.int .i64 (c : Int)) ∧ w' = w := by
  subst hc
  exact own_free k.o
theorem two_rfree (k : Two W w g r h N S S) {c : Nat} (hc : nFree N S = c) : Calls Tryd.prog 20 #[.pointer (some ⟨r, 0, none⟩)] w fun e w' => e = .returned (.int .i64 (c : Int)) ∧ w' = w := by
  subst hc
  exact rfree_any k.p
theorem two_state (k : Two W w g r h N S S) {z y : Int} (hy : stv N S z = y) : Calls Tryd.prog 21 #[.pointer (some ⟨g, 0, none⟩), .int .i64 z] w fun e w' => e = .returned (.int .i64 y) ∧ ∃ q, w' = w.drewN q := by
  subst hy
  exact own_state k.o z
theorem two_rstate (k : Two W w g r h N S S) {z y : Int} (hy : stv N S z = y) : Calls Tryd.prog 22 #[.pointer (some ⟨r, 0, none⟩), .int .i64 z] w fun e w' => e = .returned (.int .i64 y) ∧ w' = w := by
  subst hy
  exact rstate_any k.p z
end
/-- The last loop's steps, from -1 up. -/
theorem wrap_step {y : Int} {m N : Nat} (hy : y = (m : Int) - 1) (hm : m < N + 2) (hN : N ≤ 1024) : wrap64 (y + 1) = y + 1 ∧ IntKind.i64.wrap (y + 1) = y + 1 := by
  rw [IntKind.wrap_i64]
  unfold wrap64
  omega
theorem step_next (m : Nat) : (m : Int) - 1 + 1 = ((m + 1 : Nat) : Int) - 1 := by omega
theorem step_down {y : Int} {m N : Nat} (hy : y = (m : Int) - 1) (hm : m < N + 2) : N + 2 - (y + 1 + 1).toNat < N + 2 - (y + 1).toNat := by omega
end Go.Proofs.YtkmnmmenjpkkpaaDoor
