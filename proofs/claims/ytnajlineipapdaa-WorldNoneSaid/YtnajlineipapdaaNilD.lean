/- The law WorldNone, walked: of no disk and no anchor nothing is told. No conditions. -/
import Derived.Test.YtnajlineipapdaaAwakeD
set_option linter.unusedVariables false
namespace Go.Proofs.Ytnajlineipapdaa
open Go.RowKit

theorem nblocks (w : World) : Calls Try.prog 12 #[.pointer none] w fun e w' => e = .returned (.int .i64 0) ∧ w' = w := by
  go_enter Try.func12, Try.ntmps12
  go_wp2
  go_ret
  exact ⟨rfl, rfl⟩
theorem nwaiting (w : World) : Calls Try.prog 26 #[.pointer none] w fun e w' => e = .returned (.int .i64 0) ∧ w' = w := by
  go_enter Try.func26, Try.ntmps26
  go_wp2
  go_ret
  exact ⟨rfl, rfl⟩
theorem ntouched (w : World) : Calls Try.prog 29 #[.pointer none] w fun e w' => e = .returned (.int .i64 0) ∧ w' = w := by
  go_enter Try.func29, Try.ntmps29
  go_wp2
  go_ret
  exact ⟨rfl, rfl⟩
theorem ntrace (w : World) : Calls Try.prog 28 #[.pointer none] w fun e w' => e = .returned (.slice none 0 0) ∧ w' = w := by
  go_enter Try.func28, Try.ntmps28
  go_wp2
  go_ret
  exact ⟨rfl, rfl⟩
theorem natouched (w : World) : Calls Try.prog 35 #[.pointer none] w fun e w' => e = .returned (.int .i64 0) ∧ w' = w := by
  go_enter Try.func35, Try.ntmps35
  go_wp2
  go_ret
  exact ⟨rfl, rfl⟩
theorem natrace (w : World) : Calls Try.prog 34 #[.pointer none] w fun e w' => e = .returned (.slice none 0 0) ∧ w' = w := by
  go_enter Try.func34, Try.ntmps34
  go_wp2
  go_ret
  exact ⟨rfl, rfl⟩
theorem nbarrier (w : World) : Calls Try.prog 20 #[.pointer none] w fun e w' => e = .returned (.tuple #[]) ∧ w' = w := by
  go_enter Try.func20, Try.ntmps20
  go_wp2
  refine bodyPost_ret (results_none rfl _ _ _) rfl ?_
  exact ⟨rfl, rfl⟩
theorem ncrash (v : Value) (w : World) (hv : ∃ A n c, v = .slice A n c) : Calls Try.prog 22 #[.pointer none, v] w fun e w' => e = .returned (.tuple #[]) ∧ Below w.heap.size w w' := by
  obtain ⟨A, n, c, rfl⟩ := hv
  go_enter Try.func22, Try.ntmps22
  go_wp2
  refine bodyPost_ret (results_none rfl _ _ _) rfl ?_
  exact ⟨rfl, (Below.refl _ _).alloc (Nat.le_refl _) _⟩
theorem nhas (z : Int) (w : World) : Calls Try.prog 39 #[.pointer none, .int .i64 z] w fun e w' => e = .returned (.bool false) ∧ w' = w := by
  by_cases h : (0 : Int) ≤ z
  · have h2 : decide (z < (0 : Int)) = false := decide_eq_false (by omega)
    go_enter Try.func39, Try.ntmps39
    go_wp2_with (go_at_call 12; refine (nblocks _).mono ?_; rintro x w1 ⟨rfl, rfl⟩)
    go_ret
    exact ⟨by first | rfl | simp [h2], rfl⟩
  · go_enter Try.func39, Try.ntmps39
    go_wp2
    go_ret
    exact ⟨rfl, rfl⟩
theorem nread (z : Int) (w : World) : Calls Try.prog 13 #[.pointer none, .int .i64 z] w fun e w' => e = .returned (.tuple #[.slice none 0 0, .int .i64 201]) ∧ w' = w := by
  go_enter Try.func13, Try.ntmps13
  go_wp2_with (go_at_call 39; refine (nhas z _).mono ?_; rintro x w1 ⟨rfl, rfl⟩)
  go_ret2
  exact ⟨rfl, rfl⟩
theorem npeek (z : Int) (w : World) : Calls Try.prog 15 #[.pointer none, .int .i64 z] w fun e w' => e = .returned (.tuple #[.slice none 0 0, .int .i64 201]) ∧ w' = w := by
  go_enter Try.func15, Try.ntmps15
  go_wp2_with (go_at_call 39; refine (nhas z _).mono ?_; rintro x w1 ⟨rfl, rfl⟩)
  go_ret2
  exact ⟨rfl, rfl⟩
theorem nwrite (z : Int) (A : Option Addr) (n c : Nat) (w : World) : Calls Try.prog 18 #[.pointer none, .int .i64 z, .slice A n c] w fun e w' => e = .returned (.int .i64 201) ∧ w' = w := by
  go_enter Try.func18, Try.ntmps18
  go_wp2_with (go_at_call 39; refine (nhas z _).mono ?_; rintro x w1 ⟨rfl, rfl⟩)
  go_ret
  exact ⟨rfl, rfl⟩
theorem ntamper (k a n : Int) (A : Option Addr) (m c : Nat) (w : World) : Calls Try.prog 24 #[.pointer none, .agg #[.int .i64 k, .int .i64 a, .int .i64 n, .slice A m c]] w fun e w' => e = .returned (.int .i64 201) ∧ Below w.heap.size w w' := by
  go_enter Try.func24, Try.ntmps24
  go_wp2_with (go_at_call 39; refine (nhas a _).mono ?_; rintro x w1 ⟨rfl, rfl⟩)
  go_ret
  exact ⟨rfl, (Below.refl _ _).alloc (Nat.le_refl _) _⟩
theorem step_store' {P : Program} {ops : Array Oper} {rest : List Oper} {o : Oper} {a : Act} {w : World} {Q : Exit → Act → World → Prop} (hgd : o.guard = none) (ty : TypeId) (x y : Operand) (ho : o.op = .store ty x y) (g : Nat) (hx : a.eval x = .pointer (some ⟨g, 0, none⟩)) (t : TypeId) (old cs : List Value) (cells : Array Value) (hy : a.eval y = .agg cells) (hc : cells = cs.toArray)
    (hr : Row w g t old) (hl : old.length = cs.length) (hi : (P.info? ty).map (·.size) = some cs.length) (h1 : ∀ v ∈ cs, v.oneCell' = true)
    (h : ∀ w', Row w' g t cs → w.grownBy w' (some g) → wpList P ops Q rest (a.put o.dst undef) w') : wpList P ops Q (o :: rest) a w := by
  subst hc
  exact step_store hgd ty x y ho g hx t old cs hy hr hl hi h1 (fun w' k1 k2 _ => h w' k1 k2)
set_option maxRecDepth 20000 in
set_option maxHeartbeats 400000 in
/-- A root that is nothing, told. -/
theorem nget (w : World) : Calls Try.prog 32 #[.pointer none] w fun e w' => e = .returned (.agg (rootC 0).toArray) ∧ Below w.heap.size w w' := by
  have hz : ∀ w : World, (zeroValue 63).run Try.prog w = .ok (.agg (rootC 0).toArray) w := fun w => by kernel_rfl
  have i36 : (Try.prog.info? 63).map (·.size) = some (rootC 0).length := by rw [rootC_len]; exact info_root
  have HZ := Lib.hid hz
  have HI := Lib.hid i36
  clear hz i36
  go_enter Try.func32, Try.ntmps32
  go_wp2_with (first
    | (refine step_alloc rfl 2 rfl 63 rfl (rootC 0) HZ.out ?_; intro g2 w2 hr2 hg2 hb2 hs2
       have HR2 := Lib.hid hr2
       have HB2 := Lib.hid hb2
       have HG2 := Lib.hid (p := w.heap.size ≤ g2) (Nat.le_of_eq hg2.out.symm)
       clear hr2 hg2 hb2 hs2)
    | (refine step_store' rfl 63 (.tmp 2) (.tmp 5) rfl g2 rfl _ (rootC 0) (rootC 0) _ rfl ?_ HR2.out rfl HI.out (rootC_one 0) ?_
       · kernel_rfl
       intro w5 hr5 hg5
       have HR5 := Lib.hid hr5
       have HG5 := Lib.hid hg5
       clear hr5 hg5))
  refine bodyPost_ret (results_cell_row rfl _ _ g2 _ _ _ _ rfl HR5.out Try.underlying63 rfl HI.out) rfl ?_
  exact ⟨rfl, HB2.out.grown HG5.out HB2.out.size (fun k hk => by injection hk with hk; rw [← hk]; exact HG2.out)⟩
end Go.Proofs.Ytnajlineipapdaa
