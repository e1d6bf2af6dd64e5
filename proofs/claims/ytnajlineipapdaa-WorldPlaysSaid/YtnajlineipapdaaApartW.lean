/- The law WorldApart, walked: what is done to one block changes no other. Conditions: those on how the argument lies. -/
import Derived.Test.YtnajlineipapdaaSafe
import Derived.Test.YtnajlineipapdaaMgPlain
import Derived.Test.YtnajlineipapdaaMgBin
import Derived.Test.YtnajlineipapdaaAwakeD
set_option linter.unusedVariables false
namespace Go.Proofs.Ytnajlineipapdaa
open Go.RowKit

theorem holV_lt {w : World} {K : Option Addr} {vs : List Value} (h : HolV w K vs) : ∀ g0 o, K = some ⟨g0, o, none⟩ → vs ≠ [] → g0 < w.heap.size := fun g0 o e hne => by
  rcases h with h | ⟨g1, o1, e1, hc⟩
  · exact absurd h hne
  · rw [e] at e1
    injection e1 with e1
    injection e1 with e1 e2
    subst e1
    cases vs with
    | nil => exact absurd rfl hne
    | cons v t => exact World.block_lt_of_cell? w _ (hc 0 v rfl)
theorem Fine.read {ss : List BV} {rs : List (Nat × BV)} {ts : List (Int × Int × BV)} {m t : Nat} (h : Fine ss rs ts m t) (y : Int × Int × BV) : Fine ss rs (ts ++ [y]) m (t + 1) :=
  ⟨h.len, h.three, h.no, h.few, by rw [List.length_append]; have := h.touched; simp; omega⟩
theorem hol_three (w : World) : Hol (w.alloc (.cells #[.int .u8 3] 5)) (some ⟨w.heap.size, 0, none⟩) [3] := by
  refine .inr ⟨w.heap.size, 0, rfl, fun j x hx => ?_⟩
  cases j with
  | zero =>
    simp at hx
    subst hx
    simp
  | succ j => simp at hx
theorem lit_max {n : Int} (h : (Lit.int .i64 n).wf = true) : n ≤ 9223372036854775807 := by
  simp [Lit.wf, IntKind.min, IntKind.max, IntKind.bits, IntKind.signed] at h
  omega
theorem dc_one (d : DoV) : ∀ v ∈ dc d, v.oneCell' = true := by
  intro v hv
  simp [dc] at hv
  rcases hv with rfl | rfl | rfl | rfl | rfl | rfl | rfl | rfl | rfl <;> rfl
/-- A step's bytes, its cells spelled out. -/
theorem dobytes_at (d : DoV) (k a ta : Int) (w : World) (hb : Hol w d.A d.l) (hl : d.l.length ≤ 9223372036854775807) :
    Calls Try.prog 17 #[.agg #[.int .i64 k, .int .i64 a, .slice d.A d.l.length d.c, .bool d.odd, .slice d.KA d.kl.length d.kc, .int .i64 d.tk, .int .i64 ta, .int .i64 d.tn, .slice d.TA d.tl.length d.tcap]] w fun e w' => ∃ y : BV, e = .returned (.slice y.A y.l.length y.c) ∧ Hid (y.l = dol d) ∧ Hid (Hol w' y.A y.l) ∧ Hid (Below w.heap.size w w') :=
  dobytes_any { d with k := k, a := a, ta := ta } w hb hl
/-- A step, zero. -/
def dz : List Value := [.int .i64 0, .int .i64 0, .slice none 0 0, .bool false, .slice none 0 0, .int .i64 0, .int .i64 0, .int .i64 0, .slice none 0 0]
theorem dz_zero (w : World) : (zeroValue 37).run Try.prog w = .ok (.agg dz.toArray) w := by kernel_rfl
theorem info_do : (Try.prog.info? 37).map (·.size) = some 9 := by kernel_rfl
end Go.Proofs.Ytnajlineipapdaa
