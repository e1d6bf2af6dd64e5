/- The reference's disk: New. No conditions but those named. -/
import Derived.Test.YtnajlineipapdaaDwrite
import Derived.Test.YtnajlineipapdaaPWrite
set_option linter.unusedVariables false
namespace Go.Proofs.Ytnajlineipapdaa
open Go.RowKit

section
variable {b : Nat} {w : World} {g : Nat} {v1 v2 v3 v4 : Value} {ss : List BV} {rs al : List (Nat × BV)} {ts : List (Int × Int × BV)}
/-- A block more. -/
theorem RDisk.block1 {w2 : World} {v : Value} (h : RDisk b w g v1 v2 v3 v4 ss rs al ts) (x : BV) (hx : Own8 b w x ∧ x.l.length = 256) (hr : w2.ownsRow b 32 1 v (ss.length + 1) (ss.flatMap sc ++ sc x)) (hg : w.grownBy w2 v1.ownBlock) :
    RDisk b (w2.setCell ⟨g, 0, none⟩ v) g v v2 v3 v4 (ss ++ [x]) rs al ts := by
  have hc2 : Row w2 g 49 [v1, v2, v3, v4] := h.cells.grown hg (fun e => h.ne.1 e.symm)
  refine ⟨hc2.put 0 v, ?_, ?_, ?_, ?_, h.sep, h.lo, ?_, ?_, ?_, ?_⟩
  · rw [flat_snoc, List.length_append]
    exact own_put hr hc2 (by decide) v
  · exact own_put (h.o2.kept hg (own_parted h.o2 h.o1 (by decide))) hc2 (by decide) v
  · exact own_put (h.o3.kept hg (own_parted h.o3 h.o1 (by decide))) hc2 (by decide) v
  · exact own_put (h.o4.kept hg (own_parted h.o4 h.o1 (by decide))) hc2 (by decide) v
  · intro y hy
    rcases List.mem_append.1 hy with hy | hy
    · exact ⟨((h.m1 y hy).1.grownBy hg h.o1 (by decide)).put hc2 (by decide) v, (h.m1 y hy).2⟩
    · simp at hy
      subst hy
      exact ⟨(hx.1.grownBy hg h.o1 (by decide)).put hc2 (by decide) v, hx.2⟩
  · exact fun p hp => ⟨((h.m2 p hp).1.grownBy hg h.o1 (by decide)).put hc2 (by decide) v, (h.m2 p hp).2.1, by rw [List.length_append]; have := (h.m2 p hp).2.2; omega⟩
  · exact fun p hp => ⟨((h.m3 p hp).1.grownBy hg h.o1 (by decide)).put hc2 (by decide) v, (h.m3 p hp).2.1, by rw [List.length_append]; have := (h.m3 p hp).2.2; omega⟩
  · exact fun t ht => ((h.m4 t ht).grownBy hg h.o1 (by decide)).put hc2 (by decide) v
end
/-- A row of bytes 0, made at a step of a region that draws. -/
theorem step_make_d {P : Program} {w : World} {ops : Array Oper} {o : Oper} {a : Act} {K : Act → World → Prop} {Q : Exit → Act → World → Prop} {E : Prop} (hgd : o.guard = none) (l c : Operand) (t e : TypeId) (i : TypeInfo) (U : U8 P t e i) (hop : o.op = Op.makeSlice t l c)
    (n : Nat) (hl : a.eval l = .int .i64 n) (hc : a.eval c = .int .i64 n) (hn : n ≤ 70368744177664)
    (h : ∀ g w', _root_.Go.Proofs.Ytnajlineipapdaa.Row w' g e (brr n fun _ => 0) → Hid (g = w.heap.size) → Below w.heap.size w w' → Hid (w'.heap.size = w.heap.size + 1) → K (a.put o.dst (.slice (some ⟨g, 0, none⟩) n n)) w') :
    if Region.wanted o (yielded ops a.tmps) = true then Oper.wp P o a w K Q else E := by
  have hw : Region.wanted o (yielded ops a.tmps) = true := by simp [Region.wanted, hgd]
  rw [if_pos hw]
  have hr := run_make (P := P) w t e i (.int .u8 0) U.ht U.hi U.hz .i64 .i64 n n (by omega) (Int.le_refl _) (by rw [U.h2]; omega) (by omega)
  simp only [Int.toNat_natCast, U.h1] at hr
  rw [made_brr] at hr
  unfold Oper.wp
  simp [execOp, hop, hl, hc, hr, Result.andThen]
  exact h _ _ (Row.made w e _) (show _ = _ from rfl) ((Below.refl _ _).alloc (Nat.le_refl _) _) (show _ = _ by simp)
end Go.Proofs.Ytnajlineipapdaa
