/- Bytes appended one by one to a row of the call's own, the row told by a function of the place. No conditions but those named. -/
import Derived.Test.YtpobppoaidngeaaRows2
import Derived.Test.YtpobppoaidngeaaChecked
import Derived.WalkKit
import Derived.WalkMore
import Derived.Deep.RegionLaw
import Derived.Deep.AppendLies
set_option linter.unusedVariables false
namespace Go.Proofs.Ytpobppoaidngeaa
open Go.RowKit

theorem info_b8 : (Try.prog.info? 5).map (fun i => (i.zero, i.size, i.bytes)) = some (some (.int .u8 0), 1, 1) := by kernel_rfl
theorem u8_tab : ∃ i, U8 Try.prog 44 5 i := by
  obtain ⟨i, hi, hz, h1, h2⟩ := info_parts info_b8
  exact ⟨i, Try.underlying44, hi, hz, h1, h2⟩
theorem brr_zero (f : Nat → UInt8) : brr 0 f = [] := by unfold brr; rfl
theorem brr_succ (n : Nat) (f : Nat → UInt8) : brr n f ++ bc [f n] = brr (n + 1) f := by
  unfold brr
  rw [List.range_succ, List.map_append]
  rfl
theorem hol_byte {w : World} {g : Nat} {x : UInt8} (h : w.cell? ⟨g, 0, none⟩ = some (B x)) : Hol w (some ⟨g, 0, none⟩) [x] := by
  refine .inr ⟨g, 0, rfl, fun j y hy => ?_⟩
  match j, hy with
  | 0, hy =>
    simp at hy
    subst hy
    exact h
theorem made_byte (w : World) (e : TypeId) (v : Value) : (w.alloc (.cells #[v] e)).cell? ⟨w.heap.size, 0, none⟩ = some v := by simp

section
variable {P : Program} {w : World} {ops : Array Oper} {rest : List Oper} {o : Oper} {a : Act} {Q : Exit → Act → World → Prop} {K : Act → World → Prop} {E : Prop}
/-- One byte appended, in a plain region. -/
theorem wp_one (hgd : o.guard = none) (s x : Operand) (t : TypeId) (ho : o.op = .call { callee := .builtin .append, args := #[s, x], argTypes := #[t, t] })
    (e : TypeId) (i : TypeInfo) (U : U8 P t e i) (base : Nat) (v : Value) (n : Nat) (f : Nat → UInt8) (hs : a.eval s = v) (hown : w.ownsRow base e 1 v n (brr n f))
    (g : Nat) (hx : a.eval x = .slice (some ⟨g, 0, none⟩) 1 1) (hc : w.cell? ⟨g, 0, none⟩ = some (B (f n))) (hn : n ≤ 70368744177664) (hbase : base ≤ w.heap.size)
    (h : ∀ v' w', w'.ownsRow base e 1 v' (n + 1) (brr (n + 1) f) → w.grownBy w' v.ownBlock → (v'.ownBlock = v.ownBlock ∨ v'.ownBlock = some w.heap.size) → wpList P ops Q rest (a.put o.dst v') w') :
    wpList P ops Q (o :: rest) a w :=
  wpList_app w hgd s x t ho e i U base v n _ hs hown (some ⟨g, 0, none⟩) 1 1 [f n] hx rfl (hol_byte hc) (by omega) hbase (fun v' w' h1 h2 h3 => h v' w' (by rw [← brr_succ]; exact h1) h2 h3)
/-- One byte appended, at a step of a region that draws. -/
theorem step_one (hgd : o.guard = none) (s x : Operand) (t : TypeId) (ho : o.op = .call { callee := .builtin .append, args := #[s, x], argTypes := #[t, t] })
    (e : TypeId) (i : TypeInfo) (U : U8 P t e i) (base : Nat) (v : Value) (n : Nat) (f : Nat → UInt8) (hs : a.eval s = v) (hown : w.ownsRow base e 1 v n (brr n f))
    (g : Nat) (hx : a.eval x = .slice (some ⟨g, 0, none⟩) 1 1) (hc : w.cell? ⟨g, 0, none⟩ = some (B (f n))) (hn : n ≤ 70368744177664) (hbase : base ≤ w.heap.size)
    (h : ∀ v' w', w'.ownsRow base e 1 v' (n + 1) (brr (n + 1) f) → w.grownBy w' v.ownBlock → (v'.ownBlock = v.ownBlock ∨ v'.ownBlock = some w.heap.size) → K (a.put o.dst v') w') :
    if Region.wanted o (yielded ops a.tmps) = true then Oper.wp P o a w K Q else E := by
  have hw : Region.wanted o (yielded ops a.tmps) = true := by simp [Region.wanted, hgd]
  rw [if_pos hw]
  obtain ⟨v', w', hr, h2, h3, h4⟩ := run_app (P := P) w t o.type e i U base v n _ hown (some ⟨g, 0, none⟩) 1 1 [f n] rfl (hol_byte hc) (.inr trivial) (by omega) hbase
  unfold Oper.wp execOp
  simp only [ho, resolve, invoke, builtin, Sem.run_bind, Sem.run_pure, Result.andThen_ok, List.map_toArray, List.map_cons, List.map_nil, hs, hx, hr]
  exact h v' w' (by rw [← brr_succ]; exact h2) h3 h4
end
theorem made_brr (n : Nat) : madeCells (Value.int .u8 0).cells (n * 1) = (brr n fun _ => 0).toArray := by
  apply Array.ext'
  apply List.ext_getElem?
  intro j
  have hc : (Value.int IntKind.u8 0).cells = #[Value.int IntKind.u8 0] := rfl
  by_cases h : j < n
  · rw [brr_get _ h]
    simp [madeCells, hc, h, Nat.mod_one, bv]
  · rw [brr_none _ (by omega)]
    simp [madeCells, hc]
    omega
/-- A row of bytes 0, made. -/
theorem step_make {P : Program} {w : World} {ops : Array Oper} {rest : List Oper} {o : Oper} {a : Act} {Q : Exit → Act → World → Prop} (hg : o.guard = none) (l c : Operand) (t e : TypeId) (i : TypeInfo) (U : U8 P t e i) (hop : o.op = Op.makeSlice t l c)
    (n : Nat) (hl : a.eval l = .int .i64 n) (hc : a.eval c = .int .i64 n) (hn : n ≤ 70368744177664)
    (h : ∀ g w', _root_.Go.Proofs.Ytpobppoaidngeaa.Row w' g e (brr n fun _ => 0) → Hid (g = w.heap.size) → Below w.heap.size w w' → Hid (w'.heap.size = w.heap.size + 1) → wpList P ops Q rest (a.put o.dst (.slice (some ⟨g, 0, none⟩) n n)) w') :
    wpList P ops Q (o :: rest) a w := by
  refine wpList_plain hg fun K hK' => ?_
  have hr := run_make (P := P) w t e i (.int .u8 0) U.ht U.hi U.hz .i64 .i64 n n (by omega) (Int.le_refl _) (by rw [U.h2]; omega) (by omega)
  simp only [Int.toNat_natCast, U.h1] at hr
  rw [made_brr] at hr
  unfold Oper.wp
  simp [execOp, hop, hl, hc, hr, Result.andThen]
  exact hK' _ _ (h _ _ (Row.made w e _) (show _ = _ from rfl) ((Below.refl _ _).alloc (Nat.le_refl _) _) (show _ = _ by simp))
/-- A row of bytes owned from base on lies where its value says. -/
theorem own_range {w : World} {base : Nat} {e : TypeId} {g off n m cap : Nat} {f : Nat → UInt8} (h : w.ownsRow base e 1 (.slice (some ⟨g, off, none⟩) m cap) n (brr n f)) {j : Nat} (hj : j < n) : off = 0 ∧ w.cell? ⟨g, j, none⟩ = some (B (f j)) := by
  rcases h.2 with ⟨h1, h2⟩ | ⟨g', cap', cur, h1, hb, hg, hn, hc, hs, ht⟩
  · simp at h1
  · simp only [Value.slice.injEq, Option.some.injEq, Addr.mk.injEq] at h1
    obtain ⟨⟨rfl, rfl, _⟩, _, _⟩ := h1
    refine ⟨rfl, ?_⟩
    have := h.cells (g := g) rfl j _ (brr_get f hj)
    rw [show (⟨g, j, none⟩ : Addr) = (⟨g, 0, none⟩ : Addr).add j by unfold Addr.add; split <;> simp_all]
    exact this
end Go.Proofs.Ytpobppoaidngeaa
