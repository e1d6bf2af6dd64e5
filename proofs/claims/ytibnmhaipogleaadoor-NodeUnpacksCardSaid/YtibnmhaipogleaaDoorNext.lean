/- The record that is read by asking a cursor, by package node: what the call leaves. Conditions: its bytes are there. -/
import Derived.Test.YtibnmhaipogleaaDoorPackP
import Derived.Test.YtibnmhaipogleaaDoorCur
import Derived.Test.YtibnmhaipogleaaDoorRPack
set_option linter.unusedVariables false
set_option maxRecDepth 20000
namespace Go.Proofs.YtibnmhaipogleaaDoor
open Go.RowKit

/-- The record that bytes are. -/
def recOf (l : List UInt8) : RecV := ⟨(num (l.take 2) : Nat), num ((l.drop 2).take 4), num ((l.drop 6).take 4), fun i => l.getD (10 + i) 0⟩
theorem num_take_lt (l : List UInt8) (k : Nat) : num (l.take k) < 256 ^ k := by
  have h := num_lt (l.take k)
  have h2 : (l.take k).length ≤ k := by simp; omega
  exact Nat.lt_of_lt_of_le h (Nat.pow_le_pow_right (by decide) h2)
theorem recOf_ok (l : List UInt8) : (recOf l).Ok := ⟨num_take_lt (l.drop 2) 4, num_take_lt (l.drop 6) 4⟩
theorem nnx_in {n : Nat} {l : List UInt8} (bad : Bool) (hw : wid (n : Int) ≠ 0) (h : n ≤ l.length) : nnx (n : Int) l bad = (l.take n, l.drop n, bad) := by
  unfold nnx nxt
  rw [if_neg hw, if_neg (by omega), Int.toNat_natCast]
theorem nxt_in {n : Nat} {l : List UInt8} (bad : Bool) (h : n ≤ l.length) : nxt (n : Int) l bad = (l.take n, l.drop n, bad) := by
  unfold nxt
  rw [if_neg (by omega), Int.toNat_natCast]
theorem num2_at (g : Nat) (l : List UInt8) (bad : Bool) (w : World) (hc : Cur w g l bad) (h2 : 2 ≤ l.length) (hl : l.length ≤ 256) :
    Calls Tryd.prog 31 #[.pointer (some ⟨g, 0, none⟩), .int .i64 2] w fun e w' => e = .returned (.int .u64 (num (l.take 2) : Nat)) ∧ Hid (Cur w' g (l.drop 2) bad) ∧ Hid (w.grownBy w' (some g)) := by
  refine (num_any g l bad 2 w hc (by omega)).mono ?_
  rintro e w' ⟨h1, h2', h3⟩
  rw [show ((2 : Int)) = ((2 : Nat) : Int) from rfl, nnx_in bad (by decide) h2] at h1 h2'
  exact ⟨h1, h2', h3⟩
theorem num4_at (g : Nat) (l : List UInt8) (bad : Bool) (w : World) (hc : Cur w g l bad) (h2 : 4 ≤ l.length) (hl : l.length ≤ 256) :
    Calls Tryd.prog 31 #[.pointer (some ⟨g, 0, none⟩), .int .i64 4] w fun e w' => e = .returned (.int .u64 (num (l.take 4) : Nat)) ∧ Hid (Cur w' g (l.drop 4) bad) ∧ Hid (w.grownBy w' (some g)) := by
  refine (num_any g l bad 4 w hc (by omega)).mono ?_
  rintro e w' ⟨h1, h2', h3⟩
  rw [show ((4 : Int)) = ((4 : Nat) : Int) from rfl, nnx_in bad (by decide) h2] at h1 h2'
  exact ⟨h1, h2', h3⟩
theorem take32_at (g : Nat) (l : List UInt8) (bad : Bool) (w : World) (hc : Cur w g l bad) (h2 : 32 ≤ l.length) (hl : l.length ≤ 256) :
    Calls Tryd.prog 32 #[.pointer (some ⟨g, 0, none⟩), .int .i64 32] w fun e w' => ∃ A c, e = .returned (.slice A 32 c) ∧ Hid (Hol w' A (l.take 32)) ∧ Hid (∀ ad, A = some ad → w.heap.size ≤ ad.block) ∧ Hid (Cur w' g (l.drop 32) bad) ∧ Hid (w.grownBy w' (some g)) := by
  refine (take_any g l bad 32 w hc (by omega)).mono ?_
  rintro e w' ⟨v, h1, h2', h3, h4⟩
  rw [show ((32 : Int)) = ((32 : Nat) : Int) from rfl, nxt_in bad h2] at h2' h3
  have ho : w'.ownsRow w.heap.size 5 1 v 32 (bc (l.take 32)) := by
    have e32 : (l.take 32).length = 32 := by simp; omega
    have h5 : w'.ownsRow w.heap.size 5 1 v (l.take 32).length (bc (l.take 32)) := h2'
    rwa [e32] at h5
  obtain ⟨A, c, rfl⟩ := own_sl ho
  exact ⟨A, c, h1, Hol.own ho, fun ad hd => (ho.lt ad.block (by rw [hd]; rfl)).1, h3, h4⟩
/-- Where the call stands: the record so far, the result's room, the cursor. -/
structure NX (w0 w : World) (g g4 g5 : Nat) (r : RecV) (l : List UInt8) (bad : Bool) : Prop where
  r5 : Row w g5 26 r.cs
  r4 : Row w g4 26 rec0.cs
  cur : Cur w g l bad
  n : g < g4 ∧ g4 < g5
  q : w0.heap.size ≤ g4
  b : w0.grownBy w (some g)
theorem NX.turn {w0 w w' : World} {g g4 g5 : Nat} {r : RecV} {l l' : List UInt8} {bad : Bool} (h : NX w0 w g g4 g5 r l bad) (hc : Cur w' g l' bad) (hg : w.grownBy w' (some g)) : NX w0 w' g g4 g5 r l' bad :=
  ⟨h.r5.grown hg (fun e => by injection e with e; have := h.n; omega), h.r4.grown hg (fun e => by injection e with e; have := h.n; omega), hc, h.n, h.q, grown_trans h.b hg⟩
theorem NX.far {w0 w w' : World} {g g4 g5 : Nat} {r r' : RecV} {l : List UInt8} {bad : Bool} (h : NX w0 w g g4 g5 r l bad) (hr : Row w' g5 26 r'.cs) (hg : w.grownBy w' (some g5)) : NX w0 w' g g4 g5 r' l bad :=
  ⟨hr, h.r4.grown hg (fun e => by injection e with e; have := h.n; omega), h.cur.grown hg (fun e => by injection e with e; have := h.n; omega) (fun k hk cs e => by
    injection hk with hk
    subst hk
    have h5 := h.r5
    unfold Row at h5
    rw [h5] at e
    injection e with e
    injection e with _ e
    exact absurd e (by decide)), h.n, h.q, ⟨hg.os.trans h.b.os, hg.tape.trans h.b.tape, hg.output.trans h.b.output, Nat.le_trans h.b.size hg.size, fun k hk hne => (hg.block k (Nat.lt_of_lt_of_le hk h.b.size) (fun e => by injection e with e; have := h.n; have := h.q; omega)).trans (h.b.block k hk hne)⟩⟩
theorem NX.put {w0 w : World} {g g4 g5 : Nat} {r : RecV} {l : List UInt8} {bad : Bool} (h : NX w0 w g g4 g5 r l bad) (i : Nat) (v : Value) (r' : RecV) (e : r.cs.set i v = r'.cs) : NX w0 (w.setCell ⟨g5, i, none⟩ v) g g4 g5 r' l bad :=
  h.far (by rw [← e]; exact h.r5.put i v) (grown_set w ⟨g5, i, none⟩ v)
theorem NX.drew {w0 w : World} {g g4 g5 : Nat} {r : RecV} {l : List UInt8} {bad : Bool} (h : NX w0 w g g4 g5 r l bad) : NX w0 w.drew g g4 g5 r l bad :=
  h.turn (h.cur.below (below_draw w)) (grown_of_below (below_draw w))
/-- A digest copied into a record. -/
theorem step_sum {P : Program} {w : World} {ops : Array Oper} {op : Oper} {a : Act} {Q : Exit → Act → World → Prop} {K : Act → World → Prop} {E : Prop} (hgd : op.guard = none) (d s : Operand) (dT sT : TypeId) (ho : op.op = .call { callee := .builtin .copy, args := #[d, s], argTypes := #[dT, sT] })
    (e : TypeId) (hu : P.underlying dT = some (.slice e)) (hs : (P.info? e).map (·.size) = some 1) (g : Nat) (t : TypeId) (r : RecV) (hd : a.eval d = .slice (some ⟨g, 3, none⟩) 32 32) (hr : _root_.Go.Proofs.YtibnmhaipogleaaDoor.Row w g t r.cs)
    (A : Option Addr) (c : Nat) (l : List UInt8) (hx : a.eval s = .slice A 32 c) (hl : l.length = 32) (hA : Hol w A l)
    (h : ∀ w' k, _root_.Go.Proofs.YtibnmhaipogleaaDoor.Row w' g t (RecV.cs ⟨r.a, r.e, r.s, fun i => l.getD i 0⟩) → w.grownBy w' (some g) → K (a.put op.dst (goInt k)) w') :
    if Region.wanted op (yielded ops a.tmps) = true then Oper.wp P op a w K Q else E := by
  have hw : Region.wanted op (yielded ops a.tmps) = true := by simp [Region.wanted, hgd]
  rw [if_pos hw]
  obtain ⟨ga, off, rfl, _, hcell⟩ := hA.some_ (by omega)
  have hrun := run_copy_row (P := P) w dT sT op.type e g 3 32 32 ⟨ga, off, none⟩ 32 c r.cs.toArray t (bc l) hu hs hr (by rw [bc_len, hl]; rfl) (fun j v hv => by
    obtain ⟨x, hx, rfl⟩ := bc_get hv
    rw [show (⟨ga, off, none⟩ : Addr).add j = ⟨ga, off + j, none⟩ by unfold Addr.add; split <;> simp_all]
    exact hcell j x hx) (by rw [bc_len, hl]; simp [RecV.cs_len]) (bc_one _)
  have e1 : r.cs.take 3 ++ bc l ++ r.cs.drop (3 + (bc l).length) = RecV.cs ⟨r.a, r.e, r.s, fun i => l.getD i 0⟩ := by
    have e2 : bc l = brr 32 (fun i => l.getD i 0) := by
      rw [lst_bc, lst_eq hl (fun j _ => rfl)]
    have e3 : r.cs.drop (3 + (bc l).length) = [] := List.drop_eq_nil_of_le (by rw [r.cs_len, bc_len, hl]; exact Nat.le_refl _)
    rw [e3, List.append_nil, e2]
    rfl
  have e4 : r.cs.toArray.toList = r.cs := rfl
  rw [e4, e1] at hrun
  unfold Oper.wp execOp
  simp only [ho, resolve, invoke, builtin, Sem.run_bind, Sem.run_pure, Result.andThen_ok, List.map_toArray, List.map_cons, List.map_nil, hd, hx, hrun]
  exact h _ _ (setRow_heap w g _ _ t _ hr) ⟨rfl, rfl, rfl, by simp, fun k hk hne => setRow_other w g k _ (fun e => hne (by rw [e]))⟩
end Go.Proofs.YtibnmhaipogleaaDoor
