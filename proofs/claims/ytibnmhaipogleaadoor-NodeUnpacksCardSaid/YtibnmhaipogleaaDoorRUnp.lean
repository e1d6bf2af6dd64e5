/- A block's four records, by the reference: what the call leaves, for every block. Conditions: those named. -/
import Derived.Test.YtibnmhaipogleaaDoorRUnpP
set_option linter.unusedVariables false
set_option maxRecDepth 20000
namespace Go.Proofs.YtibnmhaipogleaaDoor
open Go.RowKit

theorem hol_sub {w : World} {g o : Nat} {l : List UInt8} (h : Hol w (some ⟨g, o, none⟩) l) (i n : Nat) : Hol w (some ⟨g, o + i, none⟩) ((l.drop i).take n) := by
  rcases h with rfl | ⟨g', o', e, hc⟩
  · exact .inl (by simp)
  · injection e with e
    injection e with e1 e2
    subst e1 e2
    refine .inr ⟨g, o + i, rfl, fun j x hx => ?_⟩
    rw [List.getElem?_take] at hx
    split at hx
    · rw [List.getElem?_drop] at hx
      have := hc (i + j) x hx
      rwa [← Nat.add_assoc] at this
    · cases hx
theorem rnum_of (A : Option Addr) (n c k : Nat) (l : List UInt8) (hk : l.length = k) (hn : k ≤ n) (w : World) (hA : Hol w A l) (hl : k ≤ 8) :
    Calls Tryd.prog 34 #[.slice A n c, .int .i64 k] w fun e w' => e = .returned (.int .u64 (num l : Nat)) ∧ w = w' := by
  subst hk
  exact rnumk_any A n c l hn w hA hl
section
variable {P : Program} {ops : Array Oper} {rest : List Oper} {o : Oper} {a : Act} {w : World} {Q : Exit → Act → World → Prop}
/-- A slice cut at both ends. -/
theorem step_cut2 (hgd : o.guard = none) (t : TypeId) (x y z : Operand) (ho : o.op = .slice t x (some y) (some z) none) (g off n c l h m cc : Nat) (zl zh : Int) (hx : a.eval x = .slice (some ⟨g, off, none⟩) n c) (hy : a.eval y = .int .i64 zl) (hz : a.eval z = .int .i64 zh) (hzl : zl = (l : Int)) (hzh : zh = (h : Int)) (hlh : l ≤ h) (hhc : h ≤ c) (hlc : l < c) (hm : h - l = m) (hcc : c - l = cc)
    (hu : P.underlying t = some (.slice (P.elem t))) (hs : (P.info? (P.elem t)).map (·.size) = some 1) (hK : wpList P ops Q rest (a.put o.dst (.slice (some ⟨g, off + l, none⟩) m cc)) w) : wpList P ops Q (o :: rest) a w := by
  subst hzl hzh hm hcc
  refine wpList_plain hgd fun K hK' => ?_
  have hr : (Instr.sliceAt t (.slice (some ⟨g, off, none⟩) n c) (some (.int .i64 (l : Int))) (some (.int .i64 (h : Int))) none).run P w = .ok (.slice (some ⟨g, off + l, none⟩) (h - l) (c - l)) w := by
    rw [run_sliceAt_slice w _ _ _ _ _ hu, run_slice_lh w _ _ _ _ hu .i64 .i64 _ _ (by omega) (by omega) (by omega), size_of hs]
    have h1 : ¬ c = l := by omega
    simp only [Result.andThen_ok, sliced, Int.toNat_natCast, Nat.mul_one, if_neg h1, Option.map_some, Addr.add_lit]
  unfold Oper.wp execOp
  simp only [ho, hx, hy, hz, Option.map_some, Option.map_none, Sem.run_bind, hr, Result.andThen_ok]
  exact hK' _ _ hK
/-- A slice cut at its head. -/
theorem step_cut1 (hgd : o.guard = none) (t : TypeId) (x y : Operand) (ho : o.op = .slice t x (some y) none none) (g off n c l m cc : Nat) (zl : Int) (hx : a.eval x = .slice (some ⟨g, off, none⟩) n c) (hy : a.eval y = .int .i64 zl) (hzl : zl = (l : Int)) (hln : l ≤ n) (hlc : l < c) (hm : n - l = m) (hcc : c - l = cc)
    (hu : P.underlying t = some (.slice (P.elem t))) (hs : (P.info? (P.elem t)).map (·.size) = some 1) (hK : wpList P ops Q rest (a.put o.dst (.slice (some ⟨g, off + l, none⟩) m cc)) w) : wpList P ops Q (o :: rest) a w := by
  subst hzl hm hcc
  refine wpList_plain hgd fun K hK' => ?_
  have hr : (Instr.sliceAt t (.slice (some ⟨g, off, none⟩) n c) (some (.int .i64 (l : Int))) none none).run P w = .ok (.slice (some ⟨g, off + l, none⟩) (n - l) (c - l)) w := by
    rw [run_sliceAt_slice w _ _ _ _ _ hu, run_slice_l w _ _ _ _ hu .i64 _ (by omega) (by omega), size_of hs]
    have h1 : ¬ c = l := by omega
    simp only [Result.andThen_ok, sliced, Int.toNat_natCast, Nat.mul_one, if_neg h1, Option.map_some, Addr.add_lit]
  unfold Oper.wp execOp
  simp only [ho, hx, hy, Option.map_some, Option.map_none, Sem.run_bind, hr, Result.andThen_ok]
  exact hK' _ _ hK
end
/-- Where the reading stands. -/
structure RU (w0 w : World) (g2 g4 g5 : Nat) (C0 C5 : List Value) : Prop where
  r2 : Row w g2 27 C0
  r4 : Row w g4 27 C0
  r5 : Row w g5 27 C5
  n : g2 < g4 ∧ g4 < g5
  q : w0.heap.size ≤ g2
  b : Below w0.heap.size w0 w
theorem RU.kept {w0 w w' : World} {g2 g4 g5 : Nat} {C0 C5 : List Value} (h : RU w0 w g2 g4 g5 C0 C5) (hb : Below w.heap.size w w') : RU w0 w' g2 g4 g5 C0 C5 :=
  ⟨h.r2.kept hb, h.r4.kept hb, h.r5.kept hb, h.n, h.q, h.b.trans (hb.mono h.b.size)⟩
theorem RU.put {w0 w : World} {g2 g4 g5 : Nat} {C0 C5 : List Value} (h : RU w0 w g2 g4 g5 C0 C5) (i : Nat) (v : Value) (C6 : List Value) (e : C5.set i v = C6) : RU w0 (w.setCell ⟨g5, i, none⟩ v) g2 g4 g5 C0 C6 :=
  ⟨h.r2.far (by show g2 ≠ g5; have := h.n; omega) v, h.r4.far (by show g4 ≠ g5; have := h.n; omega) v, by rw [← e]; exact h.r5.put i v, h.n, h.q, h.b.setCell (by show w0.heap.size ≤ g5; have := h.n; have := h.q; omega) v⟩
theorem RU.drewN {w0 w : World} {g2 g4 g5 : Nat} {C0 C5 : List Value} (h : RU w0 w g2 g4 g5 C0 C5) (k : Nat) : RU w0 (w.drewN k) g2 g4 g5 C0 C5 :=
  ⟨h.r2.drewN k, h.r4.drewN k, h.r5.drewN k, h.n, h.q, below_drewN h.b k⟩
/-- The first records, one on its way, the others none. -/
def stR (R : Nat → RecV) (k : Nat) (r : RecV) : Nat → RecV := fun j => if j = k then r else upR R k j
theorem stR_self (R : Nat → RecV) (k : Nat) (r : RecV) : stR R k r k = r := if_pos rfl
theorem stR_start (R : Nat → RecV) (k : Nat) : recsC (upR R k) = recsC (stR R k rec0) := recsC_congr fun j _ => by
  unfold stR
  by_cases h : j = k
  · rw [if_pos h, h]
    unfold upR
    rw [if_neg (by omega)]
  · rw [if_neg h]
theorem stR_cs (R : Nat → RecV) (k : Nat) {r r' : RecV} (h : r.cs = r'.cs) : recsC (stR R k r) = recsC (stR R k r') := by
  unfold recsC stR
  have e : ∀ j, (if j = k then r else upR R k j).cs = (if j = k then r' else upR R k j).cs := fun j => by
    by_cases hj : j = k
    · rw [if_pos hj, if_pos hj, h]
    · rw [if_neg hj, if_neg hj]
  rw [e 0, e 1, e 2, e 3]
theorem stR_end (R : Nat → RecV) (k : Nat) {r : RecV} (h : r.cs = (R k).cs) : recsC (stR R k r) = recsC (upR R (k + 1)) := by
  rw [stR_cs R k h]
  exact upR_step R k
theorem stR_cell (R : Nat → RecV) (k i : Nat) (hk : k < 4) (hi : i < 35) (v : Value) (r r' : RecV) (h : r.cs.set i v = r'.cs) : (recsC (stR R k r)).set (k * 35 + i) v = recsC (stR R k r') := by
  rw [recsC_cell (stR R k r) k i hk hi v r' (by rw [stR_self]; exact h)]
  refine recsC_congr fun j _ => ?_
  unfold stR
  by_cases h : j = k
  · rw [if_pos h, if_pos h]
  · rw [if_neg h, if_neg h, if_neg h]
theorem stR_get {w : World} {g : Nat} {t : TypeId} {R : Nat → RecV} {k : Nat} {r : RecV} (h : Row w g t (recsC (stR R k r))) (hk : k < 4) : w.rangeAt g (k * 35) r.cs := by
  have := recs_range h k hk
  rwa [stR_self] at this
end Go.Proofs.YtibnmhaipogleaaDoor
