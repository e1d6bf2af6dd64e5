/- The reference's inode of a block: what its loops need. Conditions: those named. -/
import Derived.Test.YtpmldaoligmkaaaJd
import Derived.Test.YtpmldaoligmkaaaRNum
import Derived.Test.YtpmldaoligmkaaaIf
set_option linter.unusedVariables false
set_option maxRecDepth 20000
namespace Go.Proofs.Ytpmldaoligmkaaa
open Go.RowKit

theorem hol_sub {w : World} {g o : Nat} {l : List UInt8} (h : Hol w (some ⟨g, o, none⟩) l) (i n : Nat) : Hol w (some ⟨g, o + i, none⟩) ((l.drop i).take n) := by
  rcases h with rfl | ⟨g', o', e, hc⟩
  · exact .inl (by simp)
  · injection e with e
    injection e with e1 e2
    subst e1 e2
    refine .inr ⟨g, o + i, rfl, fun j x hx => ?_⟩
    rw [List.getElem?_take] at hx
    split at hx
    · rw [List.getElem?_drop] at hx
      have := hc (i + j) x hx
      rwa [← Nat.add_assoc] at this
    · cases hx
section
variable {P : Program} {ops : Array Oper} {o : Oper} {a : Act} {w : World} {Q : Exit → Act → World → Prop} {K : Act → World → Prop} {E : Prop}
theorem st_alloc (hw : Region.wanted o (yielded ops a.tmps) = true) (t : TypeId) (ho : o.op = .alloc t) (cs : List Value) (hz : ∀ w : World, (zeroValue t).run P w = .ok (.agg cs.toArray) w)
    (h : ∀ g w', Row w' g t cs → Hid (g = w.heap.size) → Below w.heap.size w w' → K (a.put o.dst (.pointer (some ⟨g, 0, none⟩))) w') : if Region.wanted o (yielded ops a.tmps) = true then Oper.wp P o a w K Q else E := by
  rw [if_pos hw]
  unfold Oper.wp execOp
  simp only [ho]
  simp [Instr.alloc, hz, newVar, go_sem]
  exact h _ _ (Row.made w t cs) (show _ = _ from rfl) ((Below.refl _ _).alloc (Nat.le_refl _) _)
theorem st_store (hw : Region.wanted o (yielded ops a.tmps) = true) (ty : TypeId) (x y : Operand) (ho : o.op = .store ty x y) (g : Nat) (hx : a.eval x = .pointer (some ⟨g, 0, none⟩)) (t : TypeId) (old cs : List Value) (hy : a.eval y = .agg cs.toArray)
    (hr : Row w g t old) (hl : old.length = cs.length) (hi : (P.info? ty).map (·.size) = some cs.length) (h1 : ∀ v ∈ cs, v.oneCell' = true)
    (h : ∀ w', Row w' g t cs → w.grownBy w' (some g) → K (a.put o.dst undef) w') : if Region.wanted o (yielded ops a.tmps) = true then Oper.wp P o a w K Q else E := by
  rw [if_pos hw]
  refine wp_store_row ty x y ho g cs.toArray hx hy t old.toArray hr (by simpa using hi) (by simpa using hl) (all_oneCell_toArray h1) ?_
  exact h _ (setRow_heap w g _ _ t _ hr) ⟨rfl, rfl, rfl, by simp, fun k hk hne => setRow_other w g k _ (fun e => hne (by rw [e]))⟩
end
theorem run_build_op {P : Program} (w : World) {a : Act} (o : Oper) (t : TypeId) (parts : Array (Nat × Operand)) (ho : o.op = .build t parts) (vs : List (Nat × Value)) (hv : (parts.map fun (i, x) => (i, a.eval x)).toList = vs) (cells : Array Value) (hb : P.built t vs = some cells) : (execOp a.eval o).run P w = .ok (.value (.agg cells)) w := by
  subst hv
  unfold execOp
  simp only [ho, Sem.run_bind, run_build w t _ cells hb, Result.andThen_ok]
  rfl
theorem run_cut_op {P : Program} (w : World) {a : Act} (o : Oper) (t : TypeId) (x y : Operand) (ho : o.op = .slice t x (some y) none none) (g off n c l m cc : Nat) (zl : Int) (hx : a.eval x = .slice (some ⟨g, off, none⟩) n c) (hy : a.eval y = .int .i64 zl) (hzl : zl = (l : Int)) (hln : l ≤ n) (hlc : l < c) (hm : n - l = m) (hcc : c - l = cc)
    (hu : P.underlying t = some (.slice (P.elem t))) (hs : (P.info? (P.elem t)).map (·.size) = some 1) : (execOp a.eval o).run P w = .ok (.value (.slice (some ⟨g, off + l, none⟩) m cc)) w := by
  subst hzl hm hcc
  have hr : (Instr.sliceAt t (.slice (some ⟨g, off, none⟩) n c) (some (.int .i64 (l : Int))) none none).run P w = .ok (.slice (some ⟨g, off + l, none⟩) (n - l) (c - l)) w := by
    rw [run_sliceAt_slice w _ _ _ _ _ hu, run_slice_l w _ _ _ _ hu .i64 _ (by omega) (by omega), size_of hs]
    have h1 : ¬ c = l := by omega
    simp only [Result.andThen_ok, sliced, Int.toNat_natCast, Nat.mul_one, if_neg h1, Option.map_some, Addr.add_lit]
  unfold execOp
  simp only [ho, hx, hy, Option.map_some, Option.map_none, Sem.run_bind, hr, Result.andThen_ok]
  rfl
theorem rnum_cut (ga oa n c k s : Nat) (L : List UInt8) (hL : L.length = 256) (p : Nat) (hp : p + s ≤ 256) (hs : s ≤ 8) (hn : 256 - p ≤ n) (w : World) (hA : Hol w (some ⟨ga, oa, none⟩) L) :
    Calls Try.prog 32 #[.slice (some ⟨ga, oa + p, none⟩) n c, .int .i64 (s : Int)] w fun e w' => e = .returned (.int .u64 (num ((L.drop p).take s) : Nat)) ∧ w = w' := by
  have hl : ((L.drop p).take s).length = s := by simp; omega
  have h := rnumk_any (some ⟨ga, oa + p, none⟩) n c ((L.drop p).take s) (by omega) w (hol_sub hA p s) (by omega)
  rwa [hl] at h
/-- A row apart from one of another type. -/
theorem OV.apart {w w' : World} {B B' : Nat} {e e' : TypeId} {A A' : Option Addr} {n c n' c' : Nat} {f f' : Nat → Value} (h : OV B w e A n c f) (h' : OV B' w e' A' n' c' f') (hne : e ≠ e') (hg : w.grownBy w' (Value.slice A' n' c').ownBlock) : OV B w' e A n c f := by
  refine World.ownsRow.kept h hg ?_
  rcases h.2 with ⟨h0, _⟩ | ⟨g, cap, cur, h1, _, hgg, _⟩
  · rw [h0]
    exact .inl rfl
  · refine .inr (fun eq => ?_)
    rw [h1] at eq
    rcases h'.2 with ⟨h0, _⟩ | ⟨g', cap', cur', h1', _, hgg', _⟩
    · rw [h0] at eq
      simp [Value.ownBlock] at eq
    · rw [h1'] at eq
      simp [Value.ownBlock] at eq
      subst eq
      rw [hgg] at hgg'
      injection hgg' with hgg'
      injection hgg' with _ ht
      exact hne ht
theorem OV.far {w w' : World} {B : Nat} {e : TypeId} {A : Option Addr} {n c : Nat} {f : Nat → Value} {g : Nat} {cs : List Value} (h : OV B w e A n c f) (hr : Row w g 26 cs) (he : e ≠ 26) (hg : w.grownBy w' (some g)) : OV B w' e A n c f := by
  refine World.ownsRow.kept h hg ?_
  rcases h.2 with ⟨h0, _⟩ | ⟨g', cap, cur, h1, _, hgg, _⟩
  · rw [h0]
    exact .inl rfl
  · refine .inr (fun eq => ?_)
    rw [h1] at eq
    simp [Value.ownBlock] at eq
    subst eq
    unfold Row at hr
    rw [hr] at hgg
    injection hgg with hgg
    injection hgg with _ ht
    exact he ht.symm
/-- The fields but the slots; then the slots up to one. -/
def us (L : List UInt8) (k j : Nat) : Int := if j < 10 + k ∨ j = 26 then rd sz L j else 0
theorem us_all (L : List UInt8) : ncs (us L 16) = ncs (rd sz L) := ncs_congr fun j hj => by unfold us; rw [if_pos (by omega)]
theorem us_step (L : List UInt8) (k : Nat) (hk : k < 16) : (ncs (us L k)).set (10 + k) (.int .i64 (rd sz L (10 + k))) = ncs (us L (k + 1)) := by
  rw [ncs_setS _ (by omega)]
  refine ncs_congr fun j _ => ?_
  unfold at1 us
  by_cases h : j = 10 + k
  · subst h
    rw [if_pos rfl, if_pos (by omega)]
  · rw [if_neg h]
    by_cases h2 : j < 10 + k ∨ j = 26
    · rw [if_pos h2, if_pos (by omega)]
    · rw [if_neg h2, if_neg (by omega)]
theorem z_built (z : Nat → Int) : Try.prog.built 26 [(0, .int .i64 (z 0)), (1, .int .i64 (z 1)), (2, .int .u32 (z 2)), (3, .int .u32 (z 3)), (4, .int .i64 (z 4)), (5, .int .i64 (z 5)), (6, .int .u64 (z 6)), (7, .int .u32 (z 7)), (8, .int .i64 (z 8)), (9, .int .u32 (z 9)), (11, .int .i64 (z 26))] = some (ncs (fun j => if j < 10 ∨ j = 26 then z j else 0)).toArray := by kernel_rfl
theorem us_built (L : List UInt8) (z : Nat → Int) (hz : ∀ j, j < 27 → rd sz L j = z j) : Try.prog.built 26 [(0, .int .i64 (z 0)), (1, .int .i64 (z 1)), (2, .int .u32 (z 2)), (3, .int .u32 (z 3)), (4, .int .i64 (z 4)), (5, .int .i64 (z 5)), (6, .int .u64 (z 6)), (7, .int .u32 (z 7)), (8, .int .i64 (z 8)), (9, .int .u32 (z 9)), (11, .int .i64 (z 26))] = some (ncs (us L 0)).toArray := by
  have e : ncs (us L 0) = ncs (fun j => if j < 10 ∨ j = 26 then z j else 0) := ncs_congr fun j hj => by
    unfold us
    by_cases h : j < 10 ∨ j = 26
    · rw [if_pos (by omega), if_pos h, hz j hj]
    · rw [if_neg (by omega), if_neg h]
  rw [e]
  exact z_built z
end Go.Proofs.Ytpmldaoligmkaaa
