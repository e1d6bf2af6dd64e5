/- How far DeskInodes' function is: its desk, what it has changed, its refs. Steps. Conditions: those named. -/
import Derived.Test.YtfbfeplegdpemaaGreatMgLd
import Derived.Deep.MidRow
import Derived.Test.YtfbfeplegdpemaaGreatMgFb
set_option linter.unusedVariables false
set_option maxRecDepth 20000
namespace Go.Proofs.YtfbfeplegdpemaaGreat
open Go.RowKit

section
variable {P : Program} {w : World} {t e : TypeId} {k : Nat} {ops : Array Oper} {o : Oper} {a : Act} {K : Act → World → Prop} {Q : Exit → Act → World → Prop} {E : Prop}
/-- A row appended, at a step of a region that draws. -/
theorem step_join (hgd : o.guard = none) (s x : Operand)
    (ho : o.op = .call { callee := .builtin .append, args := #[s, x], argTypes := #[t, t] }) (R : Rec P t e k) (base : Nat) (v : Value) (n : Nat) (xs : List Value) (hs : a.eval s = v) (hown : w.ownsRow base e k v n xs)
    (A : Option Addr) (m c : Nat) (ys : List Value) (hx : a.eval x = .slice A m c) (hys : ys.length = m * k) (hA : m = 0 ∧ A = none ∨ ∃ ad, A = some ad ∧ ∀ j u, ys[j]? = some u → w.cell? (ad.add j) = some u) (h1 : ∀ u ∈ ys, u.oneCell' = true) (hb : n + m ≤ 1000001) (hbase : base ≤ w.heap.size)
    (h : ∀ v' w', w'.ownsRow base e k v' (n + m) (xs ++ ys) → w.grownBy w' v.ownBlock → (v'.ownBlock = v.ownBlock ∨ v'.ownBlock = some w.heap.size) → K (a.put o.dst v') w') :
    if Region.wanted o (yielded ops a.tmps) = true then Oper.wp P o a w K Q else E := by
  have hw : Region.wanted o (yielded ops a.tmps) = true := by simp [Region.wanted, hgd]
  rw [if_pos hw]
  obtain ⟨v', w', hr, h2, h3, h4⟩ := run_join (P := P) R o.type base v n xs hown A m c ys hys hA h1 hb hbase
  unfold Oper.wp execOp
  simp only [ho, resolve, invoke, builtin, Sem.run_bind, Sem.run_pure, Result.andThen_ok, List.map_toArray, List.map_cons, List.map_nil, hs, hx, hr]
  exact h v' w' h2 h3 h4
end
/-- An empty slice of names, at a step of a region that draws. -/
theorem st_bs0 {w : World} {ops : Array Oper} {o : Oper} {a : Act} {K : Act → World → Prop} {Q : Exit → Act → World → Prop} {E : Prop} (hw : Region.wanted o (yielded ops a.tmps) = true) (ho : o.op = .buildSlice 52 0 #[])
    (h : K (a.put o.dst (.slice (some ⟨w.heap.size, 0, none⟩) 0 0)) (w.alloc (.cells #[] 37))) : if Region.wanted o (yielded ops a.tmps) = true then Oper.wp Tryz.prog o a w K Q else E := by
  rw [if_pos hw]
  unfold Oper.wp execOp
  simp only [ho]
  simp [go_sem]
  exact h
/-- A slice of one name. -/
theorem wp_bs1 {w : World} {ops : Array Oper} {rest : List Oper} {o : Oper} {a : Act} {Q : Exit → Act → World → Prop} (hgd : o.guard = none) (x : Operand) (ho : o.op = .buildSlice 52 1 #[(0, x)]) (p : Nat × Nat) (hx : a.eval x = .agg (qcs p).toArray)
    (h : wpList Tryz.prog ops Q rest (a.put o.dst (.slice (some ⟨w.heap.size, 0, none⟩) 1 1)) (w.alloc (.cells (qcs p).toArray 37))) : wpList Tryz.prog ops Q (o :: rest) a w := by
  refine wpList_plain hgd fun K hK => ?_
  unfold qcs rfc at hx h
  unfold Oper.wp execOp
  simp only [ho, List.map_toArray, List.map_cons, List.map_nil, hx]
  simp [go_sem]
  exact hK _ _ h
theorem size_ref (W : World) : (sizeOf (Tryz.prog.elem 52)).run Tryz.prog W = .ok 2 W := by kernel_rfl
/-- A row of changes cut at its head. -/
theorem rcut_low (A : Option Addr) (m c n : Nat) (hn : n ≤ m) (hc : m ≤ c) :
    ∃ A1 c1, (∀ W : World, (Instr.slice 52 (.slice A m c) (some (.int .i64 (n : Int))) none none).run Tryz.prog W = .ok (.slice A1 (m - n) c1) W) ∧
      ∀ (W : World) (b : Nat) (qs : List (Nat × Nat)), W.ownsRow b 37 2 (.slice A m c) m (qs.flatMap qcs) → (m - n = 0 ∧ A1 = none) ∨ ∃ ad, A1 = some ad ∧ ∀ j u, ((qs.drop n).flatMap qcs)[j]? = some u → W.cell? (ad.add j) = some u := by
  refine ⟨if c = n then A else A.map (·.add (n * 2)), c - n, fun W => ?_, fun W b qs h => ?_⟩
  · have h1 : (0 : Int) ≤ (n : Int) := by omega
    have h2 : (n : Int) ≤ (m : Int) := by omega
    rw [run_slice_l (P := Tryz.prog) W 52 A m c (by kernel_rfl) .i64 n h1 h2, size_ref]
    simp [Result.andThen, sliced]
  · have hql : qs.length = m := by have := h.1; rw [flat_len qcs_len] at this; omega
    rcases own_src h with ⟨h0, hA⟩ | ⟨ad, rfl, hcell⟩
    · refine .inl ⟨by omega, ?_⟩
      rw [hA]
      split <;> rfl
    · refine .inr ?_
      by_cases hcn : c = n
      · rw [if_pos hcn]
        refine ⟨ad, rfl, fun j u hu => ?_⟩
        rw [List.drop_of_length_le (by omega)] at hu
        simp at hu
      · rw [if_neg hcn]
        refine ⟨ad.add (n * 2), rfl, fun j u hu => ?_⟩
        rw [Deep.add_add]
        refine hcell _ u ?_
        have e1 : qs.flatMap qcs = (qs.take n).flatMap qcs ++ (qs.drop n).flatMap qcs := by rw [← List.flatMap_append, List.take_append_drop]
        have e2 : ((qs.take n).flatMap qcs).length = n * 2 := by rw [flat_len qcs_len, List.length_take]; omega
        rw [e1, List.getElem?_append_right (by omega), e2, Nat.add_sub_cancel_left]
        exact hu
/-- A row of changes cut at its end. -/
theorem rcut_high (A : Option Addr) (m c n : Nat) (hn : n ≤ m) (hc : m ≤ c) :
    ∃ c1, (∀ W : World, (Instr.slice 52 (.slice A m c) none (some (.int .i64 (n : Int))) none).run Tryz.prog W = .ok (.slice A n c1) W) ∧
      ∀ (W : World) (b : Nat) (qs : List (Nat × Nat)), W.ownsRow b 37 2 (.slice A m c) m (qs.flatMap qcs) → (n = 0 ∧ A = none) ∨ ∃ ad, A = some ad ∧ ∀ j u, ((qs.take n).flatMap qcs)[j]? = some u → W.cell? (ad.add j) = some u := by
  refine ⟨c, fun W => ?_, fun W b qs h => ?_⟩
  · have h1 : (0 : Int) ≤ (n : Int) := by omega
    have h2 : (n : Int) ≤ (c : Int) := by omega
    rw [run_slice_h (P := Tryz.prog) W 52 A m c (by kernel_rfl) .i64 n h1 h2, size_ref]
    have e1 : ∀ ad : Addr, ad.add 0 = ad := fun ad => by simp [Addr.add]
    have e2 : (A.map fun x => x.add 0) = A := by cases A <;> simp [e1]
    simp only [Result.andThen_ok, sliced, Int.toNat_natCast, Nat.zero_mul, e2, Nat.sub_zero, ite_self]
  · rcases own_src h with ⟨h0, hA⟩ | ⟨ad, rfl, hcell⟩
    · exact .inl ⟨by omega, hA⟩
    · refine .inr ⟨ad, rfl, fun j u hu => hcell j u ?_⟩
      have e1 : qs.flatMap qcs = (qs.take n).flatMap qcs ++ (qs.drop n).flatMap qcs := by rw [← List.flatMap_append, List.take_append_drop]
      rw [e1, List.getElem?_append_left (List.getElem?_eq_some_iff.1 hu).1]
      exact hu
theorem own_capm {w : World} {b m c k : Nat} {e : TypeId} {A : Option Addr} {xs : List Value} (h : w.ownsRow b e k (.slice A m c) m xs) : m ≤ c := by
  rcases h.2 with ⟨h1, h2⟩ | ⟨g, cap, cur, h1, hb, hg, hn, _⟩
  · omega
  · simp only [Value.slice.injEq] at h1
    omega
theorem rec_ref : Rec Tryz.prog 52 37 2 := rec_of (z := .agg #[.int .i64 0, .int .u64 0]) (n := 16) Tryz.underlying52 (by kernel_rfl) (by decide) rfl (by decide)
theorem ref_at {W : World} {base m c g o q : Nat} {Q : List (Nat × Nat)} {p : Nat × Nat} (h : W.ownsRow base 37 2 (.slice (some ⟨g, o, none⟩) m c) m (Q.flatMap qcs)) (hq : Q[q]? = some p) : W.rangeAt g (o + q * 2) (qcs p) := by
  have hl : q < Q.length := (List.getElem?_eq_some_iff.1 hq).1
  obtain ⟨g', o', e, hc⟩ := (Lies.own (by decide) qcs_len h).at_ (j := q) hl
  injection e with e
  injection e with e1 e2
  subst e1 e2
  have h9 : Q[q] = p := (List.getElem?_eq_some_iff.1 hq).2
  rw [h9] at hc
  exact fun j v hv => hc j v hv
theorem ref_k {W : World} {base m c g o q k s : Nat} {Q : List (Nat × Nat)} (h : W.ownsRow base 37 2 (.slice (some ⟨g, o, none⟩) m c) m (Q.flatMap qcs)) (hq : Q[q]? = some (k, s)) : W.cell? ⟨g, o + q * 2, none⟩ = some (.int .i64 (k : Int)) := ref_at h hq 0 _ rfl
theorem ref_s {W : World} {base m c g o q k s : Nat} {Q : List (Nat × Nat)} (h : W.ownsRow base 37 2 (.slice (some ⟨g, o, none⟩) m c) m (Q.flatMap qcs)) (hq : Q[q]? = some (k, s)) : W.cell? ⟨g, o + q * 2 + 1, none⟩ = some (.int .u64 (s : Int)) := ref_at h hq 1 _ rfl
theorem ref_open {W : World} {base m c : Nat} {A : Option Addr} {Q : List (Nat × Nat)} (h : W.ownsRow base 37 2 (.slice A m c) m (Q.flatMap qcs)) (hq : 0 < Q.length) : ∃ g o, A = some ⟨g, o, none⟩ := by
  obtain ⟨g', o', e, hc⟩ := (Lies.own (by decide) qcs_len h).at_ (j := 0) hq
  exact ⟨g', o', e⟩
theorem field_i (S : Sup) (w : World) : (Instr.field 59 (.agg S.cs.toArray) 2).run Tryz.prog w = .ok (.agg (inl 65 S.i).toArray) w := by
  have hf : Tryz.prog.underlying 59 = some (.struct (Tryz.prog.fieldsOf 59)) := by kernel_rfl
  have hi : ((Tryz.prog.fieldsOf 59)[2]?.map fun f => (f.type, f.offset)) = some (56, 257) := by kernel_rfl
  obtain ⟨f, h1, h2⟩ := Option.map_eq_some_iff.1 hi
  injection h2 with h2 h3
  have hq : (Tryz.prog.info? 56).map (·.size) = some 65 := info_i
  obtain ⟨it, h4, h5⟩ := Option.map_eq_some_iff.1 hq
  have hagg : Tryz.prog.underlying 56 = some (.array 65 3) := Tryz.underlying56
  simp [Instr.field, run_underlying hf, h1, h2, h3, sizeOf, typeInfo, h4, h5, Go.part, isAgg, asAgg, run_underlying hagg]
  have h6 := congrArg Array.toList S.i_part
  simpa using h6
theorem run_field_op (w : World) {a : Act} (o : Oper) (S : Sup) (x : Operand) (ho : o.op = .field 59 x 2) (hx : a.eval x = .agg S.cs.toArray) : (execOp a.eval o).run Tryz.prog w = .ok (.value (.agg (inl 65 S.i).toArray)) w := by
  unfold execOp
  simp only [ho, hx, Sem.run_bind, field_i, Result.andThen_ok]
  rfl
theorem run_index_op (w : World) {a : Act} (o : Oper) (f : Nat → Int) (k : Nat) (hk : k < 65) (x y : Operand) (ho : o.op = .index 56 x y) (hx : a.eval x = .agg (inl 65 f).toArray) (hy : a.eval y = .int .i64 (k : Int)) : (execOp a.eval o).run Tryz.prog w = .ok (.value (.int .i64 (f k))) w := by
  unfold execOp
  simp only [ho, hx, hy, Sem.run_bind, run_index_inl f k hk, Result.andThen_ok]
  rfl
/-- How far the function is. -/
structure GS (b : Nat) (w W : World) (gd gv gm gs r pr : Nat) (Bs : List BV) (n : Nat) (X : DX) (x : Value) : Prop where
  dk : DK b W gd gv gm gs r Bs 256 n X
  chg : Chg [gm, pr] w W
  prr : Row W pr 4 [x]
  lo : w.heap.size ≤ gd ∧ gm < w.heap.size ∧ pr < w.heap.size ∧ pr ≠ gm ∧ b ≤ w.heap.size ∧ b ≤ pr ∧ b ≤ gm
section
variable {b : Nat} {w W W' : World} {gd gv gm gs r pr : Nat} {Bs : List BV} {n n' : Nat} {X X' : DX} {x x' : Value}
theorem GS.call {G : List Nat} (h : GS b w W gd gv gm gs r pr Bs n X x) (hk : DK b W' gd gv gm gs r Bs 256 n' X') (hc : Chg G W W') (hG : ∀ y ∈ G, y = gd ∨ y = gm) : GS b w W' gd gv gm gs r pr Bs n' X' x := by
  have hl := h.lo
  refine ⟨hk, h.chg.trans hc (fun y hy => ?_), hc.row h.prr (fun hy => ?_), hl⟩
  · rcases hG y hy with rfl | rfl
    · exact .inr hl.1
    · exact .inl (by simp)
  · have := hG _ hy; omega
theorem GS.below (h : GS b w W gd gv gm gs r pr Bs n X x) (hb : Below W.heap.size W W') : GS b w W' gd gv gm gs r pr Bs n X x := ⟨h.dk.below hb, chg_nxt h.chg hb, h.prr.kept hb, h.lo⟩
theorem GS.put (h : GS b w W gd gv gm gs r pr Bs n X x) (x' : Value) : GS b w (W.setCell ⟨pr, 0, none⟩ x') gd gv gm gs r pr Bs n X x' := by
  have hl := h.lo
  have hc : Chg [pr] W (W.setCell ⟨pr, 0, none⟩ x') := (Chg.refl [pr] W).setCell (p := ⟨pr, 0, none⟩) (.inl (by simp)) _
  exact ⟨h.dk.other h.prr (by decide) hl.2.2.2.2.2.1 hc, h.chg.trans hc (fun y hy => .inl (by simp at hy ⊢; exact .inr hy)), h.prr.put 0 x', hl⟩
theorem GS.base (h : GS b w W gd gv gm gs r pr Bs n X x) {g : Nat} {t : TypeId} {cs : List Value} (hr : Row w g t cs) (hne : g ≠ gm ∧ g ≠ pr) : Row W g t cs := h.chg.row hr (by simp; exact hne)
theorem GS.data (h : GS b w W gd gv gm gs r pr Bs n X x) {A : Option Addr} {l : L8} (hD : HolB b w A l) : Hol W A l := Chg.hol hD.1 h.chg (fun g o e hne hx => by
  have hl := h.lo
  have h1 := (hD.2.resolve_left hne) _ e
  simp at h1 hx
  omega)
theorem GS.byte (h : GS b w W gd gv gm gs r pr Bs n X x) {g o i u : Nat} {l : L8} (hD : HolB b w (some ⟨g, o, none⟩) l) (hu : i < l.length ∧ (l.getD i 0).toNat = u) : W.cell? ⟨g, o + i, none⟩ = some (.int .u8 (u : Int)) := by
  obtain ⟨g', o', e, _, hc⟩ := (h.data hD).at_ hu.1
  injection e with e
  injection e with e1 e2
  subst e1 e2
  obtain ⟨hi, hu⟩ := hu
  rw [List.getD_eq_getElem?_getD, List.getElem?_eq_getElem hi] at hu
  have h9 : (l[i]'hi).toNat = u := hu
  rw [hc, h9]
/-- The refs' row, behind what the function changes. -/
theorem GS.refs {G : List Nat} {v : Value} {m : Nat} {xs : List Value} (h : GS b w W gd gv gm gs r pr Bs n X x) (ho : W.ownsRow w.heap.size 37 2 v m xs) (hc : Chg G W W') (hG : ∀ y ∈ G, y = gd ∨ y = gm ∨ y = pr) : W'.ownsRow w.heap.size 37 2 v m xs := Chg.own ho hc (fun q hq hqG => by
  have hl := h.lo
  have h1 := (World.ownsRow.lt ho q hq).1
  rcases hG q hqG with rfl | rfl | rfl
  · obtain ⟨_, _, _, _, hd⟩ := h.dk.desk
    exact row_parted hd ho (by decide) hq
  · omega
  · omega)
theorem GS.refp {v : Value} {m : Nat} {xs : List Value} (h : GS b w W gd gv gm gs r pr Bs n X x) (ho : W.ownsRow w.heap.size 37 2 v m xs) : (W.setCell ⟨pr, 0, none⟩ x').ownsRow w.heap.size 37 2 v m xs := h.refs ho ((Chg.refl [pr] W).setCell (p := ⟨pr, 0, none⟩) (.inl (by simp)) _) (fun y hy => by simp at hy; exact .inr (.inr hy))
/-- The refs' row has grown. -/
theorem GS.app {v : Value} {m : Nat} {xs : List Value} {ob : Obj} (h : GS b w W gd gv gm gs r pr Bs n X x) (ho : W.ownsRow w.heap.size 37 2 v m xs) (hg : (W.alloc ob).grownBy W' v.ownBlock) : GS b w W' gd gv gm gs r pr Bs n X x := by
  have hl := h.lo
  have h0 : Below W.heap.size W (W.alloc ob) := (Below.refl _ _).alloc (Nat.le_refl _) _
  cases hk : v.ownBlock with
  | none =>
    rw [hk] at hg
    exact h.below (h0.grown hg h0.size (fun q e => by cases e))
  | some k =>
    rw [hk] at hg
    have h1 := World.ownsRow.lt ho k hk
    have hc : Chg [k] W W' := (Chg.of (F := [k]) h0).grown hg (fun q e => by injection e with e; subst e; exact .inl (by simp))
    obtain ⟨_, _, _, _, hd⟩ := h.dk.desk
    obtain ⟨C, hv, _⟩ := h.dk.view
    have a1 : k ≠ gd := fun e => row_parted hd ho (by decide) (e ▸ hk)
    have a2 : k ≠ gv := fun e => row_parted hv.row ho (by decide) (e ▸ hk)
    have a4 : k ≠ r := fun e => row_parted h.dk.run ho (by decide) (e ▸ hk)
    have hN : NoBytes W [k] := fun y hy cs fr he => by
      rw [List.mem_singleton] at hy
      subst hy
      rcases ho.2 with ⟨h2, h3⟩ | ⟨g, cap, cur, h2, h3, h4, h5⟩
      · rw [h2] at hk
        simp [Value.ownBlock] at hk
      · rw [h2] at hk
        have hk2 : some g = some y := hk
        injection hk2 with hk2
        subst hk2
        rw [h4] at he
        injection he with he
        injection he with _ he
        exact absurd he (by decide)
    refine ⟨h.dk.chg hc (by simp; exact a1.symm) (by simp; exact a2.symm) (by simp; omega) (by simp; exact a4.symm) hN (fun y hy => by simp at hy; omega), h.chg.trans hc (fun y hy => by simp at hy; exact .inr (by omega)), hc.row h.prr (by simp; omega), hl⟩
/-- A block of the function's own, stored over. -/
theorem GS.at_ {g : Nat} {cs : List Value} (h : GS b w W gd gv gm gs r pr Bs n X x) (hr : Row W g 44 cs) (hb : w.heap.size ≤ g) (hg : W.grownBy W' (some g)) : GS b w W' gd gv gm gs r pr Bs n X x := by
  have hl := h.lo
  exact ⟨h.dk.other hr (by decide) (by omega) (Chg.one hg), h.chg.trans (Chg.one hg) (fun y hy => .inr (by simp at hy; omega)), (Chg.one hg).row h.prr (by simp; omega), hl⟩
theorem refs_at {g : Nat} {cs : List Value} {v : Value} {m base : Nat} {xs : List Value} (ho : W.ownsRow base 37 2 v m xs) (hr : Row W g 44 cs) (hg : W.grownBy W' (some g)) : W'.ownsRow base 37 2 v m xs := Chg.own ho (Chg.one hg) (fun q hq hqG => by
  rw [List.mem_singleton] at hqG
  subst hqG
  exact row_parted hr ho (by decide) hq)
/-- A block put by the view itself. -/
theorem DK.vput (h : DK b W gd gv gm gs r Bs 256 n X) (A : Option Addr) (c : Nat) (l : L8) (hx : Hol W A l) (hl : l.length ≤ 131072) (a : Int) (ha : I64 a) (hn : n ≤ 1000) :
    Calls Tryz.prog 24 #[.pointer (some ⟨gv, 0, none⟩), .int .i64 a, .slice A l.length c] W (DPut b W gd gv gm gs r Bs 256 (n + 1) (X.put a l)) := by
  obtain ⟨C, hv, hC⟩ := h.view
  obtain ⟨n1, n2, n3, n4, n5, n6⟩ := h.ne
  have hP := Go.Proofs.YtfbfeplegdpemaaGreat.vput hv h.lo.2.2 ⟨A, c, l⟩ hx hl a ha (by omega)
  refine hP.mono ?_
  rintro e w2 ⟨rfl, y, hy, hoy, hv2, hc⟩
  obtain ⟨ah, la, e1, e2, hd⟩ := h.desk
  refine ⟨rfl, Lib.hid ⟨⟨ah, la, e1, e2, hc.out.row hd (by simpa using n2)⟩, ⟨_, hv2.out, ?_⟩, hc.out.row h.run (by simp; exact n6.symm), h.src.keep (hc.out.below h.lo.2.2 (fun x hx => ?_)), h.lo.1, h.lo.2.1, Nat.le_trans h.lo.2.2 hc.out.size⟩, Lib.hid (hc.out.wider (fun x hx => .inl (by simp at hx ⊢; exact .inr hx)))⟩
  · rw [byL_up, hC, hy.out]
    rfl
  · simp at hx
    subst hx
    exact hv.lo.2
end
end Go.Proofs.YtfbfeplegdpemaaGreat
/- The laws' first test, whole. No conditions. -/
set_option linter.unusedVariables false
set_option maxRecDepth 20000
namespace Go.Proofs.YtfbfeplegdpemaaGreat
open Go.RowKit

section
variable {b : Nat} {w w' : World} {gv gm gs r pv pr : Nat} {Bs : List BV} {n : Nat}
theorem two_hol (w : World) : Hol (w.alloc (.cells #[.int .u8 104, .int .u8 105] 5 (2, 3))) (some ⟨w.heap.size, 0, none⟩) [104, 105] := by
  refine .inr ⟨_, 0, rfl, fun j x hx => ?_⟩
  have hh : (w.alloc (.cells #[.int .u8 104, .int .u8 105] 5 (2, 3))).heap[w.heap.size]? = some (.cells #[.int .u8 104, .int .u8 105] 5 (2, 3)) := heap_alloc_new w _
  rw [cell_of_row _ w.heap.size (0 + j) _ _ _ hh, Nat.zero_add]
  rcases j with _ | _ | j
  · injection hx with hx; subst hx; rfl
  · injection hx with hx; subst hx; rfl
  · simp at hx
set_option maxHeartbeats 8000000 in
theorem awake1 {x0 : Value} (h : VV b w gv gm gs (some ⟨r, 0, none⟩) 0 fun _ => none) (hb : b ≤ w.heap.size) (hrb : b ≤ r) (hr : Row w r 83 (rcs false 0)) (hp : Row w pv 28 [.pointer (some ⟨gv, 0, none⟩)]) (hpr : Row w pr 4 [x0]) (hs : Src b w gs Bs) (hB : Bs.length = 16 ∧ ∀ x ∈ Bs, x.l = List.replicate 256 0) (hbp : b ≤ pr) :
    Calls Tryz.prog 33 #[.pointer (some ⟨pv, 0, none⟩), .pointer (some ⟨pr, 0, none⟩)] w (FunP b gv gm gs r [gm, pr] (fun _ C' w2 => w2.cell? ⟨pr, 0, none⟩ = some (.bool true) ∧ Put3 (byL C')) (fun _ _ => False) w) := by
  have HNEW := Lib.hid (p := ∀ w, Calls Tryz.prog 13 #[.pointer (some ⟨gv, 0, none⟩), .int .i64 16] w fun e w' => ∃ gd, e = .returned (.pointer (some ⟨gd, 0, none⟩)) ∧ Hid (Row w' gd 88 (dcs gv 16 (bkcs false sup0 sup0) (bkcs false sup0 sup0) false (-1))) ∧ Hid (w.heap.size ≤ gd) ∧ Hid (Below w.heap.size w w')) (fun w => dnew gv 16 w)
  have H := Lib.hid h
  have HR := Lib.hid hr
  have HP := Lib.hid hp
  have HPR := Lib.hid hpr
  have HS := Lib.hid hs
  have HB := Lib.hid hB
  have HLO := Lib.hid (p := b ≤ w.heap.size ∧ b ≤ r ∧ b ≤ pr) ⟨hb, hrb, hbp⟩
  have i2 := Lib.hid (fun v => info_ncs v)
  have i3 := Lib.hid (fun k s => info_ref k s)
  have hzr := Lib.hid zero_ref
  have hzi := Lib.hid zero_ino
  have HLT := Lib.hid (p := gm < w.heap.size ∧ pr < w.heap.size ∧ pr ≠ gm) ⟨h.map.lt, hpr.lt, fun e => h.map.no_cells _ _ _ (e ▸ hpr.heap)⟩
  have c0 : w.cell? ⟨pv, 0, none⟩ = some (.pointer (some ⟨gv, 0, none⟩)) := (hp.cell 0).trans rfl
  have kc := fun (w : World) (C : Array Value) (n c : Nat) => Lib.run_convert_bytes_const (P := Tryz.prog) w 22 5 C n c Tryz.underlying22 Tryz.underlying5
  clear h hr hp hpr hs hB hb hrb hbp
  go_enter Tryz.func33, Tryz.ntmps33
  go_wp2_with (first
    | (go_at_call 13; refine (HNEW.out _).mono ?_; rintro e w2 ⟨gd, rfl, hd, hg, hb⟩
       have HG := Lib.hid (p := w.heap.size ≤ gd) hg.out
       have HK2 := Lib.hid (DK.start H.out HR.out HS.out ⟨HLO.out.2.1, HLO.out.1⟩ hd.out hg.out hb.out)
       have HC2 := Lib.hid (p := Chg [gm] w w2) (Chg.of hb.out)
       have HPR2 := Lib.hid (HPR.out.kept hb.out)
       have HSZ := Lib.hid (src_zero (Bs := Bs) HS.out HB.out (byL fun _ => none) 0 (by decide) rfl)
       obtain ⟨X0, hX0⟩ : ∃ X0 : DX, (⟨false, sup0, sup0, byL fun _ => none⟩ : DX) = X0 := ⟨_, rfl⟩
       have HX0 := Lib.hid (p := X0.rd = false ∧ X0.C = fun _ => none) (by rw [← hX0]; exact ⟨rfl, rfl⟩)
       rw [hX0] at HK2 HSZ
       have HN := Lib.hid (p := ∀ x : Nat, (x = gd ∨ x = gm) → x = gm ∨ w.heap.size ≤ x) (fun x hx => by rcases hx with rfl | rfl; exact .inr HG.out; exact .inl rfl)
       clear hd hg hb c0 hX0)
    | (refine step_build rfl 44 _ rfl [(0, .int .i64 1), (4, .int .i64 1)] ?hv _ built_file ?_; case hv => (simp [Act.eval, Act.put]))
    | (go_at_call 14; refine (fmake HK2.out HX0.out.1 _ HSZ.out rfl (by omega) (by decide)).mono ?_; rintro e w3 ⟨rfl, hk, hc⟩
       have HK3 := hk
       have HC3 := Lib.hid (p := Chg [gm] w w3) (HC2.out.trans hc.out (fun x hx => by simp at hx ⊢; exact HN.out x hx))
       have HPR3 := Lib.hid (hc.out.row HPR2.out (by have h1 := HLT.out; have h2 := HG.out; simp; omega))
       clear hk hc)
    | (refine step_alloc rfl 3 rfl 37 rfl _ hzr.out ?_; intro g3 w4 hr2 hg2 hb2 hs2
       have HR34 := Lib.hid hr2
       have HK4 := Lib.hid (HK3.out.below hb2)
       have HC4 := Lib.hid (chg_nxt HC3.out hb2)
       have HPR4 := Lib.hid (HPR3.out.kept hb2)
       have HG3 := Lib.hid (p := w.heap.size ≤ g3 ∧ gd < g3 ∧ pr < g3) (by rw [hg2.out]; exact ⟨HC3.out.size, HK3.out.lt, HPR3.out.lt⟩)
       clear hr2 hg2 hb2 hs2)
    | (refine step_store rfl 37 (.tmp 3) (.tmp 13) rfl g3 rfl _ _ (rfc 1 1) rfl HR34.out rfl (i3.out _ _) (rfc_one _ _) ?_; intro w5 hr9 hg9 hs9
       have HR35 := Lib.hid hr9
       have HK5 := Lib.hid (HK4.out.other HR34.out (by decide) (by have := HLO.out; have := HG3.out; omega) (Chg.one hg9))
       have HC5 := Lib.hid (p := Chg [gm] w w5) (chg_own HC4.out HG3.out.1 (Chg.one hg9))
       have HPR5 := Lib.hid (HPR4.out.grown hg9 (fun e => by have := HG3.out; injection e; omega))
       clear hr9 hg9 hs9)
    | (refine step_load rfl 17 rfl 37 (.tmp 3) rfl g3 rfl (rfc 1 1) _ HR35.out.all Tryz.underlying37 rfl (i3.out _ _) ?_)
    | (go_at_call 15; refine (fget HK5.out (by omega)).mono ?_; rintro e w6 ⟨rfl, hk, hc⟩
       have HK6 := hk
       have HC6 := Lib.hid (p := Chg [gm] w w6) (HC5.out.trans hc.out (fun x hx => by simp at hx ⊢; exact HN.out x (.inl hx)))
       have HPR6 := Lib.hid (hc.out.row HPR5.out (by have h1 := HLT.out; have h2 := HG.out; simp; omega))
       have HR36 := Lib.hid (hc.out.row HR35.out (by have h1 := HG3.out; simp; omega))
       clear hk hc)
    | (refine step_alloc rfl 5 rfl 44 rfl _ hzi.out ?_; intro g5 w7 hr2 hg2 hb2 hs2
       have HR57 := Lib.hid hr2
       have HK7 := Lib.hid (HK6.out.below hb2)
       have HC7 := Lib.hid (chg_nxt HC6.out hb2)
       have HPR7 := Lib.hid (HPR6.out.kept hb2)
       have HR37 := Lib.hid (HR36.out.kept hb2)
       have HG5 := Lib.hid (p := w.heap.size ≤ g5 ∧ gd < g5 ∧ pr < g5 ∧ g3 < g5) (by rw [hg2.out]; exact ⟨HC6.out.size, HK6.out.lt, HPR6.out.lt, HR36.out.lt⟩)
       clear hr2 hg2 hb2 hs2)
    | (refine step_store rfl 44 (.tmp 5) (.tmp 19) rfl g5 rfl _ _ (ncs (vA 1)) rfl HR57.out rfl (i2.out _) (ncs_one _) ?_; intro w8 hr9 hg9 hs9
       have HR58 := Lib.hid hr9
       have HK8 := Lib.hid (HK7.out.other HR57.out (by decide) (by have := HLO.out; have := HG5.out; omega) (Chg.one hg9))
       have HC8 := Lib.hid (p := Chg [gm] w w8) (chg_own HC7.out HG5.out.1 (Chg.one hg9))
       have HPR8 := Lib.hid (HPR7.out.grown hg9 (fun e => by have := HG5.out; injection e; omega))
       have HR38 := Lib.hid (HR37.out.grown hg9 (fun e => by have := HG5.out; injection e; omega))
       clear hr9 hg9 hs9)
    | (refine step_load rfl 22 rfl 44 (.tmp 5) rfl g5 rfl (ncs (vA 1)) _ HR58.out.all Tryz.underlying44 rfl (i2.out _) ?_)
    | (go_at_call 16
       have hbl := below_al w8 (.cells #[.int .u8 104, .int .u8 105] 5 (2, 3))
       have hk9 := HK8.out.below hbl
       have hne : w8.heap.size ≠ gd ∧ w8.heap.size ≠ gm := ⟨by have := HK8.out.lt; omega, by have h1 := HLT.out; have h2 := HC8.out.size; omega⟩
       refine (awrite (some ⟨w8.heap.size, 0, none⟩) 2 (by decide) hk9 (by omega) (by decide) (fun W hc => hc.hol (two_hol w8) (fun g o e _ => by injection e with e; injection e with e1 e2; subst e1; simp; exact hne))).mono ?_; rintro e w10 ⟨v3, X2, rfl, hf, hk, hc⟩
       have HF := hf
       have HK10 := hk
       have HC9 := Lib.hid (p := Chg [gm] w (w8.alloc (.cells #[.int .u8 104, .int .u8 105] 5 (2, 3)))) (chg_nxt HC8.out hbl)
       have HC10 := Lib.hid (p := Chg [gm] w w10) (HC9.out.trans hc.out (fun x hx => by simp at hx ⊢; exact HN.out x hx))
       have HPR10 := Lib.hid (hc.out.row (HPR8.out.kept hbl) (by have h1 := HLT.out; have h2 := HG.out; simp; omega))
       have HR310 := Lib.hid (hc.out.row (HR38.out.kept hbl) (by have h1 := HG3.out; have h2 := HLT.out; simp; omega))
       have HR510 := Lib.hid (hc.out.row (HR58.out.kept hbl) (by have h1 := HG5.out; have h2 := HLT.out; simp; omega))
       have HTK := Lib.hid (p := ∀ (w : World) (n : Nat), n ≤ 1000 → DK b w gd gv gm gs r Bs 16 n X2 → Calls Tryz.prog 19 #[.pointer (some ⟨gd, 0, none⟩), .agg (ncs v3).toArray] w (DOne b w gd gv gm gs r Bs 16 n X2 (.int .i64 1))) (fun w n hn h => by
         have h1 := dtakes v3 (rowD v3) h hn (rowok_direct _ _ (.inr hf.out.list))
         rw [hf.out.tk] at h1
         exact h1)
       clear hbl hk9 hne hf hk hc)
    | (refine step_store rfl 44 (.tmp 5) (.tmp 25) rfl g5 rfl _ _ (ncs v3) rfl HR510.out rfl (i2.out _) (ncs_one _) ?_; intro w11 hr9 hg9 hs9
       have HR511 := Lib.hid hr9
       have HK11 := Lib.hid (HK10.out.other HR510.out (by decide) (by have := HLO.out; have := HG5.out; omega) (Chg.one hg9))
       have HC11 := Lib.hid (p := Chg [gm] w w11) (chg_own HC10.out HG5.out.1 (Chg.one hg9))
       have HPR11 := Lib.hid (HPR10.out.grown hg9 (fun e => by have := HG5.out; injection e; omega))
       have HR311 := Lib.hid (HR310.out.grown hg9 (fun e => by have := HG5.out; injection e; omega))
       have c30 : w11.cell? ⟨g3, 0, none⟩ = some (.int .i64 1) := (HR311.out.cell 0).trans rfl
       have c55 : w11.cell? ⟨g5, 5, none⟩ = some (.int .i64 302) := by rw [← HF.out.size]; exact (HR511.out.cell 5).trans rfl
       clear hr9 hg9 hs9)
    | (refine step_load_g (by rfl) 44 rfl 44 (.tmp 5) rfl g5 rfl (ncs v3) _ HR511.out.all Tryz.underlying44 rfl (i2.out _) ?_)
    | (go_at_call 19; refine (HTK.out _ _ (by omega) HK11.out).mono ?_; rintro e w12 ⟨rfl, hk, hc⟩
       have HK12 := hk
       have HC12 := Lib.hid (p := Chg [gm] w w12) (HC11.out.trans hc.out (fun x hx => by simp at hx ⊢; exact HN.out x (.inl hx)))
       have HPR12 := Lib.hid (hc.out.row HPR11.out (by have h1 := HLT.out; have h2 := HG.out; simp; omega))
       have HR512 := Lib.hid (hc.out.row HR511.out (by have h1 := HG5.out; simp; omega))
       clear hk hc c30 c55)
    | (refine step_load_g (by rfl) 50 rfl 44 (.tmp 5) rfl g5 rfl (ncs v3) _ HR512.out.all Tryz.underlying44 rfl (i2.out _) ?_)
    | (go_at_call 17; refine (aread v3 X2 HF.out HK12.out (by omega)).mono ?_; rintro e w13 ⟨A', c', rfl, hk, hc⟩
       have HK13 := hk
       have HC13 := Lib.hid (p := Chg [gm] w w13) (HC12.out.trans hc.out (fun x hx => by simp at hx ⊢; exact HN.out x (.inl hx)))
       have HPR13 := Lib.hid (hc.out.row HPR12.out (by have h1 := HLT.out; have h2 := HG.out; simp; omega))
       have cp := HPR13.out.cell 0
       have fp := HPR13.out.free 0
       have HPR14 := Lib.hid (HPR13.out.put 0 (.bool true))
       have HK14 := Lib.hid (p := DK b (w13.setCell ⟨pr, 0, none⟩ (.bool true)) gd gv gm gs r Bs 16 _ X2) (HK13.out.other HPR13.out (by decide) HLO.out.2.2 ((Chg.refl [pr] w13).setCell (p := ⟨pr, 0, none⟩) (.inl (by simp)) _))
       have HC14 := Lib.hid (p := Chg [gm, pr] w (w13.setCell ⟨pr, 0, none⟩ (.bool true))) ((HC13.out.wider (fun x hx => .inl (by simp at hx ⊢; exact .inl hx))).setCell (p := ⟨pr, 0, none⟩) (.inl (by simp)) _)
       clear hk hc)
    | (go_at_call 29; refine (asave v3 X2 HF.out HK14.out (by omega)).mono ?_; rintro e w15 ⟨rfl, hk, hc⟩
       have HK15 := hk
       have HC15 := Lib.hid (p := Chg [gm, pr] w w15) (HC14.out.trans hc.out (fun x hx => by
         simp at hx ⊢
         rcases HN.out x hx with h1 | h1
         · exact .inl (.inl h1)
         · exact .inr h1))
       have HPR15 := Lib.hid (hc.out.row HPR14.out (by have h1 := HLT.out; have h2 := HG.out; simp; omega))
       clear hk hc cp fp))
  go_end0
  obtain ⟨C, hv, hC⟩ := HK15.out.view
  refine .inl ⟨rfl, _, C, hv, by omega, HK15.out.run, HC15.out, (HPR15.out.cell 0).trans rfl, ?_⟩
  obtain ⟨L, _, hL⟩ := HF.out.C
  rw [hC]
  refine ⟨blk sz (vA 1) 27, L, lst 256 X2.S.pb, ?_⟩
  show upS X2.C 0 _ = _
  rw [hL]
  show upS (upS (upS X0.C 1 _) 2 L) 0 _ = _
  rw [HX0.out.2]
end
end Go.Proofs.YtfbfeplegdpemaaGreat
/- The laws' first test, whole. No conditions. -/
set_option linter.unusedVariables false
set_option maxRecDepth 20000
namespace Go.Proofs.YtfbfeplegdpemaaGreat
open Go.RowKit

section
variable {b : Nat} {w w' : World} {gv gm gs : Nat} {n : Nat} {C : Int → Option BV}
/-- Run, of a function that comes to its end. -/
def DoneP (b : Nat) (w : World) (gv gm gs : Nat) (G : List Nat) (Done : World → (Int → Option BV) → World → Prop) (e : Ending) (w' : World) : Prop :=
  e = .returned (.tuple #[.int .i64 0, .bool true]) ∧ ∃ (n' : Nat) (C' : Int → Option BV) (w1 w2 : World) (F : List Nat), Hid (VV b w' gv gm gs none n' C') ∧ Hid (n' ≤ 1000) ∧ Hid (Done w1 C' w2) ∧ Hid (Chg F w2 w') ∧ Hid (∀ x ∈ F, x = gv ∨ (w.heap.size ≤ x ∧ x < w1.heap.size)) ∧ Hid (w.heap.size ≤ w1.heap.size) ∧ Hid (Chg (gv :: gm :: G) w w')
theorem RunP.done {G : List Nat} {Done : World → (Int → Option BV) → World → Prop} {Gave : Int → World → Prop} {e : Ending} (h : RunP b w gv gm gs G Done Gave e w') (hn : ∀ a w, ¬ Gave a w) : DoneP b w gv gm gs G Done e w' := by
  rcases h with ⟨rfl, n', C', w1, w2, F, h1, h0, h2, h3, h4, h5, h6⟩ | ⟨a, w2, _, _, h, _⟩
  · exact ⟨rfl, n', C', w1, w2, F, Lib.hid h1, Lib.hid h0, Lib.hid h2, Lib.hid h3, Lib.hid h4, Lib.hid h5, Lib.hid h6⟩
  · exact absurd h (hn a w2)
end
theorem zero_vptr (w : World) : (zeroValue 28).run Tryz.prog w = .ok (.pointer none) w := by kernel_rfl
set_option maxHeartbeats 4000000 in
theorem awake_any (w : World) : Calls Tryz.prog 7 #[] w fun e w' => e = .returned (.bool true) ∧ Below w.heap.size w w' := by
  have hmf : ∀ (fn : Fn) (first cap : Array Value) (w : World), (Instr.makeFunc fn first cap).run Tryz.prog w = .ok (.func fn first cap) w := fun _ _ _ _ => rfl
  have HST := Lib.hid (p := ∀ w, Calls Tryz.prog 8 #[.int .i64 16] w fun e w' => ∃ gs, e = .returned (.pointer (some ⟨gs, 0, none⟩)) ∧ ∃ A c Bs, Hid (Vol w.heap.size w' gs A c Bs) ∧ Hid (Bs.length = 16 ∧ ∀ x ∈ Bs, x.l = List.replicate 256 0) ∧ Hid (Below w.heap.size w w')) (fun w => start_any 16 (by decide) w)
  go_enter Tryz.func7, Tryz.ntmps7
  go_wp2_with (first
    | (go_at_call 8; refine (HST.out _).mono ?_; rintro e w1 ⟨gs, rfl, A, c, Bs, hv, hB, hb⟩
       have HS1 := Lib.hid hv.out.src
       have HBZ := hB
       have HB1 := hb
       clear hv hB hb)
    | (go_at_call 9; refine (vnew gs _).mono ?_; rintro e w2 ⟨gv, gm, rfl, hv2, hb2⟩)
    | (refine step_new rfl 28 rfl (.pointer none) zero_vptr rfl ?_; intro pv w3 hr3 hg3 hb3
       have R3 := Lib.hid hr3; have HB3 := Lib.hid hb3; have HG3 := hg3
       have c3 : w3.cell? ⟨pv, 0, none⟩ = some (.pointer none) := (hr3.cell 0).trans rfl
       have f3 := hr3.free 0
       clear hr3 hb3 hg3)
    | (refine step_new rfl 4 rfl (.bool false) zero_bool rfl ?_; intro pr w4 hr4 hg4 hb4
       have R4 := Lib.hid hr4; have HB4 := Lib.hid hb4; have HG4 := hg4
       have c4 : w4.cell? ⟨pr, 0, none⟩ = some (.bool false) := (hr4.cell 0).trans rfl
       have f4 := hr4.free 0
       have npp : pv < pr := by have h1 := R3.out.lt; have h2 := HG4.out; simp at h2; omega
       have cq : (w4.setCell ⟨pr, 0, none⟩ (.bool false)).cell? ⟨pv, 0, none⟩ = some (.pointer (some ⟨gv, 0, none⟩)) := ((((R3.out.put 0 (.pointer (some ⟨gv, 0, none⟩))).kept hb4).far (p := ⟨pr, 0, none⟩) (by simp; omega) (.bool false)).cell 0).trans rfl
       clear hr4 hb4 hg4))
  have HCF1 := Lib.hid (p := ∀ w, (callFunc 33 #[.pointer (some ⟨pv, 0, none⟩), .pointer (some ⟨pr, 0, none⟩)]).run Tryz.prog w = .ok (.enter 33 #[.pointer (some ⟨pv, 0, none⟩), .pointer (some ⟨pr, 0, none⟩)]) w) (fun w => by simp [go_sem])
  have lpv : w2.heap.size ≤ pv := Nat.le_of_eq HG3.out.symm
  have hc23 : Chg [pv] w2 (w3.setCell ⟨pv, 0, none⟩ (.pointer (some ⟨gv, 0, none⟩))) := ((Chg.of HB3.out).setCell (p := ⟨pv, 0, none⟩) (.inl (by simp)) _)
  have hc24 : Chg [pv, pr] w2 (w4.setCell ⟨pr, 0, none⟩ (.bool false)) := ((hc23.wider (fun x hx => .inl (by simp at hx ⊢; exact .inl hx))).trans (Chg.of (F := []) HB4.out) (by simp)).setCell (p := ⟨pr, 0, none⟩) (.inl (by simp)) _
  have HVV := Lib.hid (hv2.out.below' hc24 (fun x hx => by simp at hx; rcases hx with rfl | rfl <;> omega))
  have RV := Lib.hid ((((R3.out.put 0 (.pointer (some ⟨gv, 0, none⟩))).kept HB4.out).far (p := ⟨pr, 0, none⟩) (by simp; omega) (.bool false)))
  have RR := Lib.hid (R4.out.put 0 (.bool false))
  have hbb : Below w1.heap.size w1 (w4.setCell ⟨pr, 0, none⟩ (.bool false)) := hb2.out.trans (hc24.below hb2.out.size (fun x hx => by have := hb2.out.size; simp at hx; rcases hx with rfl | rfl <;> omega))
  have HBB := Lib.hid hbb
  have npg : gv < pv ∧ gm < pv := ⟨by have := hv2.out.row.lt; omega, by have := hv2.out.map.lt; omega⟩
  have lpw : pr < (w4.setCell ⟨pr, 0, none⟩ (.bool false)).heap.size := RR.out.lt
  clear c3 f3 c4 f4 hc23 hc24 hbb
  generalize w4.setCell ⟨pr, 0, none⟩ (.bool false) = W8 at HVV RV RR HBB lpw cq ⊢
  have hG8 : ∀ x ∈ [gm, pr], x ≠ gv ∧ x < W8.heap.size := fun x hx => by
    simp at hx
    rcases hx with rfl | rfl
    · exact ⟨HVV.out.ne.symm, HVV.out.map.lt⟩
    · exact ⟨by omega, lpw⟩
  refine (vrun 33 #[.pointer (some ⟨pv, 0, none⟩), .pointer (some ⟨pr, 0, none⟩)] [gm, pr] _ _ HVV.out hG8 HCF1.out (fun r w1' hv hr hc hrb => awake1 hv (by have := HBB.out.size; have := hc.size; omega) (by have := HBB.out.size; omega) hr (hc.row RV.out (by simp; omega)) (hc.row RR.out (by simp; omega)) (HS1.out.keep (HBB.out.trans (hc.below HBB.out.size (fun x hx => by
    have := hv2.out.lo
    simp at hx
    rcases hx with rfl | rfl <;> omega)))) HBZ.out (by have := hb2.out.size; omega))).mono ?_
  intro e w9 h9
  obtain ⟨rfl, n', C', wa, wb, F, hv9, hn9, hd9, hcF, hF, hsz, hc9⟩ := h9.done (fun _ _ h => h)
  have cp9 : w9.cell? ⟨pv, 0, none⟩ = some (.pointer (some ⟨gv, 0, none⟩)) := hc9.out.cell cq (by simp; omega)
  have cr9 : w9.cell? ⟨pr, 0, none⟩ = some (.bool true) := hcF.out.cell hd9.out.1 (fun hx => by rcases hF.out pr hx with h | h <;> omega)
  have HB9 := Lib.hid (p := Below w1.heap.size w1 w9) (HBB.out.trans (hc9.out.below HBB.out.size (fun x hx => by
    have h1 := hv2.out.lo
    have h2 := hb2.out.size
    simp at hx
    rcases hx with rfl | rfl | rfl <;> omega)))
  go_wp2_with (first
    | (go_at_call 30; refine (vchanges hv9.out hn9.out).mono ?_; rintro e w10 ⟨qs, A', c', rfl, hco, hpa, hb10⟩
       have hl := put3_len hco.out hd9.out.2
       rw [hl]
       have HB10 := Lib.hid (HB9.out.trans (hb10.out.mono HB9.out.size))
       clear hl))
  go_ret
  exact ⟨rfl, below_nxt HB10.out HB1.out⟩
end Go.Proofs.YtfbfeplegdpemaaGreat
