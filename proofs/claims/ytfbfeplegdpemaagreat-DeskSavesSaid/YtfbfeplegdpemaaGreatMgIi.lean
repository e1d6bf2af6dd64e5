/- Package inode: how many blocks a size goes through. No conditions but those named. -/
import Derived.Test.YtfbfeplegdpemaaGreatMgIb
import Derived.Test.YtfbfeplegdpemaaGreatMgMem
import Derived.Test.YtfbfeplegdpemaaGreatMgRBy
import Derived.Laws.StructEq
import Derived.Deep.RegionHeld
import Derived.Test.YtfbfeplegdpemaaGreatMgIg
import Derived.Laws.IdiomCopy
import Derived.RegionTactic
set_option linter.unusedVariables false
set_option maxRecDepth 20000
namespace Go.Proofs.YtfbfeplegdpemaaGreat
open Go.RowKit

/-! How many blocks. -/
theorem wr_nat (m : Nat) (h : m < 9223372036854775808) : IntKind.i64.wrap (m : Int) = (m : Int) := by rw [IntKind.wrap_i64]; omega
theorem wr64_nat (m : Nat) (h : m < 9223372036854775808) : wrap64 (m : Int) = (m : Int) := by unfold wrap64; omega
def blks (z : Int) : Int := if z ≤ 0 then 0 else (z - 1) / 256 + 1
theorem blocks_any (z : Int) (h : z < 9223372036854775808) (w : World) : Calls Tryz.prog 52 #[.int .i64 z] w fun e w' => e = .returned (.int .i64 (blks z)) ∧ w = w' := by
  by_cases h0 : z ≤ 0
  · have hb : blks z = 0 := by unfold blks; rw [if_pos h0]
    rw [hb]
    clear hb
    go_enter Tryz.func52, Tryz.ntmps52
    go_wp2
    go_ret
    exact ⟨rfl, rfl⟩
  · have hb : blks z = (z - 1) / 256 + 1 := by unfold blks; rw [if_neg h0]
    rw [hb]
    obtain ⟨m, hm⟩ : ∃ m : Nat, z - 1 = (m : Int) := ⟨(z - 1).toNat, by omega⟩
    obtain ⟨q, hq⟩ : ∃ q : Nat, m / 256 = q := ⟨_, rfl⟩
    have hzm : z = (m : Int) + 1 := by omega
    have hd : ((m : Int)) / 256 = (q : Int) := by omega
    have hmb : m < 9223372036854775807 := by omega
    have hqb : q + 1 < 9223372036854775808 := by omega
    rw [hm, hd]
    clear hb hm hq h h0
    subst hzm
    have h7 : (m : Int) + 1 - 1 = (m : Int) := Int.add_sub_cancel _ _
    have h1 : IntKind.i64.wrap ((m : Int) + 1 - 1) = (m : Int) := by rw [h7]; exact wr_nat m (by omega)
    have h2 : Int.tdiv (m : Int) 256 = (q : Int) := by rw [Int.tdiv_eq_ediv_of_nonneg (Int.natCast_nonneg m)]; exact hd
    have h3 : wrap64 (q : Int) = (q : Int) := wr64_nat q (by omega)
    have h4 : IntKind.i64.wrap (q : Int) = (q : Int) := wr_nat q (by omega)
    have h5 : IntKind.i64.wrap ((q : Int) + 1) = (q : Int) + 1 := wr_nat (q + 1) hqb
    have h6 : wrap64 ((m : Int) + 1 - 1) = (m : Int) := by rw [h7]; exact wr64_nat m (by omega)
    have h8 : wrap64 (m : Int) = (m : Int) := wr64_nat m (by omega)
    have h9 : IntKind.i64.wrap (m : Int) = (m : Int) := wr_nat m (by omega)
    have h0 : ¬ ((m : Int) + 1 ≤ 0) := by omega
    clear hmb hqb hd
    go_enter Tryz.func52, Tryz.ntmps52
    go_wp2
    go_ret
    exact ⟨rfl, rfl⟩
end Go.Proofs.YtfbfeplegdpemaaGreat
/- Steps of a region that draws, one by one: a row made, a row stored. No conditions. -/
set_option linter.unusedVariables false
namespace Go.Proofs.YtfbfeplegdpemaaGreat
open Go.RowKit

section
variable {P : Program} {ops : Array Oper} {o : Oper} {a : Act} {w : World} {Q : Exit → Act → World → Prop} {K : Act → World → Prop} {E : Prop}
theorem st_alloc (hw : Region.wanted o (yielded ops a.tmps) = true) (t : TypeId) (ho : o.op = .alloc t) (cs : List Value) (hz : ∀ w : World, (zeroValue t).run P w = .ok (.agg cs.toArray) w)
    (h : ∀ g w', Row w' g t cs → Hid (g = w.heap.size) → Below w.heap.size w w' → K (a.put o.dst (.pointer (some ⟨g, 0, none⟩))) w') : if Region.wanted o (yielded ops a.tmps) = true then Oper.wp P o a w K Q else E := by
  rw [if_pos hw]
  unfold Oper.wp execOp
  simp only [ho]
  simp [Instr.alloc, hz, newVar, go_sem]
  exact h _ _ (Row.made w t cs) (show _ = _ from rfl) ((Below.refl _ _).alloc (Nat.le_refl _) _)
theorem st_store (hw : Region.wanted o (yielded ops a.tmps) = true) (ty : TypeId) (x y : Operand) (ho : o.op = .store ty x y) (g : Nat) (hx : a.eval x = .pointer (some ⟨g, 0, none⟩)) (t : TypeId) (old cs : List Value) (hy : a.eval y = .agg cs.toArray)
    (hr : Row w g t old) (hl : old.length = cs.length) (hi : (P.info? ty).map (·.size) = some cs.length) (h1 : ∀ v ∈ cs, v.oneCell' = true)
    (h : ∀ w', Row w' g t cs → w.grownBy w' (some g) → K (a.put o.dst undef) w') : if Region.wanted o (yielded ops a.tmps) = true then Oper.wp P o a w K Q else E := by
  rw [if_pos hw]
  refine wp_store_row ty x y ho g cs.toArray hx hy t old.toArray hr (by simpa using hi) (by simpa using hl) (all_oneCell_toArray h1) ?_
  exact h _ (setRow_heap w g _ _ t _ hr) ⟨rfl, rfl, rfl, by simp, fun k hk hne => setRow_other w g k _ (fun e => hne (by rw [e]))⟩
theorem run_eql_op {P : Program} (w : World) {a : Act} (o : Oper) (t t' : TypeId) (x y : Operand) (ho : o.op = .binOp .eql t x y t') (xs ys : Array Value) (hx : a.eval x = .agg xs) (hy : a.eval y = .agg ys) (hg : P.eqGuardType P.depth t = false) (b : Bool)
    (he : ∀ w, (Op.equalIn 10000 t (.agg xs) (.agg ys)).run P w = .ok b w) : (execOp a.eval o).run P w = .ok (.value (.bool b)) w := by
  unfold execOp
  simp only [ho, hx, hy, Sem.run_bind, run_eqGuard_agg w _ t x y xs ys hg, run_eql_struct, he, Result.andThen_ok]
  rfl
theorem run_build_op {P : Program} (w : World) {a : Act} (o : Oper) (t : TypeId) (parts : Array (Nat × Operand)) (ho : o.op = .build t parts) (vs : List (Nat × Value)) (hv : (parts.map fun (i, x) => (i, a.eval x)).toList = vs) (cells : Array Value) (hb : P.built t vs = some cells) : (execOp a.eval o).run P w = .ok (.value (.agg cells)) w := by
  subst hv
  unfold execOp
  simp only [ho, Sem.run_bind, run_build w t _ cells hb, Result.andThen_ok]
  rfl
end
end Go.Proofs.YtfbfeplegdpemaaGreat
/- Files: which bytes may be, the blocks they come to, and rows of slots. Conditions: those named. -/
set_option linter.unusedVariables false
set_option maxRecDepth 20000
namespace Go.Proofs.YtfbfeplegdpemaaGreat
open Go.RowKit

theorem may_ok (o c : Nat) (h : o + c ≤ 32768) (w : World) : Calls Tryz.prog 44 #[.int .i64 (o : Int), .int .i64 (c : Int)] w fun e w' => e = .returned (.bool true) ∧ w = w' := by
  have h1 : (0 : Int) ≤ (o : Int) := by omega
  have h2 : (0 : Int) ≤ (c : Int) := by omega
  have h3 : IntKind.i64.wrap ((32768 : Int) - (o : Int)) = 32768 - (o : Int) := by rw [IntKind.wrap_i64]; omega
  have h4 : (c : Int) ≤ 32768 - (o : Int) := by omega
  clear h
  go_enter Tryz.func44, Tryz.ntmps44
  go_wp2
  go_ret
  exact ⟨rfl, rfl⟩
theorem blks_nat (z : Nat) (h : 1 ≤ z) : blks (z : Int) = (((z - 1) / 256 + 1 : Nat) : Int) := by
  unfold blks
  rw [if_neg (by omega)]
  omega
theorem span_ok (o c : Nat) (hc : 1 ≤ c) (h : o + c ≤ 32768) (w : World) : Calls Tryz.prog 45 #[.int .i64 (o : Int), .int .i64 (c : Int)] w fun e w' => e = .returned (.tuple #[.int .i64 ((o / 256 : Nat) : Int), .int .i64 (((o + c - 1) / 256 + 1 : Nat) : Int)]) ∧ w = w' := by
  have h1 : IntKind.i64.wrap ((o : Int) + (c : Int)) = ((o + c : Nat) : Int) := by rw [IntKind.wrap_i64]; omega
  have HB := Lib.hid (p := ∀ w, Calls Tryz.prog 52 #[.int .i64 ((o + c : Nat) : Int)] w fun e w' => e = .returned (.int .i64 (((o + c - 1) / 256 + 1 : Nat) : Int)) ∧ w = w') (fun w => by
    have := blocks_any ((o + c : Nat) : Int) (by omega) w
    rw [blks_nat _ (by omega)] at this
    exact this)
  obtain ⟨q, hq⟩ : ∃ q, o / 256 = q := ⟨_, rfl⟩
  obtain ⟨p, hp⟩ : ∃ p, (o + c - 1) / 256 + 1 = p := ⟨_, rfl⟩
  obtain ⟨m, hm⟩ : ∃ m, o + c = m := ⟨_, rfl⟩
  have h2 : wrap64 ((o : Int) / 256) = (q : Int) := by
    have e : (o : Int) / 256 = (q : Int) := by rw [← hq]; omega
    rw [e]
    exact wr64_nat q (by omega)
  rw [hp, hm] at HB
  rw [hm] at h1
  rw [hq, hp]
  clear h hc hq hp hm
  go_enter Tryz.func45, Tryz.ntmps45
  go_wp2_with (go_at_call 52; refine (HB.out _).mono ?_; rintro e w4 ⟨rfl, rfl⟩)
  go_ret2
  exact ⟨rfl, rfl⟩
/-! Rows of slots. -/
theorem inl_add (a b : Nat) (f : Nat → Int) : inl (a + b) f = inl a f ++ inl b (fun j => f (a + j)) := by
  unfold inl
  rw [List.range_add, List.map_append, List.map_map]
  rfl
theorem inl_split (f : Nat → Int) : inl 128 f = inl 16 f ++ inl 112 (fun j => f (16 + j)) := inl_add 16 112 f
section
variable {P : Program} {ops : Array Oper} {rest : List Oper} {o : Oper} {a : Act} {w : World} {Q : Exit → Act → World → Prop} {K : Act → World → Prop}
theorem run_copy_part (w : World) (dT sT ty elem : TypeId) (hu : P.underlying dT = some (.slice elem)) (hs : (P.info? elem).map (·.size) = some 1) {g off dLen dCap : Nat} {t : TypeId} {A old cs B : List Value} (hr : Row w g t (A ++ (old ++ B))) (ha : A.length = off) (hl : old.length = cs.length)
    (ad : Addr) (sLen sCap : Nat) (hn : cs.length = Nat.min sLen dLen) (hsrc : ∀ j v, cs[j]? = some v → w.cell? (ad.add j) = some v) (h1 : ∀ v ∈ cs, v.oneCell' = true) :
    ∃ w', (Builtin.copy_ #[dT, sT] ty #[.slice (some ⟨g, off, none⟩) dLen dCap, .slice (some ad) sLen sCap]).run P w = .ok (goInt cs.length) w' ∧ Row w' g t (A ++ (cs ++ B)) ∧ w.grownBy w' (some g) := by
  have ht := hr.is_there off cs.length (by subst ha; simp; omega)
  exact ⟨_, run_copy_cells w dT sT ty elem g off dLen dCap ad sLen sCap cs hu hs hn hsrc (fun j hj => (ht j hj).1) (fun j hj => (ht j hj).2) h1, row_store hr ha hl, grown_sets g cs off w⟩
theorem k_copy_part (d s : Operand) (dT sT : TypeId) (ho : o.op = .call { callee := .builtin .copy, args := #[d, s], argTypes := #[dT, sT] }) (elem : TypeId) (hu : P.underlying dT = some (.slice elem)) (hs : (P.info? elem).map (·.size) = some 1)
    (g off dLen dCap : Nat) (hd : a.eval d = .slice (some ⟨g, off, none⟩) dLen dCap) (t : TypeId) (A old cs B : List Value) (hr : Row w g t (A ++ (old ++ B))) (ha : A.length = off) (hl : old.length = cs.length)
    (ad : Addr) (sLen sCap : Nat) (hx : a.eval s = .slice (some ad) sLen sCap) (hn : cs.length = Nat.min sLen dLen) (hsrc : ∀ j v, cs[j]? = some v → w.cell? (ad.add j) = some v) (h1 : ∀ v ∈ cs, v.oneCell' = true)
    (h : ∀ w', Row w' g t (A ++ (cs ++ B)) → w.grownBy w' (some g) → K (a.put o.dst (goInt cs.length)) w') : Oper.wp P o a w K Q := by
  obtain ⟨w', hrun, h2, h3⟩ := run_copy_part (P := P) w dT sT o.type elem hu hs hr ha hl ad sLen sCap hn hsrc h1 (dCap := dCap)
  unfold Oper.wp execOp
  simp only [ho, resolve, invoke, builtin, Sem.run_bind, Sem.run_pure, Result.andThen_ok, List.map_toArray, List.map_cons, List.map_nil, hd, hx, hrun]
  exact h w' h2 h3
end
theorem row_src_at {w : World} {g off : Nat} {t : TypeId} {A M B : List Value} (h : Row w g t (A ++ (M ++ B))) (ha : A.length = off) : ∀ j v, M[j]? = some v → w.cell? ((⟨g, off, none⟩ : Addr).add j) = some v := fun j v hv => by
  rw [Addr.add_lit]
  exact h.rng ha j v hv
theorem info_row : (Tryz.prog.info? 98).map (·.size) = some 128 := by kernel_rfl
theorem info_rows (f : Nat → Int) : (Tryz.prog.info? 98).map (·.size) = some (inl 128 f).length := by rw [inl_len]; exact info_row
theorem zero_row (w : World) : (zeroValue 98).run Tryz.prog w = .ok (.agg (inl 128 ino0).toArray) w := by kernel_rfl
set_option maxHeartbeats 1000000 in
/-- The slots that a list tells. -/
theorem list_any (R : Nat → Int) (w : World) : Calls Tryz.prog 84 #[.agg (inl 128 R).toArray] w fun e w' => e = .returned (.agg (inl 112 fun j => R (16 + j)).toArray) ∧ Below w.heap.size w w' := by
  have i1 := Lib.hid info_rows
  have i2 := Lib.hid info_inl
  have i3 := Lib.hid info_int
  have hz := Lib.hid zero_112
  obtain ⟨L, hL⟩ : ∃ L : Nat → Int, (fun j => R (16 + j)) = L := ⟨_, rfl⟩
  have HSP := Lib.hid (p := inl 128 R = inl 16 R ++ (inl 112 L ++ [])) (by rw [← hL, List.append_nil]; exact inl_split R)
  rw [hL]
  clear hL
  go_enter Tryz.func84, Tryz.ntmps84
  go_wp2_with (first
    | (refine step_box rfl 1 rfl 98 (.tmp 0) rfl (inl 128 R) rfl ?_; intro g1 w2 hr2 hg2 hb2 hs2
       have HR12 := Lib.hid hr2
       have HB2 := Lib.hid hb2
       have HG1 := Lib.hid (p := w.heap.size ≤ g1) (Nat.le_of_eq hg2.out.symm)
       clear hr2 hg2 hb2 hs2)
    | (refine step_alloc rfl 2 rfl 134 rfl _ hz.out ?_; intro g2 w3 hr2 hg2 hb2 hs2
       have HR23 := Lib.hid hr2
       have HR13 := Lib.hid (HR12.out.kept hb2)
       have HB3 := Lib.hid (below_nxt hb2 HB2.out)
       have HG2 := Lib.hid (p := w.heap.size ≤ g2 ∧ g1 < g2) (by rw [hg2.out]; exact ⟨HB2.out.size, HR12.out.lt⟩)
       clear hr2 hg2 hb2 hs2; have MK := trivial)
    | (clear MK; refine step_alloc rfl 3 rfl 134 rfl _ hz.out ?_; intro g3 w4 hr2 hg2 hb2 hs2
       have HR34 := Lib.hid hr2
       have HR14 := Lib.hid (HR13.out.kept hb2)
       have HR24 := Lib.hid (HR23.out.kept hb2)
       have HB4 := Lib.hid (below_nxt hb2 HB3.out)
       have HG3 := Lib.hid (p := w.heap.size ≤ g3 ∧ g1 < g3 ∧ g2 < g3) (by rw [hg2.out]; exact ⟨HB3.out.size, HR13.out.lt, HR23.out.lt⟩)
       clear hr2 hg2 hb2 hs2))
  refine wp_region_held_drew (S := fun _ => True) (by kernel_rfl) trivial (fun hHeld => ?_)
  refine wpAnyH_take (i := 0) (oi := ⟨some 4, .slice 134 (.tmp 3) none none none, _, _, _, _⟩) (v := .slice (some ⟨g3, 0, none⟩) 112 112) rfl (by kernel_rfl) (by kernel_rfl) (by kernel_rfl) (fun _ _ _ h => h) (.inl ⟨by rfl, fun w hSw => by go_simp⟩) (by assumption) ?_
  simp only [Act.put, List.setIfInBounds_toArray, List.set_cons_zero, List.set_cons_succ]
  refine wpAnyH_take (i := 1) (oi := ⟨some 5, .slice 98 (.tmp 1) (some (Operand.const (Value.int IntKind.i64 16))) none none, _, _, _, _⟩) (v := .slice (some ⟨g1, 16, none⟩) 112 112) rfl (by kernel_rfl) (by kernel_rfl) (by kernel_rfl) (fun _ _ _ h => h) (.inl ⟨by rfl, fun w hSw => by go_simp⟩) (by assumption) ?_
  simp only [Act.put, List.setIfInBounds_toArray, List.set_cons_zero, List.set_cons_succ]
  refine wpAnyH_ready (rs := [2]) (by kernel_rfl) (by simp) ?_
  refine AllReadyH.cons (o := ⟨some 6, .call ⟨.builtin .copy, #[.tmp 4, .tmp 5], #[110, 110]⟩, _, _, _, _⟩) rfl (fun K hK => ?_) AllReadyH.nil
  refine k_copy_part (.tmp 4) (.tmp 5) 110 110 rfl 3 Tryz.underlying110 i3.out g3 0 112 112 (by rfl) 134 [] (inl 112 ino0) (inl 112 L) [] (by simpa using HR34.out.drew) rfl (by rw [inl_len, inl_len]) ⟨g1, 16, none⟩ 112 112 (by rfl) (by rw [inl_len]; rfl) (row_src_at (by have h := HR14.out.drew; rw [HSP.out] at h; exact h) (by rw [inl_len])) (inl_one _ _) ?_
  intro w5 hr5 hg5
  have HR35 := Lib.hid (p := Row w5 g3 134 (inl 112 L)) (by simpa using hr5)
  have HB5 := Lib.hid (p := Below w.heap.size w w5) (below_own (Below.trans HB4.out (below_drw w4 |>.mono HB4.out.size)) hg5 HG3.out.1)
  have HR25 := Lib.hid (HR24.out.drew.grown hg5 (fun e => by have := HG3.out; injection e; omega))
  clear hr5 hg5
  refine hK.out _ _ trivial (fun _hH => ?_)
  clear hK K
  refine wpAnyH_done (by kernel_rfl) ?_ _
  go_wp2_with (first
    | (refine step_load rfl 7 rfl 134 (.tmp 3) rfl g3 rfl (inl 112 L) _ HR35.out.all Tryz.underlying134 rfl (i2.out _) ?_)
    | (refine step_store rfl 134 (.tmp 2) (.tmp 7) rfl g2 (by rfl) _ _ (inl 112 L) (by rfl) HR25.out (by rw [inl_len, inl_len]) (i2.out _) (inl_one _ _) ?_; intro w9 hr9 hg9 hs9))
  refine bodyPost_ret (results_cell_row rfl _ _ g2 _ _ _ _ rfl hr9 Tryz.underlying134 rfl (by simpa using i2.out L)) rfl ?_
  exact ⟨rfl, below_own HB5.out hg9 HG2.out.1⟩
end Go.Proofs.YtfbfeplegdpemaaGreat
/- Where a desk's call begins. Conditions: the desk lies there. -/
set_option linter.unusedVariables false
set_option maxRecDepth 20000
namespace Go.Proofs.YtfbfeplegdpemaaGreat
open Go.RowKit

section
variable {b : Nat} {w w' : World} {gd gv gm gs r : Nat} {Bs : List BV} {N n : Nat} {X : DX} {g1 : Nat} {la : Int} {dl : List Value}
theorem going1_any (p : Int × BV) (w : World) (h1 : w.cell? ⟨g1, 0, none⟩ = some (.pointer (some ⟨gd, 0, none⟩))) (h2 : w.cell? ⟨gd, 1553, none⟩ = some (.int .i64 la)) :
    Calls Tryz.prog 99 #[.agg (pcs p).toArray, .pointer (some ⟨g1, 0, none⟩)] w fun e w' => (∃ z, e = .returned (.bool z)) ∧ Hid (Below w.heap.size w w') := by
  have i2 : (Tryz.prog.info? 70).map (·.size) = some 2 := by kernel_rfl
  have l1 := World.block_lt_of_cell? w _ h1
  have l2 := World.block_lt_of_cell? w _ h2
  obtain ⟨s, y⟩ := p
  have HX := Lib.hid (p := g1 < w.heap.size ∧ gd < w.heap.size) ⟨l1, l2⟩
  have H1 := Lib.hid h1
  have H2 := Lib.hid h2
  clear h1 h2 l1 l2
  go_enter Tryz.func99, Tryz.ntmps99
  go_wp2_with (first
    | (refine step_box rfl 2 rfl 70 (.tmp 0) rfl (pcs (s, y)) rfl ?_; intro g2 w2 hr2 hg2 hb2 hs2
       have c0 : w2.cell? ⟨g2, 0, none⟩ = some (.int .i64 s) := (hr2.cell 0).trans rfl
       have c1 : w2.cell? ⟨g1, 0, none⟩ = some (.pointer (some ⟨gd, 0, none⟩)) := (hb2.cell (p := ⟨g1, 0, none⟩) HX.out.1).trans H1.out
       have c2 : w2.cell? ⟨gd, 1553, none⟩ = some (.int .i64 la) := (hb2.cell (p := ⟨gd, 1553, none⟩) HX.out.2).trans H2.out
       have HB2 := Lib.hid hb2
       clear hr2 hg2 hb2 hs2))
  go_region
  go_wp2
  go_ret
  exact ⟨⟨_, rfl⟩, Lib.hid HB2.out.drew⟩
theorem index_any {A : Option Addr} {c : Nat} {ps : List (Int × BV)} (hp : PutsAt w A ps) (h1 : w.cell? ⟨g1, 0, none⟩ = some (.pointer (some ⟨gd, 0, none⟩))) (h2 : w.cell? ⟨gd, 1553, none⟩ = some (.int .i64 la)) :
    Calls Tryz.prog 118 #[.slice A ps.length c, .func (.func 99) #[] #[.pointer (some ⟨g1, 0, none⟩)]] w fun e w' => (∃ z, e = .returned (.int .i64 z)) ∧ Hid (Below w.heap.size w w') := by
  have i2 := Lib.hid (p := (Tryz.prog.info? 70).map (·.size) = some 2) (by kernel_rfl)
  have HP := Lib.hid hp
  have hlim := hp.lim
  have HL := Lib.hid hlim
  have HX := Lib.hid (p := g1 < w.heap.size ∧ gd < w.heap.size) ⟨World.block_lt_of_cell? w _ h1, World.block_lt_of_cell? w _ h2⟩
  have H1 := Lib.hid h1
  have H2 := Lib.hid h2
  clear hp h1 h2 hlim
  go_enter Tryz.func118, Tryz.ntmps118
  go_wp2
  go_loopw [8] (fun x wr => ∃ k : Nat, Hid (k ≤ ps.length) ∧ x = .int .i64 (k : Int) ∧ Hid (Below w.heap.size w wr)) (fun x _ => ps.length - (intOf x).toNat)
  case atStart => exact ⟨0, Lib.hid (Nat.zero_le _), rfl, Lib.hid (Below.refl _ _)⟩
  case round =>
    obtain ⟨k, HK, rfl, HB⟩ := hrel
    by_cases hk : k < ps.length
    · have hki : (k : Int) < (ps.length : Int) := by omega
      obtain ⟨g, o, rfl, hc⟩ := (HP.out.lies.below HB.out).at_ hk
      obtain ⟨x, hx⟩ : ∃ x, ps[k]'hk = x := ⟨_, rfl⟩
      rw [hx] at hc
      have hr : wr.rangeAt g (o + k * 2) (pcs x) := fun i u hu => hc i u hu
      have HR := Lib.hid hr
      have hkw : IntKind.i64.wrap ((k : Int) + 1) = (k : Int) + 1 := by rw [IntKind.wrap_i64]; have := HL.out; omega
      have HG := Lib.hid (going1_any (g1 := g1) (gd := gd) (la := la) x wr ((HB.out.cell (p := ⟨g1, 0, none⟩) HX.out.1).trans H1.out) ((HB.out.cell (p := ⟨gd, 1553, none⟩) HX.out.2).trans H2.out))
      have HKK := Lib.hid hk
      clear hc hx hr hk
      go_wp2_with (first
        | (refine wpList_load_mid rfl 70 (.tmp 14) rfl g (o + k * 2) (by rfl) (pcs x) _ HR.out Tryz.underlying70 rfl i2.out ?_)
        | (go_at_call 99; refine HG.out.mono ?_; rintro e w4 ⟨⟨z, rfl⟩, hb⟩; cases z))
      · have HB4 := Lib.hid (below_nxt hb.out HB.out)
        clear hb
        go_wp2
        go_roundw
        case rel => exact ⟨k + 1, HKK, by go_num, HB4⟩
        case measure => have := HKK.out; simp [intOf]; omega
      · have HB4 := Lib.hid (below_nxt hb.out HB.out)
        clear hb
        go_wp2
        go_ret
        exact ⟨⟨_, rfl⟩, HB4⟩
    · have hkz : ¬ (k : Int) < (ps.length : Int) := by omega
      clear hk
      go_wp2
      go_ret
      exact ⟨⟨_, rfl⟩, HB⟩
theorem contains_any {A : Option Addr} {c : Nat} {ps : List (Int × BV)} (hp : PutsAt w A ps) (h1 : w.cell? ⟨g1, 0, none⟩ = some (.pointer (some ⟨gd, 0, none⟩))) (h2 : w.cell? ⟨gd, 1553, none⟩ = some (.int .i64 la)) :
    Calls Tryz.prog 98 #[.slice A ps.length c, .func (.func 99) #[] #[.pointer (some ⟨g1, 0, none⟩)]] w fun e w' => (∃ z, e = .returned (.bool z)) ∧ Hid (Below w.heap.size w w') := by
  have HI := Lib.hid (index_any (c := c) hp h1 h2)
  clear hp h1 h2
  go_enter Tryz.func98, Tryz.ntmps98
  go_wp2_with (go_at_call 118; refine HI.out.mono ?_; rintro e w4 ⟨⟨z, rfl⟩, hb⟩)
  go_ret
  exact ⟨⟨_, rfl⟩, hb⟩
theorem going_any (h : DK b w gd gv gm gs r Bs N n X) (hn : n ≤ 1000) : Calls Tryz.prog 68 #[.pointer (some ⟨gd, 0, none⟩)] w fun e w' => (∃ z, e = .returned (.bool z)) ∧ Hid (Below w.heap.size w w') := by
  obtain ⟨ah, la, e1, e2, hd⟩ := h.desk
  obtain ⟨C, hv, _⟩ := h.view
  have HV := Lib.hid hv
  have HD := Lib.hid hd
  have HN := Lib.hid hn
  have HL := Lib.hid (p := ∀ W, Below w.heap.size w W → W.cell? ⟨gd, 1553, none⟩ = some (.int .i64 la)) (fun W hb => ((hd.kept hb).cell 1553).trans (dcs_la (bkcs_len _ _ _) e1))
  have hmf : ∀ (fn : Fn) (first cap : Array Value) (w : World), (Instr.makeFunc fn first cap).run Tryz.prog w = .ok (.func fn first cap) w := fun _ _ _ _ => rfl
  clear h hv hd hn
  go_enter Tryz.func68, Tryz.ntmps68
  go_wp2_with (first
    | (refine step_box1 rfl 33 _ rfl (.pointer (some ⟨gd, 0, none⟩)) rfl rfl ?_; intro g2 w2 hr2 hg2 hb2
       have R2 := Lib.hid hr2
       have HB2 := Lib.hid hb2
       have c1 : w2.cell? ⟨g2, 0, none⟩ = some (.pointer (some ⟨gd, 0, none⟩)) := (hr2.cell 0).trans rfl
       have c0 : w2.cell? ⟨gd, 0, none⟩ = some (.pointer (some ⟨gv, 0, none⟩)) := ((HD.out.kept hb2).cell 0).trans rfl
       clear hr2 hg2 hb2)
    | (go_at_call 30; refine (vchanges (HV.out.below HB2.out) HN.out).mono ?_; rintro e w3 ⟨ps, A, c, rfl, hc, hp, hb⟩
       have HP3 := hp
       have HB3 := Lib.hid (below_nxt hb.out HB2.out)
       have HC3 := Lib.hid (p := w3.cell? ⟨g2, 0, none⟩ = some (.pointer (some ⟨gd, 0, none⟩))) (((R2.out.kept hb.out).cell 0).trans rfl)
       clear hc hp hb)
    | (go_at_call 98; refine (contains_any HP3.out HC3.out (HL.out _ HB3.out)).mono ?_; rintro e w4 ⟨⟨z, rfl⟩, hb⟩
       have HB4 := Lib.hid (below_nxt hb.out HB3.out)
       clear hb))
  go_ret
  exact ⟨⟨_, rfl⟩, HB4⟩
set_option maxHeartbeats 1000000 in
/-- A call begins. -/
theorem dbegin (h : DK b w gd gv gm gs r Bs N n X) (hn : n ≤ 1000) : Calls Tryz.prog 36 #[.pointer (some ⟨gd, 0, none⟩)] w fun e w' => e = .returned (.tuple #[]) ∧ Hid (DK b w' gd gv gm gs r Bs N n X) ∧ Hid (Chg [gd] w w') := by
  have HG := Lib.hid (going_any h hn)
  obtain ⟨ah, la, e1, e2, hd⟩ := h.desk
  have cw : w.cell? ⟨gd, 1552, none⟩ = some (.bool false) := (hd.cell 1552).trans (dcs_wt (bkcs_len _ _ _) e1)
  have H := Lib.hid h
  have HD := Lib.hid hd
  have i1 := Lib.hid info_bkcs
  obtain ⟨bk, hbk⟩ : ∃ bk, bkcs X.rd X.S X.S0 = bk := ⟨_, rfl⟩
  have HBK := Lib.hid hbk
  have HL := Lib.hid (p := bk.length = 775 ∧ (∀ v ∈ bk, v.oneCell' = true)) (by rw [← hbk]; exact ⟨bkcs_len _ _ _, bkcs_one _ _ _⟩)
  rw [hbk] at HD
  have HE := Lib.hid (p := ah.length = 775 ∧ ∀ v ∈ ah, v.oneCell' = true) ⟨e1, e2⟩
  clear h hd hn e1 e2 hbk
  go_enter Tryz.func36, Tryz.ntmps36
  go_wp2_with (first
    | (go_at_call 68; refine HG.out.mono ?_; rintro e w2 ⟨⟨z, rfl⟩, hb⟩
       have HD2 := Lib.hid (HD.out.kept hb.out)
       have HB2 := hb
       clear hb
       cases z)
    | (refine step_load_at rfl 86 (.tmp 24) rfl gd 2 (by rfl) 88 (dhd gv N) bk (ah ++ dtl false la) _ HD2.out rfl Tryz.underlying86 rfl (i1.out _ HL.out.1) ?_)
    | (refine step_store_at rfl 86 (.tmp 27) (.tmp 25) rfl gd 777 (by rfl) 88 (dhd gv N ++ bk) ah bk (dtl false la) (by rfl) (by rw [← dcs_ah]; exact HD2.out) (by simp [dhd, HL.out.1]) (by rw [HE.out.1, HL.out.1]) (i1.out _ HL.out.1) HL.out.2 ?_
       intro w3 hr3 hg3
       have HR3 := Lib.hid hr3
       have HG3 := Lib.hid hg3
       clear hr3 hg3))
  · go_end0
    have hr := HR3.out
    rw [← dcs_ah] at hr
    have hC : Chg [gd] w w3 := (Chg.of HB2.out).trans (Chg.one HG3.out) (fun x hx => .inl hx)
    exact ⟨rfl, Lib.hid (H.out.own (X' := X) (by rw [HBK.out]; exact hr) HL.out.1 HL.out.2 rfl hC), Lib.hid hC⟩
  · go_end0
    exact ⟨rfl, Lib.hid (H.out.below HB2.out), Lib.hid (Chg.of HB2.out)⟩
end
end Go.Proofs.YtfbfeplegdpemaaGreat
