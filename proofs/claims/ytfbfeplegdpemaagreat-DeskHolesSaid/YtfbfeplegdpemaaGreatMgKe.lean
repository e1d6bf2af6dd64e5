/- A view: what is put; a new one. Conditions: the view lies there, over a source. -/
import Derived.Test.YtfbfeplegdpemaaGreatMgKb
import Derived.Carry
import Derived.Deep.RegionHeld3
import Derived.Defers
import Derived.Recover
import Derived.LaidEqlPtr
set_option linter.unusedVariables false
set_option maxRecDepth 20000
namespace Go.Proofs.YtfbfeplegdpemaaGreat
open Go.RowKit

section
variable {b : Nat} {w w' : World} {gv gm gs : Nat} {rp : Option Addr} {n : Nat} {C : Int → Option BV} {Bs : List BV}
/-- What is put. -/
def PutP (b : Nat) (w : World) (gv gm gs : Nat) (rp : Option Addr) (n : Nat) (C : Int → Option BV) (a : Int) (l : List UInt8) (e : Ending) (w' : World) : Prop :=
  e = .returned (.tuple #[]) ∧ ∃ y : BV, Hid (y.l = l) ∧ Hid (∀ k, (bvv y).ownBlock = some k → w.heap.size ≤ k) ∧ Hid (VV b w' gv gm gs rp (n + 1) (upC C a y)) ∧ Hid (Chg [gm] w w')
theorem own_ge {b : Nat} {w : World} {x : BV} (h : Own8 b w x) : ∀ k, (bvv x).ownBlock = some k → b ≤ k := fun k hk => (h.lt k hk).1
theorem vput (h : VV b w gv gm gs rp n C) (hb : b ≤ w.heap.size) (x : BV) (hx : Hol w x.A x.l) (hl : x.l.length ≤ 131072) (a : Int) (ha : I64 a) (hn : n ≤ 1000000) :
    Calls Tryz.prog 24 #[.pointer (some ⟨gv, 0, none⟩), .int .i64 a, .slice x.A x.l.length x.c] w (PutP b w gv gm gs rp n C a x.l) := by
  have c1 := h.c1
  have HC := Lib.hid (clone8 x w.drew hx hl)
  have fin : ∀ (y : BV) (w4 : World), y.l = x.l → Own8 w.heap.size w4 y → Below w.heap.size w w4 →
      ∃ w5, (Instr.mapUpdate 78 (.map (some gm)) (.int .i64 a) (bvv y)).run Tryz.prog w4 = .ok () w5 ∧ PutP b w gv gm gs rp n C a x.l (.returned (.tuple #[])) w5 := fun y w4 hy ho hb4 => by
    have h4 := h.below hb4
    obtain ⟨w5, r5, m5, g5⟩ := h4.map.put ha (by unfold maxLen; omega) y
    have c5 : Chg [gm] w4 w5 := (Chg.refl _ _).grown g5 (fun k hk => by injection hk with hk; subst hk; exact .inl (List.mem_singleton.2 rfl))
    have n5 : NoBytes w4 [gm] := fun j hj cs fr => by rw [List.mem_singleton] at hj; subst hj; exact h4.map.no_cells _ _ _
    refine ⟨w5, r5, rfl, y, Lib.hid hy, Lib.hid (own_ge ho), Lib.hid ⟨c5.row h4.row (fun hx => h.ne (List.mem_singleton.1 hx)), m5, fun a' x' hx' => ?_, fun a' x' hx' => ?_, h.lo⟩, Lib.hid ((Chg.of (F := [gm]) hb4).trans c5 (fun j hj => .inl hj))⟩
    · by_cases e : a' = a
      · subst e
        rw [upC_same] at hx'
        injection hx' with hx'
        subst hx'
        exact (ho.chg c5 n5).lower hb
      · rw [upC_other _ _ e] at hx'
        exact (h4.own a' x' hx').chg c5 n5
    · by_cases e : a' = a
      · subst e
        rw [upC_same] at hx'
        injection hx' with hx'
        subst hx'
        rw [hy]
        exact hl
      · rw [upC_other _ _ e] at hx'
        exact h.len a' x' hx'
  have FIN := Lib.hid fin
  have HLT := Lib.hid h.row.lt
  clear h fin hx hl ha hn hb
  go_enter Tryz.func24, Tryz.ntmps24
  go_wp2
  refine wp_region_held_drew (S := fun W => W.cell? ⟨gv, 1, none⟩ = some (.map (some gm))) (by kernel_rfl) c1 (fun hHeld => ?_)
  refine wpAnyH_take (i := 0) (oi := ⟨some 6, .move (.tmp 0), _, _, _, _⟩) (v := .pointer (some ⟨gv, 0, none⟩)) rfl (by kernel_rfl) (by kernel_rfl) (by kernel_rfl) (fun _ _ _ h => h) (.inl ⟨by rfl, fun w hSw => by go_simp⟩) (by assumption) ?_
  simp only [Act.put, List.setIfInBounds_toArray, List.set_cons_zero, List.set_cons_succ]
  refine wpAnyH_take (i := 1) (oi := ⟨some 7, .nilCheck (.tmp 6), _, _, _, _⟩) (v := .pointer (some ⟨gv, 0, none⟩)) rfl (by kernel_rfl) (by kernel_rfl) (by kernel_rfl) (fun _ _ _ h => h) (.inl ⟨by rfl, fun w hSw => by go_simp⟩) (by assumption) ?_
  simp only [Act.put, List.setIfInBounds_toArray, List.set_cons_zero, List.set_cons_succ]
  refine wpAnyH_take (i := 2) (oi := ⟨some 8, .fieldAddr 81 (.tmp 7) 1, _, _, _, _⟩) (v := .pointer (some ⟨gv, 1, none⟩)) rfl (by kernel_rfl) (by kernel_rfl) (by kernel_rfl) (fun _ _ _ h => h) (.inl ⟨by rfl, fun w hSw => by go_simp⟩) (by assumption) ?_
  simp only [Act.put, List.setIfInBounds_toArray, List.set_cons_zero, List.set_cons_succ]
  refine wpAnyH_take (i := 3) (oi := ⟨some 9, .load 78 (.tmp 8), _, _, _, _⟩) (v := .map (some gm)) rfl (by kernel_rfl) (by kernel_rfl) (by kernel_rfl) (fun _ _ _ h => h) (.inl ⟨by rfl, fun w hSw => by have z := hSw; go_simp⟩) (by assumption) ?_
  simp only [Act.put, List.setIfInBounds_toArray, List.set_cons_zero, List.set_cons_succ]
  refine wpAnyH_take (i := 4) (oi := ⟨some 10, .move (.tmp 1), _, _, _, _⟩) (v := .int .i64 a) rfl (by kernel_rfl) (by kernel_rfl) (by kernel_rfl) (fun _ _ _ h => h) (.inl ⟨by rfl, fun w hSw => by go_simp⟩) (by assumption) ?_
  simp only [Act.put, List.setIfInBounds_toArray, List.set_cons_zero, List.set_cons_succ]
  refine wpAnyH_take (i := 5) (oi := ⟨some 11, .move (.tmp 2), _, _, _, _⟩) (v := .slice x.A x.l.length x.c) rfl (by kernel_rfl) (by kernel_rfl) (by kernel_rfl) (fun _ _ _ h => h) (.inl ⟨by rfl, fun w hSw => by go_simp⟩) (by assumption) ?_
  simp only [Act.put, List.setIfInBounds_toArray, List.set_cons_zero, List.set_cons_succ]
  refine wpAnyH_ready (rs := [6]) (by kernel_rfl) (by simp) ?_
  refine AllReadyH.cons (o := ⟨some 12, .call ⟨.value (.func 59), #[.tmp 11], _⟩, _, _, _, _⟩) rfl (fun K hK => ?_) AllReadyH.nil
  go_simp
  go_at_call 59
  refine HC.out.mono ?_
  rintro e w4 ⟨y, rfl, hy, ho, hb4⟩
  have hb5 : Below w.heap.size w w4 := (below_drw w).trans hb4.out
  obtain ⟨w5, r5, hp⟩ := FIN.out y w4 hy.out ho.out hb5
  unfold bvv at r5
  have HP := Lib.hid hp
  have c4 : w4.cell? ⟨gv, 1, none⟩ = some (.map (some gm)) := ((hb5.cell (p := ⟨gv, 1, none⟩) HLT.out).trans c1)
  clear hp hy ho hb4 hb5
  refine hK.out _ _ c4 (fun hH4 => ?_)
  clear hK K
  refine wpAnyH_ready (rs := [7]) (by kernel_rfl) (by simp) ?_
  refine AllReadyH.cons (o := ⟨none, .mapUpdate 78 (.tmp 9) (.tmp 10) (.tmp 12), _, _, _, _⟩) rfl (fun K hK => ?_) AllReadyH.nil
  have c5 : w5.cell? ⟨gv, 1, none⟩ = some (.map (some gm)) := by obtain ⟨_, y', _, _, hv, _⟩ := HP.out; exact hv.out.c1
  go_simp
  refine hK.out _ _ c5 (fun hH5 => ?_)
  clear hK K
  refine wpAnyH_done (by kernel_rfl) ?_ _
  go_end0
  exact HP.out
/-- A new view. -/
theorem built_view (gs gm : Nat) : Tryz.prog.built 81 [(0, getV gs), (1, .map (some gm))] = some (vcs gs gm none).toArray := by kernel_rfl
theorem vnew (gs : Nat) (w : World) : Calls Tryz.prog 9 #[getV gs] w fun e w' => ∃ gv gm, e = .returned (.pointer (some ⟨gv, 0, none⟩)) ∧ Hid (VV w.heap.size w' gv gm gs none 0 fun _ => none) ∧ Hid (Below w.heap.size w w') := by
  obtain ⟨gV, hV⟩ : ∃ gV, getV gs = gV := ⟨_, rfl⟩
  have HB := Lib.hid (p := ∀ gm, Tryz.prog.built 81 [(0, gV), (1, .map (some gm))] = some (vcs gs gm none).toArray) (fun gm => by rw [← hV]; exact built_view gs gm)
  rw [hV]
  clear hV
  have hmm := @run_makeMap Tryz.prog
  go_enter Tryz.func9, Tryz.ntmps9
  go_wp2_with (first
    | (refine step_build rfl 81 _ rfl [(0, gV), (1, .map (some w.heap.size))] ?hv _ (HB.out _) ?_; case hv => (simp [Act.eval, Act.put]))
    | (refine step_box rfl 6 rfl 81 _ rfl _ rfl ?_; intro g3 w1 hr1 hg1 hb1 hs1; have HR1 := Lib.hid hr1; have HB1 := Lib.hid hb1; have HG1 := Lib.hid (p := w.heap.size ≤ g3) (by rw [hg1.out]; simp); clear hr1 hb1 hg1 hs1))
  go_ret
  refine ⟨g3, w.heap.size, rfl, Lib.hid ⟨HR1.out, (MC.made w).below HB1.out, (fun a x h => by cases h), (fun a x h => by cases h), HG1.out, Nat.le_refl _⟩, Lib.hid (below_nxt HB1.out (below_al w _))⟩
end
end Go.Proofs.YtfbfeplegdpemaaGreat
/- A run's end: what gaveUp tells; the deferred function, behind a run that came to its end and behind one that gave up. Conditions: the cells lie there. -/
set_option linter.unusedVariables false
set_option maxRecDepth 20000
namespace Go.Proofs.YtfbfeplegdpemaaGreat
open Go.RowKit

def runV (r : Nat) : Value := .iface 79 (.pointer (some ⟨r, 0, none⟩))
theorem run_assert (r : Nat) (w : World) : (Instr.typeAssert (runV r) 20 79 true).run Tryz.prog w = .ok (.tuple #[.pointer (some ⟨r, 0, none⟩), .bool true]) w := by kernel_rfl
theorem run_same (r : Nat) (w : World) : (binOp .neq 79 (.pointer (some ⟨r, 0, none⟩)) (.pointer (some ⟨r, 0, none⟩))).run Tryz.prog w = .ok (.bool false) w := by
  have hte : (Tryz.prog.info? 83).isSome = true := by kernel_rfl
  obtain ⟨j, hj⟩ := Option.isSome_iff_exists.1 hte
  have h : ∀ d : Nat, (Op.equalIn (d + 1) 79 (.pointer (some ⟨r, 0, none⟩)) (.pointer (some ⟨r, 0, none⟩))).run Tryz.prog w = .ok true w := fun d => by
    simp [Op.equalIn, run_underlying Tryz.underlying79, sizeOf, typeInfo, hj, run_sameAddr_same]
  simp only [binOp]
  simp [Op.equal, Op.maxDepth, h 9999]
theorem vgave {w : World} {r : Nat} {a : Int} (hr : Row w r 83 (rcs true a)) : Calls Tryz.prog 35 #[.pointer (some ⟨r, 0, none⟩), runV r] w fun e w' => e = .returned (.int .i64 a) ∧ w = w' := by
  have r1 : w.cell? ⟨r, 1, none⟩ = some (.int .i64 a) := (hr.cell 1).trans rfl
  have h1 := run_assert r
  have h2 := run_same r
  clear hr
  unfold runV at h1 ⊢
  go_enter Tryz.func35, Tryz.ntmps35
  go_wp2
  go_ret
  exact ⟨rfl, rfl⟩
section
variable {b : Nat} {w w' : World} {gv gm gs : Nat} {rp : Option Addr} {n : Nat} {C : Int → Option BV}
theorem cell_ne {w : World} {p i g : Nat} {v : Value} (hc : w.cell? ⟨p, i, none⟩ = some v) (hn : ∀ cs t fr, w.heap[g]? ≠ some (.cells cs t fr)) : p ≠ g := by
  intro e
  subst e
  unfold World.cell? at hc
  split at hc
  · rename_i cs t fr h
    exact hn _ _ _ h
  · cases hc
/-- The deferred function, ok. -/
theorem vdefer_ok {r po pv pk pw ps : Nat} (h : VV b w gv gm gs (some ⟨r, 0, none⟩) n C) (co : w.cell? ⟨po, 0, none⟩ = some (.pointer none)) (cv : w.cell? ⟨pv, 0, none⟩ = some (.pointer (some ⟨gv, 0, none⟩))) (ck : w.cell? ⟨pk, 0, none⟩ = some (.bool true)) (hk : pk ≠ gv) :
    CallsD Tryz.prog 34 #[.pointer (some ⟨po, 0, none⟩), .pointer (some ⟨pv, 0, none⟩), .pointer (some ⟨pk, 0, none⟩), .pointer (some ⟨pw, 0, none⟩), .pointer (some ⟨ps, 0, none⟩)] .returning w fun e u' w' => u' = .returning ∧ e = .returned (.tuple #[]) ∧ w' = w.setCell ⟨gv, 2, none⟩ (.pointer none) := by
  have c2 := h.c2
  have f2 := h.row.free 2
  have hk2 : ¬ gv = pk := fun e => hk e.symm
  clear h
  go_enter_d Tryz.func34, Tryz.ntmps34
  go_wp2
  refine bodyPost_ret (results_none rfl _ _ _) rfl ?_
  exact ⟨rfl, rfl⟩
set_option maxHeartbeats 1000000 in
/-- The deferred function, behind a run that gave up. -/
theorem vdefer_not {r po pv pk pw ps : Nat} {a : Int} (h : VV b w gv gm gs (some ⟨r, 0, none⟩) n C) (hr : Row w r 83 (rcs true a)) (co : w.cell? ⟨po, 0, none⟩ = some (.pointer none)) (cv : w.cell? ⟨pv, 0, none⟩ = some (.pointer (some ⟨gv, 0, none⟩))) (ck : w.cell? ⟨pk, 0, none⟩ = some (.bool false)) (cw : w.cell? ⟨pw, 0, none⟩ = some (.pointer (some ⟨r, 0, none⟩))) (cs : w.cell? ⟨ps, 0, none⟩ = some (.int .i64 0)) (fs : w.frozen? ⟨ps, 0, none⟩ = false)
    (hk : gv ≠ pk) (hv : gv ≠ pv) (hw : gv ≠ pw) (hs : gv ≠ ps) :
    CallsD Tryz.prog 34 #[.pointer (some ⟨po, 0, none⟩), .pointer (some ⟨pv, 0, none⟩), .pointer (some ⟨pk, 0, none⟩), .pointer (some ⟨pw, 0, none⟩), .pointer (some ⟨ps, 0, none⟩)] (.panicking [{ v := runV r, recovered := false }]) w fun e u' w' =>
      u' = .panicking [{ v := runV r, recovered := true }] ∧ e = .returned (.tuple #[]) ∧ ∃ w2, MC w2 gm 0 (fun _ => none) ∧ (w.setCell ⟨gv, 2, none⟩ (.pointer none)).grownBy w2 (some gm) ∧ w' = w2.setCell ⟨ps, 0, none⟩ (.int .i64 a) := by
  have c1 := h.c1
  have c2 := h.c2
  have f2 := h.row.free 2
  obtain ⟨w2, hclr, hm2, hg2⟩ := (h.map.chg ((Chg.refl [gv] w).setCell (p := ⟨gv, 2, none⟩) (.inl (List.mem_singleton.2 rfl)) (.pointer none)) (fun hx => h.ne (List.mem_singleton.1 hx).symm)).clear_ 0
  refine callsD_of_wpS Tryz.func34 rfl fun c₀ css hu => ?_
  simp only [Tryz.ntmps34, List.size_toArray, List.length_cons, List.length_nil, Nat.reduceAdd, Nat.reduceSub, Array.replicate_succ, Array.replicate_zero, List.push_toArray, List.append_toArray, List.nil_append, List.cons_append]
  apply wpS_seq
  apply wpS_region
  simp [wpOpsS, go_sem, Exit.thenS, co, cv, c2, f2]
  refine wpS_seq (wpS_seq ?_)
  apply wpS_region
  have hk' : ¬ pk = gv := fun e => hk e.symm
  have hv' : ¬ pv = gv := fun e => hv e.symm
  have hw' : ¬ pw = gv := fun e => hw e.symm
  have hs' : ¬ ps = gv := fun e => hs e.symm
  simp [wpOpsS, go_sem, Exit.thenS, ck]
  refine wpS_cond (t := false) (by simp [Act.eval]) ?_
  simp only [Bool.false_eq_true, if_false]
  refine wpS_of_wp (wp_skip ?_)
  simp only [Exit.thenS]
  apply wpS_seq
  apply wpS_region
  simp [wpOpsS, go_sem, Exit.thenS, cv, c1, hclr]
  apply wpS_seq
  apply wpS_region
  simp [wpOpsS, go_sem, recoverD, hu, Exit.thenS, runV]
  apply wpS_seq
  apply wpS_region
  simp [wpOpsS, go_sem, Exit.thenS]
  refine wpS_cond (t := true) (by simp [Act.eval]) ?_
  simp only [if_true]
  refine wpS_of_wp ?_
  have nw : pw ≠ gm := cell_ne cw h.map.no_cells
  have ns : ps ≠ gm := cell_ne cs h.map.no_cells
  have nr : r ≠ gm := fun e => h.map.no_cells _ _ _ (e ▸ hr.heap)
  have ngr : gv ≠ r := h.row.ne_ hr (by decide)
  have cw2 : w2.cell? ⟨pw, 0, none⟩ = some (.pointer (some ⟨r, 0, none⟩)) := hg2.cell (((Chg.refl [gv] w).setCell (p := ⟨gv, 2, none⟩) (.inl (List.mem_singleton.2 rfl)) (.pointer none)).cell cw (fun hx => hw' (List.mem_singleton.1 hx))) (fun e => nw (by injection e))
  have cs2 : w2.cell? ⟨ps, 0, none⟩ = some (.int .i64 0) := hg2.cell (((Chg.refl [gv] w).setCell (p := ⟨gv, 2, none⟩) (.inl (List.mem_singleton.2 rfl)) (.pointer none)).cell cs (fun hx => hs' (List.mem_singleton.1 hx))) (fun e => ns (by injection e))
  have fs2 : w2.frozen? ⟨ps, 0, none⟩ = false := by
    have e1 := hg2.block ps (by have := World.block_lt_of_cell? w _ cs; simp [World.setCell]; exact this) (fun e => ns (by injection e))
    have e2 := Below.heap_setCell w ⟨gv, 2, none⟩ (.pointer none) ps hs'
    rw [e2] at e1
    unfold World.frozen? at fs ⊢
    rw [e1]
    exact fs
  have hr2 : Row w2 r 83 (rcs true a) := (hr.far (p := ⟨gv, 2, none⟩) (fun e => ngr e.symm) _).grown hg2 (fun e => nr (by injection e))
  have HG := Lib.hid (vgave hr2)
  have HM := Lib.hid hm2
  have HG2 := Lib.hid hg2
  unfold runV at HG
  clear h hr hm2 hr2 hclr hu co cv ck c1 c2 f2
  go_wp2_with (go_at_call 35; refine HG.out.mono ?_; rintro e w4 ⟨rfl, rfl⟩)
  exact ⟨rfl, _, rfl, _, results_none rfl _ _ _, rfl, rfl, w2, HM.out, HG2.out, rfl⟩
end
end Go.Proofs.YtfbfeplegdpemaaGreat
/- Steps of a walk: a new variable of one cell; a map cleared. No conditions but those named. -/
set_option linter.unusedVariables false
namespace Go.Proofs.YtfbfeplegdpemaaGreat
open Go.RowKit

section
variable {P : Program} {ops : Array Oper} {rest : List Oper} {o : Oper} {a : Act} {w : World} {Q : Exit → Act → World → Prop}
/-- A variable of one cell, made. -/
theorem step_new (hgd : o.guard = none) (t : TypeId) (ho : o.op = .alloc t) (z : Value) (hz : ∀ w : World, (zeroValue t).run P w = .ok z w) (hc : z.cells = #[z])
    (h : ∀ g w', Row w' g t [z] → Hid (g = w.heap.size) → Below w.heap.size w w' → wpList P ops Q rest (a.put o.dst (.pointer (some ⟨g, 0, none⟩))) w') : wpList P ops Q (o :: rest) a w := by
  refine wpList_plain hgd fun K hK => ?_
  unfold Oper.wp execOp
  simp only [ho]
  simp [Instr.alloc, hz, newVar, go_sem]
  exact hK _ _ (h _ _ (cast (congrArg (fun c : Array Value => Row (w.alloc (.cells c t)) w.heap.size t [z]) hc.symm) (Row.made w t [z])) (show _ = _ from rfl) ((Below.refl _ _).alloc (Nat.le_refl _) _))
/-- A value of one cell, laid into a new variable. -/
theorem step_box1 (hgd : o.guard = none) (t : TypeId) (x : Operand) (ho : o.op = .box t x) (z : Value) (hx : a.eval x = z) (hc : z.cells = #[z])
    (h : ∀ g w', Row w' g t [z] → Hid (g = w.heap.size) → Below w.heap.size w w' → wpList P ops Q rest (a.put o.dst (.pointer (some ⟨g, 0, none⟩))) w') : wpList P ops Q (o :: rest) a w := by
  refine wpList_plain hgd fun K hK => ?_
  unfold Oper.wp execOp
  simp only [ho, hx]
  simp [Instr.box, newVar, go_sem]
  exact hK _ _ (h _ _ (cast (congrArg (fun c : Array Value => Row (w.alloc (.cells c t)) w.heap.size t [z]) hc.symm) (Row.made w t [z])) (show _ = _ from rfl) ((Below.refl _ _).alloc (Nat.le_refl _) _))
end
section
variable {ops : Array Oper} {rest : List Oper} {o : Oper} {a : Act} {w : World} {Q : Exit → Act → World → Prop}
/-- A map, cleared. -/
theorem wp_clear (hgd : o.guard = none) (x : Operand) (ho : o.op = .call { callee := .builtin .clear, args := #[x], argTypes := #[78] }) (b n : Nat) (C : Int → Option BV) (hx : a.eval x = .map (some b)) (hm : MC w b n C)
    (h : ∀ w', MC w' b 0 (fun _ => none) → w.grownBy w' (some b) → wpList Tryz.prog ops Q rest (a.put o.dst (.tuple #[])) w') : wpList Tryz.prog ops Q (o :: rest) a w := by
  refine wpList_plain hgd fun K hK => ?_
  obtain ⟨w', hr, h1, h2⟩ := hm.clear_ o.type
  unfold Oper.wp execOp
  simp only [ho, resolve, invoke, builtin, Sem.run_bind, Sem.run_pure, Result.andThen_ok, List.map_toArray, List.map_cons, List.map_nil, hx, hr]
  exact hK _ _ (h w' h1 h2)
end
/-- One record more. -/
theorem row_more {α : Type} {f : α → List Value} {k : Nat} {B : Nat} {W w w' : World} {A : Option Addr} {n c : Nat} {e : TypeId} {xs : List α} {x : α} {v' : Value} {o : Obj} (hb : Below B W w) (hB : B ≤ w.heap.size)
    (hown : w.ownsRow B e k (.slice A n c) n (xs.flatMap f)) (h1 : w'.ownsRow B e k v' (n + 1) (xs.flatMap f ++ f x)) (hg : (w.alloc o).grownBy w' (Value.slice A n c).ownBlock) :
    ∃ A' c', v' = .slice A' (n + 1) c' ∧ w'.ownsRow B e k (.slice A' (n + 1) c') (n + 1) ((xs ++ [x]).flatMap f) ∧ Below B W w' := by
  obtain ⟨A', c', rfl⟩ := own_sl h1
  refine ⟨A', c', rfl, by rw [flat_snoc]; exact h1, ?_⟩
  exact (hb.alloc hB o).grown hg (by simp; omega) (fun k hk => (hown.lt k hk).1)
/-- Bytes of the call's own stay when a row of records grows. -/
theorem own8_more {B b : Nat} {w w' : World} {A : Option Addr} {n c k : Nat} {e : TypeId} {xs : List Value} {x : BV} {o : Obj} (he : 5 ≠ e) (hown : w.ownsRow B e k (.slice A n c) n xs) (h : Own8 b w x) (hg : (w.alloc o).grownBy w' (Value.slice A n c).ownBlock) : Own8 b w' x :=
  World.ownsRow.kept (World.ownsRow.kept h (World.grownBy_alloc w o none) (by cases hx : (bvv x).ownBlock with | none => exact .inl rfl | some k => exact .inr (by simp))) hg (own_parted h hown he)
end Go.Proofs.YtfbfeplegdpemaaGreat
