/- A run's end: what gaveUp tells; the deferred function, behind a run that came to its end and behind one that gave up. Conditions: the cells lie there. -/
import Derived.Test.YtfbfeplegdpemaaGreatMgKb
import Derived.Defers
import Derived.Recover
import Derived.LaidEqlPtr
set_option linter.unusedVariables false
set_option maxRecDepth 20000
namespace Go.Proofs.YtfbfeplegdpemaaGreat
open Go.RowKit

def runV (r : Nat) : Value := .iface 79 (.pointer (some ⟨r, 0, none⟩))
theorem run_assert (r : Nat) (w : World) : (Instr.typeAssert (runV r) 20 79 true).run Tryz.prog w = .ok (.tuple #[.pointer (some ⟨r, 0, none⟩), .bool true]) w := by kernel_rfl
theorem run_same (r : Nat) (w : World) : (binOp .neq 79 (.pointer (some ⟨r, 0, none⟩)) (.pointer (some ⟨r, 0, none⟩))).run Tryz.prog w = .ok (.bool false) w := by
  have hte : (Tryz.prog.info? 83).isSome = true := by kernel_rfl
  obtain ⟨j, hj⟩ := Option.isSome_iff_exists.1 hte
  have h : ∀ d : Nat, (Op.equalIn (d + 1) 79 (.pointer (some ⟨r, 0, none⟩)) (.pointer (some ⟨r, 0, none⟩))).run Tryz.prog w = .ok true w := fun d => by
    simp [Op.equalIn, run_underlying Tryz.underlying79, sizeOf, typeInfo, hj, run_sameAddr_same]
  simp only [binOp]
  simp [Op.equal, Op.maxDepth, h 9999]
theorem vgave {w : World} {r : Nat} {a : Int} (hr : Row w r 83 (rcs true a)) : Calls Tryz.prog 35 #[.pointer (some ⟨r, 0, none⟩), runV r] w fun e w' => e = .returned (.int .i64 a) ∧ w = w' := by
  have r1 : w.cell? ⟨r, 1, none⟩ = some (.int .i64 a) := (hr.cell 1).trans rfl
  have h1 := run_assert r
  have h2 := run_same r
  clear hr
  unfold runV at h1 ⊢
  go_enter Tryz.func35, Tryz.ntmps35
  go_wp2
  go_ret
  exact ⟨rfl, rfl⟩
section
variable {b : Nat} {w w' : World} {gv gm gs : Nat} {rp : Option Addr} {n : Nat} {C : Int → Option BV}
theorem cell_ne {w : World} {p i g : Nat} {v : Value} (hc : w.cell? ⟨p, i, none⟩ = some v) (hn : ∀ cs t fr, w.heap[g]? ≠ some (.cells cs t fr)) : p ≠ g := by
  intro e
  subst e
  unfold World.cell? at hc
  split at hc
  · rename_i cs t fr h
    exact hn _ _ _ h
  · cases hc
/-- The deferred function, ok. -/
theorem vdefer_ok {r po pv pk pw ps : Nat} (h : VV b w gv gm gs (some ⟨r, 0, none⟩) n C) (co : w.cell? ⟨po, 0, none⟩ = some (.pointer none)) (cv : w.cell? ⟨pv, 0, none⟩ = some (.pointer (some ⟨gv, 0, none⟩))) (ck : w.cell? ⟨pk, 0, none⟩ = some (.bool true)) (hk : pk ≠ gv) :
    CallsD Tryz.prog 34 #[.pointer (some ⟨po, 0, none⟩), .pointer (some ⟨pv, 0, none⟩), .pointer (some ⟨pk, 0, none⟩), .pointer (some ⟨pw, 0, none⟩), .pointer (some ⟨ps, 0, none⟩)] .returning w fun e u' w' => u' = .returning ∧ e = .returned (.tuple #[]) ∧ w' = w.setCell ⟨gv, 2, none⟩ (.pointer none) := by
  have c2 := h.c2
  have f2 := h.row.free 2
  have hk2 : ¬ gv = pk := fun e => hk e.symm
  clear h
  go_enter_d Tryz.func34, Tryz.ntmps34
  go_wp2
  refine bodyPost_ret (results_none rfl _ _ _) rfl ?_
  exact ⟨rfl, rfl⟩
set_option maxHeartbeats 1000000 in
/-- The deferred function, behind a run that gave up. -/
theorem vdefer_not {r po pv pk pw ps : Nat} {a : Int} (h : VV b w gv gm gs (some ⟨r, 0, none⟩) n C) (hr : Row w r 83 (rcs true a)) (co : w.cell? ⟨po, 0, none⟩ = some (.pointer none)) (cv : w.cell? ⟨pv, 0, none⟩ = some (.pointer (some ⟨gv, 0, none⟩))) (ck : w.cell? ⟨pk, 0, none⟩ = some (.bool false)) (cw : w.cell? ⟨pw, 0, none⟩ = some (.pointer (some ⟨r, 0, none⟩))) (cs : w.cell? ⟨ps, 0, none⟩ = some (.int .i64 0)) (fs : w.frozen? ⟨ps, 0, none⟩ = false)
    (hk : gv ≠ pk) (hv : gv ≠ pv) (hw : gv ≠ pw) (hs : gv ≠ ps) :
    CallsD Tryz.prog 34 #[.pointer (some ⟨po, 0, none⟩), .pointer (some ⟨pv, 0, none⟩), .pointer (some ⟨pk, 0, none⟩), .pointer (some ⟨pw, 0, none⟩), .pointer (some ⟨ps, 0, none⟩)] (.panicking [{ v := runV r, recovered := false }]) w fun e u' w' =>
      u' = .panicking [{ v := runV r, recovered := true }] ∧ e = .returned (.tuple #[]) ∧ ∃ w2, MC w2 gm 0 (fun _ => none) ∧ (w.setCell ⟨gv, 2, none⟩ (.pointer none)).grownBy w2 (some gm) ∧ w' = w2.setCell ⟨ps, 0, none⟩ (.int .i64 a) := by
  have c1 := h.c1
  have c2 := h.c2
  have f2 := h.row.free 2
  obtain ⟨w2, hclr, hm2, hg2⟩ := (h.map.chg ((Chg.refl [gv] w).setCell (p := ⟨gv, 2, none⟩) (.inl (List.mem_singleton.2 rfl)) (.pointer none)) (fun hx => h.ne (List.mem_singleton.1 hx).symm)).clear_ 0
  refine callsD_of_wpS Tryz.func34 rfl fun c₀ css hu => ?_
  simp only [Tryz.ntmps34, List.size_toArray, List.length_cons, List.length_nil, Nat.reduceAdd, Nat.reduceSub, Array.replicate_succ, Array.replicate_zero, List.push_toArray, List.append_toArray, List.nil_append, List.cons_append]
  apply wpS_seq
  apply wpS_region
  simp [wpOpsS, go_sem, Exit.thenS, co, cv, c2, f2]
  refine wpS_seq (wpS_seq ?_)
  apply wpS_region
  have hk' : ¬ pk = gv := fun e => hk e.symm
  have hv' : ¬ pv = gv := fun e => hv e.symm
  have hw' : ¬ pw = gv := fun e => hw e.symm
  have hs' : ¬ ps = gv := fun e => hs e.symm
  simp [wpOpsS, go_sem, Exit.thenS, ck]
  refine wpS_cond (t := false) (by simp [Act.eval]) ?_
  simp only [Bool.false_eq_true, if_false]
  refine wpS_of_wp (wp_skip ?_)
  simp only [Exit.thenS]
  apply wpS_seq
  apply wpS_region
  simp [wpOpsS, go_sem, Exit.thenS, cv, c1, hclr]
  apply wpS_seq
  apply wpS_region
  simp [wpOpsS, go_sem, recoverD, hu, Exit.thenS, runV]
  apply wpS_seq
  apply wpS_region
  simp [wpOpsS, go_sem, Exit.thenS]
  refine wpS_cond (t := true) (by simp [Act.eval]) ?_
  simp only [if_true]
  refine wpS_of_wp ?_
  have nw : pw ≠ gm := cell_ne cw h.map.no_cells
  have ns : ps ≠ gm := cell_ne cs h.map.no_cells
  have nr : r ≠ gm := fun e => h.map.no_cells _ _ _ (e ▸ hr.heap)
  have ngr : gv ≠ r := h.row.ne_ hr (by decide)
  have cw2 : w2.cell? ⟨pw, 0, none⟩ = some (.pointer (some ⟨r, 0, none⟩)) := hg2.cell (((Chg.refl [gv] w).setCell (p := ⟨gv, 2, none⟩) (.inl (List.mem_singleton.2 rfl)) (.pointer none)).cell cw (fun hx => hw' (List.mem_singleton.1 hx))) (fun e => nw (by injection e))
  have cs2 : w2.cell? ⟨ps, 0, none⟩ = some (.int .i64 0) := hg2.cell (((Chg.refl [gv] w).setCell (p := ⟨gv, 2, none⟩) (.inl (List.mem_singleton.2 rfl)) (.pointer none)).cell cs (fun hx => hs' (List.mem_singleton.1 hx))) (fun e => ns (by injection e))
  have fs2 : w2.frozen? ⟨ps, 0, none⟩ = false := by
    have e1 := hg2.block ps (by have := World.block_lt_of_cell? w _ cs; simp [World.setCell]; exact this) (fun e => ns (by injection e))
    have e2 := Below.heap_setCell w ⟨gv, 2, none⟩ (.pointer none) ps hs'
    rw [e2] at e1
    unfold World.frozen? at fs ⊢
    rw [e1]
    exact fs
  have hr2 : Row w2 r 83 (rcs true a) := (hr.far (p := ⟨gv, 2, none⟩) (fun e => ngr e.symm) _).grown hg2 (fun e => nr (by injection e))
  have HG := Lib.hid (vgave hr2)
  have HM := Lib.hid hm2
  have HG2 := Lib.hid hg2
  unfold runV at HG
  clear h hr hm2 hr2 hclr hu co cv ck c1 c2 f2
  go_wp2_with (go_at_call 35; refine HG.out.mono ?_; rintro e w4 ⟨rfl, rfl⟩)
  exact ⟨rfl, _, rfl, _, results_none rfl _ _ _, rfl, rfl, w2, HM.out, HG2.out, rfl⟩
end
end Go.Proofs.YtfbfeplegdpemaaGreat
/- Steps of a walk: a new variable of one cell; a map cleared. No conditions but those named. -/
set_option linter.unusedVariables false
namespace Go.Proofs.YtfbfeplegdpemaaGreat
open Go.RowKit

section
variable {P : Program} {ops : Array Oper} {rest : List Oper} {o : Oper} {a : Act} {w : World} {Q : Exit → Act → World → Prop}
/-- A variable of one cell, made. -/
theorem step_new (hgd : o.guard = none) (t : TypeId) (ho : o.op = .alloc t) (z : Value) (hz : ∀ w : World, (zeroValue t).run P w = .ok z w) (hc : z.cells = #[z])
    (h : ∀ g w', Row w' g t [z] → Hid (g = w.heap.size) → Below w.heap.size w w' → wpList P ops Q rest (a.put o.dst (.pointer (some ⟨g, 0, none⟩))) w') : wpList P ops Q (o :: rest) a w := by
  refine wpList_plain hgd fun K hK => ?_
  unfold Oper.wp execOp
  simp only [ho]
  simp [Instr.alloc, hz, newVar, go_sem]
  exact hK _ _ (h _ _ (cast (congrArg (fun c : Array Value => Row (w.alloc (.cells c t)) w.heap.size t [z]) hc.symm) (Row.made w t [z])) (show _ = _ from rfl) ((Below.refl _ _).alloc (Nat.le_refl _) _))
/-- A value of one cell, laid into a new variable. -/
theorem step_box1 (hgd : o.guard = none) (t : TypeId) (x : Operand) (ho : o.op = .box t x) (z : Value) (hx : a.eval x = z) (hc : z.cells = #[z])
    (h : ∀ g w', Row w' g t [z] → Hid (g = w.heap.size) → Below w.heap.size w w' → wpList P ops Q rest (a.put o.dst (.pointer (some ⟨g, 0, none⟩))) w') : wpList P ops Q (o :: rest) a w := by
  refine wpList_plain hgd fun K hK => ?_
  unfold Oper.wp execOp
  simp only [ho, hx]
  simp [Instr.box, newVar, go_sem]
  exact hK _ _ (h _ _ (cast (congrArg (fun c : Array Value => Row (w.alloc (.cells c t)) w.heap.size t [z]) hc.symm) (Row.made w t [z])) (show _ = _ from rfl) ((Below.refl _ _).alloc (Nat.le_refl _) _))
end
section
variable {ops : Array Oper} {rest : List Oper} {o : Oper} {a : Act} {w : World} {Q : Exit → Act → World → Prop}
/-- A map, cleared. -/
theorem wp_clear (hgd : o.guard = none) (x : Operand) (ho : o.op = .call { callee := .builtin .clear, args := #[x], argTypes := #[78] }) (b n : Nat) (C : Int → Option BV) (hx : a.eval x = .map (some b)) (hm : MC w b n C)
    (h : ∀ w', MC w' b 0 (fun _ => none) → w.grownBy w' (some b) → wpList Tryz.prog ops Q rest (a.put o.dst (.tuple #[])) w') : wpList Tryz.prog ops Q (o :: rest) a w := by
  refine wpList_plain hgd fun K hK => ?_
  obtain ⟨w', hr, h1, h2⟩ := hm.clear_ o.type
  unfold Oper.wp execOp
  simp only [ho, resolve, invoke, builtin, Sem.run_bind, Sem.run_pure, Result.andThen_ok, List.map_toArray, List.map_cons, List.map_nil, hx, hr]
  exact hK _ _ (h w' h1 h2)
end
/-- One record more. -/
theorem row_more {α : Type} {f : α → List Value} {k : Nat} {B : Nat} {W w w' : World} {A : Option Addr} {n c : Nat} {e : TypeId} {xs : List α} {x : α} {v' : Value} {o : Obj} (hb : Below B W w) (hB : B ≤ w.heap.size)
    (hown : w.ownsRow B e k (.slice A n c) n (xs.flatMap f)) (h1 : w'.ownsRow B e k v' (n + 1) (xs.flatMap f ++ f x)) (hg : (w.alloc o).grownBy w' (Value.slice A n c).ownBlock) :
    ∃ A' c', v' = .slice A' (n + 1) c' ∧ w'.ownsRow B e k (.slice A' (n + 1) c') (n + 1) ((xs ++ [x]).flatMap f) ∧ Below B W w' := by
  obtain ⟨A', c', rfl⟩ := own_sl h1
  refine ⟨A', c', rfl, by rw [flat_snoc]; exact h1, ?_⟩
  exact (hb.alloc hB o).grown hg (by simp; omega) (fun k hk => (hown.lt k hk).1)
/-- Bytes of the call's own stay when a row of records grows. -/
theorem own8_more {B b : Nat} {w w' : World} {A : Option Addr} {n c k : Nat} {e : TypeId} {xs : List Value} {x : BV} {o : Obj} (he : 5 ≠ e) (hown : w.ownsRow B e k (.slice A n c) n xs) (h : Own8 b w x) (hg : (w.alloc o).grownBy w' (Value.slice A n c).ownBlock) : Own8 b w' x :=
  World.ownsRow.kept (World.ownsRow.kept h (World.grownBy_alloc w o none) (by cases hx : (bvv x).ownBlock with | none => exact .inl rfl | some k => exact .inr (by simp))) hg (own_parted h hown he)
end Go.Proofs.YtfbfeplegdpemaaGreat
/- Run: a function on its way to its end. Conditions: the view lies there; the function does what is said of it. -/
set_option linter.unusedVariables false
set_option maxRecDepth 20000
namespace Go.Proofs.YtfbfeplegdpemaaGreat
open Go.RowKit

section
variable {b : Nat} {w w' : World} {gv gm gs : Nat} {n : Nat} {C : Int → Option BV}
/-- What a function leaves that is run: it came to its end, or it gave up at a slot. (w1: the world at its beginning; r: the run.) -/
def FunP (b : Nat) (gv gm gs r : Nat) (G : List Nat) (Done : World → (Int → Option BV) → World → Prop) (Gave : Int → World → Prop) (w1 : World) (e : Ending) (w2 : World) : Prop :=
  (e = .returned (.tuple #[]) ∧ ∃ n' C', VV b w2 gv gm gs (some ⟨r, 0, none⟩) n' C' ∧ n' ≤ 1000 ∧ Row w2 r 83 (rcs false 0) ∧ Chg G w1 w2 ∧ Done w1 C' w2) ∨
  (e = runE r ∧ ∃ n' C' a, VV b w2 gv gm gs (some ⟨r, 0, none⟩) n' C' ∧ Row w2 r 83 (rcs true a) ∧ Chg (r :: G) w1 w2 ∧ Gave a w2)
/-- What Run leaves. -/
def RunP (b : Nat) (w : World) (gv gm gs : Nat) (G : List Nat) (Done : World → (Int → Option BV) → World → Prop) (Gave : Int → World → Prop) (e : Ending) (w' : World) : Prop :=
  (e = .returned (.tuple #[.int .i64 0, .bool true]) ∧ ∃ (n' : Nat) (C' : Int → Option BV) (w1 w2 : World) (F : List Nat), VV b w' gv gm gs none n' C' ∧ n' ≤ 1000 ∧ Done w1 C' w2 ∧ Chg F w2 w' ∧ (∀ x ∈ F, x = gv ∨ (w.heap.size ≤ x ∧ x < w1.heap.size)) ∧ w.heap.size ≤ w1.heap.size ∧ Chg (gv :: gm :: G) w w') ∨
  (∃ (a : Int) (w2 : World), e = .returned (.tuple #[.int .i64 a, .bool false]) ∧ VV b w' gv gm gs none 0 (fun _ => none) ∧ Gave a w2 ∧ Chg (gv :: gm :: G) w w')
theorem zero_view_ptr (w : World) : (zeroValue 79).run Tryz.prog w = .ok (.pointer none) w := by kernel_rfl
theorem zero_int (w : World) : (zeroValue 3).run Tryz.prog w = .ok (.int .i64 0) w := by kernel_rfl
theorem zero_bool (w : World) : (zeroValue 4).run Tryz.prog w = .ok (.bool false) w := by kernel_rfl
theorem built_run : Tryz.prog.built 83 [] = some (rcs false 0).toArray := by kernel_rfl
theorem fun_nil (F : Nat) (caps : Array Value) (w : World) : (binOp .neq 1 (.func (.func F) #[] caps) .nilFunc).run Tryz.prog w = .ok (.bool true) w := by kernel_rfl
theorem VV.keepN {F : List Nat} {rp : Option Addr} (h : VV b w gv gm gs rp n C) (hc : Chg F w w') (h1 : gv ∉ F) (h2 : gm ∉ F) (hN : NoBytes w F) : VV b w' gv gm gs rp n C :=
  ⟨hc.row h.row h1, h.map.chg hc h2, fun a x hx => (h.own a x hx).chg hc hN, h.len, h.lo⟩
theorem row_noB {w : World} {p : Nat} {t : TypeId} {cs : List Value} (h : Row w p t cs) (ht : t ≠ 5) : ∀ cs fr, w.heap[p]? ≠ some (.cells cs 5 fr) := by
  intro cs' fr e
  have h1 := h.heap
  rw [e] at h1
  injection h1 with h1
  injection h1 with _ h2
  exact ht h2.symm
theorem VV.turn {rp : Option Addr} (h : VV b w gv gm gs rp n C) (rp' : Option Addr) : VV b (w.setCell ⟨gv, 2, none⟩ (.pointer rp')) gv gm gs rp' n C := by
  have hc : Chg [gv] w (w.setCell ⟨gv, 2, none⟩ (.pointer rp')) := (Chg.refl [gv] w).setCell (p := ⟨gv, 2, none⟩) (.inl (by simp)) _
  exact ⟨h.row.put 2 _, h.map.chg hc (fun hx => h.ne (List.mem_singleton.1 hx).symm), fun a x hx => (h.own a x hx).chg hc (fun j hj cs fr => by rw [List.mem_singleton] at hj; subst hj; exact row_noB h.row (by decide) _ _), h.len, h.lo⟩
theorem run_setup {wf w1 : World} {po pw r : Nat} {t : TypeId} (h : VV b wf gv gm gs none n C) (rpo : Row wf po t [.pointer none]) (rpw : Row wf pw t [.pointer none]) (n1 : po ≠ pw) (n2 : gv ≠ po) (n3 : gv ≠ pw) (ht : t ≠ 5)
    (hm : MC w1 gm 0 fun _ => none) (hg : (((wf.setCell ⟨po, 0, none⟩ (.pointer none)).setCell ⟨pw, 0, none⟩ (.pointer (some ⟨r, 0, none⟩))).setCell ⟨gv, 2, none⟩ (.pointer (some ⟨r, 0, none⟩))).grownBy w1 (some gm)) :
    VV b w1 gv gm gs (some ⟨r, 0, none⟩) 0 (fun _ => none) ∧ Row w1 po t [.pointer none] ∧ Row w1 pw t [.pointer (some ⟨r, 0, none⟩)] ∧ Chg [po, pw, gv, gm] wf w1 := by
  have ng : gv ≠ gm := h.ne
  have np : po ≠ gm := fun e => h.map.no_cells _ _ _ (e ▸ rpo.heap)
  have nq : pw ≠ gm := fun e => h.map.no_cells _ _ _ (e ▸ rpw.heap)
  have hc : Chg [po, pw, gv, gm] wf w1 := ((((Chg.refl [po, pw, gv, gm] wf).setCell (p := ⟨po, 0, none⟩) (.inl (by simp)) _).setCell (p := ⟨pw, 0, none⟩) (.inl (by simp)) _).setCell (p := ⟨gv, 2, none⟩) (.inl (by simp)) _).grown hg (fun k hk => by injection hk with hk; subst hk; exact .inl (by simp))
  refine ⟨⟨?_, hm, (fun a x hx => by cases hx), (fun a x hx => by cases hx), h.lo⟩, ?_, ?_, hc⟩
  · have h1 := ((h.row.far (p := ⟨po, 0, none⟩) n2 (.pointer none)).far (p := ⟨pw, 0, none⟩) n3 (.pointer (some ⟨r, 0, none⟩))).put 2 (.pointer (some ⟨r, 0, none⟩))
    exact h1.grown hg (fun e => ng (by injection e))
  · have h1 := ((rpo.put 0 (.pointer none)).far (p := ⟨pw, 0, none⟩) n1 (.pointer (some ⟨r, 0, none⟩))).far (p := ⟨gv, 2, none⟩) n2.symm (.pointer (some ⟨r, 0, none⟩))
    exact h1.grown hg (fun e => np (by injection e))
  · have h1 := ((rpw.far (p := ⟨po, 0, none⟩) n1.symm (.pointer none)).put 0 (.pointer (some ⟨r, 0, none⟩))).far (p := ⟨gv, 2, none⟩) n3.symm (.pointer (some ⟨r, 0, none⟩))
    exact h1.grown hg (fun e => nq (by injection e))
set_option maxHeartbeats 1000000 in
theorem vrun (F : Nat) (caps : Array Value) (G : List Nat) (Done : World → (Int → Option BV) → World → Prop) (Gave : Int → World → Prop) (h : VV b w gv gm gs none n C) (hG : ∀ x ∈ G, x ≠ gv ∧ x < w.heap.size) (hcf : ∀ w, (callFunc F caps).run Tryz.prog w = .ok (.enter F caps) w)
    (hf : ∀ (r : Nat) (w1 : World), VV b w1 gv gm gs (some ⟨r, 0, none⟩) 0 (fun _ => none) → Row w1 r 83 (rcs false 0) → Chg [gv, gm] w w1 → w.heap.size ≤ r → Calls Tryz.prog F caps w1 (FunP b gv gm gs r G Done Gave w1)) :
    Calls Tryz.prog 11 #[.pointer (some ⟨gv, 0, none⟩), .func (.func F) #[] caps] w (RunP b w gv gm gs G Done Gave) := by
  have hmf : ∀ (fn : Fn) (first cap : Array Value) (w : World), (Instr.makeFunc fn first cap).run Tryz.prog w = .ok (.func fn first cap) w := fun _ _ _ _ => rfl
  have hfn := fun_nil F caps
  have H := Lib.hid h
  have HF := Lib.hid hf
  have HGG := Lib.hid hG
  clear h hf hG
  go_enter_defers Tryz.func11, Tryz.ntmps11
  go_wp2_with (first
    | (refine step_box1 rfl 28 _ rfl (.pointer (some ⟨gv, 0, none⟩)) rfl rfl ?_; intro pv wa hra hga hba
       have HRa := Lib.hid hra; have HBa := Lib.hid hba; have HGa := Lib.hid (p := w.heap.size ≤ pv) (Nat.le_of_eq hga.out.symm); clear hra hga hba)
    | (refine step_new rfl 3 rfl (.int .i64 0) zero_int rfl ?_; intro ps wb hrb hgb hbb
       have HRb := Lib.hid hrb; have HBb := Lib.hid hbb; have HGb := Lib.hid (p := wa.heap.size ≤ ps) (Nat.le_of_eq hgb.out.symm); clear hrb hgb hbb)
    | (refine step_new rfl 4 rfl (.bool false) zero_bool rfl ?_; intro pk wc hrc hgc hbc
       have HRc := Lib.hid hrc; have HBc := Lib.hid hbc; have HGc := Lib.hid (p := wb.heap.size ≤ pk) (Nat.le_of_eq hgc.out.symm); clear hrc hgc hbc
       have HB3 := Lib.hid (p := Below w.heap.size w wc) (below_nxt HBc.out (below_nxt HBb.out HBa.out))
       have v3 := (H.out.below HB3.out).c2
       have p3 : wc.cell? ⟨pv, 0, none⟩ = some (.pointer (some ⟨gv, 0, none⟩)) := (((HRa.out.kept HBb.out).kept HBc.out).cell 0).trans rfl)
    | (refine step_build rfl 83 _ rfl [] ?hv _ built_run ?_; case hv => (simp [Act.eval, Act.put]))
    | (refine step_box rfl 13 rfl 83 _ rfl (rcs false 0) rfl ?_; intro r wd hrd hgd hbd hsd
       have HRd := Lib.hid hrd; have HBd := Lib.hid hbd; have HGd := Lib.hid (p := wc.heap.size ≤ r) (Nat.le_of_eq hgd.out.symm); clear hrd hgd hbd hsd v3 p3; have MK := trivial)
    | (clear MK; refine step_new rfl 79 rfl (.pointer none) zero_view_ptr rfl ?_; intro po we hre hge hbe
       have HRe := Lib.hid hre; have HBe := Lib.hid hbe; have HGe := Lib.hid (p := wd.heap.size ≤ po) (Nat.le_of_eq hge.out.symm); clear hre hge hbe)
    | (refine step_new rfl 79 rfl (.pointer none) zero_view_ptr rfl ?_; intro pw wf hrf hgf hbf
       have HRf := Lib.hid hrf; have HBf := Lib.hid hbf; have HGf := Lib.hid (p := we.heap.size ≤ pw) (Nat.le_of_eq hgf.out.symm); clear hrf hgf hbf
       have HB6 := Lib.hid (p := Below w.heap.size w wf) (below_nxt HBf.out (below_nxt HBe.out (below_nxt HBd.out HB3.out)))
       have HV6 := Lib.hid (H.out.below HB6.out)
       have R1 := Lib.hid (((((HRa.out.kept HBb.out).kept HBc.out).kept HBd.out).kept HBe.out).kept HBf.out)
       have R2 := Lib.hid ((((HRb.out.kept HBc.out).kept HBd.out).kept HBe.out).kept HBf.out)
       have R3 := Lib.hid (((HRc.out.kept HBd.out).kept HBe.out).kept HBf.out)
       have R4 := Lib.hid ((HRd.out.kept HBe.out).kept HBf.out)
       have R5 := Lib.hid (HRe.out.kept HBf.out)
       have ORD := Lib.hid (p := gv < pv ∧ w.heap.size ≤ pv ∧ pv < ps ∧ ps < pk ∧ pk < r ∧ r < po ∧ po < pw) (by
         have l0 := H.out.row.lt; have l1 := HRa.out.lt; have l2 := HRb.out.lt; have l3 := HRc.out.lt; have l4 := HRd.out.lt; have l5 := HRe.out.lt
         have g1 := HGa.out; have g2 := HGb.out; have g3 := HGc.out; have g4 := HGd.out; have g5 := HGe.out; have g6 := HGf.out
         omega)
       have n1 : ¬ po = pw := by have := ORD.out; omega
       have n2 : ¬ pw = po := by have := ORD.out; omega
       have n3 : ¬ po = pv := by have := ORD.out; omega
       have n4 : ¬ pw = pv := by have := ORD.out; omega
       have n5 : ¬ po = gv := by have := ORD.out; omega
       have n6 : ¬ pw = gv := by have := ORD.out; omega
       have n7 : ¬ gv = pv := by have := ORD.out; omega
       have n8 : ¬ gv = pw := by have := ORD.out; omega
       have n9 : ¬ gv = po := by have := ORD.out; omega
       have co : wf.cell? ⟨po, 0, none⟩ = some (.pointer none) := (R5.out.cell 0).trans rfl
       have fo := R5.out.free 0
       have cw : wf.cell? ⟨pw, 0, none⟩ = some (.pointer none) := (HRf.out.cell 0).trans rfl
       have fw := HRf.out.free 0
       have cv : wf.cell? ⟨pv, 0, none⟩ = some (.pointer (some ⟨gv, 0, none⟩)) := (R1.out.cell 0).trans rfl
       have c1 := HV6.out.c1
       have c2 := HV6.out.c2
       have f2 := HV6.out.row.free 2)
    | (refine wp_clear rfl (.tmp 21) rfl gm n C rfl (MC.chg (F := [po, pw, gv]) HV6.out.map ((((Chg.refl [po, pw, gv] wf).setCell (p := ⟨po, 0, none⟩) (.inl (by simp)) _).setCell (p := ⟨pw, 0, none⟩) (.inl (by simp)) _).setCell (p := ⟨gv, 2, none⟩) (.inl (by simp)) _) (by
         have ng := HV6.out.ne
         have np : po ≠ gm := fun e => HV6.out.map.no_cells _ _ _ (e ▸ R5.out.heap)
         have nq : pw ≠ gm := fun e => HV6.out.map.no_cells _ _ _ (e ▸ HRf.out.heap)
         simp [ng.symm, np.symm, nq.symm])) ?_
       intro w1 hm1 hg1
       obtain ⟨V1, Ro, Rw, hC1⟩ := run_setup HV6.out R5.out HRf.out n1 n9 n8 (by decide) hm1 hg1
       have HV1 := Lib.hid V1; have HRo := Lib.hid Ro; have HRw := Lib.hid Rw; have HC1 := Lib.hid hC1
       clear V1 Ro Rw hC1 hm1 hg1 co fo cw fw cv c1 c2 f2 n1 n2 n3 n4 n5 n6 n7 n8 n9))
  have hC01 : Chg [gv, gm] w w1 := (Chg.of (F := [gv, gm]) HB6.out).trans HC1.out (fun x hx => by
    have o := ORD.out
    simp only [List.mem_cons, List.mem_nil_iff, or_false] at hx
    rcases hx with rfl | rfl | rfl | rfl
    · exact .inr (by omega)
    · exact .inr (by omega)
    · exact .inl (by simp)
    · exact .inl (by simp))
  have HC01 := Lib.hid hC01
  have ngm : gm < w.heap.size := H.out.map.lt
  have out : ∀ x, gv < x → w.heap.size ≤ x → x ≠ po → x ≠ pw → x ∉ [po, pw, gv, gm] := fun x h0 h1 h2 h3 => by
    simp only [List.mem_cons, List.mem_nil_iff, or_false, not_or]
    exact ⟨h2, h3, by omega, by omega⟩
  have Q1 := Lib.hid (HC1.out.row R1.out (out pv (by have := ORD.out; omega) (by have := ORD.out; omega) (by have := ORD.out; omega) (by have := ORD.out; omega)))
  have Q2 := Lib.hid (HC1.out.row R2.out (out ps (by have := ORD.out; omega) (by have := ORD.out; omega) (by have := ORD.out; omega) (by have := ORD.out; omega)))
  have Q3 := Lib.hid (HC1.out.row R3.out (out pk (by have := ORD.out; omega) (by have := ORD.out; omega) (by have := ORD.out; omega) (by have := ORD.out; omega)))
  have Q4 := Lib.hid (HC1.out.row R4.out (out r (by have := ORD.out; omega) (by have := ORD.out; omega) (by have := ORD.out; omega) (by have := ORD.out; omega)))
  clear out hC01 R1 R2 R3 R4 R5 HRa HRb HRc HRd HRe HRf HBa HBb HBc HBd HBe HBf
  refine (HF.out r w1 HV1.out Q4.out HC01.out (by have := ORD.out; omega)).mono ?_
  rintro e w2 (⟨rfl, n', C', hv, hnn, hr, hc, hd⟩ | ⟨he, n', C', a, hv, hr, hc, hg⟩)
  · have o := ORD.out
    have nG : ∀ x, w.heap.size ≤ x → x ∉ G := fun x hx hm => by have := (HGG.out x hm).2; omega
    have T1 := Lib.hid (hc.row Q1.out (nG pv (by omega)))
    have T2 := Lib.hid (hc.row Q2.out (nG ps (by omega)))
    have T3 := Lib.hid (hc.row Q3.out (nG pk (by omega)))
    have To := Lib.hid (hc.row HRo.out (nG po (by omega)))
    have Tw := Lib.hid (hc.row HRw.out (nG pw (by omega)))
    have cw : w2.cell? ⟨pw, 0, none⟩ = some (.pointer (some ⟨r, 0, none⟩)) := (Tw.out.cell 0).trans rfl
    have r0 : w2.cell? ⟨r, 0, none⟩ = some (.bool false) := (hr.cell 0).trans rfl
    have r1 : w2.cell? ⟨r, 1, none⟩ = some (.int .i64 0) := (hr.cell 1).trans rfl
    have s0 : w2.cell? ⟨ps, 0, none⟩ = some (.int .i64 0) := (T2.out.cell 0).trans rfl
    have k0 : w2.cell? ⟨pk, 0, none⟩ = some (.bool false) := (T3.out.cell 0).trans rfl
    have fs := T2.out.free 0
    have fk := T3.out.free 0
    have n1 : ¬ ps = pw := by omega
    have n2 : ¬ ps = r := by omega
    have n3 : ¬ pk = pw := by omega
    have n4 : ¬ pk = r := by omega
    have n5 : ¬ ps = pk := by omega
    have n6 : ¬ pk = ps := by omega
    have HV2 := Lib.hid hv
    have HR2 := Lib.hid hr
    have HC2 := Lib.hid hc
    have HD := Lib.hid hd
    have HNN := Lib.hid hnn
    clear hv hr hc hd o nG hnn
    go_wp2
    go_region
    go_wp2
    have hc3 : Chg [ps, pk] w2 ((w2.setCell ⟨ps, 0, none⟩ (.int .i64 0)).setCell ⟨pk, 0, none⟩ (.bool true)).drew := (((Chg.refl [ps, pk] w2).setCell (p := ⟨ps, 0, none⟩) (.inl (by simp)) _).setCell (p := ⟨pk, 0, none⟩) (.inl (by simp)) _).drew
    have hN : NoBytes w2 [ps, pk] := fun j hj cs fr => by
      simp only [List.mem_cons, List.mem_nil_iff, or_false] at hj
      rcases hj with rfl | rfl
      · exact row_noB T2.out (by decide) _ _
      · exact row_noB T3.out (by decide) _ _
    have o := ORD.out
    have lm : gm < w.heap.size := ngm
    have V3 := HV2.out.keepN hc3 (by simp; omega) (by simp; omega) hN
    have co3 := hc3.cell (v := .pointer none) ((To.out.cell 0).trans rfl) (by simp; omega)
    have cv3 := hc3.cell (v := .pointer (some ⟨gv, 0, none⟩)) ((T1.out.cell 0).trans rfl) (by simp; omega)
    have ck3 : ((w2.setCell ⟨ps, 0, none⟩ (.int .i64 0)).setCell ⟨pk, 0, none⟩ (.bool true)).drew.cell? ⟨pk, 0, none⟩ = some (.bool true) := ((((T3.out.far (p := ⟨ps, 0, none⟩) n6 _).put 0 (.bool true)).drew).cell 0).trans rfl
    have cs3 : ((w2.setCell ⟨ps, 0, none⟩ (.int .i64 0)).setCell ⟨pk, 0, none⟩ (.bool true)).drew.cell? ⟨ps, 0, none⟩ = some (.int .i64 0) := ((((T2.out.put 0 (.int .i64 0)).far (p := ⟨pk, 0, none⟩) n5 _).drew).cell 0).trans rfl
    generalize ((w2.setCell ⟨ps, 0, none⟩ (.int .i64 0)).setCell ⟨pk, 0, none⟩ (.bool true)).drew = W3 at hc3 V3 co3 cv3 ck3 cs3 ⊢
    refine leaves_cons (f := 34) (args := #[.pointer (some ⟨po, 0, none⟩), .pointer (some ⟨pv, 0, none⟩), .pointer (some ⟨pk, 0, none⟩), .pointer (some ⟨pw, 0, none⟩), .pointer (some ⟨ps, 0, none⟩)]) (by simp) (by simp [go_sem]) ?_
    refine (vdefer_ok V3 co3 cv3 ck3 (by omega)).mono ?_
    rintro e u' w' ⟨rfl, rfl, hw⟩
    have hc4 : Chg [gv] W3 w' := by rw [hw]; exact (Chg.refl [gv] W3).setCell (p := ⟨gv, 2, none⟩) (.inl (by simp)) _
    have ck4 := hc4.cell ck3 (by simp; omega)
    have cs4 := hc4.cell cs3 (by simp; omega)
    have V4 : VV b w' gv gm gs none n' C' := by rw [hw]; exact V3.turn none
    have hc34 : Chg [ps, pk, gv] w2 w' := (hc3.wider (fun x hx => .inl (by simp at hx ⊢; omega))).trans hc4 (fun x hx => .inl (by simp at hx ⊢; omega))
    have fin : RunP b w gv gm gs G Done Gave (.returned (.tuple #[.int .i64 0, .bool true])) w' := by
      refine .inl ⟨rfl, n', C', w1, w2, [ps, pk, gv], V4, HNN.out, HD.out, hc34, fun x hx => ?_, HC01.out.size, ?_⟩
      · have l1 := Q2.out.lt
        have l2 := Q3.out.lt
        simp at hx
        rcases hx with rfl | rfl | rfl
        · exact .inr (by omega)
        · exact .inr (by omega)
        · exact .inl rfl
      · have h1 : Chg (gv :: gm :: G) w w2 := (HC01.out.wider (fun x hx => .inl (by simp at hx ⊢; omega))).trans HC2.out (fun x hx => .inl (by simp [hx]))
        exact h1.trans hc34 (fun x hx => by
          simp at hx
          rcases hx with rfl | rfl | rfl
          · exact .inr (by omega)
          · exact .inr (by omega)
          · exact .inl (by simp))
    simp [Leaves, settle, results, Tryz.results11, go_sem, ck4, cs4]
    exact fin
  · unfold runE at he
    subst he
    have o := ORD.out
    have lm : gm < w.heap.size := ngm
    have nG : ∀ x, w.heap.size ≤ x → x ≠ r → x ∉ r :: G := fun x hx h0 hm => by
      rcases List.mem_cons.1 hm with e | hm
      · exact h0 e
      · have := (HGG.out x hm).2
        omega
    have T1 := hc.row Q1.out (nG pv (by omega) (by omega))
    have T2 := hc.row Q2.out (nG ps (by omega) (by omega))
    have T3 := hc.row Q3.out (nG pk (by omega) (by omega))
    have To := hc.row HRo.out (nG po (by omega) (by omega))
    have Tw := hc.row HRw.out (nG pw (by omega) (by omega))
    refine leaves_cons (f := 34) (args := #[.pointer (some ⟨po, 0, none⟩), .pointer (some ⟨pv, 0, none⟩), .pointer (some ⟨pk, 0, none⟩), .pointer (some ⟨pw, 0, none⟩), .pointer (some ⟨ps, 0, none⟩)]) (by simp) (by simp [go_sem]) ?_
    refine (vdefer_not hv hr ((To.cell 0).trans rfl) ((T1.cell 0).trans rfl) ((T3.cell 0).trans rfl) ((Tw.cell 0).trans rfl) ((T2.cell 0).trans rfl) (T2.free 0) (by omega) (by omega) (by omega) (by omega)).mono ?_
    rintro e u' w' ⟨rfl, rfl, wB, hmB, hgB, hw⟩
    have hcA : Chg [gv, gm] w2 wB := ((Chg.refl [gv, gm] w2).setCell (p := ⟨gv, 2, none⟩) (.inl (by simp)) _).grown hgB (fun k hk => by injection hk with hk; subst hk; exact .inl (by simp))
    have hcB : Chg [gv, gm, ps] w2 w' := by
      rw [hw]
      exact (hcA.wider (fun x hx => .inl (by simp at hx ⊢; omega))).setCell (p := ⟨ps, 0, none⟩) (.inl (by simp)) _
    have U2 : Row w' ps 3 [.int .i64 a] := by rw [hw]; exact (hcA.row T2 (by simp; omega)).put 0 _
    have U3 : Row w' pk 4 [.bool false] := hcB.row T3 (by simp; omega)
    have cs4 : w'.cell? ⟨ps, 0, none⟩ = some (.int .i64 a) := (U2.cell 0).trans rfl
    have ck4 : w'.cell? ⟨pk, 0, none⟩ = some (.bool false) := (U3.cell 0).trans rfl
    have V4 : VV b w' gv gm gs none 0 fun _ => none := by
      have ht := (hv.turn none).row.grown hgB (fun e => hv.ne (by injection e))
      refine ⟨?_, ?_, (fun a x hx => by cases hx), (fun a x hx => by cases hx), hv.lo⟩
      · rw [hw]
        exact ht.far (p := ⟨ps, 0, none⟩) (by show ¬ gv = ps; omega) _
      · rw [hw]
        exact hmB.chg ((Chg.refl [ps] wB).setCell (p := ⟨ps, 0, none⟩) (.inl (by simp)) _) (by simp; omega)
    have fin : RunP b w gv gm gs G Done Gave (.returned (.tuple #[.int .i64 a, .bool false])) w' := by
      refine .inr ⟨a, w2, rfl, V4, hg, ?_⟩
      have h1 : Chg (gv :: gm :: G) w w2 := (HC01.out.wider (fun x hx => .inl (by simp at hx ⊢; omega))).trans hc (fun x hx => by
        rcases List.mem_cons.1 hx with e | hx
        · exact .inr (by omega)
        · exact .inl (by simp [hx]))
      exact h1.trans hcB (fun x hx => by
        simp at hx
        rcases hx with rfl | rfl | rfl
        · exact .inl (by simp)
        · exact .inl (by simp)
        · exact .inr (by omega))
    simp [Leaves, settle, results, Tryz.results11, go_sem, ck4, cs4]
    exact fin
end
end Go.Proofs.YtfbfeplegdpemaaGreat
