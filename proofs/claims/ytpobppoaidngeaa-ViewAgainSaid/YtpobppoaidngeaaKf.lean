/- A run's end: what gaveUp tells; the deferred function, behind a run that came to its end and behind one that gave up. Conditions: the cells lie there. -/
import Derived.Test.YtpobppoaidngeaaKe
import Derived.Defers
import Derived.Recover
import Derived.LaidEqlPtr
set_option linter.unusedVariables false
set_option maxRecDepth 20000
namespace Go.Proofs.Ytpobppoaidngeaa
open Go.RowKit

def runV (r : Nat) : Value := .iface 54 (.pointer (some ⟨r, 0, none⟩))
theorem run_assert (r : Nat) (w : World) : (Instr.typeAssert (runV r) 20 54 true).run Try.prog w = .ok (.tuple #[.pointer (some ⟨r, 0, none⟩), .bool true]) w := by kernel_rfl
theorem run_same (r : Nat) (w : World) : (binOp .neq 54 (.pointer (some ⟨r, 0, none⟩)) (.pointer (some ⟨r, 0, none⟩))).run Try.prog w = .ok (.bool false) w := by
  have hte : (Try.prog.info? 58).isSome = true := by kernel_rfl
  obtain ⟨j, hj⟩ := Option.isSome_iff_exists.1 hte
  have h : ∀ d : Nat, (Op.equalIn (d + 1) 54 (.pointer (some ⟨r, 0, none⟩)) (.pointer (some ⟨r, 0, none⟩))).run Try.prog w = .ok true w := fun d => by
    simp [Op.equalIn, run_underlying Try.underlying54, sizeOf, typeInfo, hj, run_sameAddr_same]
  simp only [binOp]
  simp [Op.equal, Op.maxDepth, h 9999]
theorem vgave {w : World} {r : Nat} {a : Int} (hr : Row w r 58 (rcs true a)) : Calls Try.prog 28 #[.pointer (some ⟨r, 0, none⟩), runV r] w fun e w' => e = .returned (.int .i64 a) ∧ w = w' := by
  have r1 : w.cell? ⟨r, 1, none⟩ = some (.int .i64 a) := (hr.cell 1).trans rfl
  have h1 := run_assert r
  have h2 := run_same r
  clear hr
  unfold runV at h1 ⊢
  go_enter Try.func28, Try.ntmps28
  go_wp2
  go_ret
  exact ⟨rfl, rfl⟩
section
variable {b : Nat} {w w' : World} {gv gm gs : Nat} {rp : Option Addr} {n : Nat} {C : Int → Option BV}
theorem cell_ne {w : World} {p i g : Nat} {v : Value} (hc : w.cell? ⟨p, i, none⟩ = some v) (hn : ∀ cs t fr, w.heap[g]? ≠ some (.cells cs t fr)) : p ≠ g := by
  intro e
  subst e
  unfold World.cell? at hc
  split at hc
  · rename_i cs t fr h
    exact hn _ _ _ h
  · cases hc
/-- The deferred function, ok. -/
theorem vdefer_ok {r po pv pk pw ps : Nat} (h : VV b w gv gm gs (some ⟨r, 0, none⟩) n C) (co : w.cell? ⟨po, 0, none⟩ = some (.pointer none)) (cv : w.cell? ⟨pv, 0, none⟩ = some (.pointer (some ⟨gv, 0, none⟩))) (ck : w.cell? ⟨pk, 0, none⟩ = some (.bool true)) (hk : pk ≠ gv) :
    CallsD Try.prog 27 #[.pointer (some ⟨po, 0, none⟩), .pointer (some ⟨pv, 0, none⟩), .pointer (some ⟨pk, 0, none⟩), .pointer (some ⟨pw, 0, none⟩), .pointer (some ⟨ps, 0, none⟩)] .returning w fun e u' w' => u' = .returning ∧ e = .returned (.tuple #[]) ∧ w' = w.setCell ⟨gv, 2, none⟩ (.pointer none) := by
  have c2 := h.c2
  have f2 := h.row.free 2
  have hk2 : ¬ gv = pk := fun e => hk e.symm
  clear h
  go_enter_d Try.func27, Try.ntmps27
  go_wp2
  refine bodyPost_ret (results_none rfl _ _ _) rfl ?_
  exact ⟨rfl, rfl⟩
set_option maxHeartbeats 1000000 in
/-- The deferred function, behind a run that gave up. -/
theorem vdefer_not {r po pv pk pw ps : Nat} {a : Int} (h : VV b w gv gm gs (some ⟨r, 0, none⟩) n C) (hr : Row w r 58 (rcs true a)) (co : w.cell? ⟨po, 0, none⟩ = some (.pointer none)) (cv : w.cell? ⟨pv, 0, none⟩ = some (.pointer (some ⟨gv, 0, none⟩))) (ck : w.cell? ⟨pk, 0, none⟩ = some (.bool false)) (cw : w.cell? ⟨pw, 0, none⟩ = some (.pointer (some ⟨r, 0, none⟩))) (cs : w.cell? ⟨ps, 0, none⟩ = some (.int .i64 0)) (fs : w.frozen? ⟨ps, 0, none⟩ = false)
    (hk : gv ≠ pk) (hv : gv ≠ pv) (hw : gv ≠ pw) (hs : gv ≠ ps) :
    CallsD Try.prog 27 #[.pointer (some ⟨po, 0, none⟩), .pointer (some ⟨pv, 0, none⟩), .pointer (some ⟨pk, 0, none⟩), .pointer (some ⟨pw, 0, none⟩), .pointer (some ⟨ps, 0, none⟩)] (.panicking [{ v := runV r, recovered := false }]) w fun e u' w' =>
      u' = .panicking [{ v := runV r, recovered := true }] ∧ e = .returned (.tuple #[]) ∧ ∃ w2, MC w2 gm 0 (fun _ => none) ∧ (w.setCell ⟨gv, 2, none⟩ (.pointer none)).grownBy w2 (some gm) ∧ w' = w2.setCell ⟨ps, 0, none⟩ (.int .i64 a) := by
  have c1 := h.c1
  have c2 := h.c2
  have f2 := h.row.free 2
  obtain ⟨w2, hclr, hm2, hg2⟩ := (h.map.chg ((Chg.refl [gv] w).setCell (p := ⟨gv, 2, none⟩) (.inl (List.mem_singleton.2 rfl)) (.pointer none)) (fun hx => h.ne (List.mem_singleton.1 hx).symm)).clear_ 0
  refine callsD_of_wpS Try.func27 rfl fun c₀ css hu => ?_
  simp only [Try.ntmps27, List.size_toArray, List.length_cons, List.length_nil, Nat.reduceAdd, Nat.reduceSub, Array.replicate_succ, Array.replicate_zero, List.push_toArray, List.append_toArray, List.nil_append, List.cons_append]
  apply wpS_seq
  apply wpS_region
  simp [wpOpsS, go_sem, Exit.thenS, co, cv, c2, f2]
  refine wpS_seq (wpS_seq ?_)
  apply wpS_region
  have hk' : ¬ pk = gv := fun e => hk e.symm
  have hv' : ¬ pv = gv := fun e => hv e.symm
  have hw' : ¬ pw = gv := fun e => hw e.symm
  have hs' : ¬ ps = gv := fun e => hs e.symm
  simp [wpOpsS, go_sem, Exit.thenS, ck]
  refine wpS_cond (t := false) (by simp [Act.eval]) ?_
  simp only [Bool.false_eq_true, if_false]
  refine wpS_of_wp (wp_skip ?_)
  simp only [Exit.thenS]
  apply wpS_seq
  apply wpS_region
  simp [wpOpsS, go_sem, Exit.thenS, cv, c1, hclr]
  apply wpS_seq
  apply wpS_region
  simp [wpOpsS, go_sem, recoverD, hu, Exit.thenS, runV]
  apply wpS_seq
  apply wpS_region
  simp [wpOpsS, go_sem, Exit.thenS]
  refine wpS_cond (t := true) (by simp [Act.eval]) ?_
  simp only [if_true]
  refine wpS_of_wp ?_
  have nw : pw ≠ gm := cell_ne cw h.map.no_cells
  have ns : ps ≠ gm := cell_ne cs h.map.no_cells
  have nr : r ≠ gm := fun e => h.map.no_cells _ _ _ (e ▸ hr.heap)
  have ngr : gv ≠ r := h.row.ne_ hr (by decide)
  have cw2 : w2.cell? ⟨pw, 0, none⟩ = some (.pointer (some ⟨r, 0, none⟩)) := hg2.cell (((Chg.refl [gv] w).setCell (p := ⟨gv, 2, none⟩) (.inl (List.mem_singleton.2 rfl)) (.pointer none)).cell cw (fun hx => hw' (List.mem_singleton.1 hx))) (fun e => nw (by injection e))
  have cs2 : w2.cell? ⟨ps, 0, none⟩ = some (.int .i64 0) := hg2.cell (((Chg.refl [gv] w).setCell (p := ⟨gv, 2, none⟩) (.inl (List.mem_singleton.2 rfl)) (.pointer none)).cell cs (fun hx => hs' (List.mem_singleton.1 hx))) (fun e => ns (by injection e))
  have fs2 : w2.frozen? ⟨ps, 0, none⟩ = false := by
    have e1 := hg2.block ps (by have := World.block_lt_of_cell? w _ cs; simp [World.setCell]; exact this) (fun e => ns (by injection e))
    have e2 := Below.heap_setCell w ⟨gv, 2, none⟩ (.pointer none) ps hs'
    rw [e2] at e1
    unfold World.frozen? at fs ⊢
    rw [e1]
    exact fs
  have hr2 : Row w2 r 58 (rcs true a) := (hr.far (p := ⟨gv, 2, none⟩) (fun e => ngr e.symm) _).grown hg2 (fun e => nr (by injection e))
  have HG := Lib.hid (vgave hr2)
  have HM := Lib.hid hm2
  have HG2 := Lib.hid hg2
  unfold runV at HG
  clear h hr hm2 hr2 hclr hu co cv ck c1 c2 f2
  go_wp2_with (go_at_call 28; refine HG.out.mono ?_; rintro e w4 ⟨rfl, rfl⟩)
  exact ⟨rfl, _, rfl, _, results_none rfl _ _ _, rfl, rfl, w2, HM.out, HG2.out, rfl⟩
end
end Go.Proofs.Ytpobppoaidngeaa
