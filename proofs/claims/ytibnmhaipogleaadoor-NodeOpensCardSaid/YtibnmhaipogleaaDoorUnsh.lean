/- A record's row as a result beside others; what package node's Unpack answers of what has not 256 bytes. No conditions. -/
import Derived.Test.YtibnmhaipogleaaDoorPackP
set_option linter.unusedVariables false
set_option maxRecDepth 20000
namespace Go.Proofs.YtibnmhaipogleaaDoor
open Go.RowKit

section
variable {P : Program}
theorem results_row_tmp {fn : Func} {p u : Tmp} {ty : TypeId} (h : fn.results = #[.cell p ty, .tmp u]) (tmps : Array Value) (w : World) (g : Nat) (t : TypeId) (cs : Array Value) (fr : Nat × Nat) (d : TypeDesc)
    (hp : tmps.getD p undef = .pointer (some ⟨g, 0, none⟩)) (hg : w.heap[g]? = some (.cells cs t fr))
    (hu : P.underlying ty = some d) (hd : (match d with | .struct _ | .array _ _ => true | _ => false) = true) (hi : (P.info? ty).map (·.size) = some cs.size) :
    (results fn tmps).run P w = .ok (.tuple #[.agg cs, tmps.getD u undef]) w := by
  rw [results_cell_tmp h tmps P w, hp]
  simp [asAddr, run_loadVar_row w g t ty cs fr d hg hu hd hi]
theorem results_tmp_row_tmp {fn : Func} {q p u : Tmp} {ty : TypeId} (h : fn.results = #[.tmp q, .cell p ty, .tmp u]) (tmps : Array Value) (w : World) (g : Nat) (t : TypeId) (cs : Array Value) (fr : Nat × Nat) (d : TypeDesc)
    (hp : tmps.getD p undef = .pointer (some ⟨g, 0, none⟩)) (hg : w.heap[g]? = some (.cells cs t fr))
    (hu : P.underlying ty = some d) (hd : (match d with | .struct _ | .array _ _ => true | _ => false) = true) (hi : (P.info? ty).map (·.size) = some cs.size) :
    (results fn tmps).run P w = .ok (.tuple #[tmps.getD q undef, .agg cs, tmps.getD u undef]) w := by
  have hp' : tmps[p]?.getD undef = .pointer (some ⟨g, 0, none⟩) := by simpa using hp
  simp [results, h, hp', asAddr, run_loadVar_row w g t ty cs fr d hg hu hd hi]
end
/-- What Unpack answers of what has not 256 bytes. -/
theorem unpack_short (A : Option Addr) (n c : Nat) (hn : n ≠ 256) (w : World) : Calls Tryd.prog 14 #[.slice A n c] w fun e w' => e = .returned (.tuple #[.agg (recsC fun _ => rec0).toArray, .int .i64 210]) ∧ Below w.heap.size w w' := by
  have hn' : ((n : Int) != 256) = true := by simp; omega
  have hz := Lib.hid zero_recs
  have i140 := Lib.hid (p := (Tryd.prog.info? 27).map (·.size) = some (recsC fun _ => rec0).length) (by rw [recsC_len]; exact info_recs)
  clear hn
  go_enter Tryd.func14, Tryd.ntmps14
  go_wp2_with (first
    | (refine step_alloc rfl 2 rfl 27 rfl _ hz ?_; intro g2 w2 hr2 hg2 hb2 hs2)
    | (refine step_build rfl 27 #[] rfl [] rfl _ recs0_cs ?_)
    | (refine step_store rfl 27 (.tmp 2) (.tmp 12) rfl g2 (by rfl) _ (recsC fun _ => rec0) (recsC fun _ => rec0) (by kernel_rfl) hr2 rfl i140 (recsC_one _) ?_; intro w3 hr3 hg3 hs3))
  refine bodyPost_ret (results_row_tmp rfl _ _ g2 _ _ _ _ rfl hr3 Tryd.underlying27 rfl (by simpa using i140.out)) rfl ?_
  exact ⟨rfl, hb2.grown hg3 hb2.size (fun q hq => by injection hq with hq; subst hq; rw [hg2.out]; exact Nat.le_refl _)⟩
end Go.Proofs.YtibnmhaipogleaaDoor
