/- A record's row as a result beside others; what package node's Unpack answers of what has not 256 bytes. No conditions. -/
import Derived.Test.YtpocccnhibjjcaaGreatDoorMgCalls
import Derived.Deep.RegionHeld
import Derived.Test.YtpocccnhibjjcaaGreatDoorMgApp
import Derived.Test.YtpocccnhibjjcaaGreatDoorMgMaps
import Derived.BigQuiet
import Derived.Test.YtpocccnhibjjcaaGreatDoorMgDisk
set_option linter.unusedVariables false
set_option maxRecDepth 20000
namespace Go.Proofs.YtpocccnhibjjcaaGreatDoor
open Go.RowKit

section
variable {P : Program}
theorem results_row_tmp {fn : Func} {p u : Tmp} {ty : TypeId} (h : fn.results = #[.cell p ty, .tmp u]) (tmps : Array Value) (w : World) (g : Nat) (t : TypeId) (cs : Array Value) (fr : Nat × Nat) (d : TypeDesc)
    (hp : tmps.getD p undef = .pointer (some ⟨g, 0, none⟩)) (hg : w.heap[g]? = some (.cells cs t fr))
    (hu : P.underlying ty = some d) (hd : (match d with | .struct _ | .array _ _ => true | _ => false) = true) (hi : (P.info? ty).map (·.size) = some cs.size) :
    (results fn tmps).run P w = .ok (.tuple #[.agg cs, tmps.getD u undef]) w := by
  rw [results_cell_tmp h tmps P w, hp]
  simp [asAddr, run_loadVar_row w g t ty cs fr d hg hu hd hi]
theorem results_tmp_row_tmp {fn : Func} {q p u : Tmp} {ty : TypeId} (h : fn.results = #[.tmp q, .cell p ty, .tmp u]) (tmps : Array Value) (w : World) (g : Nat) (t : TypeId) (cs : Array Value) (fr : Nat × Nat) (d : TypeDesc)
    (hp : tmps.getD p undef = .pointer (some ⟨g, 0, none⟩)) (hg : w.heap[g]? = some (.cells cs t fr))
    (hu : P.underlying ty = some d) (hd : (match d with | .struct _ | .array _ _ => true | _ => false) = true) (hi : (P.info? ty).map (·.size) = some cs.size) :
    (results fn tmps).run P w = .ok (.tuple #[tmps.getD q undef, .agg cs, tmps.getD u undef]) w := by
  have hp' : tmps[p]?.getD undef = .pointer (some ⟨g, 0, none⟩) := by simpa using hp
  simp [results, h, hp', asAddr, run_loadVar_row w g t ty cs fr d hg hu hd hi]
end
end Go.Proofs.YtpocccnhibjjcaaGreatDoor
/- Where a place's record lies: what a vault's own functions tell. Conditions: the vault and its nodes lie there; the place is one of a tree's. -/
set_option linter.unusedVariables false
set_option maxRecDepth 20000
namespace Go.Proofs.YtpocccnhibjjcaaGreatDoor
open Go.RowKit

theorem info_spot : (Tryz.prog.info? 99).map (·.size) = some 2 := by kernel_rfl
theorem zero_spot (w : World) : (zeroValue 99).run Tryz.prog w = .ok (.agg [Value.int .i64 0, .int .i64 0].toArray) w := by kernel_rfl
theorem spot_one (a b : Int) : ∀ v ∈ [Value.int .i64 a, .int .i64 b], v.oneCell' = true := by
  intro v hv
  simp at hv
  rcases hv with rfl | rfl <;> rfl
theorem built_spot (a b : Int) : Tryz.prog.built 99 [(0, .int .i64 a), (1, .int .i64 b)] = some [Value.int .i64 a, .int .i64 b].toArray := by kernel_rfl
def pc2 (l i : Nat) : List Value := [.int .i64 (l : Int), .int .i64 (i : Int)]
theorem pv_cs (l i : Nat) : pv l i = .agg (pc2 l i).toArray := rfl
theorem pc2_0 {w : World} {g l i : Nat} {t : TypeId} (h : Row w g t (pc2 l i)) : w.cell? ⟨g, 0, none⟩ = some (.int .i64 (l : Int)) := h.cell 0
theorem pc2_1 {w : World} {g l i : Nat} {t : TypeId} (h : Row w g t (pc2 l i)) : w.cell? ⟨g, 1, none⟩ = some (.int .i64 (i : Int)) := h.cell 1
theorem vplace (g : Nat) (c : VC) (i : Nat) (w : World) (hv : VAt w g c) : Calls Tryz.prog 47 #[.pointer (some ⟨g, 0, none⟩), .int .i64 (i : Int)] w fun e w' => e = .returned (pv c.n i) ∧ Below w.heap.size w w' := by
  have HV := Lib.hid hv
  clear hv
  go_enter Tryz.func47, Tryz.ntmps47
  go_wp2_with (first
    | (refine step_alloc rfl 4 rfl 99 rfl _ zero_spot ?_; intro g2 w2 hr2 hg2 hb2 hs2; have cn := VAt.n (HV.out.kept hb2))
    | (refine step_build rfl 99 _ rfl [(0, .int .i64 (c.n : Int)), (1, .int .i64 (i : Int))] ?hv _ (built_spot _ _) ?_; case hv => simp [Act.eval])
    | (refine step_store rfl 99 (.tmp 4) (.tmp 10) rfl g2 rfl _ _ [Value.int .i64 (c.n : Int), .int .i64 (i : Int)] rfl hr2 rfl info_spot (spot_one _ _) ?_; intro w3 hr3 hg3 hs3))
  refine bodyPost_ret (results_cell_row rfl _ _ g2 _ _ _ _ rfl hr3 Tryz.underlying99 rfl (by simpa using info_spot)) rfl ?_
  exact ⟨rfl, hb2.grown hg3 hb2.size (fun q hq => by injection hq with hq; subst hq; rw [hg2.out]; exact Nat.le_refl _)⟩
theorem vup (l i : Nat) (hl : l ≤ 1024) (hi : i ≤ 1024) (w : World) : Calls Tryz.prog 75 #[pv (l + 1) i] w fun e w' => e = .returned (.tuple #[pv l (i / 4), .int .i64 ((i % 4 : Nat) : Int)]) ∧ Below w.heap.size w w' := by
  obtain ⟨q, hq⟩ : ∃ q : Nat, i / 4 = q := ⟨_, rfl⟩
  obtain ⟨k, hk⟩ : ∃ k : Nat, i % 4 = k := ⟨_, rfl⟩
  obtain ⟨L, hL⟩ : ∃ L : Nat, l + 1 = L := ⟨_, rfl⟩
  rw [hq, hk, hL]
  have e1 : IntKind.i64.wrap ((L : Int) - 1) = (l : Int) := by rw [IntKind.wrap_i64]; omega
  have e1' : wrap64 ((L : Int) - 1) = (l : Int) := by unfold wrap64; omega
  have d2 : (i : Int) / 4 = (q : Int) := by omega
  have d3 : (i : Int) % 4 = (k : Int) := by omega
  have i0 : (0 : Int) ≤ (i : Int) := by omega
  have i1 : (i : Int) ≤ 1024 := by omega
  have q0 : (0 : Int) ≤ (q : Int) := by omega
  have q1 : (q : Int) ≤ 1024 := by omega
  have k0 : (0 : Int) ≤ (k : Int) := by omega
  have k1 : (k : Int) ≤ 3 := by omega
  have e2 : IntKind.i64.wrap (q : Int) = (q : Int) := by rw [IntKind.wrap_i64]; omega
  have e3 : (i : Int).tmod 4 = (k : Int) := by rw [← d3]; exact Int.tmod_eq_emod_of_nonneg i0
  have e4 : IntKind.i64.wrap (k : Int) = (k : Int) := by rw [IntKind.wrap_i64]; omega
  clear hL hl hi hq hk
  rw [pv_cs]
  go_enter Tryz.func75, Tryz.ntmps75
  go_wp2_with (first
    | (refine step_box rfl 1 rfl 99 _ rfl (pc2 L i) rfl ?_; intro g1 w1 hr1 hg1 hb1 hs1)
    | (refine step_alloc rfl 2 rfl 99 rfl _ zero_spot ?_; intro g2 w2 hr2 hg2 hb2 hs2; have HR1 := Lib.hid (hr1.kept hb2); have HR2 := Lib.hid hr2; have HB := Lib.hid (hb1.trans (hb2.mono hb1.size)); have Q2 := Lib.hid (p := w.heap.size ≤ g2) (by rw [hg2.out]; exact hb1.size); have N12 := Lib.hid (p := g1 < g2) (by rw [hg2.out]; exact hr1.lt); clear hr1 hg1 hb1 hs1 hr2 hg2 hb2 hs2))
  refine wp_region_held_drew (S := fun W => Row W g1 99 (pc2 L i)) (by kernel_rfl) HR1.out.drew (fun hHeld => ?_)
  refine wpAnyH_take (i := 0) (oi := ⟨some 4, .fieldAddr 99 (.tmp 1) 0, _, _, _, _⟩) (v := .pointer (some ⟨g1, 0, none⟩)) rfl (by kernel_rfl) (by kernel_rfl) (by kernel_rfl) (fun _ _ _ h => h) (.inl ⟨by rfl, fun w hSw => by go_simp⟩) (by assumption) ?_
  simp only [Act.put, List.setIfInBounds_toArray, List.set_cons_zero, List.set_cons_succ]
  refine wpAnyH_take (i := 1) (oi := ⟨some 5, .load 3 (.tmp 4), _, _, _, _⟩) (v := .int .i64 (L : Int)) rfl (by kernel_rfl) (by kernel_rfl) (by kernel_rfl) (fun _ _ _ h => h) (.inl ⟨by rfl, fun w hSw => by have z := pc2_0 hSw; go_simp⟩) (by assumption) ?_
  simp only [Act.put, List.setIfInBounds_toArray, List.set_cons_zero, List.set_cons_succ]
  refine wpAnyH_take (i := 2) (oi := ⟨some 6, .binOp .sub 3 (.tmp 5) (.const (.int .i64 1)) 3, _, _, _, _⟩) (v := .int .i64 (l : Int)) rfl (by kernel_rfl) (by kernel_rfl) (by kernel_rfl) (fun _ _ _ h => h) (.inl ⟨by rfl, fun w hSw => by go_simp⟩) (by assumption) ?_
  simp only [Act.put, List.setIfInBounds_toArray, List.set_cons_zero, List.set_cons_succ]
  refine wpAnyH_take (i := 3) (oi := ⟨some 7, .fieldAddr 99 (.tmp 1) 1, _, _, _, _⟩) (v := .pointer (some ⟨g1, 1, none⟩)) rfl (by kernel_rfl) (by kernel_rfl) (by kernel_rfl) (fun _ _ _ h => h) (.inl ⟨by rfl, fun w hSw => by go_simp⟩) (by assumption) ?_
  simp only [Act.put, List.setIfInBounds_toArray, List.set_cons_zero, List.set_cons_succ]
  refine wpAnyH_take (i := 4) (oi := ⟨some 8, .load 3 (.tmp 7), _, _, _, _⟩) (v := .int .i64 (i : Int)) rfl (by kernel_rfl) (by kernel_rfl) (by kernel_rfl) (fun _ _ _ h => h) (.inl ⟨by rfl, fun w hSw => by have z := pc2_1 hSw; go_simp⟩) (by assumption) ?_
  simp only [Act.put, List.setIfInBounds_toArray, List.set_cons_zero, List.set_cons_succ]
  refine wpAnyH_take (i := 5) (oi := ⟨some 9, .binOp .quo 3 (.tmp 8) (.const (.int .i64 4)) 3, _, _, _, _⟩) (v := .int .i64 (q : Int)) rfl (by kernel_rfl) (by kernel_rfl) (by kernel_rfl) (fun _ _ _ h => h) (.inl ⟨by rfl, fun w hSw => by go_simp⟩) (by assumption) ?_
  simp only [Act.put, List.setIfInBounds_toArray, List.set_cons_zero, List.set_cons_succ]
  refine wpAnyH_take (i := 6) (oi := ⟨some 10, .build 99 #[(0, .tmp 6), (1, .tmp 9)], _, _, _, _⟩) (v := .agg (pc2 l q).toArray) rfl (by kernel_rfl) (by kernel_rfl) (by kernel_rfl) (fun _ _ _ h => h) (.inl ⟨by rfl, fun w hSw => run_build_op w _ 99 #[(0, .tmp 6), (1, .tmp 9)] rfl [(0, .int .i64 (l : Int)), (1, .int .i64 (q : Int))] (by simp [Act.eval]) _ (built_spot _ _)⟩) (by assumption) ?_
  simp only [Act.put, List.setIfInBounds_toArray, List.set_cons_zero, List.set_cons_succ]
  refine wpAnyH_take (i := 7) (oi := ⟨some 11, .fieldAddr 99 (.tmp 1) 1, _, _, _, _⟩) (v := .pointer (some ⟨g1, 1, none⟩)) rfl (by kernel_rfl) (by kernel_rfl) (by kernel_rfl) (fun _ _ _ h => h) (.inl ⟨by rfl, fun w hSw => by go_simp⟩) (by assumption) ?_
  simp only [Act.put, List.setIfInBounds_toArray, List.set_cons_zero, List.set_cons_succ]
  refine wpAnyH_take (i := 8) (oi := ⟨some 12, .load 3 (.tmp 11), _, _, _, _⟩) (v := .int .i64 (i : Int)) rfl (by kernel_rfl) (by kernel_rfl) (by kernel_rfl) (fun _ _ _ h => h) (.inl ⟨by rfl, fun w hSw => by have z := pc2_1 hSw; go_simp⟩) (by assumption) ?_
  simp only [Act.put, List.setIfInBounds_toArray, List.set_cons_zero, List.set_cons_succ]
  refine wpAnyH_take (i := 9) (oi := ⟨some 13, .binOp .rem 3 (.tmp 12) (.const (.int .i64 4)) 3, _, _, _, _⟩) (v := .int .i64 (k : Int)) rfl (by kernel_rfl) (by kernel_rfl) (by kernel_rfl) (fun _ _ _ h => h) (.inl ⟨by rfl, fun w hSw => by go_simp⟩) (by assumption) ?_
  simp only [Act.put, List.setIfInBounds_toArray, List.set_cons_zero, List.set_cons_succ]
  refine wpAnyH_ready (rs := [10]) (by kernel_rfl) (by simp) ?_
  refine AllReadyH.cons (o := ⟨none, .store 99 (.tmp 2) (.tmp 10), _, _, _, _⟩) rfl (fun K hK => ?_) AllReadyH.nil
  refine st_store (by rfl) 99 (.tmp 2) (.tmp 10) rfl g2 (by rfl) 99 _ (pc2 l q) (by rfl) HR2.out.drew rfl info_spot (spot_one _ _) ?_
  intro w3 hr3 hg3
  refine hK.out _ _ (HR1.out.drew.grown hg3 (fun e => by injection e with e; have := N12.out; omega)) (fun hH2 => ?_)
  clear hK K
  refine wpAnyH_take (i := 11) (oi := ⟨some 3, .assign (.tmp 13), _, _, _, _⟩) (v := .int .i64 (k : Int)) rfl (by kernel_rfl) (by kernel_rfl) (by kernel_rfl) (fun _ _ _ h => h) (.inl ⟨by rfl, fun w hSw => by go_simp⟩) (by assumption) ?_
  simp only [Act.put, List.setIfInBounds_toArray, List.set_cons_zero, List.set_cons_succ]
  refine wpAnyH_done (by kernel_rfl) ?_ _
  go_wp2_with fail
  refine bodyPost_ret (results_row_tmp rfl _ _ g2 _ _ _ _ rfl hr3 Tryz.underlying99 rfl info_spot) rfl ?_
  exact ⟨rfl, HB.out.drew.grown hg3 HB.out.drew.size (fun q hq => by injection hq with hq; subst hq; exact Q2.out)⟩
def tr (top : RecV) (N : Nat → Nat → Nat → RecV) : Nat → Nat → RecV
  | 0, _ => top
  | l + 1, i => N l (i / 4) (i % 4)
theorem tr_up (top : RecV) (N : Nat → Nat → Nat → RecV) (l i : Nat) : tr top N (l + 1) i = N l (i / 4) (i % 4) := rfl
theorem vrecord (g : Nat) (c : VC) (m : Nat) (N : Nat → Nat → Nat → RecV) (l i : Nat) (hl : l ≤ 1024) (hi : i ≤ 1024) (w : World) (hv : VAt w g c) (hn : MN w c.gn m N) :
    Calls Tryz.prog 46 #[.pointer (some ⟨g, 0, none⟩), pv l i] w fun e w' => e = .returned (.agg (tr c.top N l i).cs.toArray) ∧ Below w.heap.size w w' := by
  have i35 := Lib.hid (p := ∀ r : RecV, (Tryz.prog.info? 87).map (·.size) = some r.cs.length) (fun r => by rw [r.cs_len]; exact info_rec)
  have hz := Lib.hid zero_rec
  have HV := Lib.hid hv
  have HN := Lib.hid hn
  have HI := Lib.hid (p := l ≤ 1024 ∧ i ≤ 1024) ⟨hl, hi⟩
  clear hv hn hi
  rw [pv_cs]
  cases l with
  | zero =>
    clear hl
    go_enter Tryz.func46, Tryz.ntmps46
    go_wp2_with (first
      | (refine step_box rfl 3 rfl 99 _ rfl (pc2 0 i) rfl ?_; intro g1 w1 hr1 hg1 hb1 hs1; have c0 := pc2_0 hr1)
      | (refine step_alloc rfl 4 rfl 87 rfl _ hz.out ?_; intro g2 w2 hr2 hg2 hb2 hs2; have HR2 := Lib.hid hr2; have c0 := pc2_0 (hr1.kept hb2); have HB := Lib.hid (hb1.trans (hb2.mono hb1.size)); have Q2 := Lib.hid (p := w.heap.size ≤ g2) (by rw [hg2.out]; exact hb1.size); clear hr1 hg1 hb1 hs1 hr2 hg2 hb2 hs2)
      | (refine wpList_load_mid rfl 87 (.tmp 12) rfl g 7 rfl c.top.cs _ (VAt.top (HV.out.kept HB.out)) Tryz.underlying87 rfl (i35.out _) ?_)
      | (refine step_store rfl 87 (.tmp 4) (.tmp 13) rfl g2 rfl _ _ c.top.cs rfl HR2.out (by rw [RecV.cs_len, RecV.cs_len]) (i35.out _) (RecV.cs_one _) ?_; intro w3 hr3 hg3 hs3))
    refine bodyPost_ret (results_cell_row rfl _ _ g2 _ _ _ _ rfl hr3 Tryz.underlying87 rfl (by simpa using i35.out _)) rfl ?_
    exact ⟨rfl, HB.out.grown hg3 HB.out.size (fun q hq => by injection hq with hq; subst hq; exact Q2.out)⟩
  | succ l =>
    have hb0 : (((l + 1 : Nat) : Int) == 0) = false := beq_false_of_ne (by omega)
    have HL := Lib.hid (p := l + 1 ≤ 1024) hl
    rw [tr_up]
    obtain ⟨L, hL⟩ : ∃ L : Nat, L = l + 1 := ⟨_, rfl⟩
    rw [← hL] at hb0 ⊢
    have HUP := Lib.hid (p := ∀ w, Calls Tryz.prog 75 #[.agg (pc2 L i).toArray] w fun e w' => e = .returned (.tuple #[.agg (pc2 l (i / 4)).toArray, .int .i64 ((i % 4 : Nat) : Int)]) ∧ Below w.heap.size w w') (fun w => by rw [hL]; exact vup l i (by omega) HI.out.2 w)
    obtain ⟨q, hq⟩ : ∃ q : Nat, i / 4 = q := ⟨_, rfl⟩
    obtain ⟨k, hk⟩ : ∃ k : Nat, i % 4 = k := ⟨_, rfl⟩
    rw [hq, hk] at HUP ⊢
    have HQ := Lib.hid (p := l ≤ 1024 ∧ q ≤ 1024 ∧ k < 4) ⟨by omega, by have := HI.out.2; omega, by omega⟩
    clear hL hq hk hl
    go_enter Tryz.func46, Tryz.ntmps46
    go_wp2_with (first
      | (refine step_box rfl 3 rfl 99 _ rfl (pc2 L i) rfl ?_; intro g1 w1 hr1 hg1 hb1 hs1; have c0 := pc2_0 hr1)
      | (refine step_alloc rfl 4 rfl 87 rfl _ hz.out ?_; intro g2 w2 hr2 hg2 hb2 hs2; have HR1 := Lib.hid (hr1.kept hb2); have c0 := pc2_0 HR1.out; have HR2 := Lib.hid hr2; have HB := Lib.hid (hb1.trans (hb2.mono hb1.size)); have Q2 := Lib.hid (p := w.heap.size ≤ g2) (by rw [hg2.out]; exact hb1.size); clear hr1 hg1 hb1 hs1 hr2 hg2 hb2 hs2)
      | (refine step_load rfl 15 rfl 99 (.tmp 3) rfl g1 rfl (pc2 L i) _ HR1.out.all Tryz.underlying99 rfl info_spot ?_)
      | (go_at_call 75; refine (HUP.out _).mono ?_; rintro e w4 ⟨rfl, hb4⟩; have HR24 := Lib.hid (HR2.out.kept hb4); have HB4 := Lib.hid (HB.out.trans (hb4.mono HB.out.size)); clear hb4)
      | (refine step_alloc rfl 5 rfl 99 rfl _ zero_spot ?_; intro g5 w5 hr5 hg5 hb5 hs5; have HR5 := Lib.hid hr5; have HR25 := Lib.hid (HR24.out.kept hb5); have HB5 := Lib.hid (HB4.out.trans (hb5.mono HB4.out.size)); have Q5 := Lib.hid (p := g2 < g5) (by rw [hg5.out]; exact HR24.out.lt); clear hr5 hg5 hb5 hs5)
      | (refine step_store rfl 99 (.tmp 5) (.tmp 17) rfl g5 rfl _ _ (pc2 l q) rfl HR5.out rfl info_spot (spot_one _ _) ?_; intro w6 hr6 hg6 hs6; have HR6 := Lib.hid hr6; have HR26 := Lib.hid (HR25.out.grown hg6 (fun e => by injection e with e; have := Q5.out; omega)); have HB6 := Lib.hid (HB5.out.grown hg6 HB5.out.size (fun q hq => by injection hq with hq; subst hq; exact Nat.le_trans Q2.out (Nat.le_of_lt Q5.out))); clear hr6 hg6 hs6))
    refine wp_region_held_drew (S := fun W => VAt W g c ∧ MN W c.gn m N ∧ Row W g5 99 (pc2 l q)) (by kernel_rfl) ⟨(HV.out.kept HB6.out).drew, (HN.out.below HB6.out).below (below_drw _), HR6.out.drew⟩ (fun hHeld => ?_)
    refine wpAnyH_take (i := 0) (oi := ⟨some 19, .move (.tmp 0), _, _, _, _⟩) (v := .pointer (some ⟨g, 0, none⟩)) rfl (by kernel_rfl) (by kernel_rfl) (by kernel_rfl) (fun _ _ _ h => h) (.inl ⟨by rfl, fun w hSw => by go_simp⟩) (by assumption) ?_
    simp only [Act.put, List.setIfInBounds_toArray, List.set_cons_zero, List.set_cons_succ]
    refine wpAnyH_take (i := 1) (oi := ⟨some 20, .nilCheck (.tmp 19), _, _, _, _⟩) (v := .pointer (some ⟨g, 0, none⟩)) rfl (by kernel_rfl) (by kernel_rfl) (by kernel_rfl) (fun _ _ _ h => h) (.inl ⟨by rfl, fun w hSw => by go_simp⟩) (by assumption) ?_
    simp only [Act.put, List.setIfInBounds_toArray, List.set_cons_zero, List.set_cons_succ]
    refine wpAnyH_take (i := 2) (oi := ⟨some 21, .fieldAddr 90 (.tmp 20) 8, _, _, _, _⟩) (v := .pointer (some ⟨g, 42, none⟩)) rfl (by kernel_rfl) (by kernel_rfl) (by kernel_rfl) (fun _ _ _ h => h) (.inl ⟨by rfl, fun w hSw => by go_simp⟩) (by assumption) ?_
    simp only [Act.put, List.setIfInBounds_toArray, List.set_cons_zero, List.set_cons_succ]
    refine wpAnyH_take (i := 3) (oi := ⟨some 22, .load 82 (.tmp 21), _, _, _, _⟩) (v := .map (some c.gn)) rfl (by kernel_rfl) (by kernel_rfl) (by kernel_rfl) (fun _ _ _ h => h) (.inl ⟨by rfl, fun w hSw => by have z := VAt.gn hSw.1; go_simp⟩) (by assumption) ?_
    simp only [Act.put, List.setIfInBounds_toArray, List.set_cons_zero, List.set_cons_succ]
    refine wpAnyH_take (i := 4) (oi := ⟨some 23, .load 99 (.tmp 5), _, _, _, _⟩) (v := .agg (pc2 l q).toArray) rfl (by kernel_rfl) (by kernel_rfl) (by kernel_rfl) (fun _ _ _ h => h) (yieldsIf_load_mid (by rfl) 99 (.tmp 5) rfl g5 0 rfl (pc2 l q) _ (fun w hSw => Row.all hSw.2.2) Tryz.underlying99 rfl info_spot) (by assumption) ?_
    simp only [Act.put, List.setIfInBounds_toArray, List.set_cons_zero, List.set_cons_succ]
    refine wpAnyH_take (i := 5) (oi := ⟨some 24, .lookup 82 (.tmp 22) (.tmp 23) false, _, _, _, _⟩) (v := .agg (recsC (N l q)).toArray) rfl (by kernel_rfl) (by kernel_rfl) (by kernel_rfl) (fun _ _ _ h => h) (.inl ⟨by rfl, fun w hSw => by have z := MN.look hSw.2.1 HQ.out.1 HQ.out.2.1; rw [pv_cs] at z; go_simp⟩) (by assumption) ?_
    simp only [Act.put, List.setIfInBounds_toArray, List.set_cons_zero, List.set_cons_succ]
    refine wpAnyH_take (i := 6) (oi := ⟨some 25, .move (.tmp 6), _, _, _, _⟩) (v := .int .i64 (k : Int)) rfl (by kernel_rfl) (by kernel_rfl) (by kernel_rfl) (fun _ _ _ h => h) (.inl ⟨by rfl, fun w hSw => by go_simp⟩) (by assumption) ?_
    simp only [Act.put, List.setIfInBounds_toArray, List.set_cons_zero, List.set_cons_succ]
    refine wpAnyH_take (i := 7) (oi := ⟨some 26, .index 132 (.tmp 24) (.tmp 25), _, _, _, _⟩) (v := .agg (N l q k).cs.toArray) rfl (by kernel_rfl) (by kernel_rfl) (by kernel_rfl) (fun _ _ _ h => h) (.inl ⟨by rfl, fun w hSw => by have z := run_index_rec (N l q) k HQ.out.2.2 w; go_simp⟩) (by assumption) ?_
    simp only [Act.put, List.setIfInBounds_toArray, List.set_cons_zero, List.set_cons_succ]
    refine wpAnyH_ready (rs := [8]) (by kernel_rfl) (by simp) ?_
    refine AllReadyH.cons (o := ⟨none, .store 87 (.tmp 4) (.tmp 26), _, _, _, _⟩) rfl (fun K hK => ?_) AllReadyH.nil
    refine st_store (by rfl) 87 (.tmp 4) (.tmp 26) rfl g2 (by rfl) 87 _ (N l q k).cs (by rfl) HR26.out.drew (by rw [RecV.cs_len, RecV.cs_len]) (i35.out _) (RecV.cs_one _) ?_
    intro w7 hr7 hg7
    refine hK.out _ _ ⟨(HV.out.kept HB6.out).drew.grown hg7 (fun e => by injection e with e; have := HV.out.lt; have := Q2.out; omega), ((HN.out.below HB6.out).below (below_drw _)).grown hg7 (fun e => by injection e with e; have := HN.out.lt; have := Q2.out; omega), HR6.out.drew.grown hg7 (fun e => by injection e with e; have := Q5.out; omega)⟩ (fun hH2 => ?_)
    clear hK K
    refine wpAnyH_done (by kernel_rfl) ?_ _
    go_wp2_with fail
    refine bodyPost_ret (results_cell_row rfl _ _ g2 _ _ _ _ rfl hr7 Tryz.underlying87 rfl (by simpa using i35.out _)) rfl ?_
    exact ⟨rfl, HB6.out.drew.grown hg7 HB6.out.drew.size (fun q hq => by injection hq with hq; subst hq; exact Q2.out)⟩
end Go.Proofs.YtpocccnhibjjcaaGreatDoor
/- Bytes as a block, by the law's own function: what the call leaves, for all bytes. No conditions but those named. -/
set_option linter.unusedVariables false
namespace Go.Proofs.YtpocccnhibjjcaaGreatDoor
open Go.RowKit

def Fresh (w : World) (n : Nat) (f : Nat → UInt8) (x : Ending) (w' : World) : Prop :=
  ∃ g, x = .returned (.slice (some ⟨g, 0, none⟩) n n) ∧ Row w' g 5 (brr n f) ∧ w.heap.size ≤ g ∧ Below w.heap.size w w'
def wh (l : List UInt8) : Nat → UInt8 := fun j => l.getD j 0
set_option maxHeartbeats 1000000 in
theorem whole_any (A : Option Addr) (c : Nat) (l : List UInt8) (hl : l.length ≤ 9223372036854775807) (w : World) (hA : Hol w A l) :
    Calls Tryz.prog 30 #[.slice A l.length c] w (Fresh w 256 (wh l)) := by
  obtain ⟨i, U⟩ := u8_tab
  have HA := Lib.hid hA
  have HL := Lib.hid hl
  clear hA hl
  go_enter Tryz.func30, Tryz.ntmps30
  go_wp2_with (refine step_make rfl _ _ 35 5 i U rfl 256 rfl rfl (by omega) ?_; intro g w1 hr1 hg1 hb1 hs1)
  have q1 : w.heap.size ≤ g := by rw [hg1.out]; exact Nat.le_refl _
  have HB1 := Lib.hid hb1
  clear hb1 hg1 hs1
  go_loopw [4] (fun x wr => ∃ k : Nat, k ≤ l.length ∧ k ≤ 256 ∧ x = .int .i64 (k : Int) ∧ Row wr g 5 (brr 256 (upto k (wh l) fun _ => 0)) ∧ Below w.heap.size w wr) (fun x _ => 256 - (intOf x).toNat)
  case atStart => exact ⟨0, by omega, by omega, rfl, by rw [upto_zero]; exact hr1, HB1.out⟩
  case round =>
    clear hr1
    obtain ⟨k, hk, hk2, rfl, hR, hB⟩ := hrel
    by_cases h1 : k < l.length
    · have h1i : (k : Int) < (l.length : Int) := by omega
      by_cases h2 : k < 256
      · have h2i : (k : Int) < 256 := by omega
        obtain ⟨ga, oa, rfl, _, hc2⟩ := (HA.out.below hB).at_ h1
        obtain ⟨y, hy⟩ : ∃ y, l[k] = y := ⟨_, rfl⟩
        rw [hy] at hc2
        replace hc2 : wr.cell? ⟨ga, oa + k, none⟩ = some (B y) := hc2
        have HY : Hid (wh l k = y) := Lib.hid (by unfold wh; rw [List.getD_eq_getElem?_getD, List.getElem?_eq_getElem h1, hy]; rfl)
        have c1 : wr.cell? ⟨g, k, none⟩ = some (B 0) := by rw [hR.cell, brr_get _ h2, upto_self]
        have f1 := hR.free k
        have HR := Lib.hid hR
        have HB := Lib.hid hB
        clear hR hB hy
        go_wp2
        go_roundw
        case rel => exact ⟨k + 1, by omega, by omega, by go_num, by rw [← upto_step, ← brr_set, HY.out]; exact HR.out.put _ _, HB.out.setCell q1 _⟩
        case measure => simp [intOf]; omega
      · have h2i : ¬ (k : Int) < 256 := by omega
        have hfin : brr 256 (upto k (wh l) fun _ => 0) = brr 256 (wh l) := brr_congr fun j hj => upto_near _ _ (by omega)
        rw [hfin] at hR
        have HR := Lib.hid hR
        have HB := Lib.hid hB
        clear hR hB hfin
        go_wp2
        go_ret
        exact ⟨g, rfl, HR.out, q1, HB.out⟩
    · have h1i : ¬ (k : Int) < (l.length : Int) := by omega
      have hfin : brr 256 (upto k (wh l) fun _ => 0) = brr 256 (wh l) := brr_congr fun j hj => by
        by_cases h : j < k
        · exact upto_near _ _ h
        · rw [upto_far _ _ (by omega)]
          unfold wh
          rw [List.getD_eq_getElem?_getD, List.getElem?_eq_none (by omega)]
          rfl
      rw [hfin] at hR
      have HR := Lib.hid hR
      have HB := Lib.hid hB
      clear hR hB hfin
      go_wp2
      go_ret
      exact ⟨g, rfl, HR.out, q1, HB.out⟩
end Go.Proofs.YtpocccnhibjjcaaGreatDoor
/- The program's own block of bytes, and what asks whether a write is one of a block: what each call leaves. No conditions but those named. -/
set_option linter.unusedVariables false
namespace Go.Proofs.YtpocccnhibjjcaaGreatDoor
open Go.RowKit

theorem info8 : (Tryz.prog.info? 5).map (·.size) = some 1 := by kernel_rfl
theorem block_any (A : Option Addr) (n c : Nat) (l : List UInt8) (hn : n = l.length) (w : World) (hA : Hol w A l) :
    Calls Tryz.prog 37 #[.slice A n c] w (Fresh w 256 (wh l)) := by
  obtain ⟨i, U⟩ := u8_tab
  have HA := Lib.hid hA
  have HN := Lib.hid hn
  clear hA hn
  go_enter Tryz.func37, Tryz.ntmps37
  go_wp2_with (first
    | (refine step_make rfl _ _ 35 5 i U rfl 256 rfl rfl (by omega) ?_; intro g w1 hr1 hg1 hb1 hs1)
    | (refine wp_copy rfl _ _ 35 35 rfl 5 U.ht info8 g 0 256 256 256 5 (fun _ => 0) rfl hr1 A n c l rfl HN.out (HA.out.below hb1) (by rw [Nat.zero_add]; exact Nat.min_le_right _ _) ?_; intro w2 k hr2 hu2))
  go_ret
  refine ⟨g, rfl, ?_, by rw [hg1.out]; exact Nat.le_refl _, hb1.grown hu2.out.by_ hb1.size (fun k hk => by injection hk with hk; rw [← hk, hg1.out]; exact Nat.le_refl _)⟩
  have e1 : brr 256 (ov 0 (l.take 256) fun _ => 0) = brr 256 (wh l) := brr_congr fun j hj => by
    unfold wh
    by_cases h : j < l.length
    · rw [ov_in (by omega) (by rw [List.length_take]; omega)]
      simp [List.getElem?_take, hj]
    · rw [ov_out (by rw [List.length_take]; omega), List.getD_eq_getElem?_getD, List.getElem?_eq_none (by omega)]
      rfl
  rw [← e1]
  exact hr2

theorem of_any (z : Int) (w : World) :
    Calls Tryz.prog 104 #[.int .i64 z] w fun e w' => e = .returned (.func (.func 128) #[] #[.pointer (some ⟨w.heap.size, 0, none⟩)]) ∧ w' = w.alloc (.cells #[.int .i64 z] 3) := by
  go_enter Tryz.func104, Tryz.ntmps104
  go_wp2
  go_ret
  exact ⟨rfl, rfl⟩
theorem of1_any (x z : Int) (v : Value) (gc : Nat) (w : World) (hc : w.cell? ⟨gc, 0, none⟩ = some (.int .i64 z)) :
    Calls Tryz.prog 128 #[.agg #[.int .i64 x, v], .pointer (some ⟨gc, 0, none⟩)] w fun e w' => e = .returned (.bool (x == z)) ∧ w' = w.alloc (.cells #[.int .i64 x, v] 165) := by
  have hlt := World.block_lt_of_cell? w _ hc
  have hc2 : (w.alloc (.cells #[.int .i64 x, v] 165)).cell? ⟨gc, 0, none⟩ = some (.int .i64 z) := by rw [World.cell?_alloc_past _ _ _ hlt]; exact hc
  clear hc
  go_enter Tryz.func128, Tryz.ntmps128
  go_wp2
  go_ret
  exact ⟨rfl, rfl⟩
end Go.Proofs.YtpocccnhibjjcaaGreatDoor
/- The program's disk in memory: its parts, and what becomes of them when one is written. Conditions: the disk lies there. -/
set_option linter.unusedVariables false
namespace Go.Proofs.YtpocccnhibjjcaaGreatDoor
open Go.RowKit

theorem rec_write : Rec Tryz.prog 74 165 2 := rec_of (z := .agg #[.int .i64 0, .slice none 0 0]) (n := 32) Tryz.underlying74 (by kernel_rfl) (by decide) rfl (by decide)
def pfoot (g gm : Nat) (v1 v2 v4 : Value) (ev : Nat → Value) : List Nat := g :: gm :: ([v1, v2, v4] ++ (List.range 1024).map ev).filterMap Value.ownBlock
def InFoot (g gm : Nat) (v1 v2 v4 : Value) (ev : Nat → Value) (k : Nat) : Prop := k = g ∨ k = gm ∨ v1.ownBlock = some k ∨ v2.ownBlock = some k ∨ v4.ownBlock = some k ∨ ∃ a, a < 1024 ∧ (ev a).ownBlock = some k
theorem mem_pfoot {g gm : Nat} {v1 v2 v4 : Value} {ev : Nat → Value} {k : Nat} : k ∈ pfoot g gm v1 v2 v4 ev ↔ InFoot g gm v1 v2 v4 ev k := by
  unfold pfoot InFoot
  simp only [List.mem_cons, List.mem_filterMap, List.mem_append, List.mem_map, List.mem_range, List.not_mem_nil, or_false]
  constructor
  · rintro (h | h | ⟨v, (h | ⟨a, ha, rfl⟩), hv⟩)
    · exact .inl h
    · exact .inr (.inl h)
    · rcases h with rfl | rfl | rfl
      · exact .inr (.inr (.inl hv))
      · exact .inr (.inr (.inr (.inl hv)))
      · exact .inr (.inr (.inr (.inr (.inl hv))))
    · exact .inr (.inr (.inr (.inr (.inr ⟨a, ha, hv⟩))))
  · rintro (h | h | h | h | h | ⟨a, ha, h⟩)
    · exact .inl h
    · exact .inr (.inl h)
    · exact .inr (.inr ⟨v1, .inl (.inl rfl), h⟩)
    · exact .inr (.inr ⟨v2, .inl (.inr (.inl rfl)), h⟩)
    · exact .inr (.inr ⟨v4, .inl (.inr (.inr rfl)), h⟩)
    · exact .inr (.inr ⟨ev a, .inr ⟨a, ha, rfl⟩, h⟩)
structure PDisk (b : Nat) (w : World) (g : Nat) (F : List Nat) (v1 v2 : Value) (gm : Nat) (v4 : Value) (ev : Nat → Value) (n : Nat) (ss : List BV) (rs : List (Nat × BV)) (E : Nat → List BV) (ts : List (Int × Int × BV)) : Prop where
  cells : Row w g 77 [v1, v2, .map (some gm), v4]
  o1 : w.ownsRow b 35 1 v1 ss.length (ss.flatMap sc)
  o2 : w.ownsRow b 165 2 v2 rs.length (rs.flatMap wcs)
  o4 : w.ownsRow b 157 3 v4 ts.length (ts.flatMap tc)
  om : ElAt w gm n ev
  oe : ∀ a, a < 1024 → w.ownsRow b 35 1 (ev a) (E a).length ((E a).flatMap sc)
  sep1 : ∀ a, a < 1024 → (ev a).ownBlock = none ∨ (ev a).ownBlock ≠ v1.ownBlock
  sepe : ∀ a a', a < 1024 → a' < 1024 → a ≠ a' → (ev a).ownBlock = none ∨ (ev a).ownBlock ≠ (ev a').ownBlock
  m1 : ∀ x ∈ ss, Own8 b w x ∧ x.l.length = 256
  m2 : ∀ p ∈ rs, Own8 b w p.2 ∧ p.2.l.length = 256 ∧ p.1 < ss.length
  m4 : ∀ t ∈ ts, Own8 b w t.2.2
  me : ∀ a, a < 1024 → ∀ x ∈ E a, Own8 b w x ∧ x.l.length = 256
  le : ∀ a, a < 1024 → (E a).length ≤ n
  most : ss.length ≤ 1024
  fx : ∀ k, k ∈ F ↔ InFoot g gm v1 v2 v4 ev k
  fl : ∀ k ∈ F, b ≤ k ∧ k < w.heap.size
def PD (b : Nat) (w : World) (g : Nat) (F : List Nat) (ss : List BV) (rs : List (Nat × BV)) (E : Nat → List BV) (ts : List (Int × Int × BV)) : Prop :=
  ∃ v1 v2 gm v4 ev n, n ≤ ts.length ∧ PDisk b w g F v1 v2 gm v4 ev n ss rs E ts
def Wider (w : World) (F F' : List Nat) : Prop := ∀ k ∈ F', k ∈ F ∨ w.heap.size ≤ k
theorem Wider.refl (w : World) (F : List Nat) : Wider w F F := fun k hk => .inl hk
theorem Wider.trans {w w' : World} {F F' F'' : List Nat} (h : Wider w F F') (k : Wider w' F' F'') (hs : w.heap.size ≤ w'.heap.size) : Wider w F F'' := fun x hx => by
  rcases k x hx with h1 | h1
  · exact h x h1
  · exact .inr (Nat.le_trans hs h1)
def NotT (w : World) (row : Option Nat) (e : TypeId) : Prop := ∀ k, row = some k → ∀ cs fr, w.heap[k]? ≠ some (.cells cs e fr)
theorem NotT.none_ (w : World) (e : TypeId) : NotT w none e := fun k h => by cases h
theorem NotT.row {w : World} {g : Nat} {t e : TypeId} {cs : List Value} (h : Row w g t cs) (hne : t ≠ e) : NotT w (some g) e := fun k hk cs' fr h' => by
  injection hk with hk
  subst hk
  rw [h.heap] at h'
  injection h' with h'
  injection h' with _ h' _
  exact hne h'
theorem NotT.own {w : World} {b n size : Nat} {t e : TypeId} {v : Value} {xs : List Value} (h : w.ownsRow b t size v n xs) (hne : t ≠ e) : NotT w v.ownBlock e := fun k hk cs' fr h' => by
  rcases h.2 with ⟨rfl, _⟩ | ⟨g', cap', cur', rfl, _, hg', _⟩
  · cases hk
  · injection hk with hk
    subst hk
    rw [show ({ block := g', off := 0, spot := none } : Addr).block = g' from rfl, hg'] at h'
    injection h' with h'
    injection h' with _ h' _
    exact hne h'
theorem NotT.map {w : World} {gm n : Nat} {ev : Nat → Value} (h : ElAt w gm n ev) (e : TypeId) : NotT w (some gm) e := fun k hk cs' fr h' => by
  injection hk with hk
  subst hk
  exact h.no_cells _ _ _ h'
theorem own_turn {w w' : World} {row : Option Nat} {b n size : Nat} {e : TypeId} {v : Value} {xs : List Value} (h : w.ownsRow b e size v n xs) (hg : w.grownBy w' row) (hn : NotT w row e) : w'.ownsRow b e size v n xs := by
  refine h.kept hg ?_
  rcases h.2 with ⟨rfl, _⟩ | ⟨g', cap', cur', rfl, _, hg', _⟩
  · exact .inl rfl
  · exact .inr fun e0 => hn g' e0.symm _ _ hg'
theorem Own8.turn {w w' : World} {row : Option Nat} {b : Nat} {x : BV} (h : Own8 b w x) (hg : w.grownBy w' row) (hn : NotT w row 5) : Own8 b w' x := own_turn h hg hn
theorem map_turn {w w' : World} {row : Option Nat} {gm n : Nat} {ev : Nat → Value} (h : ElAt w gm n ev) (hg : w.grownBy w' row) (hc : ∀ k, row = some k → ∃ cs t fr, w.heap[k]? = some (.cells cs t fr)) : ElAt w' gm n ev := by
  refine h.grown hg fun e => ?_
  obtain ⟨cs, t, fr, hk⟩ := hc gm e.symm
  exact h.no_cells _ _ _ hk
theorem own_is {w : World} {b n size : Nat} {t : TypeId} {v : Value} {xs : List Value} (h : w.ownsRow b t size v n xs) : ∀ k, v.ownBlock = some k → ∃ cs t fr, w.heap[k]? = some (.cells cs t fr) := fun k hk => by
  rcases h.2 with ⟨rfl, _⟩ | ⟨g', cap', cur', rfl, _, hg', _⟩
  · cases hk
  · injection hk with hk
    subst hk
    exact ⟨_, _, _, hg'⟩
theorem row_is {w : World} {g : Nat} {t : TypeId} {cs : List Value} (h : Row w g t cs) : ∀ k, some g = some k → ∃ cs t fr, w.heap[k]? = some (.cells cs t fr) := fun k hk => by
  injection hk with hk
  subst hk
  exact ⟨_, _, _, h.heap⟩
theorem row_turn {w w' : World} {row : Option Nat} {g : Nat} {t : TypeId} {cs : List Value} (h : Row w g t cs) (hg : w.grownBy w' row) (hn : NotT w row t) : Row w' g t cs := h.grown hg fun e => hn g e.symm _ _ h.heap

section
variable {b : Nat} {w w' : World} {g gm : Nat} {F : List Nat} {v1 v2 v4 : Value} {ev : Nat → Value} {n : Nat} {ss : List BV} {rs : List (Nat × BV)} {E : Nat → List BV} {ts : List (Int × Int × BV)}
theorem PDisk.fg (h : PDisk b w g F v1 v2 gm v4 ev n ss rs E ts) : g ∈ F := (h.fx _).2 (.inl rfl)
theorem PDisk.fm (h : PDisk b w g F v1 v2 gm v4 ev n ss rs E ts) : gm ∈ F := (h.fx _).2 (.inr (.inl rfl))
theorem PDisk.f1 (h : PDisk b w g F v1 v2 gm v4 ev n ss rs E ts) : ∀ k, v1.ownBlock = some k → k ∈ F := fun k hk => (h.fx _).2 (.inr (.inr (.inl hk)))
theorem PDisk.f2 (h : PDisk b w g F v1 v2 gm v4 ev n ss rs E ts) : ∀ k, v2.ownBlock = some k → k ∈ F := fun k hk => (h.fx _).2 (.inr (.inr (.inr (.inl hk))))
theorem PDisk.f4 (h : PDisk b w g F v1 v2 gm v4 ev n ss rs E ts) : ∀ k, v4.ownBlock = some k → k ∈ F := fun k hk => (h.fx _).2 (.inr (.inr (.inr (.inr (.inl hk)))))
theorem PDisk.fe (h : PDisk b w g F v1 v2 gm v4 ev n ss rs E ts) : ∀ a, a < 1024 → ∀ k, (ev a).ownBlock = some k → k ∈ F := fun a ha k hk => (h.fx _).2 (.inr (.inr (.inr (.inr (.inr ⟨a, ha, hk⟩)))))
theorem NotT.no {w : World} {k : Nat} {e : TypeId} (h : NotT w (some k) e) : ∀ cs fr, w.heap[k]? ≠ some (.cells cs e fr) := h k rfl
theorem PDisk.noBytes (h : PDisk b w g F v1 v2 gm v4 ev n ss rs E ts) : NoBytes w F := fun k hk => by
  rcases (h.fx k).1 hk with rfl | rfl | e | e | e | ⟨a, ha, e⟩
  · exact (NotT.row h.cells (by decide)).no
  · exact (NotT.map h.om _).no
  · have := NotT.own (e := 5) h.o1 (by decide)
    rw [e] at this
    exact this.no
  · have := NotT.own (e := 5) h.o2 (by decide)
    rw [e] at this
    exact this.no
  · have := NotT.own (e := 5) h.o4 (by decide)
    rw [e] at this
    exact this.no
  · have := NotT.own (e := 5) (h.oe a ha) (by decide)
    rw [e] at this
    exact this.no
theorem PDisk.c0 (h : PDisk b w g F v1 v2 gm v4 ev n ss rs E ts) : w.cell? ⟨g, 0, none⟩ = some v1 := by rw [h.cells.cell]; rfl
theorem PDisk.c1 (h : PDisk b w g F v1 v2 gm v4 ev n ss rs E ts) : w.cell? ⟨g, 1, none⟩ = some v2 := by rw [h.cells.cell]; rfl
theorem PDisk.c2 (h : PDisk b w g F v1 v2 gm v4 ev n ss rs E ts) : w.cell? ⟨g, 2, none⟩ = some (.map (some gm)) := by rw [h.cells.cell]; rfl
theorem PDisk.c3 (h : PDisk b w g F v1 v2 gm v4 ev n ss rs E ts) : w.cell? ⟨g, 3, none⟩ = some v4 := by rw [h.cells.cell]; rfl
theorem PDisk.turn {row : Option Nat} (h : PDisk b w g F v1 v2 gm v4 ev n ss rs E ts) (hg : w.grownBy w' row) (hD : NotT w row 77) (h8 : NotT w row 5) (hS : NotT w row 35) (hW : NotT w row 165) (hT : NotT w row 157)
    (hm : some gm ≠ row) : PDisk b w' g F v1 v2 gm v4 ev n ss rs E ts where
  cells := row_turn h.cells hg hD
  o1 := own_turn h.o1 hg hS
  o2 := own_turn h.o2 hg hW
  o4 := own_turn h.o4 hg hT
  om := h.om.grown hg hm
  oe := fun a ha => own_turn (h.oe a ha) hg hS
  sep1 := h.sep1
  sepe := h.sepe
  m1 := fun x hx => ⟨(h.m1 x hx).1.turn hg h8, (h.m1 x hx).2⟩
  m2 := fun p hp => ⟨(h.m2 p hp).1.turn hg h8, (h.m2 p hp).2⟩
  m4 := fun t ht => (h.m4 t ht).turn hg h8
  me := fun a ha x hx => ⟨(h.me a ha x hx).1.turn hg h8, (h.me a ha x hx).2⟩
  le := h.le
  most := h.most
  fx := h.fx
  fl := fun k hk => ⟨(h.fl k hk).1, Nat.lt_of_lt_of_le (h.fl k hk).2 hg.size⟩
theorem PDisk.kept (h : PDisk b w g F v1 v2 gm v4 ev n ss rs E ts) (hb : Below w.heap.size w w') : PDisk b w' g F v1 v2 gm v4 ev n ss rs E ts :=
  h.turn (row := none) (grown_of_below hb) (.none_ _ _) (.none_ _ _) (.none_ _ _) (.none_ _ _) (.none_ _ _) (by simp)
theorem PDisk.chg {G : List Nat} (h : PDisk b w g F v1 v2 gm v4 ev n ss rs E ts) (hc : Chg G w w') (hG : ∀ k ∈ G, k ∉ F) (h8 : NoBytes w G) : PDisk b w' g F v1 v2 gm v4 ev n ss rs E ts where
  cells := hc.row h.cells (fun hx => hG _ hx h.fg)
  o1 := hc.own h.o1 (fun k hk hx => hG _ hx (h.f1 k hk))
  o2 := hc.own h.o2 (fun k hk hx => hG _ hx (h.f2 k hk))
  o4 := hc.own h.o4 (fun k hk hx => hG _ hx (h.f4 k hk))
  om := by
    obtain ⟨D, ⟨es, clock, hb, r⟩, k⟩ := h.om
    exact ⟨D, ⟨es, clock, (hc.block gm (Array.getElem?_eq_some_iff.1 hb).1 (fun hx => hG _ hx h.fm)).trans hb, r⟩, k⟩
  oe := fun a ha => hc.own (h.oe a ha) (fun k hk hx => hG _ hx (h.fe a ha k hk))
  sep1 := h.sep1
  sepe := h.sepe
  m1 := fun x hx => ⟨(h.m1 x hx).1.chg hc h8, (h.m1 x hx).2⟩
  m2 := fun p hp => ⟨(h.m2 p hp).1.chg hc h8, (h.m2 p hp).2⟩
  m4 := fun t ht => (h.m4 t ht).chg hc h8
  me := fun a ha x hx => ⟨(h.me a ha x hx).1.chg hc h8, (h.me a ha x hx).2⟩
  le := h.le
  most := h.most
  fx := h.fx
  fl := fun k hk => ⟨(h.fl k hk).1, Nat.lt_of_lt_of_le (h.fl k hk).2 hc.size⟩
end
end Go.Proofs.YtpocccnhibjjcaaGreatDoor
