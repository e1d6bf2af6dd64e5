/- What a commit has at a place. Conditions: the vault lies there, with a commit going on. -/
import Derived.Test.YtpocccnhibjjcaaGreatDoorVb
import Derived.Test.YtpocccnhibjjcaaGreatDoorMgRMay
set_option linter.unusedVariables false
set_option maxRecDepth 20000
namespace Go.Proofs.YtpocccnhibjjcaaGreatDoor
open Go.RowKit

def nil4 (R : Nat → RecV) : Bool := (List.range 4).all fun i => (R i).eqb rec0
theorem eq_four (R Q : Nat → RecV) (w : World) : (Op.equalIn 10000 132 (.agg (recsC R).toArray) (.agg (recsC Q).toArray)).run Tryz.prog w = .ok ((List.range 4).all fun i => (R i).eqb (Q i)) w := by
  exact run_equalIn_parts (P := Tryz.prog) w 9999 132 87 4 35 Tryz.underlying132 info_rec (recsC R).toArray (recsC Q).toArray (fun i => .agg (R i).cs.toArray) (fun i => .agg (Q i).cs.toArray) (fun i => (R i).eqb (Q i))
    (fun i hi w => by rw [part_str w Tryz.underlying87 info_rec, recsC_extract R i hi]) (fun i hi w => by rw [part_str w Tryz.underlying87 info_rec, recsC_extract Q i hi]) (fun i hi w => eq_rec 9996 _ _ w)
theorem zero4 : Tryz.zeroCells132 = (recsC fun _ => rec0).toArray := by kernel_rfl
section
variable {b : Nat} {w w' : World} {FD FA : List Nat} {g q gv : Nat} {L : Nat → Nat → List UInt8} {X : VX}
def plainL (X : VX) (l i : Nat) : List UInt8 := if l = X.c.n then bytesOf (X.G i) else if nil4 (X.N l i) = true then [] else lst 256 (pk (X.N l i))
def VPl (b : Nat) (w : World) (l : List UInt8) (e : Ending) (w' : World) : Prop := ∃ y : BV, e = .returned (.slice y.A y.l.length y.c) ∧ Hid (y.l = l) ∧ Hid (Own8 b w' y) ∧ Hid (Below w.heap.size w w')
set_option maxHeartbeats 1000000 in
theorem vplain_slot (h : VB b w FD FA g q gv L X) (i gg : Nat) (hi : i ≤ 1024) (hgo : X.c.go = .map (some gg)) :
    Calls Tryz.prog 85 #[.pointer (some ⟨g, 0, none⟩), pv X.c.n i] w (VPl b w (bytesOf (X.G i))) := by
  have H := Lib.hid h
  have HI := Lib.hid hi
  obtain ⟨y, hy, hyl, hyo⟩ : ∃ y : BV, bvo (X.G i) = .slice y.A y.l.length y.c ∧ y.l = bytesOf (X.G i) ∧ Own8 b w y := by
    cases hh : X.G i with
    | none => exact ⟨noBV, rfl, rfl, Own8.none_ _ _⟩
    | some x => exact ⟨x, rfl, rfl, (h.gb i x hh).1⟩
  have HY := Lib.hid hy
  have HYL := Lib.hid hyl
  have HYO := Lib.hid hyo
  have HM := Lib.hid (p := MI w gg q X.G) (by
    rcases h.goi with e | ⟨g2, e, hm, _⟩
    · rw [e] at hgo
      cases hgo
    · rw [e] at hgo
      obtain rfl : g2 = gg := by injection hgo with hgo; injection hgo
      exact hm)
  have HGO := Lib.hid hgo
  obtain ⟨n, hn⟩ : ∃ n, X.c.n = n := ⟨_, rfl⟩
  have HN := Lib.hid hn
  rw [hn, pv_cs]
  clear h hi hy hyl hyo hgo hn
  go_enter Tryz.func85, Tryz.ntmps85
  go_wp2_with (first
    | (refine step_box rfl 3 rfl 99 _ rfl (pc2 n i) rfl ?_; intro g3 w1 hr1 hg1 hb1 hs1; have HR1 := Lib.hid hr1; have HB1 := Lib.hid hb1; clear hr1 hg1 hb1 hs1))
  have h1 := H.out.below HB1.out
  have c0 := pc2_0 HR1.out
  have c1 := pc2_1 HR1.out
  have c3 : w1.cell? ⟨g, 3, none⟩ = some (.int .i64 (n : Int)) := by rw [← HN.out]; exact h1.row.n
  have c49 : w1.cell? ⟨g, 49, none⟩ = some (.map (some gg)) := by rw [← HGO.out]; exact h1.row.go
  have HL := Lib.hid (p := ∀ w2, Below w1.heap.size w1 w2 → (Instr.lookup 83 (.map (some gg)) (.int .i64 (i : Int)) false).run Tryz.prog w2 = .ok (.slice y.A y.l.length y.c) w2) (fun w2 hb => by rw [← HY.out]; exact (HM.out.below (below_nxt hb HB1.out)).look HI.out)
  clear h1
  go_quiet (fail)
  go_wp2_with fail
  have HS := Lib.hid (p := ∀ w2, Below w1.heap.size w1 w2 → MI w2 gg q X.G ∧ w2.cell? ⟨g, 49, none⟩ = some (.map (some gg)) ∧ Row w2 g3 99 (pc2 n i)) (fun w2 hb => ⟨HM.out.below (below_nxt hb HB1.out), (hb.cell (p := ⟨g, 49, none⟩) (H.out.below HB1.out).row.lt).trans c49, HR1.out.kept hb⟩)
  have hbn : Below w1.heap.size w1 (w1.drewN nq) := below_drewN (Below.refl _ _) nq
  refine wp_region_held_drew (S := fun W => MI W gg q X.G ∧ W.cell? ⟨g, 49, none⟩ = some (.map (some gg)) ∧ Row W g3 99 (pc2 n i)) (by kernel_rfl) (HS.out _ (hbn.drew)) (fun hHeld => ?_)
  refine wpAnyH_take (i := 0) (oi := ⟨some 15, .move (.tmp 0), _, _, _, _⟩) (v := .pointer (some ⟨g, 0, none⟩)) rfl (by kernel_rfl) (by kernel_rfl) (by kernel_rfl) (fun _ _ _ h => h) (.inl ⟨by rfl, fun w hSw => by go_simp⟩) (by assumption) ?_
  simp only [Act.put, List.setIfInBounds_toArray, List.set_cons_zero, List.set_cons_succ]
  refine wpAnyH_take (i := 1) (oi := ⟨some 16, .nilCheck (.tmp 15), _, _, _, _⟩) (v := .pointer (some ⟨g, 0, none⟩)) rfl (by kernel_rfl) (by kernel_rfl) (by kernel_rfl) (fun _ _ _ h => h) (.inl ⟨by rfl, fun w hSw => by go_simp⟩) (by assumption) ?_
  simp only [Act.put, List.setIfInBounds_toArray, List.set_cons_zero, List.set_cons_succ]
  refine wpAnyH_take (i := 2) (oi := ⟨some 17, .fieldAddr 90 (.tmp 16) 15, _, _, _, _⟩) (v := .pointer (some ⟨g, 49, none⟩)) rfl (by kernel_rfl) (by kernel_rfl) (by kernel_rfl) (fun _ _ _ h => h) (.inl ⟨by rfl, fun w hSw => by go_simp⟩) (by assumption) ?_
  simp only [Act.put, List.setIfInBounds_toArray, List.set_cons_zero, List.set_cons_succ]
  refine wpAnyH_take (i := 3) (oi := ⟨some 18, .load 83 (.tmp 17), _, _, _, _⟩) (v := .map (some gg)) rfl (by kernel_rfl) (by kernel_rfl) (by kernel_rfl) (fun _ _ _ h => h) (.inl ⟨by rfl, fun w hSw => by have z := hSw.2.1; go_simp⟩) (by assumption) ?_
  simp only [Act.put, List.setIfInBounds_toArray, List.set_cons_zero, List.set_cons_succ]
  refine wpAnyH_take (i := 4) (oi := ⟨some 19, .fieldAddr 99 (.tmp 3) 1, _, _, _, _⟩) (v := .pointer (some ⟨g3, 1, none⟩)) rfl (by kernel_rfl) (by kernel_rfl) (by kernel_rfl) (fun _ _ _ h => h) (.inl ⟨by rfl, fun w hSw => by go_simp⟩) (by assumption) ?_
  simp only [Act.put, List.setIfInBounds_toArray, List.set_cons_zero, List.set_cons_succ]
  refine wpAnyH_take (i := 5) (oi := ⟨some 20, .load 3 (.tmp 19), _, _, _, _⟩) (v := .int .i64 (i : Int)) rfl (by kernel_rfl) (by kernel_rfl) (by kernel_rfl) (fun _ _ _ h => h) (.inl ⟨by rfl, fun w hSw => by have z := pc2_1 hSw.2.2; go_simp⟩) (by assumption) ?_
  simp only [Act.put, List.setIfInBounds_toArray, List.set_cons_zero, List.set_cons_succ]
  refine wpAnyH_take (i := 6) (oi := ⟨some 21, .lookup 83 (.tmp 18) (.tmp 20) false, _, _, _, _⟩) (v := .slice y.A y.l.length y.c) rfl (by kernel_rfl) (by kernel_rfl) (by kernel_rfl) (fun _ _ _ h => h) (.inl ⟨by rfl, fun w hSw => by have z := hSw.1.look HI.out; rw [HY.out] at z; go_simp⟩) (by assumption) ?_
  simp only [Act.put, List.setIfInBounds_toArray, List.set_cons_zero, List.set_cons_succ]
  refine wpAnyH_take (i := 7) (oi := ⟨some 4, .assign (.tmp 21), _, _, _, _⟩) (v := .slice y.A y.l.length y.c) rfl (by kernel_rfl) (by kernel_rfl) (by kernel_rfl) (fun _ _ _ h => h) (.inl ⟨by rfl, fun w hSw => by go_simp⟩) (by assumption) ?_
  simp only [Act.put, List.setIfInBounds_toArray, List.set_cons_zero, List.set_cons_succ]
  refine wpAnyH_done (by kernel_rfl) ?_ _
  go_wp2
  go_ret
  have hbe : Below w.heap.size w (w1.drewN nq).drew := below_nxt hbn.drew HB1.out
  exact ⟨y, rfl, HYL, Lib.hid (HYO.out.below hbe), Lib.hid hbe⟩
set_option maxHeartbeats 1000000 in
theorem vplain_node (h : VB b w FD FA g q gv L X) (l i : Nat) (hl : l < X.c.n) (hi : i ≤ 1024) (hok : ∀ k, k < 4 → (X.N l i k).Ok) (hmay : ∀ k, k < 4 → (X.N l i k).may = true) :
    Calls Tryz.prog 85 #[.pointer (some ⟨g, 0, none⟩), pv l i] w (VPl b w (if nil4 (X.N l i) = true then [] else lst 256 (pk (X.N l i)))) := by
  have i140 := Lib.hid (p := ∀ Q : Nat → RecV, (Tryz.prog.info? 132).map (·.size) = some (recsC Q).length) (fun Q => by rw [recsC_len]; exact info_recs)
  have i2 := Lib.hid info_spot
  have hz4 := Lib.hid zero_recs
  have H := Lib.hid h
  have HI := Lib.hid (p := i ≤ 1024 ∧ l ≤ 1024) ⟨hi, by have := h.dep; omega⟩
  have HOK := Lib.hid hok
  have HMY := Lib.hid hmay
  obtain ⟨n, hn⟩ : ∃ n, X.c.n = n := ⟨_, rfl⟩
  have HN := Lib.hid hn
  have hne : ((l : Int) == (n : Int)) = false := beq_false_of_ne (by omega)
  have hne2 : (l == n) = false := beq_false_of_ne (by omega)
  have hne3 : decide (l = n) = false := decide_eq_false (by omega)
  have hne4 : decide ((l : Int) = (n : Int)) = false := decide_eq_false (by omega)
  have hne5 : ¬ l = n := by omega
  have HE := Lib.hid (fun w => eq_four (X.N l i) (fun _ => rec0) w)
  obtain ⟨PL, hPL⟩ : ∃ PL, (if nil4 (X.N l i) = true then [] else lst 256 (pk (X.N l i))) = PL := ⟨_, rfl⟩
  have HPL := Lib.hid hPL
  rw [pv_cs, hPL]
  clear h hi hl hok hmay hn hPL
  go_enter Tryz.func85, Tryz.ntmps85
  go_wp2_with (first
    | (refine step_box rfl 3 rfl 99 _ rfl (pc2 l i) rfl ?_; intro g3 w1 hr1 hg1 hb1 hs1; have HR1 := Lib.hid hr1; have HB1 := Lib.hid hb1; clear hr1 hg1 hb1 hs1))
  have h1 := H.out.below HB1.out
  have c0 := pc2_0 HR1.out
  have c3 : w1.cell? ⟨g, 3, none⟩ = some (.int .i64 (n : Int)) := by rw [← HN.out]; exact h1.row.n
  clear h1
  refine wp_region_held_drew (S := fun W => W.cell? ⟨g, 3, none⟩ = some (.int .i64 (n : Int)) ∧ W.cell? ⟨g3, 0, none⟩ = some (.int .i64 (l : Int))) (by kernel_rfl) ⟨c3, c0⟩ (fun hHeld => ?_)
  refine wpAnyH_take (i := 0) (oi := ⟨some 8, .fieldAddr 99 (.tmp 3) 0, _, _, _, _⟩) (v := .pointer (some ⟨g3, 0, none⟩)) rfl (by kernel_rfl) (by kernel_rfl) (by kernel_rfl) (fun _ _ _ h => h) (.inl ⟨by rfl, fun w hSw => by go_simp⟩) (by assumption) ?_
  simp only [Act.put, List.setIfInBounds_toArray, List.set_cons_zero, List.set_cons_succ]
  refine wpAnyH_take (i := 1) (oi := ⟨some 9, .load 3 (.tmp 8), _, _, _, _⟩) (v := .int .i64 (l : Int)) rfl (by kernel_rfl) (by kernel_rfl) (by kernel_rfl) (fun _ _ _ h => h) (.inl ⟨by rfl, fun w hSw => by have z := hSw.2; go_simp⟩) (by assumption) ?_
  simp only [Act.put, List.setIfInBounds_toArray, List.set_cons_zero, List.set_cons_succ]
  refine wpAnyH_take (i := 2) (oi := ⟨some 10, .move (.tmp 0), _, _, _, _⟩) (v := .pointer (some ⟨g, 0, none⟩)) rfl (by kernel_rfl) (by kernel_rfl) (by kernel_rfl) (fun _ _ _ h => h) (.inl ⟨by rfl, fun w hSw => by go_simp⟩) (by assumption) ?_
  simp only [Act.put, List.setIfInBounds_toArray, List.set_cons_zero, List.set_cons_succ]
  refine wpAnyH_take (i := 3) (oi := ⟨some 11, .nilCheck (.tmp 10), _, _, _, _⟩) (v := .pointer (some ⟨g, 0, none⟩)) rfl (by kernel_rfl) (by kernel_rfl) (by kernel_rfl) (fun _ _ _ h => h) (.inl ⟨by rfl, fun w hSw => by go_simp⟩) (by assumption) ?_
  simp only [Act.put, List.setIfInBounds_toArray, List.set_cons_zero, List.set_cons_succ]
  refine wpAnyH_take (i := 4) (oi := ⟨some 12, .fieldAddr 90 (.tmp 11) 3, _, _, _, _⟩) (v := .pointer (some ⟨g, 3, none⟩)) rfl (by kernel_rfl) (by kernel_rfl) (by kernel_rfl) (fun _ _ _ h => h) (.inl ⟨by rfl, fun w hSw => by go_simp⟩) (by assumption) ?_
  simp only [Act.put, List.setIfInBounds_toArray, List.set_cons_zero, List.set_cons_succ]
  refine wpAnyH_take (i := 5) (oi := ⟨some 13, .load 3 (.tmp 12), _, _, _, _⟩) (v := .int .i64 (n : Int)) rfl (by kernel_rfl) (by kernel_rfl) (by kernel_rfl) (fun _ _ _ h => h) (.inl ⟨by rfl, fun w hSw => by have z := hSw.1; go_simp⟩) (by assumption) ?_
  simp only [Act.put, List.setIfInBounds_toArray, List.set_cons_zero, List.set_cons_succ]
  refine wpAnyH_take (i := 6) (oi := ⟨some 14, .binOp .eql 3 (.tmp 9) (.tmp 13) 3, _, _, _, _⟩) (v := .bool false) rfl (by kernel_rfl) (by kernel_rfl) (by kernel_rfl) (fun _ _ _ h => h) (.inl ⟨by rfl, fun w hSw => by go_simp⟩) (by assumption) ?_
  simp only [Act.put, List.setIfInBounds_toArray, List.set_cons_zero, List.set_cons_succ]
  refine wpAnyH_done (by kernel_rfl) ?_ _
  go_wp2_with fail
  have HS := Lib.hid (p := ∀ w2, Below w1.heap.size w1 w2 → MN w2 X.c.gn q X.N ∧ w2.cell? ⟨g, 42, none⟩ = some (.map (some X.c.gn)) ∧ Row w2 g3 99 (pc2 l i)) (fun w2 hb => ⟨H.out.nodes.below (below_nxt hb HB1.out), (H.out.below (below_nxt hb HB1.out)).row.gn, HR1.out.kept hb⟩)
  have HBN := Lib.hid (p := Below w1.heap.size w1 w1.drew.drew) (below_drw w1).drew
  clear c0 c3
  refine wp_region_held_drew (S := fun W => MN W X.c.gn q X.N ∧ W.cell? ⟨g, 42, none⟩ = some (.map (some X.c.gn)) ∧ Row W g3 99 (pc2 l i)) (by kernel_rfl) (HS.out _ HBN.out) (fun hHeld => ?_)
  refine wpAnyH_take (i := 0) (oi := ⟨some 22, .move (.tmp 0), _, _, _, _⟩) (v := .pointer (some ⟨g, 0, none⟩)) rfl (by kernel_rfl) (by kernel_rfl) (by kernel_rfl) (fun _ _ _ h => h) (.inl ⟨by rfl, fun w hSw => by go_simp⟩) (by assumption) ?_
  simp only [Act.put, List.setIfInBounds_toArray, List.set_cons_zero, List.set_cons_succ]
  refine wpAnyH_take (i := 1) (oi := ⟨some 23, .nilCheck (.tmp 22), _, _, _, _⟩) (v := .pointer (some ⟨g, 0, none⟩)) rfl (by kernel_rfl) (by kernel_rfl) (by kernel_rfl) (fun _ _ _ h => h) (.inl ⟨by rfl, fun w hSw => by go_simp⟩) (by assumption) ?_
  simp only [Act.put, List.setIfInBounds_toArray, List.set_cons_zero, List.set_cons_succ]
  refine wpAnyH_take (i := 2) (oi := ⟨some 24, .fieldAddr 90 (.tmp 23) 8, _, _, _, _⟩) (v := .pointer (some ⟨g, 42, none⟩)) rfl (by kernel_rfl) (by kernel_rfl) (by kernel_rfl) (fun _ _ _ h => h) (.inl ⟨by rfl, fun w hSw => by go_simp⟩) (by assumption) ?_
  simp only [Act.put, List.setIfInBounds_toArray, List.set_cons_zero, List.set_cons_succ]
  refine wpAnyH_take (i := 3) (oi := ⟨some 25, .load 82 (.tmp 24), _, _, _, _⟩) (v := .map (some X.c.gn)) rfl (by kernel_rfl) (by kernel_rfl) (by kernel_rfl) (fun _ _ _ h => h) (.inl ⟨by rfl, fun w hSw => by have z := hSw.2.1; go_simp⟩) (by assumption) ?_
  simp only [Act.put, List.setIfInBounds_toArray, List.set_cons_zero, List.set_cons_succ]
  refine wpAnyH_take (i := 4) (oi := ⟨some 26, .load 99 (.tmp 3), _, _, _, _⟩) (v := .agg (pc2 l i).toArray) rfl (by kernel_rfl) (by kernel_rfl) (by kernel_rfl) (fun _ _ _ h => h) (yieldsIf_load_mid (by rfl) 99 (.tmp 3) rfl g3 0 rfl (pc2 l i) _ (fun w hSw => Row.all hSw.2.2) Tryz.underlying99 rfl i2.out) (by assumption) ?_
  simp only [Act.put, List.setIfInBounds_toArray, List.set_cons_zero, List.set_cons_succ]
  refine wpAnyH_take (i := 5) (oi := ⟨some 27, .lookup 82 (.tmp 25) (.tmp 26) false, _, _, _, _⟩) (v := .agg (recsC (X.N l i)).toArray) rfl (by kernel_rfl) (by kernel_rfl) (by kernel_rfl) (fun _ _ _ h => h) (.inl ⟨by rfl, fun w hSw => by have z := hSw.1.look HI.out.2 HI.out.1; rw [pv_cs] at z; go_simp⟩) (by assumption) ?_
  simp only [Act.put, List.setIfInBounds_toArray, List.set_cons_zero, List.set_cons_succ]
  refine wpAnyH_ready (rs := [6]) (by kernel_rfl) (by simp) ?_
  refine AllReadyH.cons (o := ⟨some 5, .alloc 132, _, _, _, _⟩) rfl (fun K hK => ?_) AllReadyH.nil
  refine st_alloc (by rfl) 132 rfl _ hz4.out ?_
  intro g5 w5 hr5 hg5 hb5
  have HR5 := Lib.hid hr5
  have HB5 := Lib.hid (p := Below w1.heap.size w1 w5) (below_nxt hb5 HBN.out)
  have HG5 := Lib.hid (p := w1.heap.size ≤ g5) (by rw [hg5.out]; exact HBN.out.size)
  clear hr5 hg5 hb5
  refine hK.out _ _ (HS.out _ HB5.out) (fun hH5 => ?_)
  clear hK K
  refine wpAnyH_ready (rs := [7]) (by kernel_rfl) (by simp) ?_
  refine AllReadyH.cons (o := ⟨none, .store 132 (.tmp 5) (.tmp 27), _, _, _, _⟩) rfl (fun K hK => ?_) AllReadyH.nil
  refine st_store (by rfl) 132 (.tmp 5) (.tmp 27) rfl g5 (by rfl) 132 _ (recsC (X.N l i)) (by rfl) HR5.out (by rw [recsC_len, recsC_len]) (i140.out _) (recsC_one _) ?_
  intro w6 hr6 hg6
  have HR6 := Lib.hid hr6
  have HB6 := Lib.hid (p := Below w1.heap.size w1 w6) (HB5.out.grown hg6 HB5.out.size (fun q hq => by injection hq with hq; subst hq; exact HG5.out))
  clear hr6 hg6
  refine hK.out _ _ (HS.out _ HB6.out) (fun hH6 => ?_)
  clear hK K
  refine wpAnyH_done (by kernel_rfl) ?_ _
  have HBE := Lib.hid (below_nxt HB6.out HB1.out)
  cases hn4 : nil4 (X.N l i)
  · rw [hn4] at HPL
    rw [show ((List.range 4).all fun i_1 => (X.N l i i_1).eqb rec0) = nil4 (X.N l i) from rfl, hn4] at HE
    go_wp2_with (first
      | (refine step_load rfl 28 rfl 132 (.tmp 5) rfl g5 rfl (recsC (X.N l i)) _ HR6.out.all Tryz.underlying132 rfl (i140.out _) ?_)
      | (refine step_eql (by rfl) 132 132 (.tmp 28) (.tmp 29) rfl (recsC (X.N l i)).toArray Tryz.zeroCells132 rfl rfl recs_guard false (by rw [zero4]; exact HE.out) ?_)
      | (refine step_load rfl 32 rfl 132 (.tmp 5) rfl g5 rfl (recsC (X.N l i)) _ HR6.out.all Tryz.underlying132 rfl (i140.out _) ?_)
      | (go_at_call 110; refine (pack_ok (X.N l i) HOK.out HMY.out _).mono ?_; rintro e w8 ⟨g8, rfl, hr8, hg8, hb8⟩))
    go_ret
    exact ⟨⟨some ⟨g8, 0, none⟩, 256, lst 256 (pk (X.N l i))⟩, by rw [lst_len]; rfl, Lib.hid (by rw [← HPL.out]; rfl), Lib.hid (own_brr hr8.out (Nat.le_trans H.out.base.le (Nat.le_trans HBE.out.size hg8.out))), Lib.hid (below_nxt hb8.out HBE.out)⟩
  · rw [hn4] at HPL
    rw [show ((List.range 4).all fun i_1 => (X.N l i i_1).eqb rec0) = nil4 (X.N l i) from rfl, hn4] at HE
    go_wp2_with (first
      | (refine step_load rfl 28 rfl 132 (.tmp 5) rfl g5 rfl (recsC (X.N l i)) _ HR6.out.all Tryz.underlying132 rfl (i140.out _) ?_)
      | (refine step_eql (by rfl) 132 132 (.tmp 28) (.tmp 29) rfl (recsC (X.N l i)).toArray Tryz.zeroCells132 rfl rfl recs_guard true (by rw [zero4]; exact HE.out) ?_))
    go_ret
    exact ⟨noBV, rfl, Lib.hid (by rw [← HPL.out]; rfl), Lib.hid (Own8.none_ _ _), HBE⟩
end
end Go.Proofs.YtpocccnhibjjcaaGreatDoor
