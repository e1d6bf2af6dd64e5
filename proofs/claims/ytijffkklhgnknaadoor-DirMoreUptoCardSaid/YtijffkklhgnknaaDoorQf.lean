/- What the library is handed to put entries in order; whether a name is another one. Conditions: those named. -/
import Derived.Test.YtijffkklhgnknaaDoorMgMem
import Derived.Deep.RegionHeld3
import Derived.Deep.CutRange
set_option linter.unusedVariables false
set_option maxRecDepth 20000
namespace Go.Proofs.YtijffkklhgnknaaDoor
open Go.RowKit

/-- Whether an entry has another name. -/
theorem other_any (e : Ent) (g : Nat) (nm : ByteArray) (w : World) (hc : w.cell? ⟨g, 0, none⟩ = some (.string nm)) : Calls Tryd.prog 40 #[.agg (ecs e).toArray, .pointer (some ⟨g, 0, none⟩)] w fun x w' => x = .returned (.bool (!(e.nm.toList == nm.toList))) ∧ Below w.heap.size w w' := by
  have HC := Lib.hid hc
  have HL := Lib.hid (World.block_lt_of_cell? w _ hc)
  clear hc
  go_enter Tryd.func40, Tryd.ntmps40
  go_wp2_with (refine step_box rfl 2 rfl 42 (.tmp 0) rfl (ecs e) rfl ?_; intro g2 w2 hr2 hg2 hb2 hs2
               have HB := Lib.hid hb2
               have c4 : w2.cell? ⟨g2, 0, none⟩ = some (.string e.nm) := (hr2.cell 0).trans rfl
               have ca : w2.cell? ⟨g, 0, none⟩ = some (.string nm) := (hb2.cell (p := ⟨g, 0, none⟩) HL.out).trans HC.out
               clear hr2 hg2 hb2 hs2)
  go_ret
  exact ⟨rfl, HB.out⟩
set_option maxHeartbeats 2000000 in
/-- Two entries, compared by their cookies. -/
theorem bycmp_any (x y : Ent) (g : Nat) (w : World) (hc : w.cell? ⟨g, 0, none⟩ = some (Value.func (.func 55) #[] #[])) : Calls Tryd.prog 71 #[.agg (ecs x).toArray, .agg (ecs y).toArray, .pointer (some ⟨g, 0, none⟩)] w fun e w' => e = .returned (.int .i64 (cmpv x.ck y.ck)) ∧ Below w.heap.size w w' := by
  have HC := Lib.hid hc
  have HL := Lib.hid (World.block_lt_of_cell? w _ hc)
  have i1 := Lib.hid info_ent
  clear hc
  go_enter Tryd.func71, Tryd.ntmps71
  go_upto_region 1 with (first
    | (refine step_box rfl 3 rfl 42 (.tmp 0) rfl (ecs x) rfl ?_; intro g3 w2 hr2 hg2 hb2 hs2
       have R3 := Lib.hid hr2
       have B2 := Lib.hid hb2
       clear hr2 hg2 hb2 hs2)
    | (refine step_box rfl 4 rfl 42 (.tmp 1) rfl (ecs y) rfl ?_; intro g4 w3 hr2 hg2 hb2 hs2
       have R33 := Lib.hid (R3.out.kept hb2)
       have R4 := Lib.hid hr2
       have B3 := Lib.hid (below_nxt hb2 B2.out)
       clear hr2 hg2 hb2 hs2))
  have HSQ := Lib.hid (p := ∀ W, Below w3.heap.size w3 W → W.cell? ⟨g, 0, none⟩ = some (Value.func (.func 55) #[] #[]) ∧ W.rangeAt g3 0 (ecs x) ∧ W.rangeAt g4 0 (ecs y)) (fun W hb => ⟨((below_nxt hb B3.out).cell (p := ⟨g, 0, none⟩) HL.out).trans HC.out, (R33.out.kept hb).all, (R4.out.kept hb).all⟩)
  refine wp_region_held_drew (S := fun W => W.cell? ⟨g, 0, none⟩ = some (Value.func (.func 55) #[] #[]) ∧ W.rangeAt g3 0 (ecs x) ∧ W.rangeAt g4 0 (ecs y)) (by kernel_rfl) (HSQ.out _ (below_drw w3)) (fun hHeld => ?_)
  refine wpAnyH_take (i := 0) (oi := ⟨some 6, .load 74 (.tmp 2), _, _, _, _⟩) (v := (Value.func (.func 55) #[] #[])) rfl (by kernel_rfl) (by kernel_rfl) (by kernel_rfl) (fun _ _ _ h => h) (.inl ⟨by rfl, fun w hSw => by have z := hSw.1; go_simp⟩) (by assumption) ?_
  simp only [Act.put, List.setIfInBounds_toArray, List.set_cons_zero, List.set_cons_succ]
  refine wpAnyH_take (i := 1) (oi := ⟨some 7, .load 42 (.tmp 3), _, _, _, _⟩) (v := .agg (ecs x).toArray) rfl (by kernel_rfl) (by kernel_rfl) (by kernel_rfl) (fun _ _ _ h => h) (yieldsIf_load_mid (by rfl) 42 (.tmp 3) rfl g3 0 rfl (ecs x) _ (fun w hSw => hSw.2.1) Tryd.underlying42 rfl (i1.out _)) (by assumption) ?_
  simp only [Act.put, List.setIfInBounds_toArray, List.set_cons_zero, List.set_cons_succ]
  refine wpAnyH_take (i := 3) (oi := ⟨some 9, .load 74 (.tmp 2), _, _, _, _⟩) (v := (Value.func (.func 55) #[] #[])) rfl (by kernel_rfl) (by kernel_rfl) (by kernel_rfl) (fun _ _ _ h => h) (.inl ⟨by rfl, fun w hSw => by have z := hSw.1; go_simp⟩) (by assumption) ?_
  simp only [Act.put, List.setIfInBounds_toArray, List.set_cons_zero, List.set_cons_succ]
  refine wpAnyH_take (i := 4) (oi := ⟨some 10, .load 42 (.tmp 4), _, _, _, _⟩) (v := .agg (ecs y).toArray) rfl (by kernel_rfl) (by kernel_rfl) (by kernel_rfl) (fun _ _ _ h => h) (yieldsIf_load_mid (by rfl) 42 (.tmp 4) rfl g4 0 rfl (ecs y) _ (fun w hSw => hSw.2.2) Tryd.underlying42 rfl (i1.out _)) (by assumption) ?_
  simp only [Act.put, List.setIfInBounds_toArray, List.set_cons_zero, List.set_cons_succ]
  refine wpAnyH_ready (rs := [2]) (by kernel_rfl) (by simp) ?_
  refine AllReadyH.cons (o := ⟨some 8, .call ⟨.value (.tmp 6), #[.tmp 7], _⟩, _, _, _, _⟩) rfl (fun K hK => ?_) AllReadyH.nil
  go_simp
  go_at_call 55
  refine (ckey_any x _).mono ?_
  rintro e q1 ⟨rfl, hb⟩
  have hb1 : Below w3.heap.size w3 q1 := (below_nxt hb (below_drw w3))
  have B1_ := hb1
  refine hK.out _ _ (HSQ.out _ hb1) (fun _h1 => ?_)
  clear hK K
  refine wpAnyH_ready (rs := [5]) (by kernel_rfl) (by simp) ?_
  refine AllReadyH.cons (o := ⟨some 11, .call ⟨.value (.tmp 9), #[.tmp 10], _⟩, _, _, _, _⟩) rfl (fun K hK => ?_) AllReadyH.nil
  go_simp
  go_at_call 55
  refine (ckey_any y _).mono ?_
  rintro e q2 ⟨rfl, hb⟩
  have hb2 : Below w3.heap.size w3 q2 := (below_nxt hb B1_)
  have B2_ := hb2
  refine hK.out _ _ (HSQ.out _ hb2) (fun _h2 => ?_)
  clear hK K
  refine wpAnyH_ready (rs := [6]) (by kernel_rfl) (by simp) ?_
  refine AllReadyH.cons (o := ⟨some 12, .call ⟨.value (.func 72), #[.tmp 8, .tmp 11], _⟩, _, _, _, _⟩) rfl (fun K hK => ?_) AllReadyH.nil
  go_simp
  go_at_call 72
  refine (compare_any x.ck y.ck _).mono ?_
  rintro e q3 ⟨rfl, rfl⟩
  have hb3 : Below w3.heap.size w3 q2 := B2_
  have B3_ := hb3
  refine hK.out _ _ (HSQ.out _ hb3) (fun _h3 => ?_)
  clear hK K
  refine wpAnyH_take (i := 7) (oi := ⟨some 5, .assign (.tmp 12), _, _, _, _⟩) (v := .int .i64 (cmpv x.ck y.ck)) rfl (by kernel_rfl) (by kernel_rfl) (by kernel_rfl) (fun _ _ _ h => h) (.inl ⟨by rfl, fun w hSw => by go_simp⟩) (by assumption) ?_
  simp only [Act.put, List.setIfInBounds_toArray, List.set_cons_zero, List.set_cons_succ]
  refine wpAnyH_done (by kernel_rfl) ?_ _
  have B9 := Lib.hid B3_
  go_wp2
  go_ret
  exact ⟨rfl, below_nxt B9.out B3.out⟩
end Go.Proofs.YtijffkklhgnknaaDoor
