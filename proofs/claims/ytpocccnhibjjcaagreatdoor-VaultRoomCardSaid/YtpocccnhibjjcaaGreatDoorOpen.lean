/- What package node's Open leaves, for every record and every bytes. Conditions: the veil makes masks; the listed tables. -/
import Derived.Test.YtpocccnhibjjcaaGreatDoorMgDig
import Derived.Test.YtpocccnhibjjcaaGreatDoorMgPNewD
import Derived.Deep.RegionHeld
set_option linter.unusedVariables false
set_option maxRecDepth 20000
namespace Go.Proofs.YtpocccnhibjjcaaGreatDoor
open Go.RowKit

theorem RecV.sum_range {w : World} {g : Nat} {t : TypeId} {r : RecV} (h : Row w g t r.cs) : w.rangeAt g 3 (brr 32 r.f) := by
  intro j v hv
  rw [h.cell]
  unfold RecV.cs
  rw [List.getElem?_append_right (by simp), show 3 + j - [Value.int IntKind.i64 r.a, Value.int IntKind.u32 ↑r.e, Value.int IntKind.u32 ↑r.s].length = j by simp]
  exact hv
theorem run_neq_op {P : Program} (w : World) {a : Act} (o : Oper) (t t' : TypeId) (x y : Operand) (ho : o.op = .binOp .neq t x y t') (xs ys : Array Value) (hx : a.eval x = .agg xs) (hy : a.eval y = .agg ys) (hg : P.eqGuardType P.depth t = false) (b : Bool)
    (he : ∀ w, (Op.equalIn 10000 t (.agg xs) (.agg ys)).run P w = .ok b w) : (execOp a.eval o).run P w = .ok (.value (.bool (!b))) w := by
  unfold execOp
  simp only [ho, hx, hy, Sem.run_bind, run_eqGuard_agg w _ t x y xs ys hg, run_neq_struct, he, Result.andThen_ok]
  rfl
def OpenPost (f : Nat → UInt8) (w : World) (x : Ending) (w' : World) : Prop :=
  ∃ g, x = .returned (.tuple #[.slice (some ⟨g, 0, none⟩) 256 256, .int .i64 0]) ∧ Hid (Row w' g 5 (brr 256 f)) ∧ Hid (w.heap.size ≤ g) ∧ Hid (Below w.heap.size w w')
set_option maxHeartbeats 1000000 in
theorem open_any (gv : Nat) (M : Nat → Nat → Nat → UInt8) (r : RecV) (hr : r.Ok) (hld : r.leads = true) (A : Option Addr) (c : Nat) (l : List UInt8) (hl : l.length = 256) (hc : 256 ≤ c) (w : World) (hA : Hol w A l) (hF : ∀ ad, A = some ad → ad.block < w.heap.size) (hT : Tabs w) (hM : MaskAt w gv M) (hq : (lst 32 (shaF (nonB r.e r.s ++ l)) == lst 32 r.f) = true) :
    Calls Tryz.prog 74 #[.pointer (some ⟨gv, 0, none⟩), .agg r.cs.toArray, .slice A 256 c] w (OpenPost (hid (M r.e r.s) l) w) := by
  have i35 : (Tryz.prog.info? 87).map (·.size) = some r.cs.length := by rw [r.cs_len]; exact info_rec
  have i32 : (Tryz.prog.info? 85).map (·.size) = some (brr 32 r.f).length := by rw [brr_len]; exact info_sum
  have HD : Hid (∀ w' : World, Below w.heap.size w w' → Calls Tryz.prog 101 #[.int .u32 (r.e : Int), .int .u32 (r.s : Int), .slice A 256 c] w' fun x w'' => x = .returned (.agg (brr 32 (shaF (nonB r.e r.s ++ l))).toArray) ∧ Below w'.heap.size w' w'') := fun w' hb => by
    have h := digest_any r.e r.s A c l hr.e hr.s w' (hA.below hb) (by omega) (fun ad hd => Nat.lt_of_lt_of_le (hF ad hd) hb.size) (by omega) (hT.below hb)
    rwa [hl] at h
  have HEQ := Lib.hid (fun w => eq_sum 9998 (shaF (nonB r.e r.s ++ l)) r.f w)
  have HH : Hid (∀ w' : World, Below w.heap.size w w' → Calls Tryz.prog 102 #[.pointer (some ⟨gv, 0, none⟩), .int .u32 (r.e : Int), .int .u32 (r.s : Int), .slice A 256 c] w' (NewRow w' 256 (hid (M r.e r.s) l))) := fun w' hb => by
    have h := hide_any gv M A c l r.e r.s hr.e hr.s (by omega) w' (hM.below hb) (hA.below hb)
    rwa [hl] at h
  clear hM
  clear hA hF hT hr hl hc
  go_enter Tryz.func74, Tryz.ntmps74
  go_wp2_with (refine step_box rfl 4 rfl 87 _ rfl r.cs rfl ?_; intro g4 w1 hr1 hg1 hb1 hs1; have HR1 := Lib.hid hr1; have HB1 := Lib.hid hb1; clear hr1 hg1 hb1 hs1)
  refine wp_region_held_drew (S := fun W => Row W g4 87 r.cs) (by kernel_rfl) HR1.out.drew (fun hHeld => ?_)
  refine wpAnyH_take (i := 0) (oi := ⟨some 8, .load 87 (.tmp 4), _, _, _, _⟩) (v := .agg r.cs.toArray) rfl (by kernel_rfl) (by kernel_rfl) (by kernel_rfl) (fun _ _ _ h => h) (yieldsIf_load_mid (by rfl) 87 (.tmp 4) rfl g4 0 rfl r.cs _ (fun w hSw => hSw.all) Tryz.underlying87 rfl i35) (by assumption) ?_
  simp only [Act.put, List.setIfInBounds_toArray, List.set_cons_zero, List.set_cons_succ]
  refine wpAnyH_ready (rs := [1]) (by kernel_rfl) (by simp) ?_
  refine AllReadyH.cons (o := ⟨some 9, .call ⟨.value (.func 100), #[.tmp 8], _⟩, _, _, _, _⟩) rfl (fun K hK => ?_) AllReadyH.nil
  go_simp
  refine (leads_any r _).mono ?_
  rintro x5 w5 ⟨rfl, hb5⟩
  rw [hld]
  have HB5 := Lib.hid (p := Below w1.heap.size w1 w5) (below_next hb5 (below_draw w1))
  have HR5 := Lib.hid (HR1.out.kept HB5.out)
  clear hb5
  refine hK.out _ _ HR5.out (fun hH1 => ?_)
  clear hK K hHeld
  refine wpAnyH_take (i := 2) (oi := ⟨some 10, .unOp .not 4 (.tmp 9), _, _, _, _⟩) (v := .bool false) rfl (by kernel_rfl) (by kernel_rfl) (by kernel_rfl) (fun _ _ _ h => h) (.inl ⟨by rfl, fun w hSw => by (try have z1 := RecV.c1 hSw); (try have z2 := RecV.c2 hSw); go_simp⟩) (by assumption) ?_
  simp only [Act.put, List.setIfInBounds_toArray, List.set_cons_zero, List.set_cons_succ]
  refine wpAnyH_take (i := 3) (oi := ⟨some 11, .move (.tmp 10), _, _, _, _⟩) (v := .bool false) rfl (by kernel_rfl) (by kernel_rfl) (by kernel_rfl) (fun _ _ _ h => h) (.inl ⟨by rfl, fun w hSw => by (try have z1 := RecV.c1 hSw); (try have z2 := RecV.c2 hSw); go_simp⟩) (by assumption) ?_
  simp only [Act.put, List.setIfInBounds_toArray, List.set_cons_zero, List.set_cons_succ]
  refine wpAnyH_take (i := 4) (oi := ⟨some 12, .move (.tmp 2), _, _, _, _⟩) (v := .slice A 256 c) rfl (by kernel_rfl) (by kernel_rfl) (by kernel_rfl) (fun _ _ _ h => h) (.inl ⟨by rfl, fun w hSw => by (try have z1 := RecV.c1 hSw); (try have z2 := RecV.c2 hSw); go_simp⟩) (by assumption) ?_
  simp only [Act.put, List.setIfInBounds_toArray, List.set_cons_zero, List.set_cons_succ]
  refine wpAnyH_take (i := 5) (oi := ⟨some 13, .call ⟨.builtin .len, #[.tmp 12], #[35]⟩, _, _, _, _⟩) (v := .int .i64 256) rfl (by kernel_rfl) (by kernel_rfl) (by kernel_rfl) (fun _ _ _ h => h) (.inl ⟨by rfl, fun w hSw => by (try have z1 := RecV.c1 hSw); (try have z2 := RecV.c2 hSw); go_simp⟩) (by assumption) ?_
  simp only [Act.put, List.setIfInBounds_toArray, List.set_cons_zero, List.set_cons_succ]
  refine wpAnyH_take (i := 6) (oi := ⟨some 14, .binOp .neq 3 (.tmp 13) (.const (.int .i64 256)) 3, _, _, _, _⟩) (v := .bool false) rfl (by kernel_rfl) (by kernel_rfl) (by kernel_rfl) (fun _ _ _ h => h) (.inl ⟨by rfl, fun w hSw => by (try have z1 := RecV.c1 hSw); (try have z2 := RecV.c2 hSw); go_simp⟩) (by assumption) ?_
  simp only [Act.put, List.setIfInBounds_toArray, List.set_cons_zero, List.set_cons_succ]
  refine wpAnyH_take (i := 7) (oi := ⟨some 15, .pick (.tmp 11) (.const (.bool true)) (.tmp 14), _, _, _, _⟩) (v := .bool false) rfl (by kernel_rfl) (by kernel_rfl) (by kernel_rfl) (fun _ _ _ h => h) (.inl ⟨by rfl, fun w hSw => by (try have z1 := RecV.c1 hSw); (try have z2 := RecV.c2 hSw); go_simp⟩) (by assumption) ?_
  simp only [Act.put, List.setIfInBounds_toArray, List.set_cons_zero, List.set_cons_succ]
  refine wpAnyH_take (i := 8) (oi := ⟨some 16, .move (.tmp 15), _, _, _, _⟩) (v := .bool false) rfl (by kernel_rfl) (by kernel_rfl) (by kernel_rfl) (fun _ _ _ h => h) (.inl ⟨by rfl, fun w hSw => by (try have z1 := RecV.c1 hSw); (try have z2 := RecV.c2 hSw); go_simp⟩) (by assumption) ?_
  simp only [Act.put, List.setIfInBounds_toArray, List.set_cons_zero, List.set_cons_succ]
  refine wpAnyH_take (i := 9) (oi := ⟨some 17, .fieldAddr 87 (.tmp 4) 1, _, _, _, _⟩) (v := .pointer (some ⟨g4, 1, none⟩)) rfl (by kernel_rfl) (by kernel_rfl) (by kernel_rfl) (fun _ _ _ h => h) (.inl ⟨by rfl, fun w hSw => by (try have z1 := RecV.c1 hSw); (try have z2 := RecV.c2 hSw); go_simp⟩) (by assumption) ?_
  simp only [Act.put, List.setIfInBounds_toArray, List.set_cons_zero, List.set_cons_succ]
  refine wpAnyH_take (i := 10) (oi := ⟨some 18, .load 44 (.tmp 17), _, _, _, _⟩) (v := .int .u32 (r.e : Int)) rfl (by kernel_rfl) (by kernel_rfl) (by kernel_rfl) (fun _ _ _ h => h) (.inl ⟨by rfl, fun w hSw => by (try have z1 := RecV.c1 hSw); (try have z2 := RecV.c2 hSw); go_simp⟩) (by assumption) ?_
  simp only [Act.put, List.setIfInBounds_toArray, List.set_cons_zero, List.set_cons_succ]
  refine wpAnyH_take (i := 11) (oi := ⟨some 19, .fieldAddr 87 (.tmp 4) 2, _, _, _, _⟩) (v := .pointer (some ⟨g4, 2, none⟩)) rfl (by kernel_rfl) (by kernel_rfl) (by kernel_rfl) (fun _ _ _ h => h) (.inl ⟨by rfl, fun w hSw => by (try have z1 := RecV.c1 hSw); (try have z2 := RecV.c2 hSw); go_simp⟩) (by assumption) ?_
  simp only [Act.put, List.setIfInBounds_toArray, List.set_cons_zero, List.set_cons_succ]
  refine wpAnyH_take (i := 12) (oi := ⟨some 20, .load 44 (.tmp 19), _, _, _, _⟩) (v := .int .u32 (r.s : Int)) rfl (by kernel_rfl) (by kernel_rfl) (by kernel_rfl) (fun _ _ _ h => h) (.inl ⟨by rfl, fun w hSw => by (try have z1 := RecV.c1 hSw); (try have z2 := RecV.c2 hSw); go_simp⟩) (by assumption) ?_
  simp only [Act.put, List.setIfInBounds_toArray, List.set_cons_zero, List.set_cons_succ]
  refine wpAnyH_take (i := 13) (oi := ⟨some 21, .move (.tmp 2), _, _, _, _⟩) (v := .slice A 256 c) rfl (by kernel_rfl) (by kernel_rfl) (by kernel_rfl) (fun _ _ _ h => h) (.inl ⟨by rfl, fun w hSw => by (try have z1 := RecV.c1 hSw); (try have z2 := RecV.c2 hSw); go_simp⟩) (by assumption) ?_
  simp only [Act.put, List.setIfInBounds_toArray, List.set_cons_zero, List.set_cons_succ]
  refine wpAnyH_take (i := 15) (oi := ⟨some 23, .fieldAddr 87 (.tmp 4) 3, _, _, _, _⟩) (v := .pointer (some ⟨g4, 3, none⟩)) rfl (by kernel_rfl) (by kernel_rfl) (by kernel_rfl) (fun _ _ _ h => h) (.inl ⟨by rfl, fun w hSw => by (try have z1 := RecV.c1 hSw); (try have z2 := RecV.c2 hSw); go_simp⟩) (by assumption) ?_
  simp only [Act.put, List.setIfInBounds_toArray, List.set_cons_zero, List.set_cons_succ]
  refine wpAnyH_take (i := 16) (oi := ⟨some 24, .load 85 (.tmp 23), _, _, _, _⟩) (v := .agg (brr 32 r.f).toArray) rfl (by kernel_rfl) (by kernel_rfl) (by kernel_rfl) (fun _ _ _ h => h) (yieldsIf_load_mid (by rfl) 85 (.tmp 23) rfl g4 3 rfl (brr 32 r.f) _ (fun w hSw => RecV.sum_range hSw) Tryz.underlying85 rfl i32) (by assumption) ?_
  simp only [Act.put, List.setIfInBounds_toArray, List.set_cons_zero, List.set_cons_succ]
  refine wpAnyH_ready (rs := [14]) (by kernel_rfl) (by simp) ?_
  refine AllReadyH.cons (o := ⟨some 22, .call ⟨.value (.func 101), #[.tmp 18, .tmp 20, .tmp 21], _⟩, _, _, _, _⟩) rfl (fun K hK => ?_) AllReadyH.nil
  go_simp
  refine (HD.out _ (HB1.out.trans (HB5.out.mono HB1.out.size))).mono ?_
  rintro x6 w6 ⟨rfl, hb6⟩
  have HB6 := Lib.hid (p := Below w1.heap.size w1 w6) (HB5.out.trans (hb6.mono HB5.out.size))
  have HR6 := Lib.hid (HR1.out.kept HB6.out)
  clear hb6
  refine hK.out _ _ HR6.out (fun hH2 => ?_)
  clear hK K hH1
  refine wpAnyH_take (i := 17) (oi := ⟨some 25, .binOp .neq 85 (.tmp 22) (.tmp 24) 85, _, _, _, _⟩) (v := .bool (!(lst 32 (shaF (nonB r.e r.s ++ l)) == lst 32 r.f))) rfl (by kernel_rfl) (by kernel_rfl) (by kernel_rfl) (fun _ _ _ h => h) (.inl ⟨by rfl, fun w hSw => run_neq_op w _ _ _ _ _ rfl _ _ rfl rfl sum_guard _ HEQ.out⟩) (by assumption) ?_
  simp only [Act.put, List.setIfInBounds_toArray, List.set_cons_zero, List.set_cons_succ]
  rw [hq]
  refine wpAnyH_take (i := 18) (oi := ⟨some 26, .pick (.tmp 16) (.const (.bool true)) (.tmp 25), _, _, _, _⟩) (v := .bool false) rfl (by kernel_rfl) (by kernel_rfl) (by kernel_rfl) (fun _ _ _ h => h) (.inl ⟨by rfl, fun w hSw => by (try have z1 := RecV.c1 hSw); (try have z2 := RecV.c2 hSw); go_simp⟩) (by assumption) ?_
  simp only [Act.put, List.setIfInBounds_toArray, List.set_cons_zero, List.set_cons_succ]
  refine wpAnyH_done (by kernel_rfl) ?_ _
  have c1 := RecV.c1 HR6.out
  have c2 := RecV.c2 HR6.out
  go_wp2_with (go_at_call 102; refine (HH.out _ (HB1.out.trans (HB6.out.mono HB1.out.size))).mono ?_; rintro x7 w7 ⟨g7, rfl, hr7, hq7, hb7⟩)
  go_ret2
  have hb16 := HB1.out.trans (HB6.out.mono HB1.out.size)
  exact ⟨g7, rfl, hr7, Nat.le_trans hb16.size hq7, hb16.trans (hb7.mono hb16.size)⟩
end Go.Proofs.YtpocccnhibjjcaaGreatDoor
