/- The reference's Lists: two lists of the same entries are the same. Conditions: no more than a million entries. -/
import Derived.Test.YtijffkklhgnknaaDoorRg
import Derived.Test.YtijffkklhgnknaaDoorQh
import Derived.Deep.Cut
set_option linter.unusedVariables false
set_option maxRecDepth 20000
namespace Go.Proofs.YtijffkklhgnknaaDoor
open Go.RowKit

theorem st_load_rng {P : Program} {ops : Array Oper} {o : Oper} {a : Act} {w : World} {Q : Exit → Act → World → Prop} {K : Act → World → Prop} {E : Prop} (hw : Region.wanted o (yielded ops a.tmps) = true) (ty : TypeId) (x : Operand) (ho : o.op = .load ty x) (g off : Nat) (hx : a.eval x = .pointer (some ⟨g, off, none⟩)) (cs : List Value) (dd : TypeDesc)
    (hr : w.rangeAt g off cs) (hu : P.underlying ty = some dd) (hdd : dd.isRow = true) (hi : (P.info? ty).map (·.size) = some cs.length) (h : K (a.put o.dst (.agg cs.toArray)) w) : if Region.wanted o (yielded ops a.tmps) = true then Oper.wp P o a w K Q else E := by
  rw [if_pos hw]
  exact wp_load_mid ty x ho g off hx cs dd hr hu hdd hi h
theorem rng_drw {w : World} {g o : Nat} {cs : List Value} (h : w.rangeAt g o cs) : w.drew.rangeAt g o cs := fun j v hv => h j v hv
theorem neq_same (w : World) {a : Act} (o : Oper) (t' : TypeId) (x y : Operand) (ho : o.op = .binOp .neq 42 x y t') (p : Ent) (hx : a.eval x = .agg (ecs p).toArray) (hy : a.eval y = .agg (ecs p).toArray) : (execOp a.eval o).run Tryd.prog w = .ok (.value (.bool false)) w := by
  have h := run_neq_ent w o t' x y ho p p hx hy
  rwa [eqE_refl] at h
set_option maxHeartbeats 4000000 in
theorem lists_same (A B : Option Addr) (n c d : Nat) (X : List Ent) (hmax : n ≤ 1000000) (hn : X.length = n) (w : World) (hA : Lies ecs 5 w A X) (hB : Lies ecs 5 w B X) :
    Calls Tryd.prog 14 #[.slice A n c, .slice B n d] w fun e w' => e = .returned (.bool true) ∧ Below w.heap.size w w' := by
  have H1 := Lib.hid hA
  have H2 := Lib.hid hB
  have HN := Lib.hid (And.intro hmax hn)
  clear hA hB hmax hn
  go_enter Tryd.func14, Tryd.ntmps14
  go_wp2
  go_loopw [5] (fun x wr => ∃ k : Nat, Hid (k ≤ n) ∧ x = .int .i64 (k : Int) ∧ Hid (Below w.heap.size w wr)) (fun x _ => n - (intOf x).toNat)
  case atStart => exact ⟨0, Lib.hid (Nat.zero_le _), rfl, Lib.hid (Below.refl _ _)⟩
  case round =>
    obtain ⟨k, HKL, rfl, HB⟩ := hrel
    rename World => wr
    by_cases hk : k < n
    · have hki : (k : Int) < (n : Int) := by omega
      have hkw : IntKind.i64.wrap ((k : Int) + 1) = (k : Int) + 1 := by rw [IntKind.wrap_i64]; have := HN.out; omega
      have hkx : k < X.length := by have := HN.out; omega
      obtain ⟨ga, oa, rfl, hc⟩ := (H1.out.below HB.out).at_ hkx
      obtain ⟨gb, ob, rfl, hd⟩ := (H2.out.below HB.out).at_ hkx
      obtain ⟨x, hx⟩ : ∃ x, X[k] = x := ⟨_, rfl⟩
      rw [hx] at hc hd
      have HRa := Lib.hid (p := wr.drew.rangeAt ga (oa + k * 5) (ecs x)) (rng_drw fun i u hu => hc i u hu)
      have HRb := Lib.hid (p := wr.drew.rangeAt gb (ob + k * 5) (ecs x)) (rng_drw fun i u hu => hd i u hu)
      have HK := Lib.hid hk
      clear hc hd hx hkx hk
      go_upto_region 6 with fail
      refine wp_region_held_drew (S := fun _ => True) (by kernel_rfl) trivial (fun hHeld => ?_)
      refine wpAnyH_take (i := 0) (oi := ⟨some 17, .move (.tmp 0), _, _, _, _⟩) (v := .slice (some ⟨ga, oa, none⟩) n c) rfl (by kernel_rfl) (by kernel_rfl) (by kernel_rfl) (fun _ _ _ h => h) (.inl ⟨by rfl, fun w hSw => by go_simp⟩) (by assumption) ?_
      simp only [Act.put, List.setIfInBounds_toArray, List.set_cons_zero, List.set_cons_succ]
      refine wpAnyH_take (i := 1) (oi := ⟨some 18, .move (.tmp 5), _, _, _, _⟩) (v := .int .i64 (k : Int)) rfl (by kernel_rfl) (by kernel_rfl) (by kernel_rfl) (fun _ _ _ h => h) (.inl ⟨by rfl, fun w hSw => by go_simp⟩) (by assumption) ?_
      simp only [Act.put, List.setIfInBounds_toArray, List.set_cons_zero, List.set_cons_succ]
      refine wpAnyH_take (i := 2) (oi := ⟨some 19, .indexAddr 22 (.tmp 17) (.tmp 18), _, _, _, _⟩) (v := .pointer (some ⟨ga, oa + k * 5, none⟩)) rfl (by kernel_rfl) (by kernel_rfl) (by kernel_rfl) (fun _ _ _ h => h) (.inl ⟨by rfl, fun w hSw => by go_simp⟩) (by assumption) ?_
      simp only [Act.put, List.setIfInBounds_toArray, List.set_cons_zero, List.set_cons_succ]
      refine wpAnyH_take (i := 4) (oi := ⟨some 21, .move (.tmp 1), _, _, _, _⟩) (v := .slice (some ⟨gb, ob, none⟩) n d) rfl (by kernel_rfl) (by kernel_rfl) (by kernel_rfl) (fun _ _ _ h => h) (.inl ⟨by rfl, fun w hSw => by go_simp⟩) (by assumption) ?_
      simp only [Act.put, List.setIfInBounds_toArray, List.set_cons_zero, List.set_cons_succ]
      refine wpAnyH_take (i := 5) (oi := ⟨some 22, .move (.tmp 5), _, _, _, _⟩) (v := .int .i64 (k : Int)) rfl (by kernel_rfl) (by kernel_rfl) (by kernel_rfl) (fun _ _ _ h => h) (.inl ⟨by rfl, fun w hSw => by go_simp⟩) (by assumption) ?_
      simp only [Act.put, List.setIfInBounds_toArray, List.set_cons_zero, List.set_cons_succ]
      refine wpAnyH_take (i := 6) (oi := ⟨some 23, .indexAddr 22 (.tmp 21) (.tmp 22), _, _, _, _⟩) (v := .pointer (some ⟨gb, ob + k * 5, none⟩)) rfl (by kernel_rfl) (by kernel_rfl) (by kernel_rfl) (fun _ _ _ h => h) (.inl ⟨by rfl, fun w hSw => by go_simp⟩) (by assumption) ?_
      simp only [Act.put, List.setIfInBounds_toArray, List.set_cons_zero, List.set_cons_succ]
      refine wpAnyH_ready (rs := [3, 7]) (by kernel_rfl) (by simp) ?_
      refine AllReadyH.cons (o := ⟨some 20, .load 42 (.tmp 19), _, _, _, _⟩) rfl (fun K hK => ?_) (AllReadyH.cons (o := ⟨some 24, .load 42 (.tmp 23), _, _, _, _⟩) rfl (fun K hK => ?_) AllReadyH.nil)
      · skip
        refine st_load_rng (by rfl) 42 (.tmp 19) rfl ga (oa + k * 5) rfl (ecs x) _ HRa.out Tryd.underlying42 rfl (info_ent x) ?_
        refine hK.out _ _ trivial (fun _hs => ?_)
        clear hK K
        refine wpAnyH_ready (rs := [7]) (by kernel_rfl) (by simp) ?_
        refine AllReadyH.cons (o := ⟨some 24, .load 42 (.tmp 23), _, _, _, _⟩) rfl (fun K hK => ?_) AllReadyH.nil
        refine st_load_rng (by rfl) 42 (.tmp 23) rfl gb (ob + k * 5) rfl (ecs x) _ HRb.out Tryd.underlying42 rfl (info_ent x) ?_
        refine hK.out _ _ trivial (fun _hs => ?_)
        clear hK K
        refine wpAnyH_take (i := 8) (oi := ⟨some 25, .binOp .neq 42 (.tmp 20) (.tmp 24) 42, _, _, _, _⟩) (v := .bool false) rfl (by kernel_rfl) (by kernel_rfl) (by kernel_rfl) (fun _ _ _ h => h) (.inl ⟨by rfl, fun w hSw => neq_same w _ _ _ _ rfl x rfl rfl⟩) (by assumption) ?_
        simp only [Act.put, List.setIfInBounds_toArray, List.set_cons_zero, List.set_cons_succ]
        refine wpAnyH_done (by kernel_rfl) ?_ _
        go_wp2_with fail
        go_roundw
        case rel => exact ⟨k + 1, Lib.hid HK.out, by go_num, Lib.hid (below_nxt (below_drw wr) HB.out)⟩
        case measure => have := HK.out; simp [intOf]; omega
      · skip
        refine st_load_rng (by rfl) 42 (.tmp 23) rfl gb (ob + k * 5) rfl (ecs x) _ HRb.out Tryd.underlying42 rfl (info_ent x) ?_
        refine hK.out _ _ trivial (fun _hs => ?_)
        clear hK K
        refine wpAnyH_ready (rs := [3]) (by kernel_rfl) (by simp) ?_
        refine AllReadyH.cons (o := ⟨some 20, .load 42 (.tmp 19), _, _, _, _⟩) rfl (fun K hK => ?_) AllReadyH.nil
        refine st_load_rng (by rfl) 42 (.tmp 19) rfl ga (oa + k * 5) rfl (ecs x) _ HRa.out Tryd.underlying42 rfl (info_ent x) ?_
        refine hK.out _ _ trivial (fun _hs => ?_)
        clear hK K
        refine wpAnyH_take (i := 8) (oi := ⟨some 25, .binOp .neq 42 (.tmp 20) (.tmp 24) 42, _, _, _, _⟩) (v := .bool false) rfl (by kernel_rfl) (by kernel_rfl) (by kernel_rfl) (fun _ _ _ h => h) (.inl ⟨by rfl, fun w hSw => neq_same w _ _ _ _ rfl x rfl rfl⟩) (by assumption) ?_
        simp only [Act.put, List.setIfInBounds_toArray, List.set_cons_zero, List.set_cons_succ]
        refine wpAnyH_done (by kernel_rfl) ?_ _
        go_wp2_with fail
        go_roundw
        case rel => exact ⟨k + 1, Lib.hid HK.out, by go_num, Lib.hid (below_nxt (below_drw wr) HB.out)⟩
        case measure => have := HK.out; simp [intOf]; omega
    · have hki : ¬ (k : Int) < (n : Int) := by omega
      clear hk
      go_wp2
      go_ret
      exact ⟨rfl, HB.out⟩
end Go.Proofs.YtijffkklhgnknaaDoor
