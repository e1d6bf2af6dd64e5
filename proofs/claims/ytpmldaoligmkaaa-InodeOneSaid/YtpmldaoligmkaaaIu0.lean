/- The walk of InodeOne, by the part that is another one. Conditions: those named. -/
import Derived.Test.YtpmldaoligmkaaaIs
import Derived.Test.YtpmldaoligmkaaaRBy
import Derived.Deep.RegionHeld
set_option linter.unusedVariables false
set_option maxRecDepth 20000
namespace Go.Proofs.Ytpmldaoligmkaaa
open Go.RowKit

set_option maxHeartbeats 2000000 in
theorem one_0 (v : Nat → Int) (hw : Wf v) (a b : Nat) (ha : a < 256) (hb : b < 256) (hr : a % 8 = 0) (w : World) : Calls Try.prog 7 #[.agg (ncs v).toArray, .int .u8 (a : Int), .int .u8 (b : Int)] w fun e w' => e = .returned (.bool true) ∧ Below w.heap.size w w' := by
  have i1 := Lib.hid (fun v => info_ncs v)
  have hz := Lib.hid zero_ino
  have HWF := Lib.hid hw
  have HMOD := Lib.hid (p := a < 1000 ∧ a % 8 = 0) ⟨by omega, hr⟩
  obtain ⟨k, hk⟩ : ∃ k, 1 + b = k := ⟨_, rfl⟩
  have wb : IntKind.i64.wrap (b : Int) = (b : Int) := by rw [IntKind.wrap_i64]; omega
  have wk : IntKind.i64.wrap (1 + (b : Int)) = (k : Int) := by rw [IntKind.wrap_i64]; omega
  have ek : 1 + (b : Int) = (k : Int) := by omega
  have HJ := Lib.hid (p := 0 < 27 ∧ 0 ≠ 6) (by omega)
  clear hw ha hb hr hk
  go_enter Try.func7, Try.ntmps7
  go_wp2_with (first
    | (refine step_box rfl 3 rfl 26 (.tmp 0) rfl (ncs v) rfl ?_; intro g3 w1 hr1 hg1 hb1 hs1
       have R1 := Lib.hid hr1
       have HB1 := Lib.hid hb1
       have Q1 := Lib.hid (p := w.heap.size ≤ g3) (by rw [hg1.out]; exact Nat.le_refl _)
       clear hr1 hb1 hg1 hs1)
    | (go_at_call 9; refine (awake_any _).mono ?_; rintro e w2 ⟨rfl, hb2⟩
       have R2 := Lib.hid (R1.out.kept hb2)
       have HB2 := Lib.hid (below_nxt hb2 HB1.out)
       clear hb2)
    | (refine step_load rfl 16 rfl 26 (.tmp 3) rfl g3 rfl (ncs v) _ R2.out.all Try.underlying26 rfl (i1.out _) ?_))
  refine (pack_any v HWF.out _).mono ?_
  rintro e w3 ⟨A3, n3, c3, z3, rfl, HP3, hb3⟩
  have R3 := Lib.hid (R2.out.kept hb3.out)
  have HB3 := Lib.hid (below_nxt hb3.out HB2.out)
  clear hb3
  go_wp2_with (first
    | (refine step_load rfl 20 rfl 26 (.tmp 3) rfl g3 rfl (ncs v) _ R3.out.all Try.underlying26 rfl (i1.out _) ?_)
    | (refine step_alloc rfl 9 rfl 26 rfl _ hz.out ?_; intro g9 w4 hr4 hg4 hb4 hs4
       have R4 := Lib.hid hr4
       have R34 := Lib.hid (R3.out.kept hb4)
       have HB4 := Lib.hid hb4
       have Q4 := Lib.hid (p := w3.heap.size ≤ g9 ∧ g3 < g9) (by rw [hg4.out]; exact ⟨Nat.le_refl _, R3.out.lt⟩)
       clear hr4 hb4 hg4 hs4)
    | (refine step_store rfl 26 (.tmp 9) (.tmp 20) rfl g9 (by rfl) _ (ncs ino0) (ncs v) (by rfl) R4.out rfl (i1.out _) (ncs_one _) ?_; intro w5 hr5 hg5 hs5
       have R5 := Lib.hid hr5
       have R35 := Lib.hid (R34.out.grown hg5 (fun e => by injection e with e; have := Q4.out; omega))
       have HB5 := Lib.hid (p := Below w3.heap.size w3 w5) (HB4.out.grown hg5 HB4.out.size (fun q hq => by injection hq with hq; subst hq; exact Q4.out.1))
       have cj : w5.cell? ⟨g9, 0, none⟩ = some (.int .i64 (v 0)) := by rw [R5.out.cell]; exact rfl
       have fj := R5.out.free (0)
       clear hr5 hg5 hs5)
    | (refine wp_rem8u rfl _ _ (.tmp 24) _ rfl a 0 rfl rfl HMOD.out.1 HMOD.out.2 ?_)
    | (refine wp_add64 rfl _ _ (.tmp 33) (.tmp 34) rfl _ _ rfl rfl ?_; intro s1)
    | (refine wp_rem3 rfl _ _ (.tmp 35) _ rfl _ rfl rfl ?_; intro s2)
    | (refine wp_add64 rfl _ _ _ (.tmp 36) rfl _ _ rfl rfl ?_; intro z)
    | (refine step_load rfl 90 rfl 26 (.tmp 9) rfl g9 rfl (ncs (at1 v 0 z)) _ (Row.all (by have h := R5.out.put (0) (.int .i64 z); rw [show (ncs v).set (0) (.int .i64 z) = ncs (at1 v 0 z) from ncs_set v (k := 0) (by omega) z] at h; exact h)) Try.underlying26 rfl (i1.out _) ?_))
  have R6 := Lib.hid (p := Row (w5.setCell ⟨g9, 0, none⟩ (.int .i64 z)) g9 26 (ncs (at1 v 0 z))) (by have h := R5.out.put (0) (.int .i64 z); rw [show (ncs v).set (0) (.int .i64 z) = ncs (at1 v 0 z) from ncs_set v (k := 0) (by omega) z] at h; exact h)
  have R36 := Lib.hid (p := Row (w5.setCell ⟨g9, 0, none⟩ (.int .i64 z)) g3 26 (ncs v)) (R35.out.far (p := ⟨g9, 0, none⟩) (show g3 ≠ g9 by have := Q4.out; omega) _)
  have HB6 := Lib.hid (p := Below w3.heap.size w3 (w5.setCell ⟨g9, 0, none⟩ (.int .i64 z))) (HB5.out.setCell (p := ⟨g9, 0, none⟩) Q4.out.1 _)
  have HWU := Lib.hid (p := Wf (at1 v 0 z)) (HWF.out.set 0 z (fun h => by cases h) HJ.out.2)
  clear cj fj R4 R34 R5 R35 HB4 HB5
  generalize w5.setCell ⟨g9, 0, none⟩ (.int .i64 z) = w6 at *
  generalize at1 v 0 z = u at *
  refine (pack_any u HWU.out _).mono ?_
  rintro e w7 ⟨A7, n7, c7, z7, rfl, HP7, hb7⟩
  have R7 := Lib.hid (R6.out.kept hb7.out)
  have R37 := Lib.hid (R36.out.kept hb7.out)
  have HB7 := Lib.hid (below_nxt hb7.out HB6.out)
  have HB8 := Lib.hid (below_nxt HB7.out HB3.out)
  clear hb7 R6 R36 HB6
  rcases HP3.out with ⟨hmv, rfl, rfl, hh3⟩ | ⟨_, rfl⟩
  · rcases HP7.out with ⟨hmu, rfl, rfl, hh7⟩ | ⟨_, rfl⟩
    · have H3 := Lib.hid (hh3.below HB7.out)
      have H7 := Lib.hid hh7
      have hin := blk_inj v u hmv hmu HWF.out HWU.out
      have hst := string_beq (blk sz v 27) (blk sz u 27)
      have L3 := Lib.hid (blk_len sz v 27 (by decide)).symm
      have L7 := Lib.hid (blk_len sz u 27 (by decide)).symm
      have HCV : Hid (∀ w A c l, 256 = l.length → Hol w A l → (convert 28 9 (.slice A 256 c)).run Try.prog w = .ok (.string ⟨l.toArray⟩) w) := fun w A c l hl hA => run_to_string (P := Try.prog) w 28 9 5 A c 256 l hl Try.underlying28 Try.underlying5 Try.underlying9 hA
      have Z3 : Hid (∀ w, Hol w A3 (blk sz v 27) → (convert 28 9 (.slice A3 256 c3)).run Try.prog w = .ok (.string ⟨(blk sz v 27).toArray⟩) w) := fun w h => HCV.out w A3 c3 _ L3.out h
      have Z7 : Hid (∀ w, Hol w A7 (blk sz u 27) → (convert 28 9 (.slice A7 256 c7)).run Try.prog w = .ok (.string ⟨(blk sz u 27).toArray⟩) w) := fun w h => HCV.out w A7 c7 _ L7.out h
      generalize (⟨(blk sz v 27).toArray⟩ : ByteArray) = S3 at *
      generalize (⟨(blk sz u 27).toArray⟩ : ByteArray) = S7 at *
      rw [← hin] at hst
      clear hin HCV L3 L7 hh3 hh7
      obtain ⟨t, ht⟩ : ∃ t, ieqb u v = t := ⟨_, rfl⟩
      rw [ht] at hst
      have HT := Lib.hid ht
      clear ht
      go_wp2_with fail
      refine wp_region_held_drew (S := fun w => Row w g9 26 (ncs u) ∧ Row w g3 26 (ncs v) ∧ Hol w A3 (blk sz v 27) ∧ Hol w A7 (blk sz u 27)) (by kernel_rfl) ⟨R7.out.drew, R37.out.drew, hol_drwN H3.out 1, hol_drwN H7.out 1⟩ (fun hHeld => ?_)
      refine wpAnyH_take (i := 0) (oi := ⟨some 100, .move (.tmp 7), _, _, _, _⟩) (v := .slice A3 256 c3) rfl (by kernel_rfl) (by kernel_rfl) (by kernel_rfl) (fun _ _ _ h => h) (.inl ⟨by rfl, fun w hSw => by go_simp⟩) (by assumption) ?_
      simp only [Act.put, List.setIfInBounds_toArray, List.set_cons_zero, List.set_cons_succ]
      refine wpAnyH_take (i := 1) (oi := ⟨some 101, .convert 28 9 (.tmp 100), _, _, _, _⟩) (v := .string S3) rfl (by kernel_rfl) (by kernel_rfl) (by kernel_rfl) (fun _ _ _ h => h) (.inl ⟨by rfl, fun w hSw => by have z3 := Z3.out w hSw.2.2.1; go_simp⟩) (by assumption) ?_
      simp only [Act.put, List.setIfInBounds_toArray, List.set_cons_zero, List.set_cons_succ]
      refine wpAnyH_take (i := 2) (oi := ⟨some 102, .move (.tmp 11), _, _, _, _⟩) (v := .slice A7 256 c7) rfl (by kernel_rfl) (by kernel_rfl) (by kernel_rfl) (fun _ _ _ h => h) (.inl ⟨by rfl, fun w hSw => by go_simp⟩) (by assumption) ?_
      simp only [Act.put, List.setIfInBounds_toArray, List.set_cons_zero, List.set_cons_succ]
      refine wpAnyH_take (i := 3) (oi := ⟨some 103, .convert 28 9 (.tmp 102), _, _, _, _⟩) (v := .string S7) rfl (by kernel_rfl) (by kernel_rfl) (by kernel_rfl) (fun _ _ _ h => h) (.inl ⟨by rfl, fun w hSw => by have z7 := Z7.out w hSw.2.2.2; go_simp⟩) (by assumption) ?_
      simp only [Act.put, List.setIfInBounds_toArray, List.set_cons_zero, List.set_cons_succ]
      refine wpAnyH_take (i := 4) (oi := ⟨some 104, .binOp .eql 9 (.tmp 101) (.tmp 103) 9, _, _, _, _⟩) (v := .bool t) rfl (by kernel_rfl) (by kernel_rfl) (by kernel_rfl) (fun _ _ _ h => h) (.inl ⟨by rfl, fun w hSw => by go_simp⟩) (by assumption) ?_
      simp only [Act.put, List.setIfInBounds_toArray, List.set_cons_zero, List.set_cons_succ]
      refine wpAnyH_take (i := 5) (oi := ⟨some 105, .load 26 (.tmp 9), _, _, _, _⟩) (v := .agg (ncs u).toArray) rfl (by kernel_rfl) (by kernel_rfl) (by kernel_rfl) (fun _ _ _ h => h) (yieldsIf_load_mid (by rfl) 26 (.tmp 9) rfl g9 0 rfl (ncs u) _ (fun w hSw => hSw.1.all) Try.underlying26 rfl (i1.out _)) (by assumption) ?_
      simp only [Act.put, List.setIfInBounds_toArray, List.set_cons_zero, List.set_cons_succ]
      refine wpAnyH_take (i := 6) (oi := ⟨some 106, .load 26 (.tmp 3), _, _, _, _⟩) (v := .agg (ncs v).toArray) rfl (by kernel_rfl) (by kernel_rfl) (by kernel_rfl) (fun _ _ _ h => h) (yieldsIf_load_mid (by rfl) 26 (.tmp 3) rfl g3 0 rfl (ncs v) _ (fun w hSw => hSw.2.1.all) Try.underlying26 rfl (i1.out _)) (by assumption) ?_
      simp only [Act.put, List.setIfInBounds_toArray, List.set_cons_zero, List.set_cons_succ]
      refine wpAnyH_take (i := 7) (oi := ⟨some 107, .binOp .eql 26 (.tmp 105) (.tmp 106) 26, _, _, _, _⟩) (v := .bool t) rfl (by kernel_rfl) (by kernel_rfl) (by kernel_rfl) (fun _ _ _ h => h) (.inl ⟨by rfl, fun w hSw => by exact run_eql_op (P := Try.prog) w _ 26 26 (.tmp 105) (.tmp 106) rfl (ncs u).toArray (ncs v).toArray (by rfl) (by rfl) ino_guard t (fun w => by rw [eq_ino 9997]; exact congrArg (fun b => Result.ok b w) HT.out)⟩) (by assumption) ?_
      simp only [Act.put, List.setIfInBounds_toArray, List.set_cons_zero, List.set_cons_succ]
      refine wpAnyH_take (i := 8) (oi := ⟨some 108, .binOp .eql 4 (.tmp 104) (.tmp 107) 4, _, _, _, _⟩) (v := .bool true) rfl (by kernel_rfl) (by kernel_rfl) (by kernel_rfl) (fun _ _ _ h => h) (.inl ⟨by rfl, fun w hSw => by cases t <;> go_simp⟩) (by assumption) ?_
      simp only [Act.put, List.setIfInBounds_toArray, List.set_cons_zero, List.set_cons_succ]
      refine wpAnyH_take (i := 9) (oi := ⟨some 6, .assign (.tmp 108), _, _, _, _⟩) (v := .bool true) rfl (by kernel_rfl) (by kernel_rfl) (by kernel_rfl) (fun _ _ _ h => h) (.inl ⟨by rfl, fun w hSw => by go_simp⟩) (by assumption) ?_
      simp only [Act.put, List.setIfInBounds_toArray, List.set_cons_zero, List.set_cons_succ]
      refine wpAnyH_done (by kernel_rfl) ?_ _
      go_wp2
      go_ret
      exact ⟨rfl, HB8.out.drew⟩
    · go_wp2
      go_ret
      exact ⟨rfl, HB8.out⟩
  · go_wp2
    go_ret
    exact ⟨rfl, HB8.out⟩
end Go.Proofs.Ytpmldaoligmkaaa
