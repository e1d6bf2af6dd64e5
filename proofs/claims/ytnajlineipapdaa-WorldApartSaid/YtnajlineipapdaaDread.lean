/- The reference's disk: Read. Conditions: the disk lies there. -/
import Derived.Test.YtnajlineipapdaaDput
import Derived.StillTailTactics
set_option linter.unusedVariables false
namespace Go.Proofs.Ytnajlineipapdaa
open Go.RowKit

section
variable {b : Nat} {w : World} {g : Nat} {v1 v2' v3 v4 : Value} {ss : List BV} {rs al : List (Nat × BV)} {ts : List (Int × Int × BV)}
theorem dread_out (h : RDisk b w g v1 v2' v3 v4 ss rs al ts) (z : Int) (hz : z < 0 ∨ (ss.length : Int) ≤ z) :
    Calls Try.prog 14 #[.pointer (some ⟨g, 0, none⟩), .int .i64 z] w fun e w' => e = .returned (.tuple #[.slice none 0 0, .int .i64 201]) ∧ w' = w := by
  have H := Lib.hid h
  have HZ := Lib.hid hz
  clear h hz
  go_enter Try.func14, Try.ntmps14
  go_wp2_with (go_at_call 42; refine (has_out H.out z HZ.out).mono ?_; rintro x w1 ⟨rfl, rfl⟩)
  go_ret2
  exact ⟨rfl, rfl⟩
set_option maxHeartbeats 1000000 in
theorem dread_in (h : RDisk b w g v1 v2' v3 v4 ss rs al ts) (a : Nat) (ha : a < ss.length) (hr : rs.length ≤ 1000000) (ht : ts.length ≤ 1000000) :
    Calls Try.prog 14 #[.pointer (some ⟨g, 0, none⟩), .int .i64 (a : Int)] w fun e w' => ∃ v, e = .returned (.tuple #[bvv (nowV ss rs a), .int .i64 0]) ∧
      RDisk b w' g v1 v2' v3 v ss rs al (ts ++ [(1, (a : Int), nowV ss rs a)]) ∧ Chg (foot g v1 v2' v3 v4) w w' ∧ (v.ownBlock = v4.ownBlock ∨ ∃ k, v.ownBlock = some k ∧ w.heap.size ≤ k) := by
  have H := Lib.hid h
  have HA := Lib.hid ha
  have HRL := Lib.hid hr
  have HTL := Lib.hid ht
  have HN := Lib.hid (p := Own8 b w (nowV ss rs a)) (nowK_mem ss rs a ha (Own8 b w) (fun x hx => (h.m1 x hx).1) (fun p hp => (h.m2 p hp).1) _)
  have c3 := h.c3
  have f3 : w.frozen? ⟨g, 3, none⟩ = false := h.cells.free 3
  obtain ⟨nv, hnv⟩ : ∃ nv, nowV ss rs a = nv := ⟨_, rfl⟩
  have HNV := Lib.hid hnv
  rw [hnv] at HN ⊢
  clear h ha hr ht hnv
  go_enter Try.func14, Try.ntmps14
  go_wp2_with (go_at_call 42; refine (has_in H.out a HA.out).mono ?_; rintro x w1 ⟨rfl, hw1⟩; obtain rfl := hw1.symm)
  have HD := Lib.hid (H.out.kept (below_drw w))
  have c3a : ∀ o : Obj, (w.alloc o).cell? ⟨g, 3, none⟩ = some v4 := fun o => (World.cell?_alloc_past _ _ _ H.out.cells.lt).trans c3
  go_region_law (first
    | (refine step_join rfl _ _ rfl rec_touch b v4 ts.length (ts.flatMap tc) rfl (HD.out.o4.alloc _) (some ⟨w.heap.size, 0, none⟩) 1 1 (tc (1, (a : Int), nv)) rfl rfl (touch_src w.drew _) (tc_one _) (by have := HTL.out; omega) (by have := H.out.lo; have := H.out.cells.lt; simp; omega) ?_
       intro v5 w2 hr2 hg2 hat2
       obtain ⟨A2, k2, rfl⟩ := own_sl hr2
       have hR2 : Row w2 g 49 [v1, v2', v3, v4] := (HD.out.cells.alloc _).grown hg2 (fun e0 => HD.out.ne.2.2.2 e0.symm)
       have c32 := hR2.cell 3
       have f32 := hR2.free 3
       simp at c32)
    | (go_simp; go_at_call 30; refine (now_any HD.out a HA.out HRL.out).mono ?_; rintro x w3 ⟨rfl, rfl⟩; rw [HNV.out]; unfold bvv))
  all_goals
    have hBA : Below w.heap.size w (w.drew.alloc (.cells (tc (1, (a : Int), nv)).toArray 77)) := (below_drw w).alloc (Nat.le_refl _) _
    obtain ⟨hD3, hC3⟩ := RDisk.touch (H.out.kept hBA) (1, (a : Int), nv) (HN.out.below hBA) hr2 hg2
    have HD3 := Lib.hid hD3
    have HC3 := Lib.hid ((Chg.of (F := foot g v1 v2' v3 v4) hBA).trans hC3 (fun x hx => .inl hx))
    have HT3 := Lib.hid hat2
    have HSA := Lib.hid hBA.size
    clear hD3 hC3 hBA hr2 hg2 hat2 hR2 c32 f32 c3a c3 f3
    go_wp2_with (go_at_call 30; refine (now_any HD3.out a HA.out HRL.out).mono ?_; rintro x w3 ⟨rfl, rfl⟩; rw [HNV.out]; unfold bvv)
    go_ret2
    refine ⟨_, rfl, HD3.out, HC3.out, ?_⟩
    rcases HT3.out with e0 | e0
    · exact .inl e0
    · exact .inr ⟨_, e0, HSA.out⟩
end
end Go.Proofs.Ytnajlineipapdaa
