/- Whether an entry may be. Conditions: the library's tables lie there. -/
import Derived.Test.YtijffkklhgnknaaDoorQz
set_option linter.unusedVariables false
set_option maxRecDepth 20000
namespace Go.Proofs.YtijffkklhgnknaaDoor
open Go.RowKit

def MayE (e : Ent) : Prop := nameR e.nm.data.toList = 0 ∧ 1 ≤ e.kind ∧ e.kind ≤ 3 ∧ 1 ≤ e.ino ∧ e.ino ≤ 64 ∧ e.ser ≠ 0 ∧ e.ck ≠ 0
instance (e : Ent) : Decidable (MayE e) := by unfold MayE; infer_instance
set_option maxHeartbeats 2000000 in
theorem maye_any (x : Ent) (w : World) (hs : x.nm.size ≤ 9223372036854775807) (hT : Tabs w) : Calls Tryd.prog 44 #[.agg (ecs x).toArray] w fun e w' => e = .returned (.bool (decide (MayE x))) ∧ Below w.heap.size w w' := by
  have HS := Lib.hid (And.intro hs hT)
  clear hs hT
  obtain ⟨z, hz⟩ : ∃ z : Bool, decide (MayE x) = z := ⟨_, rfl⟩
  rw [hz]
  obtain ⟨r, hr⟩ : ∃ r : Int, nameR x.nm.data.toList = r := ⟨_, rfl⟩
  obtain ⟨nm, ino, ser, kind, ck⟩ := x
  have hM : z = decide (r = 0 ∧ 1 ≤ kind ∧ kind ≤ 3 ∧ 1 ≤ ino ∧ ino ≤ 64 ∧ ser ≠ 0 ∧ ck ≠ 0) := by rw [← hz, ← hr]; rfl
  have HM := Lib.hid hM
  have HR := Lib.hid hr
  clear hz hr hM
  by_cases a0 : r = 0
  · by_cases a1 : 1 ≤ kind
    · by_cases a2 : kind ≤ 3
      · by_cases a3 : 1 ≤ ino
        · by_cases a4 : ino ≤ 64
          · by_cases a5 : ser = 0
            · have hz : z = false := by rw [HM.out]; exact decide_eq_false (fun h => by obtain ⟨h1, h2, h3, h4, h5, h6, h7⟩ := h; first | contradiction | omega)
              subst hz
              clear HM
              have b5 : ((ser : Nat) : Int) = 0 := by omega
              go_enter Tryd.func44, Tryd.ntmps44
              go_wp2_with (first
                | (refine step_box rfl 1 rfl 42 (.tmp 0) rfl (ecs ⟨nm, ino, ser, kind, ck⟩) rfl ?_; intro g2 w2 hr2 hg2 hb2 hs2
                   have HB := Lib.hid hb2
                   have HR2 := Lib.hid hr2
                   have c0 : w2.cell? ⟨g2, 0, none⟩ = some (.string nm) := (hr2.cell 0).trans rfl
                   clear hr2 hg2 hb2 hs2)
                | (go_at_call 62; refine (name_any nm w2 HS.out.1 (tabs_below HS.out.2 HB.out)).mono ?_; rintro e w3 ⟨rfl, hb⟩
                   have HB3 := Lib.hid (below_nxt hb HB.out)
                   have hr3 := HR2.out.kept hb
                   have c1 : w3.cell? ⟨g2, 1, none⟩ = some (.int .i64 ino) := (hr3.cell 1).trans rfl
                   have c2 : w3.cell? ⟨g2, 2, none⟩ = some (.int .u64 (ser : Int)) := (hr3.cell 2).trans rfl
                   have c3 : w3.cell? ⟨g2, 3, none⟩ = some (.int .i64 kind) := (hr3.cell 3).trans rfl
                   have c4 : w3.cell? ⟨g2, 4, none⟩ = some (.int .u32 (ck : Int)) := (hr3.cell 4).trans rfl
                   rw [HR.out]
                   clear hr3 hb))
              go_ret
              exact ⟨rfl, HB3.out⟩
            · have b5 : ¬ ((ser : Nat) : Int) = 0 := by omega
              by_cases a6 : ck = 0
              · have hz : z = false := by rw [HM.out]; exact decide_eq_false (fun h => by obtain ⟨h1, h2, h3, h4, h5, h6, h7⟩ := h; first | contradiction | omega)
                subst hz
                clear HM
                have b6 : ((ck : Nat) : Int) = 0 := by omega
                go_enter Tryd.func44, Tryd.ntmps44
                go_wp2_with (first
                  | (refine step_box rfl 1 rfl 42 (.tmp 0) rfl (ecs ⟨nm, ino, ser, kind, ck⟩) rfl ?_; intro g2 w2 hr2 hg2 hb2 hs2
                     have HB := Lib.hid hb2
                     have HR2 := Lib.hid hr2
                     have c0 : w2.cell? ⟨g2, 0, none⟩ = some (.string nm) := (hr2.cell 0).trans rfl
                     clear hr2 hg2 hb2 hs2)
                  | (go_at_call 62; refine (name_any nm w2 HS.out.1 (tabs_below HS.out.2 HB.out)).mono ?_; rintro e w3 ⟨rfl, hb⟩
                     have HB3 := Lib.hid (below_nxt hb HB.out)
                     have hr3 := HR2.out.kept hb
                     have c1 : w3.cell? ⟨g2, 1, none⟩ = some (.int .i64 ino) := (hr3.cell 1).trans rfl
                     have c2 : w3.cell? ⟨g2, 2, none⟩ = some (.int .u64 (ser : Int)) := (hr3.cell 2).trans rfl
                     have c3 : w3.cell? ⟨g2, 3, none⟩ = some (.int .i64 kind) := (hr3.cell 3).trans rfl
                     have c4 : w3.cell? ⟨g2, 4, none⟩ = some (.int .u32 (ck : Int)) := (hr3.cell 4).trans rfl
                     rw [HR.out]
                     clear hr3 hb))
                go_ret
                exact ⟨rfl, HB3.out⟩
              · have b6 : ¬ ((ck : Nat) : Int) = 0 := by omega
                have hz : z = true := by rw [HM.out]; exact decide_eq_true (by refine ⟨?_, ?_, ?_, ?_, ?_, ?_, ?_⟩ <;> first | assumption | omega)
                subst hz
                clear HM
                have d5 : ((ser : Int) != 0) = true := bne_iff_ne.2 b5
                have d6 : ((ck : Int) != 0) = true := bne_iff_ne.2 b6
                go_enter Tryd.func44, Tryd.ntmps44
                go_wp2_with (first
                  | (refine step_box rfl 1 rfl 42 (.tmp 0) rfl (ecs ⟨nm, ino, ser, kind, ck⟩) rfl ?_; intro g2 w2 hr2 hg2 hb2 hs2
                     have HB := Lib.hid hb2
                     have HR2 := Lib.hid hr2
                     have c0 : w2.cell? ⟨g2, 0, none⟩ = some (.string nm) := (hr2.cell 0).trans rfl
                     clear hr2 hg2 hb2 hs2)
                  | (go_at_call 62; refine (name_any nm w2 HS.out.1 (tabs_below HS.out.2 HB.out)).mono ?_; rintro e w3 ⟨rfl, hb⟩
                     have HB3 := Lib.hid (below_nxt hb HB.out)
                     have hr3 := HR2.out.kept hb
                     have c1 : w3.cell? ⟨g2, 1, none⟩ = some (.int .i64 ino) := (hr3.cell 1).trans rfl
                     have c2 : w3.cell? ⟨g2, 2, none⟩ = some (.int .u64 (ser : Int)) := (hr3.cell 2).trans rfl
                     have c3 : w3.cell? ⟨g2, 3, none⟩ = some (.int .i64 kind) := (hr3.cell 3).trans rfl
                     have c4 : w3.cell? ⟨g2, 4, none⟩ = some (.int .u32 (ck : Int)) := (hr3.cell 4).trans rfl
                     rw [HR.out]
                     clear hr3 hb))
                go_ret
                exact ⟨rfl, HB3.out⟩
          · have hz : z = false := by rw [HM.out]; exact decide_eq_false (fun h => by obtain ⟨h1, h2, h3, h4, h5, h6, h7⟩ := h; first | contradiction | omega)
            subst hz
            clear HM
            go_enter Tryd.func44, Tryd.ntmps44
            go_wp2_with (first
              | (refine step_box rfl 1 rfl 42 (.tmp 0) rfl (ecs ⟨nm, ino, ser, kind, ck⟩) rfl ?_; intro g2 w2 hr2 hg2 hb2 hs2
                 have HB := Lib.hid hb2
                 have HR2 := Lib.hid hr2
                 have c0 : w2.cell? ⟨g2, 0, none⟩ = some (.string nm) := (hr2.cell 0).trans rfl
                 clear hr2 hg2 hb2 hs2)
              | (go_at_call 62; refine (name_any nm w2 HS.out.1 (tabs_below HS.out.2 HB.out)).mono ?_; rintro e w3 ⟨rfl, hb⟩
                 have HB3 := Lib.hid (below_nxt hb HB.out)
                 have hr3 := HR2.out.kept hb
                 have c1 : w3.cell? ⟨g2, 1, none⟩ = some (.int .i64 ino) := (hr3.cell 1).trans rfl
                 have c2 : w3.cell? ⟨g2, 2, none⟩ = some (.int .u64 (ser : Int)) := (hr3.cell 2).trans rfl
                 have c3 : w3.cell? ⟨g2, 3, none⟩ = some (.int .i64 kind) := (hr3.cell 3).trans rfl
                 have c4 : w3.cell? ⟨g2, 4, none⟩ = some (.int .u32 (ck : Int)) := (hr3.cell 4).trans rfl
                 rw [HR.out]
                 clear hr3 hb))
            go_ret
            exact ⟨rfl, HB3.out⟩
        · have hz : z = false := by rw [HM.out]; exact decide_eq_false (fun h => by obtain ⟨h1, h2, h3, h4, h5, h6, h7⟩ := h; first | contradiction | omega)
          subst hz
          clear HM
          go_enter Tryd.func44, Tryd.ntmps44
          go_wp2_with (first
            | (refine step_box rfl 1 rfl 42 (.tmp 0) rfl (ecs ⟨nm, ino, ser, kind, ck⟩) rfl ?_; intro g2 w2 hr2 hg2 hb2 hs2
               have HB := Lib.hid hb2
               have HR2 := Lib.hid hr2
               have c0 : w2.cell? ⟨g2, 0, none⟩ = some (.string nm) := (hr2.cell 0).trans rfl
               clear hr2 hg2 hb2 hs2)
            | (go_at_call 62; refine (name_any nm w2 HS.out.1 (tabs_below HS.out.2 HB.out)).mono ?_; rintro e w3 ⟨rfl, hb⟩
               have HB3 := Lib.hid (below_nxt hb HB.out)
               have hr3 := HR2.out.kept hb
               have c1 : w3.cell? ⟨g2, 1, none⟩ = some (.int .i64 ino) := (hr3.cell 1).trans rfl
               have c2 : w3.cell? ⟨g2, 2, none⟩ = some (.int .u64 (ser : Int)) := (hr3.cell 2).trans rfl
               have c3 : w3.cell? ⟨g2, 3, none⟩ = some (.int .i64 kind) := (hr3.cell 3).trans rfl
               have c4 : w3.cell? ⟨g2, 4, none⟩ = some (.int .u32 (ck : Int)) := (hr3.cell 4).trans rfl
               rw [HR.out]
               clear hr3 hb))
          go_ret
          exact ⟨rfl, HB3.out⟩
      · have hz : z = false := by rw [HM.out]; exact decide_eq_false (fun h => by obtain ⟨h1, h2, h3, h4, h5, h6, h7⟩ := h; first | contradiction | omega)
        subst hz
        clear HM
        go_enter Tryd.func44, Tryd.ntmps44
        go_wp2_with (first
          | (refine step_box rfl 1 rfl 42 (.tmp 0) rfl (ecs ⟨nm, ino, ser, kind, ck⟩) rfl ?_; intro g2 w2 hr2 hg2 hb2 hs2
             have HB := Lib.hid hb2
             have HR2 := Lib.hid hr2
             have c0 : w2.cell? ⟨g2, 0, none⟩ = some (.string nm) := (hr2.cell 0).trans rfl
             clear hr2 hg2 hb2 hs2)
          | (go_at_call 62; refine (name_any nm w2 HS.out.1 (tabs_below HS.out.2 HB.out)).mono ?_; rintro e w3 ⟨rfl, hb⟩
             have HB3 := Lib.hid (below_nxt hb HB.out)
             have hr3 := HR2.out.kept hb
             have c1 : w3.cell? ⟨g2, 1, none⟩ = some (.int .i64 ino) := (hr3.cell 1).trans rfl
             have c2 : w3.cell? ⟨g2, 2, none⟩ = some (.int .u64 (ser : Int)) := (hr3.cell 2).trans rfl
             have c3 : w3.cell? ⟨g2, 3, none⟩ = some (.int .i64 kind) := (hr3.cell 3).trans rfl
             have c4 : w3.cell? ⟨g2, 4, none⟩ = some (.int .u32 (ck : Int)) := (hr3.cell 4).trans rfl
             rw [HR.out]
             clear hr3 hb))
        go_ret
        exact ⟨rfl, HB3.out⟩
    · have hz : z = false := by rw [HM.out]; exact decide_eq_false (fun h => by obtain ⟨h1, h2, h3, h4, h5, h6, h7⟩ := h; first | contradiction | omega)
      subst hz
      clear HM
      go_enter Tryd.func44, Tryd.ntmps44
      go_wp2_with (first
        | (refine step_box rfl 1 rfl 42 (.tmp 0) rfl (ecs ⟨nm, ino, ser, kind, ck⟩) rfl ?_; intro g2 w2 hr2 hg2 hb2 hs2
           have HB := Lib.hid hb2
           have HR2 := Lib.hid hr2
           have c0 : w2.cell? ⟨g2, 0, none⟩ = some (.string nm) := (hr2.cell 0).trans rfl
           clear hr2 hg2 hb2 hs2)
        | (go_at_call 62; refine (name_any nm w2 HS.out.1 (tabs_below HS.out.2 HB.out)).mono ?_; rintro e w3 ⟨rfl, hb⟩
           have HB3 := Lib.hid (below_nxt hb HB.out)
           have hr3 := HR2.out.kept hb
           have c1 : w3.cell? ⟨g2, 1, none⟩ = some (.int .i64 ino) := (hr3.cell 1).trans rfl
           have c2 : w3.cell? ⟨g2, 2, none⟩ = some (.int .u64 (ser : Int)) := (hr3.cell 2).trans rfl
           have c3 : w3.cell? ⟨g2, 3, none⟩ = some (.int .i64 kind) := (hr3.cell 3).trans rfl
           have c4 : w3.cell? ⟨g2, 4, none⟩ = some (.int .u32 (ck : Int)) := (hr3.cell 4).trans rfl
           rw [HR.out]
           clear hr3 hb))
      go_ret
      exact ⟨rfl, HB3.out⟩
  · have hz : z = false := by rw [HM.out]; exact decide_eq_false (fun h => by obtain ⟨h1, h2, h3, h4, h5, h6, h7⟩ := h; first | contradiction | omega)
    subst hz
    clear HM
    go_enter Tryd.func44, Tryd.ntmps44
    go_wp2_with (first
      | (refine step_box rfl 1 rfl 42 (.tmp 0) rfl (ecs ⟨nm, ino, ser, kind, ck⟩) rfl ?_; intro g2 w2 hr2 hg2 hb2 hs2
         have HB := Lib.hid hb2
         have HR2 := Lib.hid hr2
         have c0 : w2.cell? ⟨g2, 0, none⟩ = some (.string nm) := (hr2.cell 0).trans rfl
         clear hr2 hg2 hb2 hs2)
      | (go_at_call 62; refine (name_any nm w2 HS.out.1 (tabs_below HS.out.2 HB.out)).mono ?_; rintro e w3 ⟨rfl, hb⟩
         have HB3 := Lib.hid (below_nxt hb HB.out)
         have hr3 := HR2.out.kept hb
         have c1 : w3.cell? ⟨g2, 1, none⟩ = some (.int .i64 ino) := (hr3.cell 1).trans rfl
         have c2 : w3.cell? ⟨g2, 2, none⟩ = some (.int .u64 (ser : Int)) := (hr3.cell 2).trans rfl
         have c3 : w3.cell? ⟨g2, 3, none⟩ = some (.int .i64 kind) := (hr3.cell 3).trans rfl
         have c4 : w3.cell? ⟨g2, 4, none⟩ = some (.int .u32 (ck : Int)) := (hr3.cell 4).trans rfl
         rw [HR.out]
         clear hr3 hb))
    go_ret
    exact ⟨rfl, HB3.out⟩
end Go.Proofs.YtijffkklhgnknaaDoor
