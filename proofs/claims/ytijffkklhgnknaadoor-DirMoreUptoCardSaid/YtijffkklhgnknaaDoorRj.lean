/- The laws' first test: the walk. Conditions: the library's tables lie there. -/
import Derived.Test.YtijffkklhgnknaaDoorRi
import Derived.Test.YtijffkklhgnknaaDoorQq
set_option linter.unusedVariables false
set_option maxRecDepth 20000
namespace Go.Proofs.YtijffkklhgnknaaDoor
open Go.RowKit
theorem wide_awk : Wide [enA, enB] := fun e he => by
  simp only [List.mem_cons, List.not_mem_nil, or_false] at he
  rcases he with rfl | rfl <;> exact ⟨by decide, by decide⟩
theorem size_awk : ∀ e ∈ [enA, enB], e.nm.size ≤ 4294967296 := fun e he => by
  simp only [List.mem_cons, List.not_mem_nil, or_false] at he
  rcases he with rfl | rfl <;> decide
def AwkTold (w : World) (e : Ending) (w' : World) : Prop := ∃ g c, e = .returned (.slice (some ⟨g, 0, none⟩) 1 c) ∧ Hid (w'.cell? ⟨g, 0, none⟩ = some (.string ⟨#[98]⟩)) ∧ Below w.heap.size w w'
def AwkLeaves (w : World) (e : Ending) (w' : World) : Prop := ∃ g c o g2 c2 o2, e = .returned (.tuple #[.slice (some ⟨g, o, none⟩) 1 c, .int .i64 0]) ∧ Hid (w'.cell? ⟨g, o, none⟩ = some (.slice (some ⟨g2, o2, none⟩) 256 c2) ∧ w'.cell? ⟨g2, o2, none⟩ = some (.int .u8 2)) ∧ Below w.heap.size w w'
theorem awk_told_any (A : Option Addr) (c : Nat) (w : World) (h : Lies ecs 5 w A [enA, enB]) : Calls Tryd.prog 17 #[.slice A 2 c, .int .u32 0, .int .i64 25] w (AwkTold w) := by
  have h1 := told_any A 2 c 0 25 [enA, enB] (by decide) w h rfl size_awk (by decide) (by decide)
  refine h1.mono ?_
  rintro e w' ⟨A', c', k, L, rfl, ho, hk, h2, h3, hb⟩
  obtain rfl := awk_told h2 h3
  rw [awk_fit] at hk
  subst hk
  rcases own_er ho with ⟨_, h0, _⟩ | ⟨g, Z, rfl, hg, hr, _, _⟩
  · cases h0
  · exact ⟨g, c', rfl, Lib.hid (by have h5 := hr.at_ (i := 0) (x := enB) rfl 0 _ rfl; rw [show (0 * 5 + 0 : Nat) = 0 from rfl] at h5; exact h5), hb⟩
theorem awk_leaves_any (A : Option Addr) (c : Nat) (w : World) (h : Lies ecs 5 w A [enA, enB]) (hc : 2 ≤ c) (hT : Tabs w) : Calls Tryd.prog 11 #[.slice A 2 c] w (AwkLeaves w) := by
  have h1 := leaves_any A 2 c [enA, enB] (by decide) w h rfl hc size_awk wide_awk hT
  have e1 : lvL [enA, enB] = [leafB [enA, enB]] := by unfold lvL; rw [if_pos awk_may, awk_leaves]
  have e2 : lvE [enA, enB] = 0 := by unfold lvE; rw [if_pos awk_may]
  rw [e1, e2] at h1
  refine h1.mono ?_
  rintro e w' ⟨A', m, c', P, rfl, ⟨ho, hp, h8⟩, hl, hm, hb⟩
  obtain ⟨p, rfl⟩ : ∃ p, P = [p] := by
    have := congrArg List.length hl
    simp at this
    exact List.length_eq_one_iff.1 this
  simp at hl
  obtain rfl : m = 1 := by simpa using hp.symm
  have hlen := leafB_len [enA, enB]
  have hL : Lies sc 1 w' A' [p] := Lies.own (by decide) sc_len ho
  obtain ⟨g, o, rfl, hc1⟩ := hL.at_ (j := 0) (by simp)
  have h9 := (h8 p (by simp)).hol
  rw [hl] at h9
  obtain ⟨g2, o2, hA2, _, hc2⟩ := h9.some_ (by rw [hlen]; decide)
  have h10 := hc2 0 2 awk_first
  have h11 := hc1 0 (bvv p) rfl
  refine ⟨g, c', o, g2, p.c, o2, rfl, Lib.hid ⟨?_, ?_⟩, hb⟩
  · have e3 : bvv p = .slice (some ⟨g2, o2, none⟩) 256 p.c := by unfold bvv; rw [hA2, hl, hlen]
    rw [e3] at h11
    simpa using h11
  · simpa using h10
set_option maxHeartbeats 2000000 in
theorem awake_any (w : World) (hT : Tabs w) : Calls Tryd.prog 9 #[] w fun e w' => e = .returned (.bool true) ∧ Below w.heap.size w w' := by
  have HT := Lib.hid hT
  have hr1 := Lib.hid (built_ref 1 1)
  have hr2 := Lib.hid (built_ref 2 2)
  have he1 := Lib.hid (built_ent4 ⟨#[97]⟩ 1 1 1 2)
  have he2 := Lib.hid (built_ent4 ⟨#[98]⟩ 2 2 1 1)
  clear hT
  go_enter Tryd.func9, Tryd.ntmps9
  go_wp2_with (first
    | (refine step_build rfl 40 _ rfl [(0, .int .i64 1), (1, .int .u64 1)] ?hv _ hr1.out ?_; case hv => simp [Act.eval]
       clear hr1)
    | (refine step_build rfl 40 _ rfl [(0, .int .i64 2), (1, .int .u64 2)] ?hv2 _ hr2.out ?_; case hv2 => simp [Act.eval]
       clear hr2)
    | (refine step_build rfl 42 _ rfl [(0, .string ⟨#[97]⟩), (1, .agg #[.int .i64 1, .int .u64 1]), (2, .int .i64 1), (3, .int .u32 2)] ?hv3 _ he1.out ?_; case hv3 => simp [Act.eval]
       clear he1)
    | (refine step_build rfl 42 _ rfl [(0, .string ⟨#[98]⟩), (1, .agg #[.int .i64 2, .int .u64 2]), (2, .int .i64 1), (3, .int .u32 1)] ?hv4 _ he2.out ?_; case hv4 => simp [Act.eval]
       clear he2)
    | (refine step_bs2 rfl 22 42 _ _ rfl Tryd.underlying22 5 (info_ent ent0) (by decide) _ zero_ent (ecs enA) (ecs enB) rfl rfl rfl rfl ?_; intro g1 w1 hr1 hg1 hb1
       have HL1 := Lib.hid (p := Lies ecs 5 w1 (some ⟨g1, 0, none⟩) [enA, enB]) (.inr ⟨g1, 0, rfl, fun j x hx i u hu => by
         rw [hr1.cell]
         rcases j with _ | _ | j
         · simp at hx; subst hx
           have hi : i < 5 := by have := (List.getElem?_eq_some_iff.1 hu).1; simpa [ecs_len] using this
           rw [show 0 + 0 * 5 + i = i by omega, List.getElem?_append_left (by rw [ecs_len]; omega)]; exact hu
         · simp at hx; subst hx
           rw [List.getElem?_append_right (by rw [ecs_len]; omega), ecs_len, show 0 + (0 + 1) * 5 + i - 5 = i by omega]; exact hu
         · simp at hx⟩)
       have B1 := Lib.hid hb1
       clear hr1 hg1 hb1)
    | (go_at_call 17; refine (awk_told_any _ _ _ HL1.out).mono ?_; rintro e w2 ⟨g2, c2, rfl, HC2, hb2⟩
       have HL2 := Lib.hid (HL1.out.below hb2)
       have B2 := Lib.hid (below_nxt hb2 B1.out)
       clear hb2)
    | (go_at_call 11; refine (awk_leaves_any _ _ _ HL2.out (by decide) (tabs_below HT.out B2.out)).mono ?_; rintro e w3 ⟨g3, c3, o3, g4, c4, o4, rfl, HC3, hb3⟩
       have f1 := HC3.out.1
       have f2 := HC3.out.2
       have f3 : w3.cell? ⟨g2, 0, none⟩ = some (.string ⟨#[98]⟩) := (hb3.cell (p := ⟨g2, 0, none⟩) (World.block_lt_of_cell? w2 _ HC2.out)).trans HC2.out
       have B3 := Lib.hid (below_nxt hb3 B2.out)
       clear hb3))
  go_ret
  exact ⟨rfl, B3.out⟩
end Go.Proofs.YtijffkklhgnknaaDoor
