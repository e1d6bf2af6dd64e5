/- The record that is read by asking a cursor, by package node: the walk. Conditions: its bytes are there. -/
import Derived.Test.YtibnmhaipogleaaDoorNext
import Derived.Deep.RegionHeld
set_option linter.unusedVariables false
set_option maxRecDepth 20000
namespace Go.Proofs.YtibnmhaipogleaaDoor
open Go.RowKit

/-- What the call leaves. -/
def NextRec (g : Nat) (l : List UInt8) (bad : Bool) (w : World) (e : Ending) (w' : World) : Prop :=
  e = .returned (.agg (recOf l).cs.toArray) ∧ Hid (Cur w' g (l.drop 42) bad) ∧ Hid (w.grownBy w' (some g))
set_option maxHeartbeats 2000000 in
theorem next_rec (g : Nat) (l : List UInt8) (bad : Bool) (w : World) (hc : Cur w g l bad) (h42 : 42 ≤ l.length) (hl : l.length ≤ 256) :
    Calls Tryd.prog 30 #[.func (.func 31) #[.pointer (some ⟨g, 0, none⟩)] #[], .func (.func 32) #[.pointer (some ⟨g, 0, none⟩)] #[]] w (NextRec g l bad w) := by
  obtain ⟨i, U⟩ := u8_tab
  have h8 := Lib.hid (p := (Tryd.prog.info? 5).map (·.size) = some 1) (by rw [U.hi]; simp [U.h1])
  have i35 := Lib.hid (p := ∀ r : RecV, (Tryd.prog.info? 26).map (·.size) = some r.cs.length) (fun r => by rw [r.cs_len]; exact info_rec)
  have hz := Lib.hid zero_rec
  have HC := Lib.hid hc
  have H42 := Lib.hid h42
  have HL := Lib.hid hl
  obtain ⟨a, ha⟩ : ∃ a, a = num (l.take 2) := ⟨_, rfl⟩
  obtain ⟨e, he⟩ : ∃ e, e = num ((l.drop 2).take 4) := ⟨_, rfl⟩
  obtain ⟨s, hs⟩ : ∃ s, s = num ((l.drop 6).take 4) := ⟨_, rfl⟩
  have ba : a < 65536 := by rw [ha]; exact num_take_lt l 2
  have be : e < 4294967296 := by rw [he]; exact num_take_lt (l.drop 2) 4
  have bs : s < 4294967296 := by rw [hs]; exact num_take_lt (l.drop 6) 4
  have wa : IntKind.i64.wrap (a : Int) = (a : Int) := by rw [IntKind.wrap_i64]; omega
  have we : IntKind.u32.wrap (e : Int) = (e : Int) := by rw [IntKind.wrap_u32']; omega
  have ws : IntKind.u32.wrap (s : Int) = (s : Int) := by rw [IntKind.wrap_u32']; omega
  have we' : (e : Int) % 4294967296 = (e : Int) := by omega
  have ws' : (s : Int) % 4294967296 = (s : Int) := by omega
  have HA := Lib.hid ha
  have HE := Lib.hid he
  have HS := Lib.hid hs
  clear hc h42 hl ha he hs ba be bs
  go_enter Tryd.func30, Tryd.ntmps30
  go_wp2_with (first
    | (refine step_alloc rfl 4 rfl 26 rfl _ hz ?_; intro g4 w1 hr1 hg1 hb1 hs1)
    | (refine step_alloc rfl 5 rfl 26 rfl _ hz ?_; intro g5 w2 hr2 hg2 hb2 hs2
       have N2 := Lib.hid (p := NX w w2 g g4 g5 rec0 l bad) ⟨hr2, hr1.kept hb2, HC.out.below (hb1.trans (hb2.mono hb1.size)), ⟨by have := HC.out.lt; have := hg1.out; omega, by have := hr1.lt; have := hg2.out; omega⟩, by rw [hg1.out]; exact Nat.le_refl _, grown_of_below (hb1.trans (hb2.mono hb1.size))⟩
       clear hr1 hg1 hb1 hs1 hr2 hg2 hb2 hs2)
    | (go_at_call_of 31 (Value.int IntKind.i64 2); refine (num2_at g l bad _ N2.out.cur (by have := H42.out; omega) HL.out).mono ?_; rintro x3 w3 ⟨rfl, hc3, hg3⟩; rw [← HA.out]
       have N3 := Lib.hid (N2.out.turn hc3.out hg3.out)
       have c30 : w3.cell? ⟨g5, 0, none⟩ = some (.int .i64 0) := by rw [N3.out.r5.cell]; rfl
       have f30 := N3.out.r5.free 0
       have N4 := Lib.hid (N3.out.put 0 (.int .i64 (a : Int)) ⟨(a : Int), 0, 0, fun _ => 0⟩ rfl)
       clear hc3 hg3))
  refine (num4_at g (l.drop 2) bad _ N4.out.cur (by have := H42.out; rw [List.length_drop]; omega) (by have := HL.out; rw [List.length_drop]; omega)).mono ?_
  rintro x5 w5 ⟨rfl, hc5, hg5⟩
  rw [← HE.out]
  have N5 := Lib.hid (N4.out.turn hc5.out hg5.out)
  have c51 : w5.cell? ⟨g5, 1, none⟩ = some (.int .u32 0) := by rw [N5.out.r5.cell]; rfl
  have f51 := N5.out.r5.free 1
  have N6 := Lib.hid (N5.out.put 1 (.int .u32 (e : Int)) ⟨(a : Int), e, 0, fun _ => 0⟩ rfl)
  clear hc5 hg5 c30 f30 N2 N3 N4
  go_wp2_with fail
  have e6 : (l.drop 2).drop 4 = l.drop 6 := by rw [List.drop_drop]
  rw [e6] at N6
  refine (num4_at g (l.drop 6) bad _ N6.out.cur (by have := H42.out; rw [List.length_drop]; omega) (by have := HL.out; rw [List.length_drop]; omega)).mono ?_
  rintro x7 w7 ⟨rfl, hc7, hg7⟩
  rw [← HS.out]
  have N7 := Lib.hid (N6.out.turn hc7.out hg7.out)
  have c72 : w7.cell? ⟨g5, 2, none⟩ = some (.int .u32 0) := by rw [N7.out.r5.cell]; rfl
  have f72 := N7.out.r5.free 2
  have N8 := Lib.hid (N7.out.put 2 (.int .u32 (s : Int)) ⟨(a : Int), e, s, fun _ => 0⟩ rfl)
  have e10 : (l.drop 6).drop 4 = l.drop 10 := by rw [List.drop_drop]
  rw [e10] at N8
  clear hc7 hg7 c51 f51 N5 N6 N7 e6 e10
  go_wp2_with fail
  generalize w7.setCell ⟨g5, 2, none⟩ (.int .u32 (s : Int)) = w8 at *
  refine wp_region_held_drew (S := fun _ => True) (by kernel_rfl) trivial (fun hHeld => ?_)
  refine wpAnyH_take (i := 0) (oi := ⟨some 18, .fieldAddr 26 (.tmp 5) 3, _, _, _, _⟩) (v := .pointer (some ⟨g5, 3, none⟩)) rfl (by kernel_rfl) (by kernel_rfl) (by kernel_rfl) (fun _ _ _ h => h) (.inl ⟨by rfl, fun w hSw => by go_simp⟩) (by assumption) ?_
  simp only [Act.put, List.setIfInBounds_toArray, List.set_cons_zero, List.set_cons_succ]
  refine wpAnyH_take (i := 1) (oi := ⟨some 19, .slice 24 (.tmp 18) none none none, _, _, _, _⟩) (v := .slice (some ⟨g5, 3, none⟩) 32 32) rfl (by kernel_rfl) (by kernel_rfl) (by kernel_rfl) (fun _ _ _ h => h) (.inl ⟨by rfl, fun w hSw => by go_simp⟩) (by assumption) ?_
  simp only [Act.put, List.setIfInBounds_toArray, List.set_cons_zero, List.set_cons_succ]
  refine wpAnyH_take (i := 2) (oi := ⟨some 20, .move (.tmp 1), _, _, _, _⟩) (v := .func (.func 32) #[.pointer (some ⟨g, 0, none⟩)] #[]) rfl (by kernel_rfl) (by kernel_rfl) (by kernel_rfl) (fun _ _ _ h => h) (.inl ⟨by rfl, fun w hSw => by go_simp⟩) (by assumption) ?_
  simp only [Act.put, List.setIfInBounds_toArray, List.set_cons_zero, List.set_cons_succ]
  refine wpAnyH_ready (rs := [3]) (by kernel_rfl) (by simp) ?_
  refine AllReadyH.cons (o := ⟨some 21, .call ⟨.value (.tmp 20), #[.const (.int .i64 32)], _⟩, _, _, _, _⟩) rfl (fun K hK => ?_) AllReadyH.nil
  go_simp
  refine (take32_at g (l.drop 10) bad _ N8.out.drew.cur (by have := H42.out; rw [List.length_drop]; omega) (by have := HL.out; rw [List.length_drop]; omega)).mono ?_
  rintro x9 w9 ⟨A9, c9, rfl, HH9, hq9, hc9, hg9⟩
  have e42 : (l.drop 10).drop 32 = l.drop 42 := by rw [List.drop_drop]
  rw [e42] at hc9
  have N9 := Lib.hid (N8.out.drew.turn hc9.out hg9.out)
  clear hc9 hg9 hq9 N8 e42 c72 f72
  refine hK.out _ _ trivial (fun hH2 => ?_)
  clear hK K
  refine wpAnyH_ready (rs := [4]) (by kernel_rfl) (by simp) ?_
  refine AllReadyH.cons (o := ⟨some 22, .call ⟨.builtin .copy, #[.tmp 19, .tmp 21], #[29, 29]⟩, _, _, _, _⟩) rfl (fun K hK => ?_) AllReadyH.nil
  refine step_sum rfl (.tmp 19) (.tmp 21) _ _ rfl 5 U.ht h8.out g5 _ ⟨(a : Int), e, s, fun _ => 0⟩ rfl N9.out.r5 A9 c9 ((l.drop 10).take 32) rfl (by have := H42.out; simp; omega) HH9.out ?_
  intro w10 k10 hr10 hg10
  have hrec : RecV.cs ⟨(a : Int), e, s, fun i => ((l.drop 10).take 32).getD i 0⟩ = (recOf l).cs := by
    unfold recOf RecV.cs
    rw [HA.out, HE.out, HS.out]
    congr 1
    refine brr_congr fun j hj => ?_
    simp only [List.getD_eq_getElem?_getD, List.getElem?_take, List.getElem?_drop]
    rw [if_pos hj]
  have N10 := Lib.hid (N9.out.far (r' := recOf l) (by rw [← hrec]; exact hr10) hg10)
  clear hr10 hg10 hrec N9
  refine hK.out _ _ trivial (fun hH3 => ?_)
  clear hK K
  refine wpAnyH_done (by kernel_rfl) ?_ _
  go_wp2_with (first
    | (refine step_load rfl 23 rfl 26 (.tmp 5) rfl g5 rfl (recOf l).cs _ N10.out.r5.all Tryd.underlying26 rfl (i35.out _) ?_)
    | (refine step_store rfl 26 (.tmp 4) (.tmp 23) rfl g4 (by rfl) _ rec0.cs (recOf l).cs (by rfl) N10.out.r4 (by rw [RecV.cs_len, RecV.cs_len]) (i35.out _) (RecV.cs_one _) ?_; intro w11 hr11 hg11 hs11))
  refine bodyPost_ret (results_cell_row rfl _ _ g4 _ _ _ _ rfl hr11 Tryd.underlying26 rfl (by simpa using i35.out (recOf l))) rfl ?_
  have hN := N10.out
  refine ⟨rfl, hN.cur.grown hg11 (fun e => by injection e with e; have := hN.n; omega) (fun k hk cs e => by
    injection hk with hk
    subst hk
    have h5 := hN.r4
    unfold Row at h5
    rw [h5] at e
    injection e with e
    injection e with _ e
    exact absurd e (by decide)), ?_⟩
  exact ⟨hg11.os.trans hN.b.os, hg11.tape.trans hN.b.tape, hg11.output.trans hN.b.output, Nat.le_trans hN.b.size hg11.size, fun k hk hne => (hg11.block k (Nat.lt_of_lt_of_le hk hN.b.size) (fun e => by injection e with e; have := hN.q; omega)).trans (hN.b.block k hk hne)⟩
end Go.Proofs.YtibnmhaipogleaaDoor
