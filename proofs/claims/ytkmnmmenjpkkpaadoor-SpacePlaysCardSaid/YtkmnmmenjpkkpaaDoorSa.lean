/- The laws' first test; the calls as laws make them. Conditions: the library's table lies there. -/
import Derived.Test.YtkmnmmenjpkkpaaDoorSn
set_option linter.unusedVariables false
namespace Go.Proofs.YtkmnmmenjpkkpaaDoor
open Go.RowKit

/-- A space of the call's own: made since w0, all that lay below is as it was. -/
structure Own (w0 w : World) (g N : Nat) (S : Nat → Nat) : Prop where
  sp : Spc w g N S
  below : Below w0.heap.size w0 w
  new : w0.heap.size ≤ g
section
variable {w0 w w' : World} {g N : Nat} {S S' : Nat → Nat}
theorem Own.up (h : Own w0 w g N S) (h2 : Spc w' g N S') (k : w.grownBy w' (some g)) : Own w0 w' g N S' := ⟨h2, h.below.grown k h.below.size (fun j e => by injection e with e; rw [← e]; exact h.new), h.new⟩
theorem Own.drewN (h : Own w0 w g N S) (q : Nat) : Own w0 (w.drewN q) g N S := ⟨h.sp.drewN q, below_drewN h.below q, h.new⟩
theorem Own.kept (h : Own w0 w g N S) (k : Below w.heap.size w w') : Own w0 w' g N S := ⟨h.sp.kept k, h.below.trans (k.mono h.below.size), h.new⟩
theorem own_new (h1 : 1 ≤ N) (h2 : N ≤ 1024) (w : World) (hT : Tab w) : Calls Tryd.prog 9 #[.int .i64 (N : Int)] w fun e w' => ∃ g, e = .returned (.tuple #[.pointer (some ⟨g, 0, none⟩), .int .i64 0]) ∧ Own w w' g N (fun _ => 0) :=
  (new_any N h1 h2 w hT).mono fun e w' ⟨g, he, hg, hs, hb⟩ => ⟨g, he, hs, hb, hg⟩
theorem own_take (h : Own w0 w g N S) : Calls Tryd.prog 11 #[.pointer (some ⟨g, 0, none⟩)] w fun e w' => e = .returned (.tuple #[.int .i64 (tkA (ft N S)), .int .i64 (tkE (ft N S))]) ∧ Own w0 w' g N (tkS S (ft N S)) ∧ w.grownBy w' (some g) :=
  (take_any h.sp).mono fun e w' ⟨he, hs, hg⟩ => ⟨he, h.up hs hg, hg⟩
theorem own_some (h : Own w0 w g N S) {m : Nat} (hm : ft N S = some m) : Calls Tryd.prog 11 #[.pointer (some ⟨g, 0, none⟩)] w fun e w' => e = .returned (.tuple #[.int .i64 (m : Int), .int .i64 0]) ∧ Own w0 w' g N (putN S m 1) ∧ w.grownBy w' (some g) := by
  have := own_take h
  rw [hm] at this
  exact this
theorem own_full (h : Own w0 w g N S) (hm : ft N S = none) : Calls Tryd.prog 11 #[.pointer (some ⟨g, 0, none⟩)] w fun e w' => e = .returned (.tuple #[.int .i64 0, .int .i64 28]) ∧ Own w0 w' g N S ∧ w.grownBy w' (some g) := by
  have := own_take h
  rw [hm] at this
  exact this
theorem own_mark (h : Own w0 w g N S) (z : Int) : Calls Tryd.prog 13 #[.pointer (some ⟨g, 0, none⟩), .int .i64 z] w fun e w' => e = .returned (.int .i64 (mv N S z 0)) ∧ Own w0 w' g N (chS N S z 0 1) ∧ w.grownBy w' (some g) :=
  (mark_any h.sp z).mono fun e w' ⟨he, hs, hg⟩ => ⟨he, h.up hs hg, hg⟩
theorem own_give (h : Own w0 w g N S) (z : Int) : Calls Tryd.prog 15 #[.pointer (some ⟨g, 0, none⟩), .int .i64 z] w fun e w' => e = .returned (.int .i64 (mv N S z 1)) ∧ Own w0 w' g N (chS N S z 1 2) ∧ w.grownBy w' (some g) :=
  (give_any h.sp z).mono fun e w' ⟨he, hs, hg⟩ => ⟨he, h.up hs hg, hg⟩
theorem own_undo (h : Own w0 w g N S) (z : Int) : Calls Tryd.prog 16 #[.pointer (some ⟨g, 0, none⟩), .int .i64 z] w fun e w' => e = .returned (.int .i64 (mv N S z 1)) ∧ Own w0 w' g N (chS N S z 1 0) ∧ w.grownBy w' (some g) :=
  (undo_any h.sp z).mono fun e w' ⟨he, hs, hg⟩ => ⟨he, h.up hs hg, hg⟩
theorem own_settle (h : Own w0 w g N S) : Calls Tryd.prog 17 #[.pointer (some ⟨g, 0, none⟩)] w fun e w' => e = .returned (.int .i64 (nBack N S : Int)) ∧ Own w0 w' g N (seS S) ∧ w.grownBy w' (some g) :=
  (settleS_any h.sp).mono fun e w' ⟨he, hs, hg⟩ => ⟨he, h.up hs hg, hg⟩
theorem own_free (h : Own w0 w g N S) : Calls Tryd.prog 19 #[.pointer (some ⟨g, 0, none⟩)] w fun e w' => e = .returned (.int .i64 (nFree N S : Int)) ∧ w' = w := free_any h.sp
theorem own_state (h : Own w0 w g N S) (z : Int) : Calls Tryd.prog 21 #[.pointer (some ⟨g, 0, none⟩), .int .i64 z] w fun e w' => e = .returned (.int .i64 (stv N S z)) ∧ ∃ q, w' = w.drewN q := state_any h.sp z
end

def s0 : Nat → Nat := fun _ => 0
theorem s_ft0 : ft 1 s0 = some 0 := ft_is (by omega) rfl (fun j hj => absurd hj (Nat.not_lt_zero _))
theorem put_at (S : Nat → Nat) (i v : Nat) : putN S i v i = v := by unfold putN; rw [if_pos rfl]
theorem put_off {S : Nat → Nat} {i v j : Nat} (h : j ≠ i) : putN S i v j = S j := by unfold putN; rw [if_neg h]
theorem s_ft1 : ft 1 (putN s0 0 1) = none := ft_no fun j hj => by
  obtain rfl : j = 0 := by omega
  rw [put_at]
  omega
theorem s_mv : mv 1 (putN s0 0 1) 0 1 = 0 := by
  have := mv_in (N := 1) (S := putN s0 0 1) (a := 0) (k := 1) (by omega)
  rw [put_at, if_pos rfl] at this
  exact this
theorem s_ch : chS 1 (putN s0 0 1) 0 1 2 = putN (putN s0 0 1) 0 2 := chS_do (a := 0) s_mv
theorem s_back : nBack 1 (putN (putN s0 0 1) 0 2) = 1 := by
  unfold nBack
  rw [cnt_succ, cnt_zero, put_at]
  rfl
theorem s_free : nFree 1 (seS (putN (putN s0 0 1) 0 2)) = 1 := by
  unfold nFree seS
  rw [cnt_succ, cnt_zero, put_at]
  rfl

set_option maxHeartbeats 400000 in
theorem awake_any (w : World) (hT : Tab w) : Calls Tryd.prog 8 #[] w fun e w' => e = .returned (.bool true) ∧ Below w.heap.size w w' := by
  have HT := Lib.hid hT
  clear hT
  go_enter Tryd.func8, Tryd.ntmps8
  go_wp2_with (first
    | (go_at_call 9; refine (own_new (N := 1) (by omega) (by omega) _ HT.out).mono ?_; rintro e w1 ⟨g, rfl, h1⟩; have H1 := Lib.hid (p := Own w w1 g 1 s0) h1; clear h1)
    | (go_at_call 11; refine (own_some H1.out s_ft0).mono ?_; rintro e w2 ⟨rfl, h2, _⟩; have H2 := Lib.hid h2; clear h2)
    | (go_at_call 11; refine (own_full H2.out s_ft1).mono ?_; rintro e w3 ⟨rfl, h3, _⟩; have H3 := Lib.hid h3; clear h3)
    | (go_at_call 15; refine (own_give H3.out 0).mono ?_; rw [s_mv, s_ch]; rintro e w4 ⟨rfl, h4, _⟩; have H4 := Lib.hid h4; clear h4)
    | (go_at_call 17; refine (own_settle H4.out).mono ?_; rw [s_back]; rintro e w5 ⟨rfl, h5, _⟩; have H5 := Lib.hid h5; clear h5)
    | (go_at_call 19; refine (own_free H5.out).mono ?_; rw [s_free]; rintro e w6 ⟨rfl, rfl⟩))
  go_ret
  exact ⟨rfl, H5.out.below⟩
end Go.Proofs.YtkmnmmenjpkkpaaDoor
