/- The program's own block of bytes, and what asks whether a write is one of a block: what each call leaves. No conditions but those named. -/
import Derived.Test.YtnajlineipapdaaWhl
import Derived.Test.YtnajlineipapdaaDisk
set_option linter.unusedVariables false
namespace Go.Proofs.Ytnajlineipapdaa
open Go.RowKit

theorem info8 : (Try.prog.info? 5).map (·.size) = some 1 := by kernel_rfl
theorem block_any (A : Option Addr) (n c : Nat) (l : List UInt8) (hn : n = l.length) (w : World) (hA : Hol w A l) :
    Calls Try.prog 38 #[.slice A n c] w (Fresh w 256 (wh l)) := by
  obtain ⟨i, U⟩ := u8_tab
  have HA := Lib.hid hA
  have HN := Lib.hid hn
  clear hA hn
  go_enter Try.func38, Try.ntmps38
  go_wp2_with (first
    | (refine step_make rfl _ _ 32 5 i U rfl 256 rfl rfl (by omega) ?_; intro g w1 hr1 hg1 hb1 hs1)
    | (refine wp_copy rfl _ _ 32 32 rfl 5 U.ht info8 g 0 256 256 256 5 (fun _ => 0) rfl hr1 A n c l rfl HN.out (HA.out.below hb1) (by rw [Nat.zero_add]; exact Nat.min_le_right _ _) ?_; intro w2 k hr2 hu2))
  go_ret
  refine ⟨g, rfl, ?_, by rw [hg1.out]; exact Nat.le_refl _, hb1.grown hu2.out.by_ hb1.size (fun k hk => by injection hk with hk; rw [← hk, hg1.out]; exact Nat.le_refl _)⟩
  have e1 : brr 256 (ov 0 (l.take 256) fun _ => 0) = brr 256 (wh l) := brr_congr fun j hj => by
    unfold wh
    by_cases h : j < l.length
    · rw [ov_in (by omega) (by rw [List.length_take]; omega)]
      simp [List.getElem?_take, hj]
    · rw [ov_out (by rw [List.length_take]; omega), List.getD_eq_getElem?_getD, List.getElem?_eq_none (by omega)]
      rfl
  rw [← e1]
  exact hr2

theorem of_any (z : Int) (w : World) :
    Calls Try.prog 53 #[.int .i64 z] w fun e w' => e = .returned (.func (.func 62) #[] #[.pointer (some ⟨w.heap.size, 0, none⟩)]) ∧ w' = w.alloc (.cells #[.int .i64 z] 3) := by
  go_enter Try.func53, Try.ntmps53
  go_wp2
  go_ret
  exact ⟨rfl, rfl⟩
theorem of1_any (x z : Int) (v : Value) (gc : Nat) (w : World) (hc : w.cell? ⟨gc, 0, none⟩ = some (.int .i64 z)) :
    Calls Try.prog 62 #[.agg #[.int .i64 x, v], .pointer (some ⟨gc, 0, none⟩)] w fun e w' => e = .returned (.bool (x == z)) ∧ w' = w.alloc (.cells #[.int .i64 x, v] 79) := by
  have hlt := World.block_lt_of_cell? w _ hc
  have hc2 : (w.alloc (.cells #[.int .i64 x, v] 79)).cell? ⟨gc, 0, none⟩ = some (.int .i64 z) := by rw [World.cell?_alloc_past _ _ _ hlt]; exact hc
  clear hc
  go_enter Try.func62, Try.ntmps62
  go_wp2
  go_ret
  exact ⟨rfl, rfl⟩
end Go.Proofs.Ytnajlineipapdaa
