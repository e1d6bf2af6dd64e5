/- A new space gives its blocks in order: the walk. Condition: the library's table lies there. -/
import Derived.Test.YtkmnmmenjpkkpaaDoorSa
import Derived.OpenShut
set_option linter.unusedVariables false
namespace Go.Proofs.YtkmnmmenjpkkpaaDoor.spaceLeast
open Go.RowKit

/-- The first i blocks are taken. -/
def up (i : Nat) : Nat → Nat := fun j => if j < i then 1 else 0
theorem up_zero : up 0 = fun _ => 0 := by funext j; simp [up]
theorem up_next (i : Nat) : putN (up i) i 1 = up (i + 1) := by
  funext j
  unfold up
  by_cases e : j = i
  · rw [e, put_at, if_pos (by omega)]
  · rw [put_off e]
    by_cases h : j < i
    · rw [if_pos h, if_pos (by omega)]
    · rw [if_neg h, if_neg (by omega)]
theorem up_ft {i N : Nat} (h : i < N) : ft N (up i) = some i := ft_is h (by unfold up; rw [if_neg (by omega)]) (fun j hj => by unfold up; rw [if_pos hj]; omega)
theorem up_full (N : Nat) : ft N (up N) = none := ft_no fun j hj => by unfold up; rw [if_pos hj]; omega
theorem up_free (N : Nat) : nFree N (up N) = 0 := by
  have : ∀ n, n ≤ N → cnt n (fun j => up N j == 0) = 0 := by
    intro n
    induction n with
    | zero => intro _; exact cnt_zero _
    | succ n ih =>
      intro h
      rw [cnt_succ, ih (by omega)]
      simp [up, show n < N by omega]
  unfold nFree
  exact this N (Nat.le_refl _)
attribute [irreducible] up
theorem walk (W : World) (z : Int) (hw : (Lit.int .u16 z).wf = true) (hT : Tab W) : Calls Tryd.prog 5 #[.int .u16 z] W fun e w' => e = .returned (.bool true) ∧ Below W.heap.size W w' := by
  have hb := bounds_u16 hw
  obtain ⟨b, rfl⟩ := Int.eq_ofNat_of_zero_le hb.1
  obtain ⟨N, hN⟩ : ∃ N, 1 + b % 1024 = N := ⟨_, rfl⟩
  have hN1 : IntKind.i64.wrap (1 + (b : Int) % 1024) = (N : Int) := by rw [IntKind.wrap_i64]; omega
  have hN2 : wrap64 (1 + (b : Int) % 1024) = (N : Int) := by unfold wrap64; omega
  have H := Lib.hid (p := 1 ≤ N ∧ N ≤ 1024) (by omega)
  have HT := Lib.hid hT
  clear hT hw hb hN
  go_enter Tryd.func5, Tryd.ntmps5
  go_wp2_with (first
    | (go_at_call 8; refine (awake_any _ HT.out).mono ?_; rintro e w1 ⟨rfl, hb1⟩; have HB1 := Lib.hid hb1; clear hb1)
    | (go_at_call 9; refine (own_new H.out.1 H.out.2 _ (HT.out.below HB1.out HT.out.lt)).mono ?_; rintro e w2 ⟨g, rfl, h2⟩; have H2 := Lib.hid h2; clear h2))
  have H2' : Hid (Own w1 w2 g N (up 0)) := Lib.hid (by rw [up_zero]; exact H2.out)
  go_loopw [6] (fun i wr => ∃ k : Nat, k ≤ N ∧ i = .int .i64 (k : Int) ∧ Hid (Own w1 wr g N (up k))) (fun i _ => N - (intOf i).toNat)
  case atStart => exact ⟨0, Nat.zero_le _, rfl, H2'⟩
  case round =>
    clear H2 H2'
    obtain ⟨k, hk, rfl, hS⟩ := hrel
    by_cases hlt : k < N
    · have hw1 : wrap64 ((k : Int) + 1) = (k : Int) + 1 := by unfold wrap64; have := H.out.2; omega
      have hw2 : IntKind.i64.wrap ((k : Int) + 1) = (k : Int) + 1 := by rw [IntKind.wrap_i64]; have := H.out.2; omega
      have hkN : (k : Int) < (N : Int) := by omega
      have HK := Lib.hid hlt
      clear hlt hk
      go_wp2_with (go_at_call 11; refine (own_some hS.out (up_ft HK.out)).mono ?_; rw [up_next]; rintro e w5 ⟨rfl, h5, _⟩; have H5 := Lib.hid h5; clear h5)
      go_roundw
      case rel => exact ⟨k + 1, HK.out, by go_num, H5⟩
      case measure => exact down HK.out
    · obtain rfl : k = N := by omega
      go_wp2_with (first
        | (go_at_call 11; refine (own_full hS.out (up_full k)).mono ?_; rintro e w5 ⟨rfl, h5, _⟩; have H5 := Lib.hid h5; clear h5)
        | (go_at_call 19; refine (own_free H5.out).mono ?_; rw [up_free]; rintro e w6 ⟨rfl, rfl⟩))
      go_ret
      exact ⟨rfl, HB1.out.trans (H5.out.below.mono HB1.out.size)⟩
end Go.Proofs.YtkmnmmenjpkkpaaDoor.spaceLeast
