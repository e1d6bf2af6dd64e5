/- A hash in memory: made new, how much of it no block has taken, and eight words as bytes. Condition: the listed tables. -/
import Derived.Test.YtibnmhaipogleaaDoorMgSpread
set_option linter.unusedVariables false
namespace Go.Proofs.YtibnmhaipogleaaDoor
open Go.RowKit

/-- A hash's cells: eight words, the rest's bytes, how many bytes were added. -/
def hcs (s : S8) (f : Nat → UInt8) (n : Nat) : List Value := arr 8 s.at ++ (brr 64 f ++ [.int .u64 (n : Int)])
theorem hcs_len (s : S8) (f : Nat → UInt8) (n : Nat) : (hcs s f n).length = 73 := by simp [hcs, arr_len, brr_len]
theorem hcs_one (s : S8) (f : Nat → UInt8) (n : Nat) : ∀ u ∈ hcs s f n, u.oneCell' = true := by
  intro u hu
  rcases List.mem_append.1 hu with h | h
  · exact arr_one _ _ u h
  · rcases List.mem_append.1 h with h | h
    · exact brr_one _ _ u h
    · rw [List.mem_singleton.1 h]
      rfl
theorem hcs_count (s : S8) (f : Nat → UInt8) (n : Nat) : (hcs s f n)[72]? = some (.int .u64 (n : Int)) := by
  unfold hcs
  rw [List.getElem?_append_right (by rw [arr_len]; omega), arr_len, List.getElem?_append_right (by rw [brr_len]; omega), brr_len]
  rfl
theorem hcs_words (s : S8) (f : Nat → UInt8) (n : Nat) : ((hcs s f n).drop 0).take 8 = arr 8 s.at := by
  unfold hcs
  rw [List.drop_zero, List.take_left' (arr_len _ _)]
theorem hcs_rest (s : S8) (f : Nat → UInt8) (n : Nat) : ((hcs s f n).drop 8).take 64 = brr 64 f := by
  unfold hcs
  rw [List.drop_left' (arr_len _ _), List.take_left' (brr_len _ _)]
theorem hcs_set (s : S8) (f : Nat → UInt8) (n m : Nat) : (hcs s f n).set 72 (.int .u64 (m : Int)) = hcs s f m := by
  unfold hcs
  rw [List.set_append_right _ _ (by rw [arr_len]; omega), arr_len, List.set_append_right _ _ (by rw [brr_len]; omega), brr_len]
  rfl
/-- A hash lies at g. -/
abbrev HashAt (w : World) (g : Nat) (s : S8) (f : Nat → UInt8) (n : Nat) : Prop := Row w g 100 (hcs s f n)
theorem HashAt.count {w : World} {g : Nat} {s : S8} {f : Nat → UInt8} {n : Nat} (h : HashAt w g s f n) : w.cell? ⟨g, 72, none⟩ = some (.int .u64 (n : Int)) := by rw [Row.cell h, hcs_count]
theorem HashAt.words {w : World} {g : Nat} {s : S8} {f : Nat → UInt8} {n : Nat} (h : HashAt w g s f n) : w.rangeAt g 0 (arr 8 s.at) := by
  have := Row.range h 0 8
  rwa [hcs_words] at this
theorem HashAt.rest {w : World} {g : Nat} {s : S8} {f : Nat → UInt8} {n : Nat} (h : HashAt w g s f n) : w.rangeAt g 8 (brr 64 f) := by
  have := Row.range h 8 64
  rwa [hcs_rest] at this

theorem held_any (g : Nat) (s : S8) (f : Nat → UInt8) (n : Nat) (w : World) (h : HashAt w g s f n) (hn : n ≤ 9223372036854775807) :
    Calls Tryd.prog 56 #[.pointer (some ⟨g, 0, none⟩)] w fun e w' => e = .returned (.int .i64 (n % 64 : Nat)) ∧ w' = w := by
  have hc := HashAt.count h
  go_enter Tryd.func56, Tryd.ntmps56
  go_wp2
  go_ret
  exact ⟨by simp, rfl⟩

theorem built_new : Tryd.prog.built 100 [(0, .agg (arr 8 h0.at).toArray)] = some (hcs h0 (fun _ => 0) 0).toArray := by
  rw [arr8]
  kernel_rfl

theorem new_any (w : World) (hT : Tabs w) : Calls Tryd.prog 39 #[] w fun e w' => ∃ g, e = .returned (.pointer (some ⟨g, 0, none⟩)) ∧ HashAt w' g h0 (fun _ => 0) 0 ∧ w.heap.size ≤ g ∧ Below w.heap.size w w' := by
  have i42 := Lib.hid (p := (Tryd.prog.info? 97).map (·.size) = some 8) (by kernel_rfl)
  go_enter Tryd.func39, Tryd.ntmps39
  go_wp2_with (first
    | (refine step_load rfl 1 rfl 97 (.global 0) rfl 0 (by rfl) (arr 8 h0.at) _ hT.h Tryd.underlying97 rfl (by rw [arr_len]; exact i42) ?_)
    | (refine step_build rfl 100 #[(0, .tmp 1)] rfl [(0, .agg (arr 8 h0.at).toArray)] ?hv _ built_new ?_; case hv => (simp [Act.eval, Act.put]))
    | (refine step_box rfl 3 rfl 100 (.tmp 2) rfl (hcs h0 (fun _ => 0) 0) (by rfl) ?_; intro g1 w1 hr1 hg1 hb1 hs1))
  go_ret
  exact ⟨g1, rfl, hr1, by rw [hg1.out]; exact Nat.le_refl _, hb1⟩
end Go.Proofs.YtibnmhaipogleaaDoor
