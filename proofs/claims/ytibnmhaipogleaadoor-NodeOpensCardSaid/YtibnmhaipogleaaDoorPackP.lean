/- Four records as a row of cells, and as a node's bytes. No conditions. -/
import Derived.Test.YtibnmhaipogleaaDoorNodeB
import Derived.Test.YtibnmhaipogleaaDoorAesK
set_option linter.unusedVariables false
set_option maxRecDepth 20000
namespace Go.Proofs.YtibnmhaipogleaaDoor
open Go.RowKit

/-- A record as bytes. -/
def RecV.b (r : RecV) : List UInt8 := leb r.a.toNat 2 ++ nonB r.e r.s ++ r.l
theorem RecV.b_len (r : RecV) : r.b.length = 42 := by simp [RecV.b, leb_len, nonB_len, RecV.l_len]
/-- Four records' cells. -/
def recsC (R : Nat → RecV) : List Value := (R 0).cs ++ ((R 1).cs ++ ((R 2).cs ++ (R 3).cs))
theorem recsC_len (R : Nat → RecV) : (recsC R).length = 140 := by simp [recsC, RecV.cs_len]
theorem recsC_one (R : Nat → RecV) : ∀ v ∈ recsC R, v.oneCell' = true := by
  intro v hv
  unfold recsC at hv
  simp only [List.mem_append] at hv
  rcases hv with h | h | h | h <;> exact RecV.cs_one _ v h
theorem recsC_part (R : Nat → RecV) (k : Nat) (hk : k < 4) : ((recsC R).drop (k * 35)).take 35 = (R k).cs := by
  have h0 := (R 0).cs_len
  have h1 := (R 1).cs_len
  have h2 := (R 2).cs_len
  have h3 := (R 3).cs_len
  unfold recsC
  match k, hk with
  | 0, _ => rw [Nat.zero_mul, List.drop_zero, List.take_left' h0]
  | 1, _ => rw [List.drop_left' (by omega), List.take_left' h1]
  | 2, _ => rw [← List.append_assoc, List.drop_left' (by simp; omega), List.take_left' h2]
  | 3, _ => rw [← List.append_assoc, ← List.append_assoc, List.drop_left' (by simp; omega), List.take_of_length_le (by omega)]
theorem recsC_extract (R : Nat → RecV) (k : Nat) (hk : k < 4) : (recsC R).toArray.extract (k * 35) (k * 35 + 35) = (R k).cs.toArray := by
  apply Array.ext'
  simp only [List.extract_toArray, List.extract_eq_take_drop, Nat.add_sub_cancel_left]
  exact recsC_part R k hk
theorem run_index_rec (R : Nat → RecV) (k : Nat) (hk : k < 4) (w : World) : (Instr.index 27 (.agg (recsC R).toArray) (.int .i64 (k : Int))).run Tryd.prog w = .ok (.agg (R k).cs.toArray) w := by
  have ht := Tryd.underlying27
  have he := Tryd.underlying26
  have hs := info_rec
  cases hq : Tryd.prog.info? 26 with
  | none => simp [hq] at hs
  | some i =>
    have hi : i.size = 35 := by simpa [hq] using hs
    simp [Instr.index, asIntOf, run_underlying ht, run_underlying he, sizeOf, typeInfo, hq, hi, hk, Go.part, isAgg]
    exact recsC_part R k hk
theorem recs_range {w : World} {g : Nat} {t : TypeId} {R : Nat → RecV} (h : Row w g t (recsC R)) (k : Nat) (hk : k < 4) : w.rangeAt g (k * 35) (R k).cs := by
  have := h.range (k * 35) 35
  rwa [recsC_part R k hk] at this
theorem recsC_set (R : Nat → RecV) (k : Nat) (hk : k < 4) (r : RecV) : (recsC R).take (k * 35) ++ (r.cs ++ (recsC R).drop (k * 35 + 35)) = recsC (fun j => if j = k then r else R j) := by
  have h0 := (R 0).cs_len
  have h1 := (R 1).cs_len
  have h2 := (R 2).cs_len
  have tk : ∀ (q : RecV) (n : Nat), 35 ≤ n → q.cs.take n = q.cs := fun q n h => List.take_of_length_le (by rw [q.cs_len]; exact h)
  have dr : ∀ (q : RecV) (n : Nat), 35 ≤ n → q.cs.drop n = [] := fun q n h => List.drop_eq_nil_of_le (by rw [q.cs_len]; exact h)
  unfold recsC
  match k, hk with
  | 0, _ => simp [h0]
  | 1, _ => simp [h0, h1, List.drop_append, dr (R 0) 70 (by omega)]
  | 2, _ => simp [h0, h1, h2, List.take_append, List.drop_append, tk (R 0) 70 (by omega), dr (R 0) 105 (by omega), dr (R 1) 70 (by omega)]
  | 3, _ => simp [h0, h1, h2, List.take_append, List.drop_append, tk (R 0) 105 (by omega), tk (R 1) 70 (by omega), dr (R 0) 140 (by omega), dr (R 1) 105 (by omega), dr (R 2) 70 (by omega), dr (R 3) 35 (by omega)]
theorem recs0_cs : Tryd.prog.built 27 [] = some (recsC fun _ => rec0).toArray := by kernel_rfl
theorem zero_rec (w : World) : (zeroValue 26).run Tryd.prog w = .ok (.agg rec0.cs.toArray) w := by kernel_rfl
theorem zero_recs (w : World) : (zeroValue 27).run Tryd.prog w = .ok (.agg (recsC fun _ => rec0).toArray) w := by kernel_rfl

/-- A node's bytes, place by place. -/
def pk (R : Nat → RecV) (j : Nat) : UInt8 := if j < 168 then (R (j / 42)).b.getD (j % 42) 0 else 0
theorem pk_step (R : Nat → RecV) (k d : Nat) (hk : k < 4) (hd : 42 ≤ d) (j : Nat) : ov (42 * k) ((R k).b.take d) (upto (42 * k) (pk R) fun _ => 0) j = upto (42 * (k + 1)) (pk R) (fun _ => 0) j := by
  have hl : ((R k).b.take d) = (R k).b := List.take_of_length_le (by rw [(R k).b_len]; exact hd)
  rw [hl]
  have hb := (R k).b_len
  by_cases h1 : 42 * k ≤ j ∧ j < 42 * k + 42
  · rw [ov_in h1.1 (by omega), upto_near _ _ (by omega)]
    unfold pk
    rw [if_pos (by omega), show j / 42 = k by omega, show j % 42 = j - 42 * k by omega]
  · rw [ov_out (by omega)]
    by_cases h2 : j < 42 * k
    · rw [upto_near _ _ h2, upto_near _ _ (by omega)]
    · rw [upto_far _ _ (by omega), upto_far _ _ (by omega)]
theorem pk_end (R : Nat → RecV) (j : Nat) : upto 168 (pk R) (fun _ => 0) j = pk R j := by
  by_cases h : j < 168
  · exact upto_near _ _ h
  · rw [upto_far _ _ (by omega)]
    unfold pk
    rw [if_neg h]
end Go.Proofs.YtibnmhaipogleaaDoor
