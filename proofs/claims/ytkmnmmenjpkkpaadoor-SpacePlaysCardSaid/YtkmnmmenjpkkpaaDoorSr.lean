/- The document's own answer for a space: what each call answers and leaves. Conditions: it lies there. -/
import Derived.Test.YtkmnmmenjpkkpaaDoorSc
set_option linter.unusedVariables false
namespace Go.Proofs.YtkmnmmenjpkkpaaDoor
open Go.RowKit

def iS (S : Nat → Nat) : Nat → Value := fun j => .int .i64 (S j : Int)
theorem iS_at (S : Nat → Nat) (j : Nat) : iS S j = .int .i64 (S j : Int) := rfl
theorem iS_put (S : Nat → Nat) (n a v : Nat) : (fv n (iS S)).set a (.int .i64 (v : Int)) = fv n (iS (putN S a v)) := by
  have e : iS (putN S a v) a = .int .i64 (v : Int) := by unfold iS; rw [put_at]
  rw [← e]
  refine fv_set _ _ fun j hj => ?_
  by_cases h : j = a
  · rw [if_pos h, h]
  · rw [if_neg h]
    unfold iS
    rw [put_off h]
/-- What is settled below k. -/
def seM (S : Nat → Nat) (k : Nat) : Nat → Nat := fun j => if j < k then seS S j else S j
theorem seM_zero (S : Nat → Nat) : seM S 0 = S := by funext j; simp [seM]
theorem seM_full (S : Nat → Nat) (n : Nat) : fv n (iS (seM S n)) = fv n (iS (seS S)) := fv_congr fun j hj => by simp [iS, seM, hj]
theorem seM_at (S : Nat → Nat) (k : Nat) : seM S k k = S k := by simp [seM]
theorem seM_skip {S : Nat → Nat} {k : Nat} (h : S k ≠ 2) : seM S (k + 1) = seM S k := by
  funext j
  unfold seM
  by_cases e : j = k
  · rw [if_pos (by omega), if_neg (by omega), e, seS_at, if_neg h]
  · by_cases h1 : j < k
    · rw [if_pos h1, if_pos (by omega)]
    · rw [if_neg h1, if_neg (by omega)]
theorem seM_put {S : Nat → Nat} {k : Nat} (h : S k = 2) : putN (seM S k) k 0 = seM S (k + 1) := by
  funext j
  by_cases e : j = k
  · rw [e, put_at]
    unfold seM
    rw [if_pos (by omega), seS_at, if_pos h]
  · rw [put_off e]
    unfold seM
    by_cases h1 : j < k
    · rw [if_pos h1, if_pos (by omega)]
    · rw [if_neg h1, if_neg (by omega)]
theorem nBack_succ (S : Nat → Nat) (k : Nat) : nBack (k + 1) S = nBack k S + (S k == 2).toNat := by unfold nBack; rw [cnt_succ]
theorem nBack_zero (S : Nat → Nat) : nBack 0 S = 0 := by unfold nBack; rw [cnt_zero]
theorem nBack_le (k : Nat) (S : Nat → Nat) : nBack k S ≤ k := by unfold nBack; exact cnt_le k _
theorem nFree_next (S : Nat → Nat) (k : Nat) : nFree (k + 1) S = nFree k S + (S k == 0).toNat := by unfold nFree; rw [cnt_succ]
theorem nFree_none (S : Nat → Nat) : nFree 0 S = 0 := by unfold nFree; rw [cnt_zero]
theorem nFree_most (k : Nat) (S : Nat → Nat) : nFree k S ≤ k := by unfold nFree; exact cnt_le k _
attribute [irreducible] seM iS

/-- The document's space, in memory. -/
structure RSp (w : World) (r h N : Nat) (S : Nat → Nat) : Prop where
  top : Row w r 54 [.slice (some ⟨h, 0, none⟩) N N]
  row : Row w h 3 (fv N (iS S))
  le : N ≤ 1024
theorem RSp.ne {w : World} {r h N : Nat} {S : Nat → Nat} (k : RSp w r h N S) : r ≠ h := k.top.ne_ k.row (by decide)
theorem RSp.kept {w w' : World} {r h N : Nat} {S : Nat → Nat} (k : RSp w r h N S) (hb : Below w.heap.size w w') : RSp w' r h N S := ⟨k.top.kept hb, k.row.kept hb, k.le⟩
theorem RSp.drewN {w : World} {r h N : Nat} {S : Nat → Nat} (k : RSp w r h N S) (q : Nat) : RSp (w.drewN q) r h N S := ⟨k.top, k.row, k.le⟩
theorem RSp.put {w : World} {r h N : Nat} {S : Nat → Nat} (k : RSp w r h N S) (a v : Nat) : RSp (w.setCell ⟨h, a, none⟩ (.int .i64 (v : Int))) r h N (putN S a v) :=
  ⟨k.top.far k.ne _, by rw [← iS_put]; exact k.row.put a _, k.le⟩
theorem RSp.far {w w' : World} {r h N g : Nat} {S : Nat → Nat} (k : RSp w r h N S) (hg : w.grownBy w' (some g)) (h1 : g ≠ r) (h2 : g ≠ h) : RSp w' r h N S :=
  ⟨k.top.grown hg (fun e => h1 (by injection e with e; exact e.symm)), k.row.grown hg (fun e => h2 (by injection e with e; exact e.symm)), k.le⟩

theorem rnew_any (N : Nat) (hN : N ≤ 1024) (w : World) : Calls Tryd.prog 10 #[.int .i64 (N : Int)] w fun e w' =>
    ∃ r h, e = .returned (.pointer (some ⟨r, 0, none⟩)) ∧ RSp w' r h N (fun _ => 0) ∧ Below w.heap.size w w' ∧ w.heap.size ≤ r ∧ w.heap.size ≤ h := by
  have HN := Lib.hid hN
  have HBI := Lib.hid (p := (Tryd.prog.info? 3).map (fun i => (i.zero, i.size, i.bytes)) = some (some (.int .i64 0), 1, 8)) (by kernel_rfl)
  clear hN
  go_enter Tryd.func10, Tryd.ntmps10
  go_wp2_with (first
    | (refine step_mk rfl _ _ 45 3 (.int .i64 0) 8 Tryd.underlying45 HBI.out (by decide) rfl rfl N rfl rfl (by have := HN.out; omega) ?_; intro gh w3 hr3 hg3 hb3 hs3
       have HH3 := Lib.hid hr3; have HB3 := Lib.hid hb3; have HG3 := Lib.hid hg3.out; clear hr3 hb3 hs3 hg3))
  go_ret
  refine ⟨_, gh, rfl, ⟨Row.made _ _ _, ?_, HN.out⟩, ?_, ?_, ?_⟩
  · have e : fv N (iS (fun _ => 0)) = fv N (fun _ => Value.int .i64 0) := fv_congr fun j _ => iS_at _ _
    rw [e]
    exact HH3.out.kept (below_al _ _)
  · exact HB3.out.trans ((below_al w3 _).mono HB3.out.size)
  · exact HB3.out.size
  · rw [HG3.out]; exact Nat.le_refl _

section
variable {w : World} {r h N : Nat} {S : Nat → Nat}
theorem rcell {a : Nat} (k : RSp w r h N S) (ha : a < N) : w.cell? ⟨h, a, none⟩ = some (.int .i64 (S a : Int)) := by rw [k.row.cell, fv_get _ ha, iS_at]
theorem rtop (k : RSp w r h N S) : w.cell? ⟨r, 0, none⟩ = some (.slice (some ⟨h, 0, none⟩) N N) := by rw [k.top.cell]; rfl
theorem rstate_any (k : RSp w r h N S) (z : Int) : Calls Tryd.prog 22 #[.pointer (some ⟨r, 0, none⟩), .int .i64 z] w fun e w' => e = .returned (.int .i64 (stv N S z)) ∧ w' = w := by
  have c0 := rtop k
  by_cases hz0 : z < 0
  · rw [stv_out (by omega)]
    have d0 : decide (z < 0) = true := decide_eq_true hz0
    go_enter Tryd.func22, Tryd.ntmps22
    go_wp2
    go_ret
    exact ⟨rfl, rfl⟩
  · by_cases hz1 : (N : Int) ≤ z
    · rw [stv_out (by omega)]
      have d0 : decide (z < 0) = false := decide_eq_false hz0
      have d1 : decide ((N : Int) ≤ z) = true := decide_eq_true hz1
      go_enter Tryd.func22, Tryd.ntmps22
      go_wp2
      go_ret
      exact ⟨rfl, rfl⟩
    · obtain ⟨a, rfl⟩ := Int.eq_ofNat_of_zero_le (by omega : 0 ≤ z)
      have ha : a < N := by omega
      rw [stv_in ha]
      have c1 := rcell k ha
      have d0 : decide ((a : Int) < 0) = false := decide_eq_false hz0
      have d1 : decide ((N : Int) ≤ (a : Int)) = false := decide_eq_false hz1
      have d2 : decide (N ≤ a) = false := decide_eq_false (by omega)
      have ha0 := inn a
      have ha1 := ilt ha
      clear hz0 hz1 ha
      go_enter Tryd.func22, Tryd.ntmps22
      go_wp2
      go_ret
      exact ⟨rfl, rfl⟩
theorem rchange_any (k : RSp w r h N S) (z : Int) (a b : Nat) : Calls Tryd.prog 14 #[.pointer (some ⟨r, 0, none⟩), .int .i64 z, .int .i64 (a : Int), .int .i64 (b : Int)] w fun e w' =>
    e = .returned (.int .i64 (mv N S z a)) ∧ RSp w' r h N (chS N S z a b) ∧ w.grownBy w' (some h) := by
  have c0 := rtop k
  have K := Lib.hid k
  clear k
  by_cases hz : 0 ≤ z ∧ z < (N : Int)
  · obtain ⟨i, rfl⟩ := Int.eq_ofNat_of_zero_le hz.1
    have hi : i < N := by omega
    have c1 := rcell K.out hi
    have f1 := K.out.row.free i
    have HS : Hid (Calls Tryd.prog 22 #[.pointer (some ⟨r, 0, none⟩), .int .i64 (i : Int)] w fun e w' => e = .returned (.int .i64 (S i : Int)) ∧ w' = w) := Lib.hid (by have := rstate_any K.out (i : Int); rw [stv_in hi] at this; exact this)
    have hi0 := inn i
    have hi1 := ilt hi
    have HM := Lib.hid (mv_in (S := S) (k := a) hi)
    obtain ⟨s, hs⟩ : ∃ s, S i = s := ⟨_, rfl⟩
    rw [hs] at c1 HS HM
    have s0 : ¬ (s : Int) < 0 := Int.not_lt.2 (inn s)
    have s1 : decide ((s : Int) < 0) = false := decide_eq_false s0
    by_cases e : s = a
    · rw [if_pos e] at HM
      have HM2 := Lib.hid (chS_do (v := b) HM.out)
      rw [HM.out, HM2.out]
      have b1 : ((s : Int) != (a : Int)) = false := by rw [e]; simp
      clear hz hi hs e
      go_enter Tryd.func14, Tryd.ntmps14
      go_wp2_with (go_at_call 22; refine HS.out.mono ?_; rintro e w' ⟨rfl, rfl⟩)
      go_ret
      exact ⟨rfl, K.out.put i b, grown_set _ _ _⟩
    · rw [if_neg e] at HM
      rw [HM.out, chS_keep (by rw [HM.out]; decide)]
      have b1 : ((s : Int) != (a : Int)) = true := by rw [bne_iff_ne]; omega
      clear hz hi hs e
      go_enter Tryd.func14, Tryd.ntmps14
      go_wp2_with (go_at_call 22; refine HS.out.mono ?_; rintro e w' ⟨rfl, rfl⟩)
      go_ret
      exact ⟨rfl, K.out, ⟨rfl, rfl, rfl, Nat.le_refl _, fun _ _ _ => rfl⟩⟩
  · have HM := mv_out (S := S) (k := a) hz
    rw [chS_keep (by rw [HM]; decide), HM]
    have HS : Hid (Calls Tryd.prog 22 #[.pointer (some ⟨r, 0, none⟩), .int .i64 z] w fun e w' => e = .returned (.int .i64 (-1)) ∧ w' = w) := Lib.hid (by have := rstate_any K.out z; rw [stv_out hz] at this; exact this)
    clear hz HM
    go_enter Tryd.func14, Tryd.ntmps14
    go_wp2_with (go_at_call 22; refine HS.out.mono ?_; rintro e w' ⟨rfl, rfl⟩)
    go_ret
    exact ⟨rfl, K.out, ⟨rfl, rfl, rfl, Nat.le_refl _, fun _ _ _ => rfl⟩⟩
theorem rfree_any (k : RSp w r h N S) : Calls Tryd.prog 20 #[.pointer (some ⟨r, 0, none⟩)] w fun e w' => e = .returned (.int .i64 (nFree N S : Int)) ∧ w' = w := by
  have K := Lib.hid k
  clear k
  go_enter Tryd.func20, Tryd.ntmps20
  go_wp2
  go_loopw [3, 4] (fun n i wr => ∃ j : Nat, j ≤ N ∧ i = .int .i64 (j : Int) ∧ n = .int .i64 (nFree j S : Int) ∧ Hid (wr = w)) (fun _ i _ => N - (intOf i).toNat)
  case atStart => exact ⟨0, Nat.zero_le _, rfl, by rw [nFree_none]; rfl, Lib.hid rfl⟩
  case round =>
    obtain ⟨j, hj, rfl, rfl, hwr⟩ := hrel
    have K2 : Hid (RSp wr r h N S) := Lib.hid (by rw [hwr.out]; exact K.out)
    have c0 := rtop K2.out
    by_cases hlt : j < N
    · have c1 := rcell K2.out hlt
      obtain ⟨hw1, hw2⟩ := wrap_next hlt (Nat.le_trans K.out.le (by decide))
      have hjN := ilt hlt
      have hj0 := inn j
      have HK := Lib.hid hlt
      have hnl := nFree_most j S
      have hs := nFree_next S j
      obtain ⟨c, hc⟩ : ∃ c, nFree j S = c := ⟨_, rfl⟩
      rw [hc] at hnl hs ⊢
      clear hj hlt
      obtain ⟨t, ht⟩ : ∃ t, S j = t := ⟨_, rfl⟩
      rw [ht] at c1 hs
      by_cases h0 : t = 0
      · subst h0
        obtain ⟨hw3, hw4⟩ := wrap_next (j := c) (k := 1025) (Nat.lt_succ_of_le (Nat.le_trans hnl (Nat.le_trans (Nat.le_of_lt HK.out) K.out.le))) (by decide)
        have HN : Hid (nFree (j + 1) S = c + 1) := Lib.hid hs
        clear hs hnl hc ht
        go_wp2
        go_roundw
        case rel => exact ⟨j + 1, HK.out, by go_num, by rw [HN.out]; go_num, hwr⟩
        case measure => exact down HK.out
      · have HN : Hid (nFree (j + 1) S = c) := Lib.hid (by rw [hs, beq_false_of_ne h0]; rfl)
        have b0 := nz_beq h0
        clear hs hnl hc ht h0
        go_wp2
        go_roundw
        case rel => exact ⟨j + 1, HK.out, by go_num, by rw [HN.out], hwr⟩
        case measure => exact down HK.out
    · obtain rfl : j = N := by omega
      clear hj hlt
      go_wp2
      go_ret
      exact ⟨rfl, hwr.out⟩
theorem rsettle_any (k : RSp w r h N S) : Calls Tryd.prog 18 #[.pointer (some ⟨r, 0, none⟩)] w fun e w' => e = .returned (.int .i64 (nBack N S : Int)) ∧ RSp w' r h N (seS S) ∧ w.grownBy w' (some h) := by
  have K := Lib.hid k
  clear k
  have K0 : Hid (RSp w r h N (seM S 0)) := Lib.hid (by rw [seM_zero]; exact K.out)
  have G0 : Hid (w.grownBy w (some h)) := Lib.hid ⟨rfl, rfl, rfl, Nat.le_refl _, fun _ _ _ => rfl⟩
  go_enter Tryd.func18, Tryd.ntmps18
  go_wp2
  go_loopw [3, 4] (fun n i wr => ∃ j : Nat, j ≤ N ∧ i = .int .i64 (j : Int) ∧ n = .int .i64 (nBack j S : Int) ∧ Hid (RSp wr r h N (seM S j)) ∧ Hid (w.grownBy wr (some h))) (fun _ i _ => N - (intOf i).toNat)
  case atStart => exact ⟨0, Nat.zero_le _, rfl, by rw [nBack_zero]; rfl, K0, G0⟩
  case round =>
    clear K0 G0
    obtain ⟨j, hj, rfl, rfl, K2, G2⟩ := hrel
    have c0 := rtop K2.out
    by_cases hlt : j < N
    · have c1 := rcell K2.out hlt
      rw [seM_at] at c1
      have f1 := K2.out.row.free j
      obtain ⟨hw1, hw2⟩ := wrap_next hlt (Nat.le_trans K.out.le (by decide))
      have hjN := ilt hlt
      have hj0 := inn j
      have HK := Lib.hid hlt
      have hnl := nBack_le j S
      have hs := nBack_succ S j
      obtain ⟨c, hc⟩ : ∃ c, nBack j S = c := ⟨_, rfl⟩
      rw [hc] at hnl hs ⊢
      clear hj hlt
      obtain ⟨t, ht⟩ : ∃ t, S j = t := ⟨_, rfl⟩
      rw [ht] at c1 hs
      by_cases h0 : t = 2
      · subst h0
        obtain ⟨hw3, hw4⟩ := wrap_next (j := c) (k := 1025) (Nat.lt_succ_of_le (Nat.le_trans hnl (Nat.le_trans (Nat.le_of_lt HK.out) K.out.le))) (by decide)
        have HN : Hid (nBack (j + 1) S = c + 1) := Lib.hid hs
        have K3 : Hid (RSp (wr.setCell ⟨h, j, none⟩ (.int .i64 0)) r h N (seM S (j + 1))) := Lib.hid (by have := K2.out.put j 0; rw [seM_put ht] at this; exact this)
        have G3 : Hid (w.grownBy (wr.setCell ⟨h, j, none⟩ (.int .i64 0)) (some h)) := Lib.hid (grown_trans G2.out (grown_set _ _ _))
        clear hs hnl hc ht K2
        go_wp2
        go_roundw
        case rel => exact ⟨j + 1, HK.out, by go_num, by rw [HN.out]; go_num, K3, G3⟩
        case measure => exact down HK.out
      · have HN : Hid (nBack (j + 1) S = c) := Lib.hid (by rw [hs, beq_false_of_ne h0]; rfl)
        have K3 : Hid (RSp wr r h N (seM S (j + 1))) := Lib.hid (by rw [seM_skip (by rw [ht]; exact h0)]; exact K2.out)
        have b0 : ((t : Int) == 2) = false := beq_false_of_ne (by clear hw1 hw2; omega)
        clear hs hnl hc ht h0 K2
        go_wp2
        go_roundw
        case rel => exact ⟨j + 1, HK.out, by go_num, by rw [HN.out], K3, G2⟩
        case measure => exact down HK.out
    · obtain rfl : j = N := by omega
      clear hj hlt
      go_wp2
      go_ret
      exact ⟨rfl, ⟨K2.out.top, by rw [← seM_full]; exact K2.out.row, K2.out.le⟩, G2.out⟩
theorem rtake_any (k : RSp w r h N S) : Calls Tryd.prog 12 #[.pointer (some ⟨r, 0, none⟩)] w fun e w' => e = .returned (.tuple #[.int .i64 (tkA (ft N S)), .int .i64 (tkE (ft N S))]) ∧ RSp w' r h N (tkS S (ft N S)) ∧ w.grownBy w' (some h) := by
  have K := Lib.hid k
  clear k
  go_enter Tryd.func12, Tryd.ntmps12
  go_wp2
  go_loopw [4] (fun i wr => ∃ j : Nat, j ≤ N ∧ i = .int .i64 (j : Int) ∧ Hid (∀ q, q < j → S q ≠ 0) ∧ Hid (wr = w)) (fun i _ => N - (intOf i).toNat)
  case atStart => exact ⟨0, Nat.zero_le _, rfl, Lib.hid (fun q hq => absurd hq (Nat.not_lt_zero _)), Lib.hid rfl⟩
  case round =>
    obtain ⟨j, hj, rfl, hno, hwr⟩ := hrel
    have K2 : Hid (RSp wr r h N S) := Lib.hid (by rw [hwr.out]; exact K.out)
    have c0 := rtop K2.out
    by_cases hlt : j < N
    · have c1 := rcell K2.out hlt
      have f1 := K2.out.row.free j
      obtain ⟨hw1, hw2⟩ := wrap_next hlt (Nat.le_trans K.out.le (by decide))
      have hjN := ilt hlt
      have hj0 := inn j
      have HK := Lib.hid hlt
      clear hj hlt
      obtain ⟨t, ht⟩ : ∃ t, S j = t := ⟨_, rfl⟩
      rw [ht] at c1
      by_cases h0 : t = 0
      · subst h0
        have HF := Lib.hid (ft_is HK.out ht hno.out)
        have HP := Lib.hid (K2.out.put j 1)
        clear ht
        go_wp2
        go_ret2
        exact ⟨by rw [HF.out]; rfl, by rw [HF.out]; exact HP.out, by rw [hwr.out]; exact grown_set _ _ _⟩
      · have HNO : Hid (∀ q, q < j + 1 → S q ≠ 0) := Lib.hid (fun q hq => by
          by_cases e : q = j
          · rw [e, ht]; exact h0
          · exact hno.out q (Nat.lt_of_le_of_ne (Nat.le_of_lt_succ hq) e))
        have b0 := nz_beq h0
        clear ht h0 hno
        go_wp2
        go_roundw
        case rel => exact ⟨j + 1, HK.out, by go_num, HNO, hwr⟩
        case measure => exact down HK.out
    · obtain rfl : j = N := by omega
      have HF := Lib.hid (ft_no hno.out)
      clear hj hlt
      go_wp2
      go_ret2
      exact ⟨by rw [HF.out]; rfl, by rw [HF.out]; exact K2.out, by rw [hwr.out]; exact ⟨rfl, rfl, rfl, Nat.le_refl _, fun _ _ _ => rfl⟩⟩
end
end Go.Proofs.YtkmnmmenjpkkpaaDoor
