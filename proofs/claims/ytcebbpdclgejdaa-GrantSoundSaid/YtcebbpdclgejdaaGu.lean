/- Package grant: a slot given, a new super, what is counted, the least inode that there isn't, an inode more. No conditions but those named. -/
import Derived.Test.YtcebbpdclgejdaaGt
set_option linter.unusedVariables false
set_option maxRecDepth 20000
namespace Go.Proofs.Ytcebbpdclgejdaa
open Go.RowKit

def Sup.give (x : Sup) (z : Int) : Sup := if 1 ≤ z ∧ z < 256 then x.setU z.toNat false else x
theorem give_any (x : Sup) (z : Int) (w : World) : Calls Try.prog 17 #[.agg x.cs.toArray, .int .i64 z] w fun e w' => e = .returned (.agg (x.give z).cs.toArray) ∧ Below w.heap.size w w' := by
  have i1 := Lib.hid (fun x : Sup => info_cs x)
  have hz0 := Lib.hid zero_sup
  by_cases h : 1 ≤ z ∧ z < 256
  · obtain ⟨k, rfl⟩ : ∃ k : Nat, z = (k : Int) := ⟨z.toNat, by omega⟩
    have hgv : x.give (k : Int) = x.setU k false := by unfold Sup.give; rw [if_pos h, Int.toNat_natCast]
    rw [hgv]
    have hk : k < 256 := by omega
    have hne : ((k : Int) != 0) = true := by simp; omega
    have hge : (decide ((0 : Int) ≤ (k : Int)) && decide ((k : Int) < 256)) = true := by simp; omega
    have HS := Lib.hid (fun w => isslot_any (k : Int) w)
    rw [hge] at HS
    have HK := Lib.hid hk
    have hki : (k : Int) < 256 := by omega
    clear hgv h hge hk
    go_enter Try.func17, Try.ntmps17
    go_wp2_with (first
      | (refine step_box rfl 2 rfl 27 (.tmp 0) rfl x.cs rfl ?_; intro g2 w2 hr2 hg2 hb2 hs2
         have R2 := Lib.hid hr2
         have HB2 := Lib.hid hb2
         have Q2 := Lib.hid (p := w.heap.size ≤ g2) (by rw [hg2.out]; exact Nat.le_refl _)
         clear hr2 hb2 hg2 hs2)
      | (refine step_alloc rfl 4 rfl 27 rfl _ hz0.out ?_; intro g4 w4 hr4 hg4 hb4 hs4
         have R4 := Lib.hid hr4
         have R24 := Lib.hid (R2.out.kept hb4)
         have HB4 := Lib.hid (below_nxt hb4 HB2.out)
         have N24 := Lib.hid (p := g2 < g4) (by rw [hg4.out]; exact R2.out.lt)
         clear hr4 hb4 hg4 hs4)
      | (go_at_call 33; refine (HS.out _).mono ?_; rintro e w' ⟨rfl, rfl⟩
         have f1 := R24.out.free (1 + k)
         have c1 : w4.cell? ⟨g2, 1 + k, none⟩ = some (.bool (x.u k)) := by rw [R24.out.cell, x.c_u HK.out])
      | (refine step_load rfl 14 rfl 27 (.tmp 2) rfl g2 rfl (x.setU k false).cs _ (Row.all (by have h := R24.out.put (1 + k) (.bool false); rw [x.set_u false HK.out] at h; exact h)) Try.underlying27 rfl (i1.out _) ?_)
      | (refine step_store rfl 27 (.tmp 4) (.tmp 14) rfl g4 (by rfl) _ sup0.cs (x.setU k false).cs (by rfl) (R4.out.far (p := ⟨g2, 1 + k, none⟩) (by have := N24.out; intro e; simp at e; omega) _) (by rw [Sup.cs_len, Sup.cs_len]) (i1.out _) (Sup.cs_one _) ?_; intro w9 hr9 hg9 hs9))
    refine bodyPost_ret (results_cell_row rfl _ _ g4 _ _ _ _ rfl hr9 Try.underlying27 rfl (by simpa using i1.out _)) rfl ?_
    exact ⟨rfl, below_own (HB4.out.setCell Q2.out _) hg9 (by have := N24.out; have := Q2.out; omega)⟩
  · have hgv : x.give z = x := by unfold Sup.give; rw [if_neg h]
    rw [hgv]
    by_cases h0 : z = 0
    · subst h0
      clear h hgv
      go_enter Try.func17, Try.ntmps17
      go_wp2_with (first
        | (refine step_box rfl 2 rfl 27 (.tmp 0) rfl x.cs rfl ?_; intro g2 w2 hr2 hg2 hb2 hs2
           have R2 := Lib.hid hr2
           have HB2 := Lib.hid hb2
           have Q2 := Lib.hid (p := w.heap.size ≤ g2) (by rw [hg2.out]; exact Nat.le_refl _)
           clear hr2 hb2 hg2 hs2)
        | (refine step_alloc rfl 4 rfl 27 rfl _ hz0.out ?_; intro g4 w4 hr4 hg4 hb4 hs4
           have R4 := Lib.hid hr4
           have R24 := Lib.hid (R2.out.kept hb4)
           have HB4 := Lib.hid (below_nxt hb4 HB2.out)
           have N24 := Lib.hid (p := g2 < g4) (by rw [hg4.out]; exact R2.out.lt)
           clear hr4 hb4 hg4 hs4)
        | (refine step_load rfl 14 rfl 27 (.tmp 2) rfl g2 rfl x.cs _ R24.out.all Try.underlying27 rfl (i1.out _) ?_)
        | (refine step_store rfl 27 (.tmp 4) (.tmp 14) rfl g4 (by rfl) _ sup0.cs x.cs (by rfl) R4.out (by rw [Sup.cs_len, Sup.cs_len]) (i1.out _) (Sup.cs_one _) ?_; intro w9 hr9 hg9 hs9))
      refine bodyPost_ret (results_cell_row rfl _ _ g4 _ _ _ _ rfl hr9 Try.underlying27 rfl (by simpa using i1.out _)) rfl ?_
      exact ⟨rfl, below_own HB4.out hg9 (by have := N24.out; have := Q2.out; omega)⟩
    · have hne : (z != 0) = true := by simpa using h0
      have hge : (decide ((0 : Int) ≤ z) && decide (z < 256)) = false := by
        rw [Bool.and_eq_false_iff]
        simp only [decide_eq_false_iff_not]
        omega
      have HS := Lib.hid (fun w => isslot_any z w)
      rw [hge] at HS
      clear h hgv hge h0
      go_enter Try.func17, Try.ntmps17
      go_wp2_with (first
        | (refine step_box rfl 2 rfl 27 (.tmp 0) rfl x.cs rfl ?_; intro g2 w2 hr2 hg2 hb2 hs2
           have R2 := Lib.hid hr2
           have HB2 := Lib.hid hb2
           have Q2 := Lib.hid (p := w.heap.size ≤ g2) (by rw [hg2.out]; exact Nat.le_refl _)
           clear hr2 hb2 hg2 hs2)
        | (refine step_alloc rfl 4 rfl 27 rfl _ hz0.out ?_; intro g4 w4 hr4 hg4 hb4 hs4
           have R4 := Lib.hid hr4
           have R24 := Lib.hid (R2.out.kept hb4)
           have HB4 := Lib.hid (below_nxt hb4 HB2.out)
           have N24 := Lib.hid (p := g2 < g4) (by rw [hg4.out]; exact R2.out.lt)
           clear hr4 hb4 hg4 hs4)
        | (go_at_call 33; refine (HS.out _).mono ?_; rintro e w' ⟨rfl, rfl⟩)
        | (refine step_load rfl 14 rfl 27 (.tmp 2) rfl g2 rfl x.cs _ R24.out.all Try.underlying27 rfl (i1.out _) ?_)
        | (refine step_store rfl 27 (.tmp 4) (.tmp 14) rfl g4 (by rfl) _ sup0.cs x.cs (by rfl) R4.out (by rw [Sup.cs_len, Sup.cs_len]) (i1.out _) (Sup.cs_one _) ?_; intro w9 hr9 hg9 hs9))
      refine bodyPost_ret (results_cell_row rfl _ _ g4 _ _ _ _ rfl hr9 Try.underlying27 rfl (by simpa using i1.out _)) rfl ?_
      exact ⟨rfl, below_own HB4.out hg9 (by have := N24.out; have := Q2.out; omega)⟩

/-- How many of the first places hold. -/
def cb (f : Nat → Bool) : Nat → Nat
  | 0 => 0
  | n + 1 => cb f n + if f n then 1 else 0
theorem cb_le (f : Nat → Bool) : ∀ n, cb f n ≤ n
  | 0 => Nat.le_refl _
  | n + 1 => by have := cb_le f n; unfold cb; split <;> omega
theorem count_any (x : Sup) (w : World) : Calls Try.prog 18 #[.agg x.cs.toArray] w fun e w' => e = .returned (.int .i64 (cb x.u 256 : Int)) ∧ Below w.heap.size w w' := by
  go_enter Try.func18, Try.ntmps18
  go_wp2_with (refine step_box rfl 1 rfl 27 (.tmp 0) rfl x.cs rfl ?_; intro g2 w2 hr2 hg2 hb2 hs2
               have R2 := Lib.hid hr2
               have HB2 := Lib.hid hb2
               have Q2 := Lib.hid (p := w.heap.size ≤ g2) (by rw [hg2.out]; exact Nat.le_refl _)
               clear hr2 hb2 hg2 hs2)
  go_loopw [3, 5] (fun n y wr => ∃ j : Nat, j ≤ 256 ∧ y = .int .i64 (j : Int) ∧ n = .int .i64 (cb x.u j : Int) ∧ Hid (Row wr g2 27 x.cs) ∧ Hid (Below w.heap.size w wr)) (fun _ y _ => 256 - (intOf y).toNat)
  case atStart => exact ⟨0, by omega, rfl, rfl, R2, HB2⟩
  case round =>
    clear R2 HB2
    obtain ⟨j, hj, rfl, rfl, HR2, HB⟩ := hrel
    by_cases h : j < 256
    · have hji : (j : Int) < 256 := by omega
      have hw : IntKind.i64.wrap ((j : Int) + 1) = (j : Int) + 1 := by rw [IntKind.wrap_i64]; omega
      have hle := cb_le x.u j
      cases hu : x.u j
      · have hc : cb x.u (j + 1) = cb x.u j := by show cb x.u j + _ = _; rw [hu]; rfl
        have HC := Lib.hid hc
        have c1 : wr.cell? ⟨g2, 1 + j, none⟩ = some (.bool false) := by rw [HR2.out.cell, x.c_u h, hu]
        generalize cb x.u j = m at *
        clear hle hc hu
        go_wp2
        go_roundw
        case rel => exact ⟨j + 1, by omega, by go_num, by rw [HC.out], HR2, HB⟩
        case measure => simp [intOf]; omega
      · have hc : cb x.u (j + 1) = cb x.u j + 1 := by show cb x.u j + _ = _; rw [hu]; rfl
        have HC := Lib.hid hc
        have c1 : wr.cell? ⟨g2, 1 + j, none⟩ = some (.bool true) := by rw [HR2.out.cell, x.c_u h, hu]
        generalize cb x.u j = m at *
        have hm : IntKind.i64.wrap ((m : Int) + 1) = (m : Int) + 1 := by rw [IntKind.wrap_i64]; omega
        clear hle hc hu
        go_wp2
        go_roundw
        case rel => exact ⟨j + 1, by omega, by go_num, by rw [HC.out]; go_num, HR2, HB⟩
        case measure => simp [intOf]; omega
    · obtain rfl : j = 256 := by omega
      go_wp2
      go_ret
      exact ⟨rfl, HB.out⟩
def Sup.has (x : Sup) (j : Nat) : Bool := x.i (j + 1) != 0
theorem inodes_any (x : Sup) (w : World) : Calls Try.prog 19 #[.agg x.cs.toArray] w fun e w' => e = .returned (.int .i64 (cb x.has 64 : Int)) ∧ Below w.heap.size w w' := by
  go_enter Try.func19, Try.ntmps19
  go_wp2_with (refine step_box rfl 1 rfl 27 (.tmp 0) rfl x.cs rfl ?_; intro g2 w2 hr2 hg2 hb2 hs2
               have R2 := Lib.hid hr2
               have HB2 := Lib.hid hb2
               have Q2 := Lib.hid (p := w.heap.size ≤ g2) (by rw [hg2.out]; exact Nat.le_refl _)
               clear hr2 hb2 hg2 hs2)
  go_loopw [3, 9] (fun n y wr => ∃ j : Nat, j ≤ 64 ∧ y = .int .i64 (j : Int) ∧ n = .int .i64 (cb x.has j : Int) ∧ Hid (Row wr g2 27 x.cs) ∧ Hid (Below w.heap.size w wr)) (fun _ y _ => 64 - (intOf y).toNat)
  case atStart => exact ⟨0, by omega, rfl, rfl, R2, HB2⟩
  case round =>
    clear R2 HB2
    obtain ⟨j, hj, rfl, rfl, HR2, HB⟩ := hrel
    by_cases h : j < 64
    · have hji : (j : Int) < 64 := by omega
      have hw : IntKind.i64.wrap ((j : Int) + 1) = (j : Int) + 1 := by rw [IntKind.wrap_i64]; omega
      have hle := cb_le x.has j
      obtain ⟨v, hv⟩ : ∃ v, x.i (j + 1) = v := ⟨_, rfl⟩
      have c1 : wr.cell? ⟨g2, 258 + j, none⟩ = some (.int .i64 v) := by rw [HR2.out.cell, show 258 + j = 257 + (j + 1) by omega, x.c_i (by omega), hv]
      cases hu : x.has j
      · have hc : cb x.has (j + 1) = cb x.has j := by show cb x.has j + _ = _; rw [hu]; rfl
        have HC := Lib.hid hc
        have hv0 : v = 0 := by unfold Sup.has at hu; rw [hv] at hu; simpa using hu
        subst hv0
        generalize cb x.has j = m at *
        clear hle hc hu hv
        go_wp2
        go_roundw
        case rel => exact ⟨j + 1, by omega, by go_num, by rw [HC.out], HR2, HB⟩
        case measure => simp [intOf]; omega
      · have hc : cb x.has (j + 1) = cb x.has j + 1 := by show cb x.has j + _ = _; rw [hu]; rfl
        have HC := Lib.hid hc
        have hv0 : (v != 0) = true := by unfold Sup.has at hu; rw [hv] at hu; exact hu
        generalize cb x.has j = m at *
        have hm : IntKind.i64.wrap ((m : Int) + 1) = (m : Int) + 1 := by rw [IntKind.wrap_i64]; omega
        clear hle hc hu hv
        go_wp2
        go_roundw
        case rel => exact ⟨j + 1, by omega, by go_num, by rw [HC.out]; go_num, HR2, HB⟩
        case measure => simp [intOf]; omega
    · obtain rfl : j = 64 := by omega
      go_wp2
      go_ret
      exact ⟨rfl, HB.out⟩
theorem spare_ok (x : Sup) (k : Nat) (hk : k < 64) (h0 : x.i (k + 1) = 0) (hb : ∀ j, j < k → x.i (j + 1) ≠ 0) (w : World) : Calls Try.prog 31 #[.agg x.cs.toArray] w fun e w' => e = .returned (.tuple #[.int .i64 ((k + 1 : Nat) : Int), .bool true]) ∧ Below w.heap.size w w' := by
  have HK := Lib.hid hk
  have H0 := Lib.hid h0
  have HNB := Lib.hid hb
  clear hk h0 hb
  go_enter Try.func31, Try.ntmps31
  go_wp2_with (refine step_box rfl 1 rfl 27 (.tmp 0) rfl x.cs rfl ?_; intro g2 w2 hr2 hg2 hb2 hs2
               have R2 := Lib.hid hr2
               have HB2 := Lib.hid hb2
               have Q2 := Lib.hid (p := w.heap.size ≤ g2) (by rw [hg2.out]; exact Nat.le_refl _)
               clear hr2 hb2 hg2 hs2)
  go_loopw [9] (fun y wr => ∃ j : Nat, j ≤ k ∧ y = .int .i64 (j : Int) ∧ Hid (Row wr g2 27 x.cs) ∧ Hid (Below w.heap.size w wr)) (fun y _ => 64 - (intOf y).toNat)
  case atStart => exact ⟨0, by omega, rfl, R2, HB2⟩
  case round =>
    clear R2 HB2
    obtain ⟨j, hj, rfl, HR2, HB⟩ := hrel
    have hji : (j : Int) < 64 := by have := HK.out; omega
    have hw : IntKind.i64.wrap ((j : Int) + 1) = (j : Int) + 1 := by rw [IntKind.wrap_i64]; omega
    obtain ⟨v, hv⟩ : ∃ v, x.i (j + 1) = v := ⟨_, rfl⟩
    have c1 : wr.cell? ⟨g2, 258 + j, none⟩ = some (.int .i64 v) := by rw [HR2.out.cell, show 258 + j = 257 + (j + 1) by omega, x.c_i (by omega), hv]
    by_cases e : j = k
    · subst e
      have hv0 : v = 0 := by rw [← hv]; exact H0.out
      subst hv0
      clear hj hv
      go_wp2
      go_ret2
      exact ⟨by go_num, HB.out⟩
    · have hjk : j < k := by omega
      have hv0 : (v == 0) = false := by rw [← hv]; simpa using HNB.out j hjk
      have HJ := Lib.hid hjk
      clear hj e hjk hv
      go_wp2
      go_roundw
      case rel => exact ⟨j + 1, by have := HJ.out; omega, by go_num, HR2, HB⟩
      case measure => simp [intOf]; omega
theorem spare_no (x : Sup) (hb : ∀ j, j < 64 → x.i (j + 1) ≠ 0) (w : World) : Calls Try.prog 31 #[.agg x.cs.toArray] w fun e w' => e = .returned (.tuple #[.int .i64 0, .bool false]) ∧ Below w.heap.size w w' := by
  have HNB := Lib.hid hb
  clear hb
  go_enter Try.func31, Try.ntmps31
  go_wp2_with (refine step_box rfl 1 rfl 27 (.tmp 0) rfl x.cs rfl ?_; intro g2 w2 hr2 hg2 hb2 hs2
               have R2 := Lib.hid hr2
               have HB2 := Lib.hid hb2
               have Q2 := Lib.hid (p := w.heap.size ≤ g2) (by rw [hg2.out]; exact Nat.le_refl _)
               clear hr2 hb2 hg2 hs2)
  go_loopw [9] (fun y wr => ∃ j : Nat, j ≤ 64 ∧ y = .int .i64 (j : Int) ∧ Hid (Row wr g2 27 x.cs) ∧ Hid (Below w.heap.size w wr)) (fun y _ => 64 - (intOf y).toNat)
  case atStart => exact ⟨0, by omega, rfl, R2, HB2⟩
  case round =>
    clear R2 HB2
    obtain ⟨j, hj, rfl, HR2, HB⟩ := hrel
    by_cases h : j < 64
    · have hji : (j : Int) < 64 := by omega
      have hw : IntKind.i64.wrap ((j : Int) + 1) = (j : Int) + 1 := by rw [IntKind.wrap_i64]; omega
      obtain ⟨v, hv⟩ : ∃ v, x.i (j + 1) = v := ⟨_, rfl⟩
      have c1 : wr.cell? ⟨g2, 258 + j, none⟩ = some (.int .i64 v) := by rw [HR2.out.cell, show 258 + j = 257 + (j + 1) by omega, x.c_i (by omega), hv]
      have hv0 : (v == 0) = false := by rw [← hv]; simpa using HNB.out j h
      clear hv
      go_wp2
      go_roundw
      case rel => exact ⟨j + 1, by omega, by go_num, HR2, HB⟩
      case measure => simp [intOf]; omega
    · obtain rfl : j = 64 := by omega
      go_wp2
      go_ret2
      exact ⟨rfl, HB.out⟩
end Go.Proofs.Ytcebbpdclgejdaa
