/- A new space. Conditions: the library's table lies there. -/
import Derived.Test.YtkmnmmenjpkkpaaDoorSx
set_option linter.unusedVariables false
namespace Go.Proofs.YtkmnmmenjpkkpaaDoor
open Go.RowKit

theorem new_built (z : Int) : Tryd.prog.built 51 [(0, .int .i64 z)] = some (Value.int .i64 z :: List.replicate 32 (Value.int .u64 0)).toArray := by kernel_rfl
theorem new_spc (N : Nat) : (Value.int .i64 (N : Int) :: List.replicate 32 (Value.int .u64 0)) = spc N (fun j => decide (j < 0)) (fun _ => false) := by
  have e : (fun j : Nat => decide (j < 0)) = (fun _ => false) := by funext j; simp
  rw [e]
  refine spc_of (by simp) rfl (fun i hi => ?_) (fun i hi => ?_)
  · rw [wv_none, Nat.add_comm, List.getElem?_cons_succ, List.getElem?_replicate, if_pos (by omega)]
    rfl
  · rw [wv_none, show 17 + i = (16 + i) + 1 by omega, List.getElem?_cons_succ, List.getElem?_replicate, if_pos (by omega)]
    rfl
theorem new_bad (z : Int) (h : z < 1 ∨ 1024 < z) (w : World) : Calls Tryd.prog 9 #[.int .i64 z] w fun e w' => e = .returned (.tuple #[.pointer none, .int .i64 201]) ∧ w' = w := by
  by_cases h1 : z < 1
  · have d1 : decide (z < 1) = true := decide_eq_true h1
    clear h
    go_enter Tryd.func9, Tryd.ntmps9
    go_wp2
    go_ret2
    exact ⟨rfl, rfl⟩
  · have h2 : 1024 < z := by omega
    have d1 : decide (z < 1) = false := decide_eq_false h1
    have d2 : decide (1024 < z) = true := decide_eq_true h2
    clear h
    go_enter Tryd.func9, Tryd.ntmps9
    go_wp2
    go_ret2
    exact ⟨rfl, rfl⟩
theorem lt_next (k : Nat) : put (fun j => decide (j < k)) k true = fun j => decide (j < k + 1) := by
  funext j
  unfold put
  by_cases e : j = k
  · rw [if_pos e, e]; simp
  · rw [if_neg e, decide_eq_decide]; omega
theorem lt_all (N : Nat) : (fun j => decide (j < N)) = fr N (fun _ => 0) := by
  funext j
  rw [Bool.eq_iff_iff, fr_lt]
  simp
theorem no_back (N : Nat) : (fun _ => false) = bk N (fun _ => 0) := by
  funext j
  symm
  rw [← Bool.not_eq_true, bk_lt]
  omega
theorem down {k N : Nat} (h : k < N) : N - ((k : Int) + 1).toNat < N - (k : Int).toNat := by omega
theorem new_step {w5 : World} {g N k : Nat} (hk : k < 1024) (h5 : Row w5 g 51 ((spc N (fun j => decide (j < k)) (fun _ => false)).set (1 + k / 64) (W64 (num 64 (put (fun j => decide (64 * (k / 64) + j < k)) (k % 64) true))))) :
    SpAt w5 g N (fun j => decide (j < k + 1)) (fun _ => false) := by
  have e := spc_setF N (fun j => decide (j < k)) (fun _ => false) true hk
  rw [lt_next] at e
  rw [e] at h5
  exact h5
theorem new_any (N : Nat) (h1 : 1 ≤ N) (h2 : N ≤ 1024) (w : World) (hT : Tab w) : Calls Tryd.prog 9 #[.int .i64 (N : Int)] w fun e w' =>
    ∃ g, e = .returned (.tuple #[.pointer (some ⟨g, 0, none⟩), .int .i64 0]) ∧ w.heap.size ≤ g ∧ Spc w' g N (fun _ => 0) ∧ Below w.heap.size w w' := by
  have HT := Lib.hid hT
  have d1 : decide ((N : Int) < 1) = false := decide_eq_false (by omega)
  have d2 : decide (1024 < (N : Int)) = false := decide_eq_false (by omega)
  have d3 : decide (1024 < N) = false := decide_eq_false (by omega)
  have d4 : decide (N < 1) = false := decide_eq_false (by omega)
  have H := Lib.hid (p := 1 ≤ N ∧ N ≤ 1024) ⟨h1, h2⟩
  have HZB := Lib.hid (new_built (N : Int))
  clear hT h1 h2
  go_enter Tryd.func9, Tryd.ntmps9
  go_wp2_with (first
    | (refine step_build rfl 51 _ rfl [(0, .int .i64 (N : Int))] ?hv _ HZB.out ?_; case hv => simp [Act.eval])
    | (refine step_box rfl 14 rfl 51 _ rfl (Value.int .i64 (N : Int) :: List.replicate 32 (Value.int .u64 0)) rfl ?_; intro g w1 hr1 hg1 hb1 hs1; have HR1 := Lib.hid hr1; have HB1 := Lib.hid hb1; clear hr1 hb1 hs1))
  have HS1 : Hid (SpAt w1 g N (fun j => decide (j < 0)) (fun _ => false)) := Lib.hid (by have := HR1.out; rw [new_spc] at this; exact this)
  go_loopw [16] (fun i wr => ∃ k : Nat, k ≤ N ∧ i = .int .i64 (k : Int) ∧ Hid (SpAt wr g N (fun j => decide (j < k)) (fun _ => false)) ∧ Hid (Below w.heap.size w wr)) (fun i _ => N - (intOf i).toNat)
  case atStart => exact ⟨0, Nat.zero_le _, rfl, HS1, HB1⟩
  case round =>
    clear HS1 HR1 HB1
    obtain ⟨k, hk, rfl, hS, hB⟩ := hrel
    by_cases hlt : k < N
    · have hx : (spc N (fun j => decide (j < k)) (fun _ => false))[1 + k / 64]? = some (W64 (num 64 (fun j => decide (64 * (k / 64) + j < k)))) := by
        rw [spc_free _ _ _ (by have := H.out.2; omega), wv_eq]
      have HX := Lib.hid hx
      have hkN : (k : Int) < (N : Int) := by omega
      have hw1 : wrap64 ((k : Int) + 1) = (k : Int) + 1 := by unfold wrap64; have := H.out.2; omega
      have hw2 : IntKind.i64.wrap ((k : Int) + 1) = (k : Int) + 1 := by rw [IntKind.wrap_i64]; have := H.out.2; omega
      have HK := Lib.hid hlt
      have HKB := Lib.hid (show k < 1024 by have := H.out.2; omega)
      clear hx hlt hk
      go_wp2_with (go_at_call 23; refine (add_any (off := 1) (a := k) hS.out HKB.out HX.out).mono ?_; rintro e w5 ⟨⟨v5, rfl⟩, h5, g5⟩; have H5 := Lib.hid h5; have G5 := Lib.hid g5; clear h5 g5)
      have HBN : Hid (Hid (Below w.heap.size w w5)) := Lib.hid (Lib.hid (hB.out.grown G5.out hB.out.size (fun j e => by injection e with e; rw [← e, hg1.out]; exact Nat.le_refl _)))
      go_roundw
      case rel =>
        exact ⟨k + 1, HK.out, by go_num, Lib.hid (new_step (HKB.out) H5.out), HBN.out⟩
      case measure => exact down HK.out
    · obtain rfl : k = N := by omega
      have hfin : Hid (Spc wr g k (fun _ => 0)) := Lib.hid ⟨by rw [← lt_all, ← no_back]; exact hS.out, H.out.2, fun _ => by omega, HT.out.below hB.out HT.out.lt, fun e => by have := HT.out.lt; rw [e, hg1.out] at this; exact Nat.lt_irrefl _ this⟩
      go_wp2
      go_ret2
      exact ⟨g, rfl, by rw [hg1.out]; exact Nat.le_refl _, hfin.out, hB.out⟩
end Go.Proofs.YtkmnmmenjpkkpaaDoor
