/- Bytes as a block, by the law's own function: what the call leaves, for all bytes. No conditions but those named. -/
import Derived.Test.YtnajlineipapdaaChg
import Derived.Test.YtnajlineipapdaaAesK
import Derived.BigQuiet
set_option linter.unusedVariables false
namespace Go.Proofs.Ytnajlineipapdaa
open Go.RowKit

/-- A new row of bytes. -/
def Fresh (w : World) (n : Nat) (f : Nat → UInt8) (x : Ending) (w' : World) : Prop :=
  ∃ g, x = .returned (.slice (some ⟨g, 0, none⟩) n n) ∧ Row w' g 5 (brr n f) ∧ w.heap.size ≤ g ∧ Below w.heap.size w w'
/-- A block's bytes. -/
def wh (l : List UInt8) : Nat → UInt8 := fun j => l.getD j 0
set_option maxHeartbeats 1000000 in
theorem whole_any (A : Option Addr) (c : Nat) (l : List UInt8) (hl : l.length ≤ 9223372036854775807) (w : World) (hA : Hol w A l) :
    Calls Try.prog 31 #[.slice A l.length c] w (Fresh w 256 (wh l)) := by
  obtain ⟨i, U⟩ := u8_tab
  have HA := Lib.hid hA
  have HL := Lib.hid hl
  clear hA hl
  go_enter Try.func31, Try.ntmps31
  go_wp2_with (refine step_make rfl _ _ 32 5 i U rfl 256 rfl rfl (by omega) ?_; intro g w1 hr1 hg1 hb1 hs1)
  have q1 : w.heap.size ≤ g := by rw [hg1.out]; exact Nat.le_refl _
  have HB1 := Lib.hid hb1
  clear hb1 hg1 hs1
  go_loopw [4] (fun x wr => ∃ k : Nat, k ≤ l.length ∧ k ≤ 256 ∧ x = .int .i64 (k : Int) ∧ Row wr g 5 (brr 256 (upto k (wh l) fun _ => 0)) ∧ Below w.heap.size w wr) (fun x _ => 256 - (intOf x).toNat)
  case atStart => exact ⟨0, by omega, by omega, rfl, by rw [upto_zero]; exact hr1, HB1.out⟩
  case round =>
    clear hr1
    obtain ⟨k, hk, hk2, rfl, hR, hB⟩ := hrel
    by_cases h1 : k < l.length
    · have h1i : (k : Int) < (l.length : Int) := by omega
      by_cases h2 : k < 256
      · have h2i : (k : Int) < 256 := by omega
        obtain ⟨ga, oa, rfl, _, hc2⟩ := (HA.out.below hB).at_ h1
        obtain ⟨y, hy⟩ : ∃ y, l[k] = y := ⟨_, rfl⟩
        rw [hy] at hc2
        replace hc2 : wr.cell? ⟨ga, oa + k, none⟩ = some (B y) := hc2
        have HY : Hid (wh l k = y) := Lib.hid (by unfold wh; rw [List.getD_eq_getElem?_getD, List.getElem?_eq_getElem h1, hy]; rfl)
        have c1 : wr.cell? ⟨g, k, none⟩ = some (B 0) := by rw [hR.cell, brr_get _ h2, upto_self]
        have f1 := hR.free k
        have HR := Lib.hid hR
        have HB := Lib.hid hB
        clear hR hB hy
        go_wp2
        go_roundw
        case rel => exact ⟨k + 1, by omega, by omega, by go_num, by rw [← upto_step, ← brr_set, HY.out]; exact HR.out.put _ _, HB.out.setCell q1 _⟩
        case measure => simp [intOf]; omega
      · have h2i : ¬ (k : Int) < 256 := by omega
        have hfin : brr 256 (upto k (wh l) fun _ => 0) = brr 256 (wh l) := brr_congr fun j hj => upto_near _ _ (by omega)
        rw [hfin] at hR
        have HR := Lib.hid hR
        have HB := Lib.hid hB
        clear hR hB hfin
        go_wp2
        go_ret
        exact ⟨g, rfl, HR.out, q1, HB.out⟩
    · have h1i : ¬ (k : Int) < (l.length : Int) := by omega
      have hfin : brr 256 (upto k (wh l) fun _ => 0) = brr 256 (wh l) := brr_congr fun j hj => by
        by_cases h : j < k
        · exact upto_near _ _ h
        · rw [upto_far _ _ (by omega)]
          unfold wh
          rw [List.getD_eq_getElem?_getD, List.getElem?_eq_none (by omega)]
          rfl
      rw [hfin] at hR
      have HR := Lib.hid hR
      have HB := Lib.hid hB
      clear hR hB hfin
      go_wp2
      go_ret
      exact ⟨g, rfl, HR.out, q1, HB.out⟩
end Go.Proofs.Ytnajlineipapdaa
