/- The reference's comparison of bytes: what each call leaves. Conditions: those named. -/
import Derived.Test.YtpobppoaidngeaaApp
import Derived.Test.YtpobppoaidngeaaPlain
import Derived.BigQuiet
import Derived.Deep.QuietTactic
set_option linter.unusedVariables false
namespace Go.Proofs.Ytpobppoaidngeaa
open Go.RowKit

theorem hol_drwN {w : World} {A : Option Addr} {l : List UInt8} (h : Hol w A l) : ∀ q, Hol (w.drewN q) A l
  | 0 => h
  | q + 1 => hol_drwN (w := w.drew) h q

set_option maxHeartbeats 400000 in
theorem rbytes_any (A B : Option Addr) (c d : Nat) (a b : List UInt8) (w : World) (hA : Hol w A a) (hB : Hol w B b) (ha : a.length ≤ 9223372036854775807) (hb : b.length ≤ 9223372036854775807) :
    Calls Try.prog 21 #[.slice A a.length c, .slice B b.length d] w fun e w' => e = .returned (.bool (decide (a = b))) ∧ Below w.heap.size w w' := by
  by_cases hl : a.length = b.length
  · generalize hR : decide (a = b) = R
    have HR := Lib.hid hR
    clear hR
    have hn : ((a.length : Int) != (b.length : Int)) = false := by rw [bne_eq_false_iff_eq]; omega
    generalize hbn : b.length = n at *
    have HL := Lib.hid hl
    have HB := Lib.hid hbn
    clear hl hbn
    have hn2 : (a.length : Int) ≤ (n : Int) := by have := HL.out; omega
    have hn3 : a.length ≤ n := by have := HL.out; omega
    go_enter Try.func21, Try.ntmps21
    go_wp2
    go_loopw [5] (fun i wr => ∃ k : Nat, k ≤ a.length ∧ i = .int .i64 k ∧ Hid (a.take k = b.take k) ∧ ∃ q, wr = w.drewN q) (fun i _ => a.length - (intOf i).toNat)
    case atStart => exact ⟨0, Nat.zero_le _, rfl, Lib.hid (by simp), 0, rfl⟩
    case round =>
      obtain ⟨k, hk, rfl, htk, q, rfl⟩ := hrel
      by_cases hlt : k < a.length
      · have hltb : k < b.length := by have := HL.out; have := HB.out; omega
        obtain ⟨g, o, rfl, _, hc1⟩ := hA.at_ hlt
        obtain ⟨g2, o2, rfl, _, hc2⟩ := hB.at_ hltb
        obtain ⟨x, hx⟩ : ∃ x, a[k] = x := ⟨_, rfl⟩
        obtain ⟨y, hy⟩ : ∃ y, b[k] = y := ⟨_, rfl⟩
        rw [hx] at hc1
        rw [hy] at hc2
        have HX := Lib.hid hx
        have HY := Lib.hid hy
        clear hx hy
        have hkz : (k : Int) < (a.length : Int) := by omega
        have hkz2 : (k : Int) < (n : Int) := by omega
        by_cases hxy : x = y
        · subst hxy
          have htk2 : Hid (a.take (k + 1) = b.take (k + 1)) := by
            refine Lib.hid ?_
            rw [List.take_succ_eq_append_getElem hlt, List.take_succ_eq_append_getElem hltb, htk.out, HX.out, HY.out]
          go_wp2_with fail
          go_quiet (fail)
          go_wp2
          go_roundw
          case rel =>
            exact ⟨k + 1, by omega, by go_num, htk2, _, rfl⟩
          case measure => simp [intOf]; omega
        · have hR : R = false := by
            rw [← HR.out]
            apply decide_eq_false
            intro e
            apply hxy
            subst e
            rw [← HX.out, ← HY.out]
          subst hR
          have hne : ((x.toNat : Int) != (y.toNat : Int)) = true := by
            rw [bne_iff_ne]
            intro e
            exact hxy (UInt8.toNat_inj.1 (by omega))
          clear hxy
          go_wp2_with fail
          go_quiet (fail)
          go_wp2
          go_ret
          exact ⟨rfl, below_drewN (below_drewN (Below.refl _ _) _) _⟩
      · have hR : R = true := by
          rw [← HR.out]
          apply decide_eq_true
          have := htk.out
          rw [List.take_of_length_le (by omega), List.take_of_length_le (by have := HL.out; have := HB.out; omega)] at this
          exact this
        subst hR
        go_wp2
        go_ret
        exact ⟨rfl, below_drewN (Below.refl _ _) _⟩
  · have hR : decide (a = b) = false := by
      apply decide_eq_false
      intro e
      exact hl (by rw [e])
    rw [hR]
    have hn : ((a.length : Int) != (b.length : Int)) = true := by rw [bne_iff_ne]; omega
    clear hl hR
    go_enter Try.func21, Try.ntmps21
    go_wp2
    go_ret
    exact ⟨rfl, Below.refl _ _⟩

end Go.Proofs.Ytpobppoaidngeaa
