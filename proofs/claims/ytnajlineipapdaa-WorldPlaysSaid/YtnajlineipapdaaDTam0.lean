/- The reference's disk: what of an adversary's is refused. Conditions: the disk lies there. -/
import Derived.Test.YtnajlineipapdaaDTamA
import Derived.BigGuard
set_option linter.unusedVariables false
namespace Go.Proofs.Ytnajlineipapdaa
open Go.RowKit

section
variable {b : Nat} {w : World} {g : Nat} {v1 v2 v3 v4 : Value} {ss : List BV} {rs al : List (Nat × BV)} {ts : List (Int × Int × BV)}
set_option maxRecDepth 20000 in
set_option maxHeartbeats 2000000 in
theorem dt_out1 (h : RDisk b w g v1 v2 v3 v4 ss rs al ts) (k z m : Int) (A : Option Addr) (len c : Nat) (hz : z < 0 ∨ (ss.length : Int) ≤ z) :
    Calls Try.prog 25 #[.pointer (some ⟨g, 0, none⟩), .agg (tampC k z m A len c).toArray] w fun e w' => e = .returned (.int .i64 201) ∧ Hid (Below w.heap.size w w') := by
  have H := Lib.hid h
  have HZ := Lib.hid hz
  clear hz
  clear h
  go_enter Try.func25, Try.ntmps25
  go_wp2_with (first
    | go_skip
    | go_big_skip
    | (refine step_box rfl 3 rfl 35 _ rfl (tampC k z m A len c) rfl ?_; intro g5 w5 hr5 hg5 hb5 hs5
       have q0 := hr5.cell 0
       have q1 := hr5.cell 1
       have q2 := hr5.cell 2
       simp [tampC] at q0 q1 q2
       have HB5 := Lib.hid hb5
       have H5 := Lib.hid (H.out.kept hb5)
       clear hr5 hg5 hb5 hs5)
    | (go_at_call 42; refine (has_out H5.out z HZ.out).mono ?_; rintro e1 w1 ⟨rfl, hw1⟩; obtain rfl := hw1.symm))
  go_ret
  exact ⟨rfl, HB5⟩
set_option maxRecDepth 20000 in
set_option maxHeartbeats 2000000 in
theorem dt_out2 (h : RDisk b w g v1 v2 v3 v4 ss rs al ts) (k z m : Int) (A : Option Addr) (len c : Nat) (a : Nat) (ha : a < ss.length) (hm : m < 0) :
    Calls Try.prog 25 #[.pointer (some ⟨g, 0, none⟩), .agg (tampC k (a : Int) m A len c).toArray] w fun e w' => e = .returned (.int .i64 201) ∧ Hid (Below w.heap.size w w') := by
  have H := Lib.hid h
  have HA := Lib.hid ha
  clear ha
  clear h
  go_enter Try.func25, Try.ntmps25
  go_wp2_with (first
    | go_skip
    | go_big_skip
    | (refine step_box rfl 3 rfl 35 _ rfl (tampC k (a : Int) m A len c) rfl ?_; intro g5 w5 hr5 hg5 hb5 hs5
       have q0 := hr5.cell 0
       have q1 := hr5.cell 1
       have q2 := hr5.cell 2
       simp [tampC] at q0 q1 q2
       have HB5 := Lib.hid hb5
       have H5 := Lib.hid (H.out.kept hb5)
       clear hr5 hg5 hb5 hs5)
    | (go_at_call 42; refine (has_in H5.out a HA.out).mono ?_; rintro e1 w1 ⟨rfl, hw1⟩; obtain rfl := hw1.symm))
  go_ret
  exact ⟨rfl, HB5⟩
set_option maxRecDepth 20000 in
set_option maxHeartbeats 2000000 in
theorem dt_out3 (h : RDisk b w g v1 v2 v3 v4 ss rs al ts) (k z m : Int) (A : Option Addr) (len c : Nat) (a : Nat) (ha : a < ss.length) (hm : ¬ m < 0) (hk : k < 1) :
    Calls Try.prog 25 #[.pointer (some ⟨g, 0, none⟩), .agg (tampC k (a : Int) m A len c).toArray] w fun e w' => e = .returned (.int .i64 201) ∧ Hid (Below w.heap.size w w') := by
  have H := Lib.hid h
  have HA := Lib.hid ha
  clear ha
  clear h
  go_enter Try.func25, Try.ntmps25
  go_wp2_with (first
    | go_skip
    | go_big_skip
    | (refine step_box rfl 3 rfl 35 _ rfl (tampC k (a : Int) m A len c) rfl ?_; intro g5 w5 hr5 hg5 hb5 hs5
       have q0 := hr5.cell 0
       have q1 := hr5.cell 1
       have q2 := hr5.cell 2
       simp [tampC] at q0 q1 q2
       have HB5 := Lib.hid hb5
       have H5 := Lib.hid (H.out.kept hb5)
       clear hr5 hg5 hb5 hs5)
    | (go_at_call 42; refine (has_in H5.out a HA.out).mono ?_; rintro e1 w1 ⟨rfl, hw1⟩; obtain rfl := hw1.symm))
  go_ret
  exact ⟨rfl, HB5⟩
set_option maxRecDepth 20000 in
set_option maxHeartbeats 2000000 in
theorem dt_out4 (h : RDisk b w g v1 v2 v3 v4 ss rs al ts) (k z m : Int) (A : Option Addr) (len c : Nat) (a : Nat) (ha : a < ss.length) (hm : ¬ m < 0) (hk1 : ¬ k < 1) (hk : 4 < k) :
    Calls Try.prog 25 #[.pointer (some ⟨g, 0, none⟩), .agg (tampC k (a : Int) m A len c).toArray] w fun e w' => e = .returned (.int .i64 201) ∧ Hid (Below w.heap.size w w') := by
  have H := Lib.hid h
  have HA := Lib.hid ha
  clear ha
  clear h
  go_enter Try.func25, Try.ntmps25
  go_wp2_with (first
    | go_skip
    | go_big_skip
    | (refine step_box rfl 3 rfl 35 _ rfl (tampC k (a : Int) m A len c) rfl ?_; intro g5 w5 hr5 hg5 hb5 hs5
       have q0 := hr5.cell 0
       have q1 := hr5.cell 1
       have q2 := hr5.cell 2
       simp [tampC] at q0 q1 q2
       have HB5 := Lib.hid hb5
       have H5 := Lib.hid (H.out.kept hb5)
       clear hr5 hg5 hb5 hs5)
    | (go_at_call 42; refine (has_in H5.out a HA.out).mono ?_; rintro e1 w1 ⟨rfl, hw1⟩; obtain rfl := hw1.symm))
  go_ret
  exact ⟨rfl, HB5⟩
set_option maxRecDepth 20000 in
set_option maxHeartbeats 2000000 in
theorem dt_out5 (h : RDisk b w g v1 v2 v3 v4 ss rs al ts) (k z m : Int) (A : Option Addr) (len c : Nat) (a : Nat) (ha : a < ss.length) (hm : ¬ m < 0) (hl : (ss.length : Int) ≤ m) :
    Calls Try.prog 25 #[.pointer (some ⟨g, 0, none⟩), .agg (tampC 2 (a : Int) m A len c).toArray] w fun e w' => e = .returned (.int .i64 201) ∧ Hid (Below w.heap.size w w') := by
  have H := Lib.hid h
  have HA := Lib.hid ha
  have HM := Lib.hid (p := m < 0 ∨ (ss.length : Int) ≤ m) (.inr hl)
  clear ha hl
  clear h
  go_enter Try.func25, Try.ntmps25
  go_wp2_with (first
    | go_skip
    | go_big_skip
    | (refine step_box rfl 3 rfl 35 _ rfl (tampC 2 (a : Int) m A len c) rfl ?_; intro g5 w5 hr5 hg5 hb5 hs5
       have q0 := hr5.cell 0
       have q1 := hr5.cell 1
       have q2 := hr5.cell 2
       simp [tampC] at q0 q1 q2
       have HB5 := Lib.hid hb5
       have H5 := Lib.hid (H.out.kept hb5)
       clear hr5 hg5 hb5 hs5)
    | (go_at_call_of 42 (Value.int IntKind.i64 (a : Int)); refine (has_in H5.out a HA.out).mono ?_; rintro e1 w1 ⟨rfl, hw1⟩; obtain rfl := hw1.symm)
    | (go_at_call_of 42 (Value.int IntKind.i64 m); refine (has_out H5.out m HM.out).mono ?_; rintro e1 w1 ⟨rfl, hw1⟩; obtain rfl := hw1.symm))
  go_ret
  exact ⟨rfl, HB5⟩
theorem dtamper_out (h : RDisk b w g v1 v2 v3 v4 ss rs al ts) (k z m : Int) (A : Option Addr) (len c : Nat) (hz : (z < 0 ∨ (ss.length : Int) ≤ z) ∨ m < 0 ∨ (k = 2 ∧ (ss.length : Int) ≤ m) ∨ (k ≠ 1 ∧ k ≠ 2 ∧ k ≠ 3 ∧ k ≠ 4)) :
    Calls Try.prog 25 #[.pointer (some ⟨g, 0, none⟩), .agg (tampC k z m A len c).toArray] w fun e w' => e = .returned (.int .i64 201) ∧ Hid (Below w.heap.size w w') := by
  by_cases h1 : z < 0 ∨ (ss.length : Int) ≤ z
  · exact dt_out1 h k z m A len c h1
  · obtain ⟨a, rfl⟩ := Int.eq_ofNat_of_zero_le (by omega : 0 ≤ z)
    have ha : a < ss.length := by omega
    by_cases h2 : m < 0
    · exact dt_out2 h k 0 m A len c a ha h2
    · by_cases h3 : k < 1
      · exact dt_out3 h k 0 m A len c a ha h2 h3
      · by_cases h4 : 4 < k
        · exact dt_out4 h k 0 m A len c a ha h2 h3 h4
        · obtain rfl : k = 2 := by omega
          exact dt_out5 h 0 0 m A len c a ha h2 (by omega)
end
end Go.Proofs.Ytnajlineipapdaa
