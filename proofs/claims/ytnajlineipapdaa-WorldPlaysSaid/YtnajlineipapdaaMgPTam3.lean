/- The program's disk: an adversary sets a block, copies one, or names what isn't there. Conditions: the disk lies there. -/
import Derived.Test.YtnajlineipapdaaPTam
import Derived.Test.YtnajlineipapdaaPTam2
import Derived.Test.YtnajlineipapdaaMgPDropE
import Derived.Test.YtnajlineipapdaaMgBin
set_option linter.unusedVariables false
namespace Go.Proofs.Ytnajlineipapdaa
open Go.RowKit

section
variable {b : Nat} {w : World} {g : Nat} {F : List Nat} {ss : List BV} {rs : List (Nat × BV)} {E : Nat → List BV} {ts : List (Int × Int × BV)}
set_option maxRecDepth 20000 in
set_option maxHeartbeats 2000000 in
theorem PD.tamper_out (h : PD b w g F ss rs E ts) (k z m : Int) (A : Option Addr) (len c : Nat) (hz : (z < 0 ∨ (ss.length : Int) ≤ z) ∨ m < 0 ∨ (k = 2 ∧ (ss.length : Int) ≤ m) ∨ (k ≠ 1 ∧ k ≠ 2 ∧ k ≠ 3 ∧ k ≠ 4)) :
    Calls Try.prog 24 #[.pointer (some ⟨g, 0, none⟩), .agg (tampC k z m A len c).toArray] w fun e w' => e = .returned (.int .i64 201) ∧ Hid (Below w.heap.size w w') := by
  obtain ⟨v1, v2, gm, v4, ev, n, hn, h⟩ := h
  have H := Lib.hid h
  clear h hn
  by_cases h1 : z < 0 ∨ (ss.length : Int) ≤ z
  · have HZ := Lib.hid h1
    clear hz h1
    go_enter Try.func24, Try.ntmps24
    go_wp2_with (first
      | (refine step_box rfl 3 rfl 35 _ rfl (tampC k z m A len c) rfl ?_; intro g5 w5 hr5 hg5 hb5 hs5
         have q0 := hr5.cell 0
         have q1 := hr5.cell 1
         have q2 := hr5.cell 2
         have q3 := hr5.cell 3
         simp [tampC] at q0 q1 q2 q3
         have HB5 := Lib.hid hb5
         have H5 := Lib.hid (H.out.kept hb5)
         clear hr5 hg5 hb5 hs5)
      | (go_at_call 39; refine (phas_out H5.out z HZ.out).mono ?_; rintro e1 w1 ⟨rfl, hw1⟩; obtain rfl := hw1.symm))
    go_ret
    exact ⟨rfl, HB5⟩
  · obtain ⟨a, rfl⟩ := Int.eq_ofNat_of_zero_le (by omega : 0 ≤ z)
    have HA := Lib.hid (p := a < ss.length) (by omega)
    by_cases h2 : m < 0
    · clear hz h1
      go_enter Try.func24, Try.ntmps24
      go_wp2_with (first
        | (refine step_box rfl 3 rfl 35 _ rfl (tampC k (a : Int) m A len c) rfl ?_; intro g5 w5 hr5 hg5 hb5 hs5
           have q0 := hr5.cell 0
           have q1 := hr5.cell 1
           have q2 := hr5.cell 2
           have q3 := hr5.cell 3
           simp [tampC] at q0 q1 q2 q3
           have HB5 := Lib.hid hb5
           have H5 := Lib.hid (H.out.kept hb5)
           clear hr5 hg5 hb5 hs5)
        | (go_at_call 39; refine (phas_in H5.out a HA.out).mono ?_; rintro e1 w1 ⟨rfl, hw1⟩; obtain rfl := hw1.symm))
      go_ret
      exact ⟨rfl, HB5⟩
    · by_cases h3 : k = 2
      · subst h3
        have HM := Lib.hid (p := m < 0 ∨ (ss.length : Int) ≤ m) (by omega)
        clear hz h1
        go_enter Try.func24, Try.ntmps24
        go_wp2_with (first
          | (refine step_box rfl 3 rfl 35 _ rfl (tampC 2 (a : Int) m A len c) rfl ?_; intro g5 w5 hr5 hg5 hb5 hs5
             have q0 := hr5.cell 0
             have q1 := hr5.cell 1
             have q2 := hr5.cell 2
             have q3 := hr5.cell 3
             simp [tampC] at q0 q1 q2 q3
             have HB5 := Lib.hid hb5
             have H5 := Lib.hid (H.out.kept hb5)
             clear hr5 hg5 hb5 hs5)
          | (go_at_call_of 39 (Value.int IntKind.i64 m); refine (phas_out H5.out m HM.out).mono ?_; rintro e1 w1 ⟨rfl, hw1⟩; obtain rfl := hw1.symm)
          | (go_at_call_of 39 (Value.int IntKind.i64 (a : Int)); refine (phas_in H5.out a HA.out).mono ?_; rintro e1 w1 ⟨rfl, hw1⟩; obtain rfl := hw1.symm))
        go_ret
        exact ⟨rfl, HB5⟩
      · have k1 : (k == 1) = false := beq_false_of_ne (by omega)
        have k2 : (k == 2) = false := beq_false_of_ne (by omega)
        have k3 : (k == 3) = false := beq_false_of_ne (by omega)
        have k4 : (k == 4) = false := beq_false_of_ne (by omega)
        clear hz h1 h3
        go_enter Try.func24, Try.ntmps24
        go_wp2_with (first
          | (refine step_box rfl 3 rfl 35 _ rfl (tampC k (a : Int) m A len c) rfl ?_; intro g5 w5 hr5 hg5 hb5 hs5
             have q0 := hr5.cell 0
             have q1 := hr5.cell 1
             have q2 := hr5.cell 2
             have q3 := hr5.cell 3
             simp [tampC] at q0 q1 q2 q3
             have HB5 := Lib.hid hb5
             have H5 := Lib.hid (H.out.kept hb5)
             clear hr5 hg5 hb5 hs5)
          | (go_at_call 39; refine (phas_in H5.out a HA.out).mono ?_; rintro e1 w1 ⟨rfl, hw1⟩; obtain rfl := hw1.symm))
        go_ret
        exact ⟨rfl, HB5⟩
end
end Go.Proofs.Ytnajlineipapdaa
/- The program's disk: an adversary drops a write. What a step's bytes are. Conditions: the disk lies there. -/
set_option linter.unusedVariables false
namespace Go.Proofs.Ytnajlineipapdaa
open Go.RowKit

section
variable {b : Nat} {w : World} {g : Nat} {F : List Nat} {ss : List BV} {rs : List (Nat × BV)} {E : Nat → List BV} {ts : List (Int × Int × BV)}
set_option maxRecDepth 20000 in
set_option maxHeartbeats 2000000 in
theorem PD.tamper_drop (h : PD b w g F ss rs E ts) (hr : rs.length ≤ 1000000) (ht : ts.length ≤ 1000000) (a : Nat) (ha : a < ss.length) (m : Nat) (A : Option Addr) (len c : Nat) :
    Calls Try.prog 24 #[.pointer (some ⟨g, 0, none⟩), .agg (tampC 4 (a : Int) (m : Int) A len c).toArray] w fun e w' => e = .returned (.int .i64 0) ∧ Turned b w w' g F ss (dropL rs a) E ts := by
  obtain ⟨v1, v2, gm, v4, ev, n, hn, h⟩ := h
  have H := Lib.hid h
  have HR := Lib.hid hr
  have HA := Lib.hid ha
  have HN := Lib.hid (p := n ≤ 1000000) (by omega)
  have HNT := Lib.hid hn
  have hb0 : ¬ (m : Int) < 0 := by omega
  clear h hr ha hn ht
  go_enter Try.func24, Try.ntmps24
  go_wp2_with (first
    | (refine step_box rfl 3 rfl 35 _ rfl (tampC 4 (a : Int) (m : Int) A len c) rfl ?_; intro g5 w5 hr5 hg5 hb5 hs5
       have q0 := hr5.cell 0
       have q1 := hr5.cell 1
       have q2 := hr5.cell 2
       have q3 := hr5.cell 3
       simp [tampC] at q0 q1 q2 q3
       have HB5 := Lib.hid hb5
       have HR5 := Lib.hid hr5
       have H5 := Lib.hid (H.out.kept hb5)
       clear hr5 hg5 hb5 hs5)
    | (go_at_call 39; refine (phas_in H5.out a HA.out).mono ?_; rintro e1 w1 ⟨rfl, hw1⟩; obtain rfl := hw1.symm)
    | (go_at_call 48; refine (pdrop H5.out HR.out a).mono ?_; rintro e7 w7 ⟨rfl, v', F', hD, hC, hW⟩
       have HD := Lib.hid hD
       have HC := Lib.hid hC
       have HW := Lib.hid hW
       clear hD hC hW))
  go_ret
  exact ⟨rfl, F', Lib.hid ⟨_, _, _, _, _, n, HNT.out, HD.out⟩, Lib.hid ((Chg.of (F := F) HB5.out).trans HC.out (fun y hy => .inl hy)), Lib.hid fun q hq => (HW.out q hq).imp id (fun e => Nat.le_trans HB5.out.size e)⟩
end
/-- A step's bytes, as the law takes them. -/
def dol (d : DoV) : List UInt8 := if d.odd then d.l else pad d.l
set_option maxRecDepth 20000 in
theorem dobytes_any (d : DoV) (w : World) (hd : Hol w d.A d.l) (hl : d.l.length ≤ 9223372036854775807) :
    Calls Try.prog 17 #[.agg (dc d).toArray] w fun e w' => ∃ y : BV, e = .returned (.slice y.A y.l.length y.c) ∧ Hid (y.l = dol d) ∧ Hid (Hol w' y.A y.l) ∧ Hid (Below w.heap.size w w') := by
  have HD := Lib.hid hd
  have HL := Lib.hid hl
  clear hd hl
  cases ho : d.odd with
  | true =>
    have HY := Lib.hid (p := d.l = dol d) (by unfold dol; rw [ho]; rfl)
    go_enter Try.func17, Try.ntmps17
    go_wp2_with (first
      | (refine step_box rfl 1 rfl 37 _ rfl (dc d) rfl ?_; intro g5 w5 hr5 hg5 hb5 hs5
         have q2 := hr5.cell 2
         have q3 := hr5.cell 3
         simp [dc] at q2 q3
         rw [ho] at q3
         have HB5 := Lib.hid hb5
         clear hr5 hg5 hb5 hs5))
    go_ret
    exact ⟨⟨d.A, d.c, d.l⟩, rfl, HY, Lib.hid (HD.out.below HB5.out), HB5⟩
  | false =>
    have HY := Lib.hid (p := dol d = pad d.l) (by unfold dol; rw [ho]; rfl)
    go_enter Try.func17, Try.ntmps17
    go_wp2_with (first
      | (refine step_box rfl 1 rfl 37 _ rfl (dc d) rfl ?_; intro g5 w5 hr5 hg5 hb5 hs5
         have q2 := hr5.cell 2
         have q3 := hr5.cell 3
         simp [dc] at q2 q3
         rw [ho] at q3
         have HB5 := Lib.hid hb5
         clear hr5 hg5 hb5 hs5)
      | (go_at_call 31; refine (whole_own d.A _ d.c d.l rfl HL.out _ (HD.out.below HB5.out)).mono ?_; rintro e6 w6 ⟨x6, rfl, HX6, HO6, HB6⟩))
    go_ret
    exact ⟨x6, rfl, Lib.hid (HX6.out.trans HY.out.symm), Lib.hid HO6.out.hol, Lib.hid (below_nxt HB6.out HB5.out)⟩
end Go.Proofs.Ytnajlineipapdaa
