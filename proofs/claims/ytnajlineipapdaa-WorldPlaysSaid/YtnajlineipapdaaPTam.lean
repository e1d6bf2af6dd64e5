/- The program's disk: what an adversary does. Conditions: the disk lies there; a block's bytes lie where the slice says. -/
import Derived.Test.YtnajlineipapdaaMgPForce
set_option linter.unusedVariables false
namespace Go.Proofs.Ytnajlineipapdaa
open Go.RowKit

/-- A block forced, behind the call. -/
def Forced (b : Nat) (w w' : World) (g : Nat) (F : List Nat) (ss : List BV) (rs : List (Nat × BV)) (E : Nat → List BV) (ts : List (Int × Int × BV)) (a : Nat) (L : List UInt8) : Prop :=
  ∃ x : BV, Hid (x.l = L) ∧ Hid (x.l.length = 256) ∧ Turned b w w' g F (ss.set a x) (gone a rs) E ts
/-- What an adversary does, as it lies. -/
def tampC (k z m : Int) (A : Option Addr) (len c : Nat) : List Value := [.int .i64 k, .int .i64 z, .int .i64 m, .slice A len c]
section
variable {b : Nat} {w : World} {g : Nat} {F : List Nat} {ss : List BV} {rs : List (Nat × BV)} {E : Nat → List BV} {ts : List (Int × Int × BV)}
set_option maxRecDepth 20000 in
set_option maxHeartbeats 2000000 in
theorem PD.tamper_old (h : PD b w g F ss rs E ts) (hr : rs.length ≤ 1000000) (ht : ts.length ≤ 1000000) (a : Nat) (ha : a < ss.length) (back : Nat) (hb : back ≤ 9223372036854775807) (A : Option Addr) (len c : Nat) :
    Calls Try.prog 24 #[.pointer (some ⟨g, 0, none⟩), .agg (tampC 3 (a : Int) (back : Int) A len c).toArray] w fun e w' => e = .returned (.int .i64 0) ∧ Forced b w w' g F ss rs E ts a (oldL E a back) := by
  obtain ⟨v1, v2, gm, v4, ev, n, hn, h⟩ := h
  have H := Lib.hid h
  have HR := Lib.hid hr
  have HA := Lib.hid ha
  have HN := Lib.hid (p := n ≤ 1000000) (by omega)
  have HNT := Lib.hid hn
  have HBK := Lib.hid hb
  have hb0 : ¬ (back : Int) < 0 := by omega
  clear h hr ha hb hn ht
  go_enter Try.func24, Try.ntmps24
  go_wp2_with (first
    | (refine step_box rfl 3 rfl 35 _ rfl (tampC 3 (a : Int) (back : Int) A len c) rfl ?_; intro g5 w5 hr5 hg5 hb5 hs5
       have q0 := hr5.cell 0
       have q1 := hr5.cell 1
       have q2 := hr5.cell 2
       have q3 := hr5.cell 3
       simp [tampC] at q0 q1 q2 q3
       have HB5 := Lib.hid hb5
       have HR5 := Lib.hid hr5
       have H5 := Lib.hid (H.out.kept hb5)
       clear hr5 hg5 hb5 hs5)
    | (go_at_call 39; refine (phas_in H5.out a HA.out).mono ?_; rintro e1 w1 ⟨rfl, hw1⟩; obtain rfl := hw1.symm))
  have HG5 := Lib.hid HR5.out.lt
  go_region_with (first
    | (go_at_call 47; refine (pold (H5.out.kept (below_drw w5)) HN.out a HA.out back HBK.out).mono ?_; rintro e6 w6 ⟨x, rfl, HXL, HX2, HX8, hb6⟩
       have hb6' : Below w5.heap.size w5 w6 := below_nxt hb6.out (below_drw w5)
       have HB6 := Lib.hid hb6'
       have q16 : w6.cell? ⟨g5, 1, none⟩ = some (.int .i64 (a : Int)) := (hb6'.cell (p := ⟨g5, 1, none⟩) HG5.out).trans q1
       clear hb6 hb6')
    | (go_at_call 46; refine (pforce (H5.out.kept HB6.out) HR.out a HA.out x ⟨HX8.out, HX2.out⟩).mono ?_; rintro e7 w7 ⟨rfl, v', F', hD, hC, hW⟩
       have HD := Lib.hid hD
       have HC := Lib.hid hC
       have HW := Lib.hid hW
       clear hD hC hW))
  all_goals
    have HBB := Lib.hid (below_nxt HB6.out HB5.out)
    go_wp2
    go_ret
    exact ⟨rfl, x, HXL, HX2, F', Lib.hid ⟨_, _, _, _, _, n, HNT.out, HD.out⟩, Lib.hid ((Chg.of (F := F) HBB.out).trans HC.out (fun y hy => .inl hy)), Lib.hid fun q hq => (HW.out q hq).imp id (fun e => Nat.le_trans HBB.out.size e)⟩
end
end Go.Proofs.Ytnajlineipapdaa
