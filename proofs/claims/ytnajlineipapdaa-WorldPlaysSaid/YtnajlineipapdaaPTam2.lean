/- The program's disk: an adversary sets a block, copies one, or names what isn't there. Conditions: the disk lies there. -/
import Derived.Test.YtnajlineipapdaaPTam
set_option linter.unusedVariables false
namespace Go.Proofs.Ytnajlineipapdaa
open Go.RowKit

section
variable {b : Nat} {w : World} {g : Nat} {F : List Nat} {ss : List BV} {rs : List (Nat × BV)} {E : Nat → List BV} {ts : List (Int × Int × BV)}
set_option maxRecDepth 20000 in
set_option maxHeartbeats 2000000 in
theorem PD.tamper_set (h : PD b w g F ss rs E ts) (hr : rs.length ≤ 1000000) (ht : ts.length ≤ 1000000) (a : Nat) (ha : a < ss.length) (m : Nat) (A : Option Addr) (len c : Nat) (l : List UInt8) (hlen : len = l.length) (hA : Hol w A l) :
    Calls Try.prog 24 #[.pointer (some ⟨g, 0, none⟩), .agg (tampC 1 (a : Int) (m : Int) A len c).toArray] w fun e w' => e = .returned (.int .i64 0) ∧ Forced b w w' g F ss rs E ts a (pad l) := by
  obtain ⟨v1, v2, gm, v4, ev, n, hn, h⟩ := h
  have H := Lib.hid h
  have HR := Lib.hid hr
  have HBE := Lib.hid (p := b ≤ w.heap.size) (by have h1 := h.fl _ h.fg; omega)
  have HA := Lib.hid ha
  have HN := Lib.hid (p := n ≤ 1000000) (by omega)
  have HNT := Lib.hid hn
  have HLL := Lib.hid hlen
  have HAA := Lib.hid hA
  have hb0 : ¬ (m : Int) < 0 := by omega
  clear h hr ha hn ht hlen hA
  go_enter Try.func24, Try.ntmps24
  go_wp2_with (first
    | (refine step_box rfl 3 rfl 35 _ rfl (tampC 1 (a : Int) (m : Int) A len c) rfl ?_; intro g5 w5 hr5 hg5 hb5 hs5
       have q0 := hr5.cell 0
       have q1 := hr5.cell 1
       have q2 := hr5.cell 2
       have q3 := hr5.cell 3
       simp [tampC] at q0 q1 q2 q3
       have HB5 := Lib.hid hb5
       have HR5 := Lib.hid hr5
       have H5 := Lib.hid (H.out.kept hb5)
       clear hr5 hg5 hb5 hs5)
    | (go_at_call 39; refine (phas_in H5.out a HA.out).mono ?_; rintro e1 w1 ⟨rfl, hw1⟩; obtain rfl := hw1.symm))
  have HG5 := Lib.hid HR5.out.lt
  go_region_with (first
    | (go_at_call 38; refine (block_own A _ c l HLL.out _ (HAA.out.below (below_nxt (below_drw w5) HB5.out))).mono ?_; rintro e6 w6 ⟨x, rfl, HXL, HX8, hb6⟩
       have HX2 := Lib.hid (p := x.l.length = 256) (by rw [HXL.out, pad_len])
       have hb6' : Below w5.heap.size w5 w6 := below_nxt hb6.out (below_drw w5)
       have HB6 := Lib.hid hb6'
       have q16 : w6.cell? ⟨g5, 1, none⟩ = some (.int .i64 (a : Int)) := (hb6'.cell (p := ⟨g5, 1, none⟩) HG5.out).trans q1
       have HX9 := Lib.hid (p := Own8 b w6 x) (HX8.out.lower (Nat.le_trans HBE.out HB5.out.size))
       clear hb6 hb6')
    | (go_at_call 46; refine (pforce (H5.out.kept HB6.out) HR.out a HA.out x ⟨HX9.out, HX2.out⟩).mono ?_; rintro e7 w7 ⟨rfl, v', F', hD, hC, hW⟩
       have HD := Lib.hid hD
       have HC := Lib.hid hC
       have HW := Lib.hid hW
       clear hD hC hW))
  all_goals
    have HBB := Lib.hid (below_nxt HB6.out HB5.out)
    go_wp2
    go_ret
    exact ⟨rfl, x, HXL, HX2, F', Lib.hid ⟨_, _, _, _, _, n, HNT.out, HD.out⟩, Lib.hid ((Chg.of (F := F) HBB.out).trans HC.out (fun y hy => .inl hy)), Lib.hid fun q hq => (HW.out q hq).imp id (fun e => Nat.le_trans HBB.out.size e)⟩
set_option maxRecDepth 20000 in
set_option maxHeartbeats 2000000 in
theorem PD.tamper_copy (h : PD b w g F ss rs E ts) (hr : rs.length ≤ 1000000) (ht : ts.length ≤ 1000000) (a : Nat) (ha : a < ss.length) (m : Nat) (hm : m < ss.length) (A : Option Addr) (len c : Nat) :
    Calls Try.prog 24 #[.pointer (some ⟨g, 0, none⟩), .agg (tampC 2 (a : Int) (m : Int) A len c).toArray] w fun e w' => e = .returned (.int .i64 0) ∧ Forced b w w' g F ss rs E ts a (nowV ss rs m).l := by
  obtain ⟨v1, v2, gm, v4, ev, n, hn, h⟩ := h
  have H := Lib.hid h
  have HR := Lib.hid hr
  have HA := Lib.hid ha
  have HN := Lib.hid (p := n ≤ 1000000) (by omega)
  have HNT := Lib.hid hn
  have HM := Lib.hid hm
  have HNV := Lib.hid (h.now8 m hm)
  have hb0 : ¬ (m : Int) < 0 := by omega
  clear h hr ha hm hn ht
  go_enter Try.func24, Try.ntmps24
  go_wp2_with (first
    | (refine step_box rfl 3 rfl 35 _ rfl (tampC 2 (a : Int) (m : Int) A len c) rfl ?_; intro g5 w5 hr5 hg5 hb5 hs5
       have q0 := hr5.cell 0
       have q1 := hr5.cell 1
       have q2 := hr5.cell 2
       have q3 := hr5.cell 3
       simp [tampC] at q0 q1 q2 q3
       have HB5 := Lib.hid hb5
       have HR5 := Lib.hid hr5
       have H5 := Lib.hid (H.out.kept hb5)
       clear hr5 hg5 hb5 hs5)
    | (go_at_call_of 39 (Value.int IntKind.i64 (a : Int)); refine (phas_in H5.out a HA.out).mono ?_; rintro e1 w1 ⟨rfl, hw1⟩; obtain rfl := hw1.symm)
    | (go_at_call_of 39 (Value.int IntKind.i64 (m : Int)); refine (phas_in H5.out m HM.out).mono ?_; rintro e1 w1 ⟨rfl, hw1⟩; obtain rfl := hw1.symm))
  have HG5 := Lib.hid HR5.out.lt
  go_region_with (first
    | (go_at_call 40; refine (pnow (H5.out.kept (below_drw w5)) m HM.out HR.out).mono ?_; rintro e6 w6 ⟨rfl, hb6⟩
       have hb6 := Lib.hid hb6
       have hb6' : Below w5.heap.size w5 w6 := below_nxt hb6.out (below_drw w5)
       have HB6 := Lib.hid hb6'
       have q16 : w6.cell? ⟨g5, 1, none⟩ = some (.int .i64 (a : Int)) := (hb6'.cell (p := ⟨g5, 1, none⟩) HG5.out).trans q1
       have HX9 := Lib.hid (p := Own8 b w6 (nowV ss rs m)) ((HNV.out.1.below HB5.out).below hb6')
       clear hb6 hb6')
    | (go_at_call 46; refine (pforce (H5.out.kept HB6.out) HR.out a HA.out (nowV ss rs m) ⟨HX9.out, HNV.out.2⟩).mono ?_; rintro e7 w7 ⟨rfl, v', F', hD, hC, hW⟩
       have HD := Lib.hid hD
       have HC := Lib.hid hC
       have HW := Lib.hid hW
       clear hD hC hW))
  all_goals
    have HBB := Lib.hid (below_nxt HB6.out HB5.out)
    go_wp2
    go_ret
    exact ⟨rfl, nowV ss rs m, Lib.hid rfl, Lib.hid HNV.out.2, F', Lib.hid ⟨_, _, _, _, _, n, HNT.out, HD.out⟩, Lib.hid ((Chg.of (F := F) HBB.out).trans HC.out (fun y hy => .inl hy)), Lib.hid fun q hq => (HW.out q hq).imp id (fun e => Nat.le_trans HBB.out.size e)⟩
end
end Go.Proofs.Ytnajlineipapdaa
