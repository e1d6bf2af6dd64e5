/- The program's disk: Barrier and Crash. Conditions: the disk lies there; what is kept lies apart from it. -/
import Derived.Test.YtnajlineipapdaaMgPApi
import Derived.StillTailTactics
set_option linter.unusedVariables false
namespace Go.Proofs.Ytnajlineipapdaa
open Go.RowKit

/-- A function value that tells, of a place, whether what waits there stays. -/
def Stays (F : List Nat) (w : World) (id : Nat) (cap : Array Value) (keep : Nat → Bool) : Prop :=
  ∀ w', Chg F w w' → ∀ k : Nat, k ≤ 1000000 → Calls Try.prog id (#[.int .i64 (k : Int)] ++ cap) w' fun e w'' => e = .returned (.bool (keep k)) ∧ w'' = w'
section
variable {b : Nat} {w : World} {g gm n : Nat} {F : List Nat} {v1 v2 v4 : Value} {ev : Nat → Value} {ss : List BV} {rs : List (Nat × BV)} {E : Nat → List BV} {ts : List (Int × Int × BV)}
set_option maxRecDepth 20000 in
set_option maxHeartbeats 2000000 in
theorem psettle (h : PDisk b w g F v1 v2 gm v4 ev n ss rs E ts) (hr : rs.length ≤ 1000000) (id : Nat) (cap : Array Value) (hid : (id = 44 ∧ cap = #[]) ∨ ∃ gb, id = 45 ∧ cap = #[.pointer (some ⟨gb, 0, none⟩)]) (keep : Nat → Bool) (hst : Stays F w id cap keep) :
    Calls Try.prog 43 #[.pointer (some ⟨g, 0, none⟩), .func (.func id) #[] cap] w fun e w' => e = .returned (.tuple #[]) ∧
      ∃ F', PDisk b w' g F' v1 (.slice none 0 0) gm v4 ev n (syncK keep rs ss rs.length) [] E ts ∧ Chg F w w' ∧ Wider w F F' := by
  obtain ⟨A2, k2, rfl⟩ := own_sl h.o2
  have H := Lib.hid h
  have HRL := Lib.hid hr
  have HM := Lib.hid (p := ∀ p ∈ rs, p.1 < ss.length) fun p hp => (h.m2 p hp).2.2
  have HST := Lib.hid hst
  have c1s := h.c1
  have hz := Lib.hid (p := ∀ w : World, (zeroValue 79).run Try.prog w = .ok (.agg [Value.int .i64 0, .slice none 0 0].toArray) w) fun w => by kernel_rfl
  have i2 := Lib.hid (p := (Try.prog.info? 79).map (·.size) = some 2) (by kernel_rfl)
  clear h hr hst
  rcases hid with ⟨rfl, rfl⟩ | ⟨gb, rfl, rfl⟩
  all_goals
    go_enter Try.func43, Try.ntmps43
    go_wp2
    go_loopw [11] (fun x wr => ∃ k : Nat, k ≤ rs.length ∧ x = .int .i64 (k : Int) ∧ PDisk b wr g F v1 (.slice A2 rs.length k2) gm v4 ev n (syncK keep rs ss k) rs E ts ∧ Chg F w wr) (fun x _ => rs.length - (intOf x).toNat)
    case atStart => exact ⟨0, by omega, rfl, H.out, Chg.refl _ _⟩
    case round =>
      clear c1s
      obtain ⟨k, hk, rfl, hD, hC⟩ := hrel
      have hkw : IntKind.i64.wrap ((k : Int) + 1) = (k : Int) + 1 := by rw [IntKind.wrap_i64]; have := HRL.out; omega
      by_cases hlt : k < rs.length
      · have hki : (k : Int) < (rs.length : Int) := by omega
        have hk0 : (0 : Int) ≤ (k : Int) := by omega
        obtain ⟨p, hp⟩ : ∃ p, rs[k]? = some p := ⟨_, List.getElem?_eq_getElem hlt⟩
        obtain ⟨g2, k2', e2, hg2, _, hc2⟩ := own_rec wcs_len hD.o2 hp (by omega)
        simp only [Value.slice.injEq] at e2
        obtain ⟨rfl, _, rfl⟩ := e2
        have p0 := hc2 0 _ rfl
        have p1 := hc2 1 _ rfl
        rw [Nat.add_zero] at p0
        unfold bvv at p1
        have HPK := Lib.hid hp
        have HKL := Lib.hid (p := k ≤ 1000000) (by have := HRL.out; omega)
        have HD := Lib.hid hD
        have HC := Lib.hid hC
        cases hkp : keep k with
        | false =>
          have HKP := Lib.hid hkp
          clear hp hc2 hD hC hkp
          go_wp2_with (first
            | (refine step_alloc rfl 5 rfl 79 rfl _ hz.out ?_; intro g5 w5 hr5 hg5 hb5 hs5
               have HB5 := Lib.hid hb5
               have HG5 := Lib.hid hg5
               clear hg5 hb5 hs5)
            | (refine step_store rfl 79 _ _ rfl g5 rfl _ _ (wcs p) rfl hr5 rfl i2.out (wcs_one _) ?_; intro w6 hr6 hg6 hs6
               have hb6 : Below wr.heap.size wr w6 := HB5.out.grown hg6 HB5.out.size (fun q hq => by injection hq with hq; rw [← hq, HG5.out]; exact Nat.le_refl _)
               have HD5 := Lib.hid (HD.out.kept hb6)
               have HC5 := Lib.hid (HC.out.trans (Chg.of (F := F) hb6) (fun x hx => .inl hx))
               clear hr5 hr6 hg6 hs6 hb6)
            | (go_at_call 44; refine (HST.out _ HC5.out k HKL.out).mono ?_; rintro e5 w7 ⟨rfl, hw5⟩; obtain rfl := hw5.symm; rw [HKP.out])
            | (go_at_call 45; refine (HST.out _ HC5.out k HKL.out).mono ?_; rintro e5 w7 ⟨rfl, hw5⟩; obtain rfl := hw5.symm; rw [HKP.out]))
          go_roundw
          case rel => exact ⟨k + 1, by omega, by go_num, by rw [syncK_step HPK.out, if_neg (by rw [HKP.out]; decide)]; exact HD5.out, HC5.out⟩
          case measure => simp [intOf]; omega
        | true =>
          have HKP := Lib.hid hkp
          have hpl : p.1 < (syncK keep rs ss k).length := by rw [syncK_len]; exact HM.out p (List.mem_of_getElem? hp)
          obtain ⟨y, hy⟩ : ∃ y, (syncK keep rs ss k)[p.1]? = some y := ⟨_, List.getElem?_eq_getElem hpl⟩
          obtain ⟨g1, k1, rfl, _, _, hc1⟩ := own_rec sc_len hD.o1 hy (by omega)
          obtain ⟨S, hS⟩ : ∃ S, S = syncK keep rs ss k := ⟨_, rfl⟩
          have hi1 : (0 : Int) ≤ (p.1 : Int) := by omega
          have hi2 : (p.1 : Int) < (S.length : Int) := by rw [hS]; omega
          have HY := Lib.hid (p := S[p.1]? = some y) (by rw [hS]; exact hy)
          rw [← hS] at HD
          have HS := Lib.hid hS
          have HPL := Lib.hid (p := p.1 < S.length) (by omega)
          clear hp hc2 hc1 hpl hy hS hD hC hkp
          go_wp2_with (first
            | (refine step_alloc rfl 5 rfl 79 rfl _ hz.out ?_; intro g5 w5 hr5 hg5 hb5 hs5
               have HB5 := Lib.hid hb5
               have HG5 := Lib.hid hg5
               clear hg5 hb5 hs5)
            | (refine step_store rfl 79 _ _ rfl g5 rfl _ _ (wcs p) rfl hr5 rfl i2.out (wcs_one _) ?_; intro w6 hr6 hg6 hs6
               have hb6 : Below wr.heap.size wr w6 := HB5.out.grown hg6 HB5.out.size (fun q hq => by injection hq with hq; rw [← hq, HG5.out]; exact Nat.le_refl _)
               have HD5 := Lib.hid (HD.out.kept hb6)
               have HC5 := Lib.hid (HC.out.trans (Chg.of (F := F) hb6) (fun x hx => .inl hx))
               obtain ⟨_, _, e1, _, _, hc1⟩ := own_rec sc_len HD5.out.o1 HY.out (by omega)
               simp only [Value.slice.injEq, Option.some.injEq, Addr.mk.injEq] at e1
               obtain ⟨⟨rfl, _⟩, _, rfl⟩ := e1
               have d0 := hc1 0 _ rfl
               rw [Nat.mul_one, Nat.add_zero] at d0
               unfold bvv at d0
               have f0 := HD5.out.o1.frozenAt p.1
               have c0 := HD5.out.c0
               have q0 := hr6.cell 0
               have q1 := hr6.cell 1
               simp [wcs, bvv] at q0 q1
               clear hr5 hr6 hg6 hs6 hb6 hc1)
            | (go_at_call 44; refine (HST.out _ HC5.out k HKL.out).mono ?_; rintro e5 w7 ⟨rfl, hw5⟩; obtain rfl := hw5.symm; rw [HKP.out])
            | (go_at_call 45; refine (HST.out _ HC5.out k HKL.out).mono ?_; rintro e5 w7 ⟨rfl, hw5⟩; obtain rfl := hw5.symm; rw [HKP.out]))
          go_still_tail 9, (by kernel_rfl)
          change wpList _ _ _ _ _ (World.drew _)
          have d0z : w6.drew.cell? ⟨g1, p.1, none⟩ = some (.slice y.A y.l.length y.c) := d0
          have f0z : w6.drew.frozen? ⟨g1, p.1, none⟩ = false := f0
          have hx := HD5.out.m2 p (List.mem_of_getElem? HPK.out)
          obtain ⟨hs1, hs2⟩ := (HD5.out.kept (below_drw w6)).sync p.1 p.2 HPL.out ⟨hx.1.below (below_drw w6), hx.2.1⟩
          have HS1 := Lib.hid hs1
          have HS2 := Lib.hid (HC5.out.drew.trans hs2 (fun x hx => .inl hx))
          clear hs1 hs2 hx c0 p0 p1 d0 f0 q0 q1 HD HC HD5 HC5
          unfold bvv at HS1 HS2
          generalize w6.drew = wz at *
          go_wp2
          go_roundw
          case rel => exact ⟨k + 1, by omega, by go_num, by rw [syncK_step HPK.out, if_pos HKP.out, ← HS.out]; exact HS1.out, HS2.out⟩
          case measure => simp [intOf]; omega
      · obtain rfl : k = rs.length := by omega
        have f1 : wr.frozen? ⟨g, 1, none⟩ = false := hD.cells.free 1
        have c1 := hD.c1
        obtain ⟨hw1, hw2, hw3⟩ := hD.waits (w2 := wr) (v := .slice none 0 0) (rs' := []) (World.ownsRow_nil _ _ _ _) ⟨rfl, rfl, rfl, Nat.le_refl _, fun _ _ _ => rfl⟩ (.inr (.inr rfl)) (by simp)
        have HW1 := Lib.hid hw1
        have HW2 := Lib.hid (hC.trans hw2 (fun x hx => .inl hx))
        have HW3 := Lib.hid (p := Wider w F _) (fun q hq => (hw3 q hq).imp id (fun e => Nat.le_trans hC.size e))
        clear hw1 hw2 hw3 hD hC H
        go_wp2
        go_end0
        exact ⟨rfl, _, HW1.out, HW2.out, HW3.out⟩
end
end Go.Proofs.Ytnajlineipapdaa
