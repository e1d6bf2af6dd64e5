/- The program's disk: Barrier and Crash. Conditions: the disk lies there; what is kept lies apart from it. -/
import Derived.Test.YtpocccnhibjjcaaGreatDoorMgVan
import Derived.StillTailTactics
import Derived.Test.YtpocccnhibjjcaaGreatDoorMgDisk
import Derived.Test.YtpocccnhibjjcaaGreatDoorMgSpread
import Derived.RangeFuncNested
import Derived.RangeFuncBound
import Derived.RangeFuncCalls
import Derived.RangeFuncLeaves
import Derived.Shelf.Abstract
import Derived.Shelf.RegionOpen
import Derived.OwnWalkIn
import Derived.TacticsInMore
import Derived.LoopNIn
import Derived.LoopIn
import Derived.Test.YtpocccnhibjjcaaGreatDoorSm
set_option linter.unusedVariables false
namespace Go.Proofs.YtpocccnhibjjcaaGreatDoor
open Go.RowKit

def Stays (F : List Nat) (w : World) (id : Nat) (cap : Array Value) (keep : Nat → Bool) : Prop :=
  ∀ w', Chg F w w' → ∀ k : Nat, k ≤ 1000000 → Calls Tryz.prog id (#[.int .i64 (k : Int)] ++ cap) w' fun e w'' => e = .returned (.bool (keep k)) ∧ w'' = w'
section
variable {b : Nat} {w : World} {g gm n : Nat} {F : List Nat} {v1 v2 v4 : Value} {ev : Nat → Value} {ss : List BV} {rs : List (Nat × BV)} {E : Nat → List BV} {ts : List (Int × Int × BV)}
set_option maxRecDepth 20000 in
set_option maxHeartbeats 2000000 in
theorem psettle (h : PDisk b w g F v1 v2 gm v4 ev n ss rs E ts) (hr : rs.length ≤ 1000000) (id : Nat) (cap : Array Value) (hid : (id = 144 ∧ cap = #[]) ∨ ∃ gb, id = 92 ∧ cap = #[.pointer (some ⟨gb, 0, none⟩)]) (keep : Nat → Bool) (hst : Stays F w id cap keep) :
    Calls Tryz.prog 91 #[.pointer (some ⟨g, 0, none⟩), .func (.func id) #[] cap] w fun e w' => e = .returned (.tuple #[]) ∧
      ∃ F', PDisk b w' g F' v1 (.slice none 0 0) gm v4 ev n (syncK keep rs ss rs.length) [] E ts ∧ Chg F w w' ∧ Wider w F F' := by
  obtain ⟨A2, k2, rfl⟩ := own_sl h.o2
  have H := Lib.hid h
  have HRL := Lib.hid hr
  have HM := Lib.hid (p := ∀ p ∈ rs, p.1 < ss.length) fun p hp => (h.m2 p hp).2.2
  have HST := Lib.hid hst
  have c1s := h.c1
  have hz := Lib.hid (p := ∀ w : World, (zeroValue 165).run Tryz.prog w = .ok (.agg [Value.int .i64 0, .slice none 0 0].toArray) w) fun w => by kernel_rfl
  have i2 := Lib.hid (p := (Tryz.prog.info? 165).map (·.size) = some 2) (by kernel_rfl)
  clear h hr hst
  rcases hid with ⟨rfl, rfl⟩ | ⟨gb, rfl, rfl⟩
  all_goals
    go_enter Tryz.func91, Tryz.ntmps91
    go_wp2
    go_loopw [11] (fun x wr => ∃ k : Nat, k ≤ rs.length ∧ x = .int .i64 (k : Int) ∧ PDisk b wr g F v1 (.slice A2 rs.length k2) gm v4 ev n (syncK keep rs ss k) rs E ts ∧ Chg F w wr) (fun x _ => rs.length - (intOf x).toNat)
    case atStart => exact ⟨0, by omega, rfl, H.out, Chg.refl _ _⟩
    case round =>
      clear c1s
      obtain ⟨k, hk, rfl, hD, hC⟩ := hrel
      have hkw : IntKind.i64.wrap ((k : Int) + 1) = (k : Int) + 1 := by rw [IntKind.wrap_i64]; have := HRL.out; omega
      by_cases hlt : k < rs.length
      · have hki : (k : Int) < (rs.length : Int) := by omega
        have hk0 : (0 : Int) ≤ (k : Int) := by omega
        obtain ⟨p, hp⟩ : ∃ p, rs[k]? = some p := ⟨_, List.getElem?_eq_getElem hlt⟩
        obtain ⟨g2, k2', e2, hg2, _, hc2⟩ := own_rec wcs_len hD.o2 hp (by omega)
        simp only [Value.slice.injEq] at e2
        obtain ⟨rfl, _, rfl⟩ := e2
        have p0 := hc2 0 _ rfl
        have p1 := hc2 1 _ rfl
        rw [Nat.add_zero] at p0
        unfold bvv at p1
        have HPK := Lib.hid hp
        have HKL := Lib.hid (p := k ≤ 1000000) (by have := HRL.out; omega)
        have HD := Lib.hid hD
        have HC := Lib.hid hC
        cases hkp : keep k with
        | false =>
          have HKP := Lib.hid hkp
          clear hp hc2 hD hC hkp
          go_wp2_with (first
            | (refine step_alloc rfl 5 rfl 165 rfl _ hz.out ?_; intro g5 w5 hr5 hg5 hb5 hs5
               have HB5 := Lib.hid hb5
               have HG5 := Lib.hid hg5
               clear hg5 hb5 hs5)
            | (refine step_store rfl 165 _ _ rfl g5 rfl _ _ (wcs p) rfl hr5 rfl i2.out (wcs_one _) ?_; intro w6 hr6 hg6 hs6
               have hb6 : Below wr.heap.size wr w6 := HB5.out.grown hg6 HB5.out.size (fun q hq => by injection hq with hq; rw [← hq, HG5.out]; exact Nat.le_refl _)
               have HD5 := Lib.hid (HD.out.kept hb6)
               have HC5 := Lib.hid (HC.out.trans (Chg.of (F := F) hb6) (fun x hx => .inl hx))
               clear hr5 hr6 hg6 hs6 hb6)
            | (go_at_call 144; refine (HST.out _ HC5.out k HKL.out).mono ?_; rintro e5 w7 ⟨rfl, hw5⟩; obtain rfl := hw5.symm; rw [HKP.out])
            | (go_at_call 92; refine (HST.out _ HC5.out k HKL.out).mono ?_; rintro e5 w7 ⟨rfl, hw5⟩; obtain rfl := hw5.symm; rw [HKP.out]))
          go_roundw
          case rel => exact ⟨k + 1, by omega, by go_num, by rw [syncK_step HPK.out, if_neg (by rw [HKP.out]; decide)]; exact HD5.out, HC5.out⟩
          case measure => simp [intOf]; omega
        | true =>
          have HKP := Lib.hid hkp
          have hpl : p.1 < (syncK keep rs ss k).length := by rw [syncK_len]; exact HM.out p (List.mem_of_getElem? hp)
          obtain ⟨y, hy⟩ : ∃ y, (syncK keep rs ss k)[p.1]? = some y := ⟨_, List.getElem?_eq_getElem hpl⟩
          obtain ⟨g1, k1, rfl, _, _, hc1⟩ := own_rec sc_len hD.o1 hy (by omega)
          obtain ⟨S, hS⟩ : ∃ S, S = syncK keep rs ss k := ⟨_, rfl⟩
          have hi1 : (0 : Int) ≤ (p.1 : Int) := by omega
          have hi2 : (p.1 : Int) < (S.length : Int) := by rw [hS]; omega
          have HY := Lib.hid (p := S[p.1]? = some y) (by rw [hS]; exact hy)
          rw [← hS] at HD
          have HS := Lib.hid hS
          have HPL := Lib.hid (p := p.1 < S.length) (by omega)
          clear hp hc2 hc1 hpl hy hS hD hC hkp
          go_wp2_with (first
            | (refine step_alloc rfl 5 rfl 165 rfl _ hz.out ?_; intro g5 w5 hr5 hg5 hb5 hs5
               have HB5 := Lib.hid hb5
               have HG5 := Lib.hid hg5
               clear hg5 hb5 hs5)
            | (refine step_store rfl 165 _ _ rfl g5 rfl _ _ (wcs p) rfl hr5 rfl i2.out (wcs_one _) ?_; intro w6 hr6 hg6 hs6
               have hb6 : Below wr.heap.size wr w6 := HB5.out.grown hg6 HB5.out.size (fun q hq => by injection hq with hq; rw [← hq, HG5.out]; exact Nat.le_refl _)
               have HD5 := Lib.hid (HD.out.kept hb6)
               have HC5 := Lib.hid (HC.out.trans (Chg.of (F := F) hb6) (fun x hx => .inl hx))
               obtain ⟨_, _, e1, _, _, hc1⟩ := own_rec sc_len HD5.out.o1 HY.out (by omega)
               simp only [Value.slice.injEq, Option.some.injEq, Addr.mk.injEq] at e1
               obtain ⟨⟨rfl, _⟩, _, rfl⟩ := e1
               have d0 := hc1 0 _ rfl
               rw [Nat.mul_one, Nat.add_zero] at d0
               unfold bvv at d0
               have f0 := HD5.out.o1.frozenAt p.1
               have c0 := HD5.out.c0
               have q0 := hr6.cell 0
               have q1 := hr6.cell 1
               simp [wcs, bvv] at q0 q1
               clear hr5 hr6 hg6 hs6 hb6 hc1)
            | (go_at_call 144; refine (HST.out _ HC5.out k HKL.out).mono ?_; rintro e5 w7 ⟨rfl, hw5⟩; obtain rfl := hw5.symm; rw [HKP.out])
            | (go_at_call 92; refine (HST.out _ HC5.out k HKL.out).mono ?_; rintro e5 w7 ⟨rfl, hw5⟩; obtain rfl := hw5.symm; rw [HKP.out]))
          go_still_tail 9, (by kernel_rfl)
          change wpList _ _ _ _ _ (World.drew _)
          have d0z : w6.drew.cell? ⟨g1, p.1, none⟩ = some (.slice y.A y.l.length y.c) := d0
          have f0z : w6.drew.frozen? ⟨g1, p.1, none⟩ = false := f0
          have hx := HD5.out.m2 p (List.mem_of_getElem? HPK.out)
          obtain ⟨hs1, hs2⟩ := (HD5.out.kept (below_drw w6)).sync p.1 p.2 HPL.out ⟨hx.1.below (below_drw w6), hx.2.1⟩
          have HS1 := Lib.hid hs1
          have HS2 := Lib.hid (HC5.out.drew.trans hs2 (fun x hx => .inl hx))
          clear hs1 hs2 hx c0 p0 p1 d0 f0 q0 q1 HD HC HD5 HC5
          unfold bvv at HS1 HS2
          generalize w6.drew = wz at *
          go_wp2
          go_roundw
          case rel => exact ⟨k + 1, by omega, by go_num, by rw [syncK_step HPK.out, if_pos HKP.out, ← HS.out]; exact HS1.out, HS2.out⟩
          case measure => simp [intOf]; omega
      · obtain rfl : k = rs.length := by omega
        have f1 : wr.frozen? ⟨g, 1, none⟩ = false := hD.cells.free 1
        have c1 := hD.c1
        obtain ⟨hw1, hw2, hw3⟩ := hD.waits (w2 := wr) (v := .slice none 0 0) (rs' := []) (World.ownsRow_nil _ _ _ _) ⟨rfl, rfl, rfl, Nat.le_refl _, fun _ _ _ => rfl⟩ (.inr (.inr rfl)) (by simp)
        have HW1 := Lib.hid hw1
        have HW2 := Lib.hid (hC.trans hw2 (fun x hx => .inl hx))
        have HW3 := Lib.hid (p := Wider w F _) (fun q hq => (hw3 q hq).imp id (fun e => Nat.le_trans hC.size e))
        clear hw1 hw2 hw3 hD hC H
        go_wp2
        go_end0
        exact ⟨rfl, _, HW1.out, HW2.out, HW3.out⟩
end
end Go.Proofs.YtpocccnhibjjcaaGreatDoor
/- The reference's disk: Crash. Conditions: the disk lies there. -/
set_option linter.unusedVariables false
namespace Go.Proofs.YtpocccnhibjjcaaGreatDoor
open Go.RowKit

section
variable {b : Nat} {w : World} {g : Nat} {v1 v2 v3 v4 : Value} {ss : List BV} {rs al : List (Nat × BV)} {ts : List (Int × Int × BV)}
theorem HolV.chg {F : List Nat} {w w' : World} {A : Option Addr} {vs : List Value} (h : HolV w A vs) (hc : Chg F w w') (hn : ∀ g o, A = some ⟨g, o, none⟩ → vs ≠ [] → g ∉ F) : HolV w' A vs := by
  rcases h with rfl | ⟨g, o, rfl, hcell⟩
  · exact .inl rfl
  · by_cases hl : vs = []
    · exact .inl hl
    · exact .inr ⟨g, o, rfl, fun j x hx => hc.cell (hcell j x hx) (hn g o rfl hl)⟩
end
end Go.Proofs.YtpocccnhibjjcaaGreatDoor
/- The program's disk: Barrier and Crash, by their calls. Conditions: the disk lies there; what is kept lies apart from it. -/
set_option linter.unusedVariables false
namespace Go.Proofs.YtpocccnhibjjcaaGreatDoor
open Go.RowKit

theorem stays_all (F : List Nat) (w : World) : Stays F w 144 #[] (fun _ => true) := fun w' _ k _ => by
  show Calls Tryz.prog 144 #[.int .i64 (k : Int)] w' _
  go_enter Tryz.func144, Tryz.ntmps144
  go_wp2
  go_ret
  exact ⟨rfl, rfl⟩
theorem stays_keep (F : List Nat) (w : World) (gb : Nat) (K : Option Addr) (kc : Nat) (kl : List Bool) (hb : w.cell? ⟨gb, 0, none⟩ = some (.slice K kl.length kc)) (hgb : gb ∉ F) (hK : HolV w K (kl.map Value.bool)) (hKn : ∀ g0 o, K = some ⟨g0, o, none⟩ → kl.map Value.bool ≠ [] → g0 ∉ F) :
    Stays F w 92 #[.pointer (some ⟨gb, 0, none⟩)] (fun i => kl.getD i false) := fun w' hc k hk => by
  show Calls Tryz.prog 92 #[.int .i64 (k : Int), .pointer (some ⟨gb, 0, none⟩)] w' _
  have cb := hc.cell hb hgb
  have hK' := hK.chg hc hKn
  have hk0 : (0 : Int) ≤ (k : Int) := by omega
  by_cases hkl : k < kl.length
  · have hkli : (k : Int) < (kl.length : Int) := by omega
    obtain ⟨t, htk⟩ : ∃ t, kl[k]? = some t := ⟨_, List.getElem?_eq_getElem hkl⟩
    obtain ⟨gk, ok, rfl, _, ck⟩ := hK'.at_ (j := k) (x := .bool t) (by rw [List.getElem?_map, htk]; rfl)
    have e1 : kl.getD k false = t := by rw [List.getD_eq_getElem?_getD, htk]; rfl
    show Calls _ _ _ _ (fun e w2 => e = .returned (.bool (kl.getD k false)) ∧ w2 = w')
    rw [e1]
    clear hb hc hK hK' hKn hgb htk e1 hk
    go_enter Tryz.func92, Tryz.ntmps92
    go_wp2
    go_ret
    exact ⟨rfl, rfl⟩
  · have hkli : ¬ (k : Int) < (kl.length : Int) := by omega
    have e1 : kl.getD k false = false := by rw [List.getD_eq_getElem?_getD, List.getElem?_eq_none (by omega)]; rfl
    show Calls _ _ _ _ (fun e w2 => e = .returned (.bool (kl.getD k false)) ∧ w2 = w')
    rw [e1]
    clear hb hc hK hK' hKn hgb e1 hk hkl
    go_enter Tryz.func92, Tryz.ntmps92
    go_wp2
    go_ret
    exact ⟨rfl, rfl⟩
section
variable {b : Nat} {w : World} {g : Nat} {F : List Nat} {ss : List BV} {rs : List (Nat × BV)} {E : Nat → List BV} {ts : List (Int × Int × BV)}
set_option maxHeartbeats 400000 in
theorem PD.barrier (h : PD b w g F ss rs E ts) (hr : rs.length ≤ 1000000) (ht : ts.length ≤ 1000000) :
    Calls Tryz.prog 115 #[.pointer (some ⟨g, 0, none⟩)] w fun e w' => e = .returned (.tuple #[]) ∧ Turned b w w' g F (syncK (fun _ => true) rs ss rs.length) [] E (ts ++ [(3, 0, noBV)]) := by
  obtain ⟨v1, v2, gm, v4, ev, n, hn, h⟩ := h
  have H := Lib.hid h
  have HR := Lib.hid hr
  have HT := Lib.hid ht
  have HN := Lib.hid hn
  clear h hr ht hn
  go_enter Tryz.func115, Tryz.ntmps115
  go_wp2_with (first
    | (go_at_call 91; refine (psettle H.out HR.out 144 #[] (.inl ⟨rfl, rfl⟩) _ (stays_all F w)).mono ?_; rintro e1 w1 ⟨rfl, F1, hD, hC, hW⟩
       have HD := Lib.hid hD
       have HC := Lib.hid hC
       have HW := Lib.hid hW
       clear hD hC hW)
    | (go_at_call 78; refine (ptouch HD.out 3 0 noBV (Own8.none_ _ _) HT.out).mono ?_; rintro e2 w2 ⟨rfl, v', F2, hD2, hC2, hW2⟩
       have HD2 := Lib.hid hD2
       have HC2 := Lib.hid hC2
       have HW2 := Lib.hid hW2
       clear hD2 hC2 hW2))
  go_end0
  exact ⟨rfl, F2, Lib.hid ⟨_, _, _, _, _, n, by rw [List.length_append]; have := HN.out; omega, HD2.out⟩, Lib.hid (HC.out.trans HC2.out HW.out), Lib.hid (HW.out.trans HW2.out HC.out.size)⟩
set_option maxHeartbeats 400000 in
theorem PD.crash (h : PD b w g F ss rs E ts) (hr : rs.length ≤ 1000000) (K : Option Addr) (m kc : Nat) (kl : List Bool) (hm : m = kl.length) (hK : HolV w K (kl.map Value.bool)) (hKn : ∀ g0 o, K = some ⟨g0, o, none⟩ → kl.map Value.bool ≠ [] → g0 ∉ F) :
    Calls Tryz.prog 61 #[.pointer (some ⟨g, 0, none⟩), .slice K m kc] w fun e w' => e = .returned (.tuple #[]) ∧ Turned b w w' g F (syncK (fun i => kl.getD i false) rs ss rs.length) [] E ts := by
  subst hm
  obtain ⟨v1, v2, gm, v4, ev, n, hn, h⟩ := h
  have hBA : Below w.heap.size w (w.alloc (.cells #[.slice K kl.length kc] 50)) := (Below.refl _ _).alloc (Nat.le_refl _) _
  have HS := Lib.hid (stays_keep F (w.alloc (.cells #[.slice K kl.length kc] 50)) w.heap.size K kc kl (by simp) (fun hx => by have := h.fl _ hx; omega) (hK.below hBA) hKn)
  have HB := Lib.hid hBA
  have H := Lib.hid (h.kept hBA)
  have HR := Lib.hid hr
  have HN := Lib.hid hn
  clear h hr hn hK hKn hBA
  go_enter Tryz.func61, Tryz.ntmps61
  go_wp2_with (first
    | (go_at_call 91; refine (psettle H.out HR.out 92 #[.pointer (some ⟨w.heap.size, 0, none⟩)] (.inr ⟨_, rfl, rfl⟩) _ HS.out).mono ?_; rintro e1 w1 ⟨rfl, F1, hD, hC, hW⟩
       have HD := Lib.hid hD
       have HC := Lib.hid hC
       have HW := Lib.hid hW
       clear hD hC hW))
  go_end0
  exact ⟨rfl, F1, Lib.hid ⟨_, _, _, _, _, n, HN.out, HD.out⟩, Lib.hid ((Chg.of (F := F) HB.out).trans HC.out (fun x hx => .inl hx)), Lib.hid fun q hq => (HW.out q hq).imp id (fun e => Nat.le_trans HB.out.size e)⟩
end
end Go.Proofs.YtpocccnhibjjcaaGreatDoor
/- Plain facts: the states of a space's blocks, and what each call makes of them. No program is in sight here, and no conditions. -/
set_option linter.unusedVariables false
namespace Go.Proofs.YtpocccnhibjjcaaGreatDoor.S8

def putN (S : Nat → Nat) (i v : Nat) : Nat → Nat := fun j => if j = i then v else S j
def fr (N : Nat) (S : Nat → Nat) : Nat → Bool := fun j => decide (j < N) && (S j == 0)
def bk (N : Nat) (S : Nat → Nat) : Nat → Bool := fun j => decide (j < N) && (S j == 2)
def stv (N : Nat) (S : Nat → Nat) (z : Int) : Int := if 0 ≤ z ∧ z < (N : Int) then (S z.toNat : Int) else -1
def mv (N : Nat) (S : Nat → Nat) (z : Int) (k : Nat) : Int := if stv N S z = -1 then 201 else if stv N S z = (k : Int) then 0 else 205
def chS (N : Nat) (S : Nat → Nat) (z : Int) (k v : Nat) : Nat → Nat := if mv N S z k = 0 then putN S z.toNat v else S
def ft : Nat → (Nat → Nat) → Option Nat
  | 0, _ => none
  | n + 1, S => match ft n S with
    | some m => some m
    | none => if S n = 0 then some n else none
def tkS (S : Nat → Nat) : Option Nat → Nat → Nat
  | some m => putN S m 1
  | none => S
def tkA : Option Nat → Int
  | some m => (m : Int)
  | none => 0
def tkE : Option Nat → Int
  | some _ => 0
  | none => 28
def seS (S : Nat → Nat) : Nat → Nat := fun j => if S j = 2 then 0 else S j
def nFree (N : Nat) (S : Nat → Nat) : Nat := cnt N fun j => S j == 0
def nBack (N : Nat) (S : Nat → Nat) : Nat := cnt N fun j => S j == 2

theorem stv_in {N : Nat} {S : Nat → Nat} {a : Nat} (h : a < N) : stv N S (a : Int) = (S a : Int) := by
  unfold stv
  rw [if_pos (by omega)]
  rfl
theorem stv_out {N : Nat} {S : Nat → Nat} {z : Int} (h : ¬ (0 ≤ z ∧ z < (N : Int))) : stv N S z = -1 := by
  unfold stv
  rw [if_neg h]
theorem mv_out {N : Nat} {S : Nat → Nat} {z : Int} {k : Nat} (h : ¬ (0 ≤ z ∧ z < (N : Int))) : mv N S z k = 201 := by
  unfold mv
  rw [stv_out h, if_pos rfl]
theorem mv_in {N : Nat} {S : Nat → Nat} {a k : Nat} (h : a < N) : mv N S (a : Int) k = if S a = k then 0 else 205 := by
  unfold mv
  rw [stv_in h, if_neg (by omega)]
  by_cases e : S a = k
  · rw [if_pos e, if_pos (by omega)]
  · rw [if_neg e, if_neg (by omega)]
theorem mv_zero {N : Nat} {S : Nat → Nat} {z : Int} {k : Nat} (h : mv N S z k = 0) : ∃ a : Nat, z = (a : Int) ∧ a < N ∧ S a = k := by
  by_cases hz : 0 ≤ z ∧ z < (N : Int)
  · obtain ⟨a, rfl⟩ := Int.eq_ofNat_of_zero_le hz.1
    refine ⟨a, rfl, by omega, ?_⟩
    rw [mv_in (by omega)] at h
    split at h
    · assumption
    · omega
  · rw [mv_out hz] at h
    omega
theorem chS_keep {N : Nat} {S : Nat → Nat} {z : Int} {k v : Nat} (h : mv N S z k ≠ 0) : chS N S z k v = S := by
  unfold chS
  rw [if_neg h]
theorem chS_do {N : Nat} {S : Nat → Nat} {a k v : Nat} (h : mv N S (a : Int) k = 0) : chS N S (a : Int) k v = putN S a v := by
  unfold chS
  rw [if_pos h]
  rfl
theorem putN_le {S : Nat → Nat} {i v b : Nat} (h : ∀ j, S j ≤ b) (hv : v ≤ b) : ∀ j, putN S i v j ≤ b := fun j => by
  unfold putN
  split
  · exact hv
  · exact h j
theorem seS_le {S : Nat → Nat} (h : ∀ j, S j ≤ 2) : ∀ j, seS S j ≤ 2 := fun j => by
  unfold seS
  split
  · omega
  · exact h j
theorem fr_lt {N : Nat} {S : Nat → Nat} {j : Nat} : fr N S j = true ↔ j < N ∧ S j = 0 := by simp [fr]
theorem bk_lt {N : Nat} {S : Nat → Nat} {j : Nat} : bk N S j = true ↔ j < N ∧ S j = 2 := by simp [bk]
theorem fr_off {N : Nat} {S : Nat → Nat} {a : Nat} (v : Nat) (hv : v ≠ 0) : put (fr N S) a false = fr N (putN S a v) := by
  funext j
  unfold put fr putN
  by_cases e : j = a
  · rw [if_pos e, if_pos e]; simp [hv]
  · rw [if_neg e, if_neg e]
theorem fr_same {N : Nat} {S : Nat → Nat} {a v : Nat} (h : S a ≠ 0) (hv : v ≠ 0) : fr N (putN S a v) = fr N S := by
  funext j
  unfold fr putN
  by_cases e : j = a
  · rw [if_pos e, e, beq_false_of_ne hv, beq_false_of_ne h]
  · rw [if_neg e]
theorem bk_on {N : Nat} {S : Nat → Nat} {a : Nat} (h : a < N) : put (bk N S) a true = bk N (putN S a 2) := by
  funext j
  unfold put bk putN
  by_cases e : j = a
  · rw [if_pos e, if_pos e]; simp [e, h]
  · rw [if_neg e, if_neg e]
theorem bk_same {N : Nat} {S : Nat → Nat} {a v : Nat} (h : S a ≠ 2) (hv : v ≠ 2) : bk N (putN S a v) = bk N S := by
  funext j
  unfold bk putN
  by_cases e : j = a
  · rw [if_pos e, e, beq_false_of_ne hv, beq_false_of_ne h]
  · rw [if_neg e]
theorem ft_some : ∀ {n : Nat} {S : Nat → Nat} {m : Nat}, ft n S = some m → m < n ∧ S m = 0 ∧ ∀ j, j < m → S j ≠ 0
  | 0, S, m, h => by simp [ft] at h
  | n + 1, S, m, h => by
    have hn : ∀ {n : Nat} {S : Nat → Nat}, ft n S = none → ∀ j, j < n → S j ≠ 0 := by
      intro n
      induction n with
      | zero => intro S _ j hj; exact absurd hj (Nat.not_lt_zero _)
      | succ n ih =>
        intro S h j hj
        unfold ft at h
        cases e : ft n S with
        | some m => rw [e] at h; cases h
        | none =>
          rw [e] at h
          by_cases h0 : S n = 0
          · simp [h0] at h
          · by_cases ej : j = n
            · rw [ej]; exact h0
            · exact ih e j (by omega)
    unfold ft at h
    cases e : ft n S with
    | some m' =>
      rw [e] at h
      obtain rfl : m' = m := by simpa using h
      obtain ⟨h1, h2, h3⟩ := ft_some e
      exact ⟨by omega, h2, h3⟩
    | none =>
      rw [e] at h
      by_cases h0 : S n = 0
      · obtain rfl : n = m := by simpa [h0] using h
        exact ⟨by omega, h0, hn e⟩
      · simp [h0] at h
theorem ft_none : ∀ {n : Nat} {S : Nat → Nat}, ft n S = none → ∀ j, j < n → S j ≠ 0
  | 0, _, _, j, hj => absurd hj (Nat.not_lt_zero _)
  | n + 1, S, h, j, hj => by
    unfold ft at h
    cases e : ft n S with
    | some m => rw [e] at h; cases h
    | none =>
      rw [e] at h
      by_cases h0 : S n = 0
      · simp [h0] at h
      · by_cases ej : j = n
        · rw [ej]; exact h0
        · exact ft_none e j (by omega)
theorem ft_is {n : Nat} {S : Nat → Nat} {m : Nat} (h1 : m < n) (h2 : S m = 0) (h3 : ∀ j, j < m → S j ≠ 0) : ft n S = some m := by
  cases e : ft n S with
  | none => exact absurd h2 (ft_none e m h1)
  | some k =>
    obtain ⟨k1, k2, k3⟩ := ft_some e
    by_cases hk : k < m
    · exact absurd k2 (h3 k hk)
    · by_cases hm : m < k
      · exact absurd h2 (k3 m hm)
      · rw [show k = m by omega]
theorem cnt_mask (N : Nat) (f : Nat → Bool) : ∀ M, N ≤ M → cnt M (fun j => decide (j < N) && f j) = cnt N f
  | 0, h => by
    obtain rfl : N = 0 := by omega
    rw [cnt_zero, cnt_zero]
  | M + 1, h => by
    by_cases e : N = M + 1
    · rw [e]
      refine cnt_congr _ fun j hj => ?_
      simp [hj]
    · rw [cnt_succ, cnt_mask N f M (by omega)]
      have : ¬ M < N := by omega
      simp [this]
theorem free_cnt {N : Nat} {S : Nat → Nat} (h : N ≤ 1024) : cnt 1024 (fr N S) = nFree N S := cnt_mask N _ 1024 h
theorem back_cnt {N : Nat} {S : Nat → Nat} (h : N ≤ 1024) : cnt 1024 (bk N S) = nBack N S := cnt_mask N _ 1024 h
theorem settle_fr {N : Nat} {S : Nat → Nat} (h : N ≤ 1024) : (fun j => fr N S j || (decide (j < 1024) && bk N S j)) = fr N (seS S) := by
  funext j
  unfold fr bk seS
  by_cases h1 : j < N
  · have : j < 1024 := by omega
    by_cases h2 : S j = 2
    · simp [h1, this, h2]
    · simp [h1, this, h2]
  · simp [h1]
theorem settle_bk {N : Nat} {S : Nat → Nat} : (fun _ => false) = bk N (seS S) := by
  funext j
  unfold bk seS
  by_cases h2 : S j = 2
  · simp [h2]
  · simp [h2]
attribute [irreducible] fr bk stv mv chS ft seS nFree nBack putN
end Go.Proofs.YtpocccnhibjjcaaGreatDoor.S8
/- The places of a set, told one by one (the program's own iterator), and counted. Conditions: the words lie there, and stay so. -/
set_option linter.unusedVariables false
namespace Go.Proofs.YtpocccnhibjjcaaGreatDoor.S8
open Go.RowKit Go.Shelf

attribute [local go_sem] Oper.semAt_some

def SetAt (w : World) (g off : Nat) (S : Nat → Bool) : Prop := ∀ i, i < 16 → w.cell? ⟨g, off + i, none⟩ = some (W64 (wv S i))

theorem cnt_word (S : Nat → Bool) (i : Nat) : cnt (64 * (i + 1)) S = cnt (64 * i) S + cnt 64 (fun j => S (64 * i + j)) := by
  rw [show 64 * (i + 1) = 64 * i + 64 by omega, cnt_add]
theorem count_any (g off : Nat) (S : Nat → Bool) (w : World) (h : SetAt w g off S) : Calls Tryz.prog 89 #[.pointer (some ⟨g, off, none⟩)] w fun e w' => e = .returned (.int .i64 (cnt 1024 S : Int)) ∧ w' = w := by
  go_enter Tryz.func89, Tryz.ntmps89
  go_wp2
  go_loopw [5, 3] (fun i s wr => ∃ k : Nat, k ≤ 16 ∧ i = .int .i64 k ∧ s = .int .i64 (cnt (64 * k) S : Int) ∧ wr = w) (fun i _ _ => 16 - (intOf i).toNat)
  case atStart => exact ⟨0, by omega, rfl, by rw [Nat.mul_zero, cnt_zero]; rfl, rfl⟩
  case round =>
    obtain ⟨k, hk, rfl, rfl, rfl⟩ := hrel
    by_cases hlt : k < 16
    · have c0 := h k hlt
      obtain ⟨x, hx⟩ : ∃ x, wv S k = x := ⟨_, rfl⟩
      rw [hx] at c0
      have hx' : num 64 (fun j => S (64 * k + j)) = x := (wv_eq S k).symm.trans hx
      have hb := cnt_le (64 * k) S
      have hb1 := cnt_le 64 (fun j => S (64 * k + j))
      have e := cnt_word S k
      have HX := Lib.hid hx'
      obtain ⟨a, ha⟩ : ∃ a, cnt (64 * k) S = a := ⟨_, rfl⟩
      obtain ⟨b, hb'⟩ : ∃ b, cnt 64 (fun j => S (64 * k + j)) = b := ⟨_, rfl⟩
      rw [ha] at hb e ⊢
      rw [hb'] at hb1 e
      have e1 : wrap64 ((a : Int) + (b : Int)) = ((cnt (64 * (k + 1)) S : Nat) : Int) := by rw [e]; unfold wrap64; omega
      have e2 : IntKind.i64.wrap ((a : Int) + (b : Int)) = ((cnt (64 * (k + 1)) S : Nat) : Int) := by rw [e, IntKind.wrap_i64]; omega
      have HB := Lib.hid hb'
      obtain ⟨s2, hs2⟩ : ∃ s2, cnt (64 * (k + 1)) S = s2 := ⟨_, rfl⟩
      rw [hs2] at e1 e2
      have HS2 := Lib.hid hs2
      clear hx hx' hb hb1 e ha hb' hs2
      go_wp2_with (go_at_call 117; refine (ones_any _ x HX.out _).mono ?_; rintro e9 w9 ⟨rfl, rfl⟩; rw [HB.out])
      exact ⟨⟨k + 1, by omega, by go_num, by rw [HS2.out], trivial⟩, by simp [intOf]; omega⟩
    · obtain rfl : k = 16 := by omega
      go_wp2
      go_ret
      exact ⟨rfl, rfl⟩

def from_ (S : Nat → Bool) (i p : Nat) : Nat := num 64 (fun j => decide (p ≤ j) && S (64 * i + j))
theorem from_zero (S : Nat → Bool) (i : Nat) : from_ S i 0 = wv S i := by
  rw [wv_eq]
  unfold from_
  simp
theorem from_lt (S : Nat → Bool) (i p : Nat) : from_ S i p < 18446744073709551616 := num64_lt _
theorem from_none {S : Nat → Bool} {i p : Nat} (h : from_ S i p = 0) : ∀ j, p ≤ j → j < 64 → S (64 * i + j) = false := by
  intro j h1 h2
  have := num_zero_iff.1 h j h2
  simpa [h1] using this
theorem from_some {S : Nat → Bool} {i p : Nat} (h : from_ S i p ≠ 0) : ∃ k, p ≤ k ∧ k < 64 ∧ S (64 * i + k) = true ∧ (∀ j, p ≤ j → j < k → S (64 * i + j) = false) ∧ Lib.ctz 64 (from_ S i p) = k ∧ from_ S i p &&& (from_ S i p - 1) = from_ S i (k + 1) := by
  obtain ⟨k, h1, h2, h3, h4, h5⟩ := low 64 _ h
  simp only [Bool.and_eq_true, decide_eq_true_eq] at h2
  refine ⟨k, h2.1, h1, h2.2, fun j hj1 hj2 => ?_, h4, h5.trans ?_⟩
  · have := h3 j hj2
    simpa [hj1] using this
  · unfold from_
    congr 1
    funext j
    by_cases e : k < j
    · have : p ≤ j := by omega
      have : k + 1 ≤ j := by omega
      simp [*]
    · have : ¬ k + 1 ≤ j := by omega
      simp [*]
attribute [irreducible] from_
theorem skip {S : Nat → Bool} {J : Nat → World → Prop} (hs : ∀ m W, m < 1024 → S m = false → J m W → J (m + 1) W) {W : World} {a : Nat} : ∀ n, (∀ j, a ≤ j → j < a + n → S j = false) → a + n ≤ 1024 → J a W → J (a + n) W
  | 0, _, _, h => h
  | n + 1, h1, h2, h => hs (a + n) W (by omega) (h1 (a + n) (by omega) (by omega)) (skip hs n (fun j hj hj2 => h1 j hj (by omega)) (by omega) h)

set_option maxRecDepth 100000 in
set_option maxHeartbeats 2000000 in
theorem each_in (n : Nat) (hn : 1 ≤ n) (l g off : Nat) (S : Nat → Bool) (J Jx : Nat → World → Prop)
    (hC : ∀ m W, J m W → Tab W ∧ SetAt W g off S) (hs : ∀ m W, m < 1024 → S m = false → J m W → J (m + 1) W)
    (hY : ∀ m W, m < 1024 → S m = true → J m W → YieldAt Fence.wide (n - 1) Tryz.prog l #[.int .i64 (m : Int)] W fun e W' =>
      (e = .returned (.bool true) ∧ J (m + 1) W') ∨ (e = .returned (.bool false) ∧ Jx m W'))
    (W : World) (h0 : J 0 W) :
    CallsIn Fence.wide n Tryz.prog 167 #[.pointer (some ⟨g, off, none⟩), .func (.yield l) #[] #[]] W fun e W' => (∃ v, e = .returned v) ∧
      (J 1024 W' ∨ ∃ m, m < 1024 ∧ S m = true ∧ Jx m W') := by
  refine callsIn_of_wp Tryz.func167 rfl trivial ?_ rfl
  simp only [Tryz.ntmps167, List.size_toArray, List.length_cons, List.length_nil, Nat.reduceAdd, Nat.reduceSub, Array.replicate_succ, Array.replicate_zero, List.push_toArray, List.append_toArray, List.nil_append, List.cons_append]
  gi_wp2
  gi_loopw [6] (fun i wr => ∃ k : Nat, k ≤ 16 ∧ i = .int .i64 k ∧ Hid (J (64 * k) wr)) (fun i _ => 16 - (intOf i).toNat)
  case atStart => exact ⟨0, by omega, rfl, Lib.hid (by rw [Nat.mul_zero]; exact h0)⟩
  case round =>
    obtain ⟨k, hk, rfl, hJ⟩ := hrel
    by_cases hlt : k < 16
    · obtain ⟨_, hS⟩ := hC _ _ hJ.out
      have c0 := hS k hlt
      rw [← from_zero] at c0
      obtain ⟨x, hx⟩ : ∃ x, from_ S k 0 = x := ⟨_, rfl⟩
      rw [hx] at c0
      have HX := Lib.hid hx
      have hkd : decide ((k : Int) < 16) = true := by simp; omega
      clear hx hS
      gi_wp2
      gi_loopw [5] (fun y wq => ∃ p X : Nat, p ≤ 64 ∧ y = W64 X ∧ Hid (from_ S k p = X) ∧ Hid (J (64 * k + p) wq)) (fun y _ => (intOf y).toNat)
      case atStart => exact ⟨0, x, by omega, rfl, HX, hJ⟩
      case round =>
        obtain ⟨p, X, hp, rfl, hX, hJp⟩ := hrel
        clear c0 HX hJ
        by_cases h0' : X = 0
        · subst h0'
          have hJ1 : Hid (J (64 * (k + 1)) wr) := by
            have := skip hs (64 - p) (fun j h1 h2 => by
              have := from_none hX.out (j - 64 * k) (by omega) (by omega)
              rwa [show 64 * k + (j - 64 * k) = j by omega] at this) (by omega) hJp.out
            rw [show 64 * k + p + (64 - p) = 64 * (k + 1) by omega] at this
            exact Lib.hid this
          gi_wp2
          go_roundw
          case rel => exact ⟨k + 1, by omega, by go_num, hJ1⟩
          case measure => simp [intOf]; omega
        · obtain ⟨q, q1, q2, q3, q4, q5, q6⟩ := from_some (by rw [hX.out]; exact h0')
          have hlt64 := from_lt S k p
          rw [hX.out] at q5 q6 hlt64
          obtain ⟨Y, hY0⟩ : ∃ Y, from_ S k (q + 1) = Y := ⟨_, rfl⟩
          rw [hY0] at q6
          have hJq : J (64 * k + q) wr := by
            have := skip hs (q - p) (fun j h1 h2 => by
              have := q4 (j - 64 * k) (by omega) (by omega)
              rwa [show 64 * k + (j - 64 * k) = j by omega] at this) (by omega) hJp.out
            rwa [show 64 * k + p + (q - p) = 64 * k + q by omega] at this
          obtain ⟨hT, _⟩ := hC _ _ hJq
          obtain ⟨m, hm⟩ : ∃ m, 64 * k + q = m := ⟨_, rfl⟩
          rw [hm] at q3 hJq
          have hm9 : m < 1024 := by clear hlt64 q5 q6; omega
          obtain ⟨fn, tmps, assign, body, hy, hR⟩ := hY m wr hm9 q3 hJq
          have hne : ((X : Int) != 0) = true := by simp; omega
          have hmul : IntKind.i64.wrap ((k : Int) * 64) = (k : Int) * 64 := by rw [IntKind.wrap_i64]; omega
          have hadd : IntKind.i64.wrap ((k : Int) * 64 + (q : Int)) = (m : Int) := by rw [IntKind.wrap_i64]; omega
          have hadd2 : wrap64 ((k : Int) * 64 + (q : Int)) = (m : Int) := by unfold wrap64; omega
          have hsub : IntKind.u64.wrap ((X : Int) - 1) = ((X - 1 : Nat) : Int) := by rw [IntKind.wrap_u64]; omega
          have hand : bits .and .u64 (X : Int) ((X - 1 : Nat) : Int) = (Y : Int) := by rw [bits_and_u64_nat _ _ hlt64 (by omega), q6]
          have hYX : Y < X := by
            have := Nat.and_le_right (n := X) (m := X - 1)
            omega
          obtain ⟨Z, hZ⟩ : ∃ Z, X - 1 = Z := ⟨_, rfl⟩
          rw [hZ] at hsub hand
          have HT := Lib.hid (p := X < 18446744073709551616 ∧ X ≠ 0 ∧ Lib.ctz 64 X = q ∧ Tab wr) ⟨hlt64, h0', q5, hT⟩
          have HY := Lib.hid (p := m < 1024 ∧ S m = true ∧ 64 * k + q = m ∧ q < 64 ∧ Y < X) ⟨hm9, q3, hm, q2, hYX⟩
          have HY0 := Lib.hid hY0
          clear hm9 hT hlt64 q5 q1 q2 q3 q4 q6 hX hJp hJq h0' hm hYX hZ hY0 hp
          gi_wp2_with (refine ⟨trivial, ?_⟩; gi_at_call 174; refine (callsIn_wide.2 (tz_any X q HT.out.1 HT.out.2.1 HT.out.2.2.1 _ HT.out.2.2.2)).mono ?_; rintro e w' ⟨rfl, rfl⟩)
          refine hR.mono ?_
          rintro e W3 (⟨rfl, hJ3⟩ | ⟨rfl, hJx3⟩)
          · have H3 := Lib.hid (p := J (64 * k + (q + 1)) W3) (by rw [← Nat.add_assoc, HY.out.2.2.1]; exact hJ3)
            clear hy hR hJ3
            gi_wp2
            go_roundw
            case rel => exact ⟨q + 1, Y, by have := HY.out.2.2.2.1; omega, rfl, HY0, H3⟩
            case measure => simp [intOf]; have := HY.out.2.2.2.2; omega
          · clear hy hR
            gi_wp2
            refine bodyPost_ret (results_none rfl _ _ _) rfl ?_
            exact ⟨⟨_, rfl⟩, .inr ⟨m, HY.out.1, HY.out.2.1, hJx3⟩⟩
    · obtain rfl : k = 16 := by omega
      gi_wp2
      go_end0
      exact ⟨⟨_, rfl⟩, .inl hJ.out⟩
end Go.Proofs.YtpocccnhibjjcaaGreatDoor.S8
