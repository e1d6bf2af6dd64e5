/- The walk of ViewRuns. Conditions: those named. -/
import Derived.Test.YtpobppoaidngeaaKs
set_option linter.unusedVariables false
set_option maxRecDepth 20000
namespace Go.Proofs.Ytpobppoaidngeaa
open Go.RowKit

theorem zero_dos2 (w : World) : (zeroValue 33).run Try.prog w = .ok (.slice none 0 0) w := by kernel_rfl
theorem zero_sls (w : World) : (zeroValue 22).run Try.prog w = .ok (.slice none 0 0) w := by kernel_rfl
theorem sls_of {w : World} {b : Nat} {A : Option Addr} {c : Nat} {xs ys : List BV} (ho : w.ownsRow b 44 1 (.slice A xs.length c) xs.length (xs.flatMap sc)) (h8 : ∀ x ∈ xs, Own8 b w x) (he : xs.map BV.l = ys.map BV.l) (hl : ∀ y ∈ ys, y.l.length ≤ 131072) (hm : ys.length ≤ 1000) : SlsAt w A xs :=
  ⟨Lies.own (by decide) sc_len ho, fun x hx => (h8 x hx).hol, fun x hx => by
    have h1 : x.l ∈ ys.map BV.l := by rw [← he]; exact List.mem_map.2 ⟨x, hx, rfl⟩
    obtain ⟨y, hy, e⟩ := List.mem_map.1 h1
    rw [← e]
    exact hl y hy, by have h := congrArg List.length he; simp at h; omega⟩
theorem puts_nil (w : World) : PutsAt w none [] := ⟨.inl rfl, by simp, by simp, by simp⟩
theorem chL_none {qs : List (Int × BV)} (h : ChOf (byL fun _ => none) (chL qs)) : chL qs = chL [] := by
  have := ch_len0 h
  rw [List.eq_nil_of_length_eq_zero this]
section
variable {w w' : World} {g gv gm : Nat} {t : TypeId} {cs : List Value} {b n : Nat} {gs : Nat} {rp : Option Addr} {C : Int → Option BV}
theorem Row.run_ {ps : Nat} (h : Row w g t cs) (hv : VV b w gv gm gs rp n C) (ht : t ≠ 56) (hps : g ≠ ps) (hc : Chg [gv, gm, gm, ps] w w') : Row w' g t cs :=
  hc.row h (by
    have h1 : g ≠ gv := h.ne_ hv.row ht
    have h2 : g ≠ gm := fun e => hv.map.no_cells _ _ _ (e ▸ h.heap)
    simp
    exact ⟨h1, h2, hps⟩)
theorem Row.run0 (h : Row w g t cs) (hv : VV b w gv gm gs rp n C) (ht : t ≠ 56) (hc : Chg [gv, gm] w w') : Row w' g t cs :=
  hc.row h (by
    have h1 : g ≠ gv := h.ne_ hv.row ht
    have h2 : g ≠ gm := fun e => hv.map.no_cells _ _ _ (e ▸ h.heap)
    simp
    exact ⟨h1, h2⟩)
end
set_option maxHeartbeats 4000000 in
theorem runsW {W : World} {AB : Option Addr} {nB cB : Nat} {AK : Option Addr} {nK cK : Nat} {Bs : List BV} {Ks : List Bool} {A : Option Addr} {c : Nat} {ds : List DV} {A2 : Option Addr} {c2 : Nat} {ds2 : List DV} (hm : ∀ (w1 : World) (gs : Nat), Row w1 gs 25 [.slice AB nB cB, .slice AK nK cK] → Below W.heap.size W w1 → SrcR w1 gs Bs Ks) (hd : ScR W A ds) (hd2 : ScR W A2 ds2) :
    Calls Try.prog 3 #[.agg #[.slice AB nB cB, .slice AK nK cK], .slice A ds.length c, .slice A2 ds2.length c2] W fun e w' => e = .returned (.bool true) ∧ Below W.heap.size W w' := by
  have hmf : ∀ (fn : Fn) (first cap : Array Value) (w : World), (Instr.makeFunc fn first cap).run Try.prog w = .ok (.func fn first cap) w := fun _ _ _ _ => rfl
  have HM := Lib.hid hm
  have HD := Lib.hid hd
  have HD2 := Lib.hid hd2
  clear hm hd hd2
  go_enter Try.func3, Try.ntmps3
  go_wp2_with (first
    | (refine step_box rfl 3 rfl 25 _ rfl [.slice AB nB cB, .slice AK nK cK] rfl ?_; intro gs w1 hr1 hg1 hb1 hs1
       have HS1 := Lib.hid (HM.out w1 gs hr1 hb1); have HB1 := Lib.hid hb1; clear hr1 hg1 hb1 hs1)
    | (go_at_call 7; refine (awake_any _).mono ?_; rintro e w4 ⟨rfl, hb4⟩
       have HB4 := Lib.hid (below_nxt hb4 HB1.out); have HS4 := Lib.hid (HS1.out.below hb4)
       clear hb4))
  refine (may_any HS4.out (HD.out.below HB4.out)).mono ?_
  rintro e w3 ⟨rm, rfl, hok, hb3⟩
  have HB3 := Lib.hid (below_nxt hb3.out HB4.out)
  have HS3 := Lib.hid (HS4.out.below hb3.out)
  cases rm with
  | false =>
    go_wp2
    go_ret
    exact ⟨rfl, HB3.out⟩
  | true =>
  go_wp2_with fail
  refine (may_any HS3.out (HD2.out.below HB3.out)).mono ?_
  rintro e w5 ⟨rm2, rfl, hok2, hb5⟩
  have HB5 := Lib.hid (below_nxt hb5.out HB3.out)
  have HS5 := Lib.hid (HS3.out.below hb5.out)
  cases rm2 with
  | false =>
    go_wp2
    go_ret
    exact ⟨rfl, HB5.out⟩
  | true =>
  have HSO := Lib.hid (HS5.out.ok (hok.out (by trivial)))
  have HSC := Lib.hid (p := ∀ i, i < 2 → ∃ (Ai : Option Addr) (ci : Nat) (di : List DV), [Value.slice A ds.length c, .slice A2 ds2.length c2][i]? = some (.slice Ai di.length ci) ∧ ScB w5.heap.size w5 Ai di) (fun i hi => by
    match i, hi with
    | 0, _ => exact ⟨A, c, ds, rfl, (HD.out.below HB5.out).ok (hok.out (by trivial))⟩
    | 1, _ => exact ⟨A2, c2, ds2, rfl, (HD2.out.below HB5.out).ok (hok2.out (by trivial))⟩)
  obtain ⟨n1, hn1⟩ : ∃ n1, ds.length = n1 := ⟨_, rfl⟩
  obtain ⟨n2, hn2⟩ : ∃ n2, ds2.length = n2 := ⟨_, rfl⟩
  rw [hn1, hn2] at HSC
  rw [hn1, hn2]
  clear hn1 hn2
  go_wp2_with (first
    | (go_at_call 9; refine (vnew gs _).mono ?_; rintro e w6 ⟨gv, gm, rfl, hv6, hb6⟩)
    | (refine step_new rfl 30 rfl (.pointer none) zero_vptr rfl ?_; intro pv w7 hr7 hg7 hb7
       have R7 := Lib.hid hr7; have HB7 := Lib.hid hb7; have HG7 := hg7
       have c7 : w7.cell? ⟨pv, 0, none⟩ = some (.pointer none) := (hr7.cell 0).trans rfl
       have f7 := hr7.free 0
       have lpv : w6.heap.size ≤ pv := Nat.le_of_eq HG7.out.symm
       have hc68 : Chg [pv] w6 (w7.setCell ⟨pv, 0, none⟩ (.pointer (some ⟨gv, 0, none⟩))) := (Chg.of HB7.out).setCell (p := ⟨pv, 0, none⟩) (.inl (by simp)) _
       have HV8 := Lib.hid (hv6.out.below' hc68 (fun x hx => by rw [List.mem_singleton] at hx; omega))
       have HB8 := Lib.hid (p := Below w5.heap.size w5 (w7.setCell ⟨pv, 0, none⟩ (.pointer (some ⟨gv, 0, none⟩)))) (hb6.out.trans (hc68.below hb6.out.size (fun x hx => by rw [List.mem_singleton] at hx; have := hb6.out.size; omega)))
       have R8 := Lib.hid (R7.out.put 0 (.pointer (some ⟨gv, 0, none⟩)))
       clear hr7 hg7 hb7 hc68)
    | (refine step_new rfl 33 rfl (.slice none 0 0) zero_dos2 rfl ?_; intro pl w9 hr9 hg9 hb9
       have hb89 := below_nxt hb9 (below_al _ _)
       have hrg := (Row.made (w7.setCell ⟨pv, 0, none⟩ (.pointer (some ⟨gv, 0, none⟩))) 26 [.slice A n1 c, .slice A2 n2 c2]).kept hb9
       rw [show (w7.setCell ⟨pv, 0, none⟩ (.pointer (some ⟨gv, 0, none⟩))).heap.size = w7.heap.size by simp] at hrg
       have nlg : pl ≠ w7.heap.size := hr9.ne_ hrg (by decide)
       have nlv : pl ≠ pv := hr9.ne_ (R8.out.kept hb89) (by decide)
       have RlX := Lib.hid (hr9.put 0 (.slice (some ⟨w7.heap.size, 0, none⟩) 2 2))
       have RgX := Lib.hid (hrg.far (p := ⟨pl, 0, none⟩) nlg.symm (.slice (some ⟨w7.heap.size, 0, none⟩) 2 2))
       have RvX := Lib.hid ((R8.out.kept hb89).far (p := ⟨pl, 0, none⟩) nlv.symm (.slice (some ⟨w7.heap.size, 0, none⟩) 2 2))
       have hcX : Chg [pl] (w7.setCell ⟨pv, 0, none⟩ (.pointer (some ⟨gv, 0, none⟩))) (w9.setCell ⟨pl, 0, none⟩ (.slice (some ⟨w7.heap.size, 0, none⟩) 2 2)) := (Chg.of hb89).setCell (p := ⟨pl, 0, none⟩) (.inl (by simp)) _
       have hpl8 : ∀ x ∈ [pl], (w7.setCell ⟨pv, 0, none⟩ (.pointer (some ⟨gv, 0, none⟩))).heap.size ≤ x := fun x hx => by
         rw [List.mem_singleton] at hx
         subst hx
         have := hg9.out
         simp at this ⊢
         omega
       have HVX := Lib.hid (HV8.out.below' hcX hpl8)
       have HBX := Lib.hid (HB8.out.trans (hcX.below HB8.out.size (fun x hx => Nat.le_trans HB8.out.size (hpl8 x hx))))
       have c9 : w9.cell? ⟨pl, 0, none⟩ = some (.slice none 0 0) := (hr9.cell 0).trans rfl
       have f9 := hr9.free 0
       clear hr9 hg9 hb9 hb89 hrg nlg nlv hcX hpl8)
    | (refine step_new rfl 3 rfl (.int .i64 0) zero_int rfl ?_; intro pi w10 hr10 hg10 hb10
       generalize w9.setCell ⟨pl, 0, none⟩ (.slice (some ⟨w7.heap.size, 0, none⟩) 2 2) = X9 at RlX RgX RvX HVX HBX hb10 hg10
       have R10 := Lib.hid hr10
       have c10 : w10.cell? ⟨pi, 0, none⟩ = some (.int .i64 0) := (hr10.cell 0).trans rfl
       have f10 := hr10.free 0
       have Rl10 := RlX.out.kept hb10
       have Rg10 := RgX.out.kept hb10
       have Rv10 := RvX.out.kept hb10
       have nl : pl ≠ pi := Rl10.ne_ hr10 (by decide)
       have ng : w7.heap.size ≠ pi := Rg10.ne_ hr10 (by decide)
       have nv : pv ≠ pi := Rv10.ne_ hr10 (by decide)
       have Rl0 := Lib.hid (Rl10.far (p := ⟨pi, 0, none⟩) nl (.int .i64 0))
       have Rg0 := Lib.hid (Rg10.far (p := ⟨pi, 0, none⟩) ng (.int .i64 0))
       have Rv0 := Lib.hid (Rv10.far (p := ⟨pi, 0, none⟩) nv (.int .i64 0))
       have hcY : Chg [pi] X9 (w10.setCell ⟨pi, 0, none⟩ (.int .i64 0)) := (Chg.of hb10).setCell (p := ⟨pi, 0, none⟩) (.inl (by simp)) _
       have hpY : ∀ x ∈ [pi], X9.heap.size ≤ x := fun x hx => by
         rw [List.mem_singleton] at hx
         subst hx
         exact Nat.le_of_eq hg10.out.symm
       have HV0 := Lib.hid (HVX.out.below' hcY hpY)
       have HB0 := Lib.hid (HBX.out.trans (hcY.below HBX.out.size (fun x hx => Nat.le_trans HBX.out.size (hpY x hx))))
       have Ri0 := Lib.hid (hr10.put 0 (.int .i64 0))
       clear hr10 hg10 hb10 Rl10 Rg10 Rv10 nl ng nv hcY hpY))
  have nlo := hv6.out.lo
  generalize w7.heap.size = ga at Rg0 Rl0 ⊢
  go_loopw [9] (fun x wr => ∃ (i pi n' : Nat) (C' : Int → Option BV), Hid (i ≤ 2) ∧ x = .pointer (some ⟨pi, 0, none⟩) ∧ Hid (Row wr pi 3 [.int .i64 (i : Int)]) ∧ Hid (Row wr pl 33 [.slice (some ⟨ga, 0, none⟩) 2 2]) ∧ Hid (Row wr ga 26 [.slice A n1 c, .slice A2 n2 c2]) ∧ Hid (Row wr pv 30 [.pointer (some ⟨gv, 0, none⟩)]) ∧ Hid (VV w5.heap.size wr gv gm gs none n' C') ∧ Hid (n' ≤ 1000) ∧ Hid (Below w5.heap.size w5 wr)) (fun x wr => 2 - ival wr x)
  case atStart => exact ⟨0, pi, 0, _, Lib.hid (by omega), rfl, Ri0, Rl0, Rg0, Rv0, HV0, Lib.hid (by omega), HB0⟩
  case round =>
    clear Ri0 Rl0 Rg0 Rv0 HV0 HB0 RlX RgX RvX HVX HBX c7 f7 c9 f9 c10 f10
    obtain ⟨i, pi, n', C', HI, rfl, Ri, Rl, Rg, Rv, HV, HN, HB⟩ := hrel
    rename World => wo
    have ci : wo.cell? ⟨pi, 0, none⟩ = some (.int .i64 (i : Int)) := (Ri.out.cell 0).trans rfl
    have cl : wo.cell? ⟨pl, 0, none⟩ = some (.slice (some ⟨ga, 0, none⟩) 2 2) := (Rl.out.cell 0).trans rfl
    by_cases hi : i < 2
    · have hii : (i : Int) < 2 := by omega
      obtain ⟨Ai, cI, di, hgi, hsc⟩ := HSC.out i hi
      have HSI := Lib.hid hsc
      have HIT := Lib.hid hi
      have cv : wo.cell? ⟨pv, 0, none⟩ = some (.pointer (some ⟨gv, 0, none⟩)) := (Rv.out.cell 0).trans rfl
      have HGI := Lib.hid hgi
      clear hi hgi hsc
      go_wp2_with (first
        | (refine step_new rfl 22 rfl (.slice none 0 0) zero_sls rfl ?_; intro ps w11 hr11 hg11 hb11
           have R11 := Lib.hid hr11
           have HG11 := Lib.hid (p := wo.heap.size ≤ ps) (Nat.le_of_eq hg11.out.symm)
           have Ri1 := Lib.hid (Ri.out.kept hb11)
           have Rl1 := Lib.hid (Rl.out.kept hb11)
           have Rg1 := Lib.hid (Rg.out.kept hb11)
           have Rv1 := Lib.hid (Rv.out.kept hb11)
           have HV1 := Lib.hid (HV.out.below hb11)
           have HB1' := Lib.hid (HB.out.trans (hb11.mono HB.out.size))
           have cv11 : w11.cell? ⟨pv, 0, none⟩ = some (.pointer (some ⟨gv, 0, none⟩)) := (Rv1.out.cell 0).trans rfl
           clear hr11 hg11 hb11 cv ci cl))
      have HCF := Lib.hid (p := ∀ w, (callFunc 12 #[.pointer (some ⟨pv, 0, none⟩), .pointer (some ⟨pl, 0, none⟩), .pointer (some ⟨pi, 0, none⟩), .pointer (some ⟨ps, 0, none⟩)]).run Try.prog w = .ok (.enter 12 #[.pointer (some ⟨pv, 0, none⟩), .pointer (some ⟨pl, 0, none⟩), .pointer (some ⟨pi, 0, none⟩), .pointer (some ⟨ps, 0, none⟩)]) w) (fun w => by simp [go_sem])
      have hpm : ps ≠ gm := fun e => HV1.out.map.no_cells _ _ _ (e ▸ R11.out.heap)
      have hpg : ps ≠ gv := R11.out.ne_ HV1.out.row (by decide)
      have lps := R11.out.lt
      have hG : ∀ x ∈ [gm, ps], x ≠ gv ∧ x < w11.heap.size := fun x hx => by
        simp at hx
        rcases hx with rfl | rfl
        · exact ⟨HV1.out.ne.symm, HV1.out.map.lt⟩
        · exact ⟨hpg, lps⟩
      have hbs : ∀ x ∈ [gv, gm], w5.heap.size ≤ x := fun x hx => by simp at hx; rcases hx with rfl | rfl <;> omega
      have hbs4 : ∀ x ∈ [gv, gm, gm, ps], w5.heap.size ≤ x := fun x hx => by
        have h1 := HG11.out
        have h2 := HB.out.size
        simp at hx
        rcases hx with rfl | rfl | rfl <;> omega
      refine (vrun 12 #[.pointer (some ⟨pv, 0, none⟩), .pointer (some ⟨pl, 0, none⟩), .pointer (some ⟨pi, 0, none⟩), .pointer (some ⟨ps, 0, none⟩)] [gm, ps] _ _ HV1.out hG HCF.out (fun r w1 hv hr hc hrb => runs1 (c := cI) (x0 := .slice none 0 0) hv (by have := HB1'.out.size; have := hc.size; omega) (by have := HB1'.out.size; omega) hr (((Rv1.out.run0 HV1.out (by decide) hc).cell 0).trans rfl) (((Rl1.out.run0 HV1.out (by decide) hc).cell 0).trans rfl) (((Ri1.out.run0 HV1.out (by decide) hc).cell 0).trans rfl) HIT.out (((Rg1.out.run0 HV1.out (by decide) hc).cell i).trans HGI.out) (R11.out.run0 HV1.out (by decide) hc) (HSO.out.keep (HB1'.out.trans (hc.below HB1'.out.size hbs))) (HSI.out.keep (HB1'.out.trans (hc.below HB1'.out.size hbs))))).mono ?_
      intro e w12 h12
      have hc12 : Chg [gv, gm, gm, ps] w11 w12 := by
        rcases h12 with ⟨_, _, _, _, _, _, _, _, _, _, _, _, h⟩ | ⟨_, _, _, _, _, h⟩ <;> exact h
      have Ri2 := Lib.hid (Ri1.out.run_ HV1.out (by decide) (Ri1.out.ne_ R11.out (by decide)) hc12)
      have Rl2 := Lib.hid (Rl1.out.run_ HV1.out (by decide) (Rl1.out.ne_ R11.out (by decide)) hc12)
      have Rg2 := Lib.hid (Rg1.out.run_ HV1.out (by decide) (Rg1.out.ne_ R11.out (by decide)) hc12)
      have Rv2 := Lib.hid (Rv1.out.run_ HV1.out (by decide) (Rv1.out.ne_ R11.out (by decide)) hc12)
      have HB2 := Lib.hid (HB1'.out.trans (hc12.below HB1'.out.size hbs4))
      have cl12 : w12.cell? ⟨pl, 0, none⟩ = some (.slice (some ⟨ga, 0, none⟩) 2 2) := (Rl2.out.cell 0).trans rfl
      have ci12 : w12.cell? ⟨pi, 0, none⟩ = some (.int .i64 (i : Int)) := (Ri2.out.cell 0).trans rfl
      have cg12 : w12.cell? ⟨ga, i, none⟩ = some (.slice Ai di.length cI) := (Rg2.out.cell i).trans HGI.out
      have cg12' : w12.cell? ⟨ga, 0 + i, none⟩ = some (.slice Ai di.length cI) := by rw [Nat.zero_add]; exact cg12
      have HRR := Lib.hid (rrun_any (c := cI) ((HSO.out.keep HB2.out).mono HB2.out.size) ((HSI.out.keep HB2.out).mono HB2.out.size))
      have hiw : IntKind.i64.wrap ((i : Int) + 1) = (i : Int) + 1 := by rw [IntKind.wrap_i64]; omega
      clear cv11 hG hbs hbs4
      rcases h12 with ⟨rfl, n2', C2, w1, w2, F, hv12, hn12, ⟨xs, A3, c3, hT, cps, hown, h8⟩, hF, hFF, hsz, _⟩ | ⟨a, w2, rfl, hv12, hT, _⟩
      · have HV12 := Lib.hid hv12
        have HN12 := Lib.hid hn12
        have HT := Lib.hid hT
        have hni : ∀ k, w1.heap.size ≤ k → k ∉ F := fun k hk hf => by
          have := HV1.out.row.lt
          rcases hFF k hf with h | h <;> omega
        have HOW := Lib.hid (Chg.own hown hF (fun k hk hf => hni k (hown.lt k hk).1 hf))
        have H8 := Lib.hid (p := ∀ x ∈ xs, Own8 w1.heap.size w12 x) (fun x hx => Chg.own (h8 x hx) hF (fun k hk hf => hni k ((h8 x hx).lt k hk).1 hf))
        have cps12 : w12.cell? ⟨ps, 0, none⟩ = some (.slice A3 xs.length c3) := hF.cell cps (fun hx => by rcases hFF ps hx with h | h; exact hpg h; omega)
        clear hv12 hn12 hF hFF hsz cps hown h8 hT hni
        go_wp2_with fail
        refine HRR.out.mono ?_
        rintro e w13 (⟨ys, A4, c4, qs, A5, c5, C5, rfl, hT2, hsl, hpu, hch, hb13⟩ | ⟨s, A4, n4, c4, rfl, hT2, hb13⟩)
        · have hTT := HT.out.symm.trans hT2.out
          simp only [Sum.inl.injEq, Prod.mk.injEq] at hTT
          have HT1 := Lib.hid hTT.1
          have HT2 := Lib.hid hTT.2
          have Ri3 := Lib.hid (Ri2.out.kept hb13.out)
          have Rl3 := Lib.hid (Rl2.out.kept hb13.out)
          have Rg3 := Lib.hid (Rg2.out.kept hb13.out)
          have Rv3 := Lib.hid (Rv2.out.kept hb13.out)
          have HV13 := Lib.hid (HV12.out.below hb13.out)
          have HB13 := Lib.hid (HB2.out.trans (hb13.out.mono HB2.out.size))
          have cps13 : w13.cell? ⟨ps, 0, none⟩ = some (.slice A3 xs.length c3) := (hb13.out.cell (p := ⟨ps, 0, none⟩) (World.block_lt_of_cell? w12 _ cps12)).trans cps12
          have cv13 : w13.cell? ⟨pv, 0, none⟩ = some (.pointer (some ⟨gv, 0, none⟩)) := (Rv3.out.cell 0).trans rfl
          have HSX := Lib.hid ((sls_of HOW.out H8.out HT1.out hsl.out.len hsl.out.lim).below hb13.out)
          clear hTT cl12 ci12 cg12 cg12' cps12
          have MK := trivial
          go_wp2_with (first
            | (go_at_call 16; refine (vchanges HV13.out HN12.out).mono ?_; rintro e w14 ⟨q2, A6, c6, rfl, hco, hpa, hb14⟩
               have HB14 := Lib.hid (HB13.out.trans (hb14.out.mono HB13.out.size))
               have HEQ := Lib.hid (p := chL q2 = chL qs) (ChOf.one hco.out (by rw [HT2.out]; exact hch.out)))
            | (go_at_call 15; refine (puts_same A6 A5 c6 c5 q2 qs _ hpa.out (hpu.out.below hb14.out) HEQ.out hpa.out.lim).mono ?_; rintro e w15 ⟨rfl, hb15⟩
               have hb135 := below_nxt hb15 hb14.out
               have Ri5 := Lib.hid (Ri3.out.kept hb135)
               have Rl5 := Lib.hid (Rl3.out.kept hb135)
               have Rg5 := Lib.hid (Rg3.out.kept hb135)
               have Rv5 := Lib.hid (Rv3.out.kept hb135)
               have HV15 := Lib.hid (HV13.out.below hb135)
               have HB15 := Lib.hid (HB13.out.trans (hb135.mono HB13.out.size))
               have HSX5 := Lib.hid (HSX.out.below hb135)
               have HSY5 := Lib.hid (hsl.out.below hb135)
               have cps15 : w15.cell? ⟨ps, 0, none⟩ = some (.slice A3 xs.length c3) := (hb135.cell (p := ⟨ps, 0, none⟩) (World.block_lt_of_cell? w13 _ cps13)).trans cps13
               clear hb15 hb135 cps13 cv13)
            | (go_at_call 17; refine (lists_same A3 A4 c3 c4 xs ys _ HSX5.out HSY5.out HT1.out HSX5.out.lim).mono ?_; rintro e w16 ⟨rfl, hb16⟩
               have Ri6 := Lib.hid (Ri5.out.kept hb16)
               have Rl6 := Lib.hid (Rl5.out.kept hb16)
               have Rg6 := Lib.hid (Rg5.out.kept hb16)
               have Rv6 := Lib.hid (Rv5.out.kept hb16)
               have HV16 := Lib.hid (HV15.out.below hb16)
               have HB16 := Lib.hid (HB15.out.trans (hb16.mono HB15.out.size))
               have ci16 : w16.cell? ⟨pi, 0, none⟩ = some (.int .i64 (i : Int)) := (Ri6.out.cell 0).trans rfl
               clear hb16 cps15))
          go_roundw
          case rel =>
            have hrn := Row.made w16 3 [.int .i64 ((i : Int) + 1)]
            exact ⟨i + 1, w16.heap.size, n2', C2, Lib.hid HIT.out, rfl, Lib.hid (by rw [show (((i + 1 : Nat)) : Int) = (i : Int) + 1 by omega]; exact hrn), Lib.hid (Rl6.out.alloc _), Lib.hid (Rg6.out.alloc _), Lib.hid (Rv6.out.alloc _), Lib.hid (HV16.out.below (below_al _ _)), HN12, Lib.hid (HB16.out.trans ((below_al _ _).mono HB16.out.size))⟩
          case measure =>
            rw [ival_eq ((Ri.out.cell 0).trans rfl), ival_eq ((Row.made w16 3 [.int .i64 ((i : Int) + 1)]).cell 0 |>.trans rfl)]
            have := HIT.out
            omega
        · have hTT := HT.out.symm.trans hT2.out
          cases hTT
      · have HV12 := Lib.hid hv12
        have HT := Lib.hid (show runP (byL (srcF Bs Ks)) di (byL fun _ => none) [] = .inr a from hT)
        clear hv12 hT
        have haa : (a != a) = false := by simp
        go_wp2_with fail
        refine HRR.out.mono ?_
        rintro e w13 (⟨ys, A4, c4, qs, A5, c5, C5, rfl, hT2, hsl, hpu, hch, hb13⟩ | ⟨s, A4, n4, c4, rfl, hT2, hb13⟩)
        · have hTT := HT.out.symm.trans hT2.out
          cases hTT
        · have hTT := HT.out.symm.trans hT2.out
          simp only [Sum.inr.injEq] at hTT
          subst hTT
          have Ri3 := Lib.hid (Ri2.out.kept hb13.out)
          have Rl3 := Lib.hid (Rl2.out.kept hb13.out)
          have Rg3 := Lib.hid (Rg2.out.kept hb13.out)
          have Rv3 := Lib.hid (Rv2.out.kept hb13.out)
          have HV13 := Lib.hid (HV12.out.below hb13.out)
          have HB13 := Lib.hid (HB2.out.trans (hb13.out.mono HB2.out.size))
          have cv13 : w13.cell? ⟨pv, 0, none⟩ = some (.pointer (some ⟨gv, 0, none⟩)) := (Rv3.out.cell 0).trans rfl
          clear cl12 ci12 cg12 cg12'
          go_wp2_with (first
            | (go_at_call 16; refine (vchanges HV13.out (by omega)).mono ?_; rintro e w14 ⟨q2, A6, c6, rfl, hco, hpa, hb14⟩
               have HB14 := Lib.hid (HB13.out.trans (hb14.out.mono HB13.out.size))
               have HEQ := Lib.hid (chL_none hco.out))
            | (go_at_call 15; refine (puts_same A6 none c6 0 q2 [] _ hpa.out (puts_nil _) HEQ.out hpa.out.lim).mono ?_; rintro e w16 ⟨rfl, hb15⟩
               have hb135 := below_nxt hb15 hb14.out
               have Ri6 := Lib.hid (Ri3.out.kept hb135)
               have Rl6 := Lib.hid (Rl3.out.kept hb135)
               have Rg6 := Lib.hid (Rg3.out.kept hb135)
               have Rv6 := Lib.hid (Rv3.out.kept hb135)
               have HV16 := Lib.hid (HV13.out.below hb135)
               have HB16 := Lib.hid (HB13.out.trans (hb135.mono HB13.out.size))
               have ci16 : w16.cell? ⟨pi, 0, none⟩ = some (.int .i64 (i : Int)) := (Ri6.out.cell 0).trans rfl
               clear hb15 hb135 cv13))
          go_roundw
          case rel =>
            have hrn := Row.made w16 3 [.int .i64 ((i : Int) + 1)]
            exact ⟨i + 1, w16.heap.size, 0, _, Lib.hid HIT.out, rfl, Lib.hid (by rw [show (((i + 1 : Nat)) : Int) = (i : Int) + 1 by omega]; exact hrn), Lib.hid (Rl6.out.alloc _), Lib.hid (Rg6.out.alloc _), Lib.hid (Rv6.out.alloc _), Lib.hid (HV16.out.below (below_al _ _)), Lib.hid (by omega), Lib.hid (HB16.out.trans ((below_al _ _).mono HB16.out.size))⟩
          case measure =>
            rw [ival_eq ((Ri.out.cell 0).trans rfl), ival_eq ((Row.made w16 3 [.int .i64 ((i : Int) + 1)]).cell 0 |>.trans rfl)]
            have := HIT.out
            omega
    · have hii : ¬ (i : Int) < 2 := by omega
      clear hi
      go_wp2
      go_ret
      exact ⟨rfl, below_nxt HB.out HB5.out⟩
end Go.Proofs.Ytpobppoaidngeaa
