/- The walk of ViewFresh. Conditions: those named. -/
import Derived.Test.YtpobppoaidngeaaKp
set_option linter.unusedVariables false
set_option maxRecDepth 20000
namespace Go.Proofs.Ytpobppoaidngeaa
open Go.RowKit

section
variable {b : Nat} {w w' : World} {gv gm gs : Nat} {n : Nat} {C : Int → Option BV} {Bs : List BV} {Ks : List Bool}
theorem RunP.any {G : List Nat} {Done : World → (Int → Option BV) → World → Prop} {Gave : Int → World → Prop} {e : Ending} (h : RunP b w gv gm gs G Done Gave e w') : ∃ (a : Int) (k : Bool) (n' : Nat) (C' : Int → Option BV), e = .returned (.tuple #[.int .i64 a, .bool k]) ∧ Hid (VV b w' gv gm gs none n' C') ∧ Hid (n' ≤ 1000) ∧ Hid (Chg (gv :: gm :: G) w w') := by
  rcases h with ⟨rfl, n', C', w1, w2, F, h1, h0, h2, h3, h4, h5, h6⟩ | ⟨s, w2, rfl, h1, h2, h3⟩
  · exact ⟨0, true, n', C', rfl, Lib.hid h1, Lib.hid h0, Lib.hid h6⟩
  · exact ⟨s, false, 0, _, rfl, Lib.hid h1, Lib.hid (by omega), Lib.hid h3⟩
theorem fresh1 {r pv pd : Nat} {w1 : World} {A : Option Addr} {c : Nat} {ds : List DV} (h : VV b w1 gv gm gs (some ⟨r, 0, none⟩) 0 fun _ => none) (hb : b ≤ w1.heap.size) (hrb : b ≤ r) (hr : Row w1 r 58 (rcs false 0)) (hp : w1.cell? ⟨pv, 0, none⟩ = some (.pointer (some ⟨gv, 0, none⟩))) (hd : w1.cell? ⟨pd, 0, none⟩ = some (.slice A ds.length c)) (hs : Src b w1 gs Bs Ks) (hsc : ScB b w1 A ds) :
    Calls Try.prog 23 #[.pointer (some ⟨pv, 0, none⟩), .pointer (some ⟨pd, 0, none⟩)] w1 (FunP b gv gm gs r [gm] (fun _ _ _ => True) (fun _ _ => True) w1) := by
  have HP := Lib.hid (play_any (c := c) h hr hrb hb hs hsc (by omega))
  clear h hb hrb hr hs hsc
  go_enter Try.func23, Try.ntmps23
  go_wp2_with fail
  refine HP.out.mono ?_
  rintro e w3 (⟨xs, A3, c3, n', C', rfl, hT, ho, ho8, hv, hn', hr3, hc3⟩ | ⟨s, n', C', he, hT, hv, hr3, hc3⟩)
  · go_wp2
    go_end0
    exact .inl ⟨rfl, n', C', hv.out, by have := hn'.out; omega, hr3.out, hc3.out, trivial⟩
  · unfold runE at he
    subst he
    exact ⟨rfl, .inr ⟨rfl, n', C', s, hv.out, hr3.out, hc3.out, trivial⟩⟩
theorem fresh2 {r pv pi ps : Nat} {w1 : World} {z : Int} {x0 : Value} (h : VV b w1 gv gm gs (some ⟨r, 0, none⟩) 0 fun _ => none) (hr : Row w1 r 58 (rcs false 0)) (hp : w1.cell? ⟨pv, 0, none⟩ = some (.pointer (some ⟨gv, 0, none⟩))) (hi : w1.cell? ⟨pi, 0, none⟩ = some (.int .i64 z)) (hps : Row w1 ps 44 [x0]) (hz : I64 z) (hs : Src b w1 gs Bs Ks) :
    Calls Try.prog 24 #[.pointer (some ⟨pv, 0, none⟩), .pointer (some ⟨pi, 0, none⟩), .pointer (some ⟨ps, 0, none⟩)] w1 (FunP b gv gm gs r [gm, ps] (fun w1 C' w2 => ∃ x y : BV, srcF Bs Ks z = some x ∧ y.l = x.l ∧ w2.cell? ⟨ps, 0, none⟩ = some (.slice y.A y.l.length y.c) ∧ Own8 w1.heap.size w2 y ∧ C' = fun _ => none) (fun a _ => a = z ∧ srcF Bs Ks z = none) w1) := by
  have H := Lib.hid h
  have HR := Lib.hid hr
  have HPS := Lib.hid hps
  cases hS : srcF Bs Ks z with
  | none =>
    have HW := Lib.hid (vsee_not h hs hr z hz (by unfold seeF; exact hS))
    clear h hr hps hz hs hS
    go_enter Try.func24, Try.ntmps24
    go_wp2_with (first
      | (go_at_call 22; refine HW.out.mono ?_; rintro e w5 ⟨he, h1, h2⟩; unfold runE at he; subst he))
    refine ⟨rfl, .inr ⟨rfl, 0, fun _ => none, z, ?_, h1.out, ?_, rfl, by trivial⟩⟩
    · refine H.out.keepN h2.out (fun hx => ?_) (fun hx => ?_) (fun j hj cs fr => by rw [List.mem_singleton] at hj; subst hj; exact row_noB HR.out (by decide) _ _)
      · exact H.out.row.ne_ HR.out (by decide) (List.mem_singleton.1 hx)
      · rw [List.mem_singleton] at hx
        exact H.out.map.no_cells _ _ _ (hx ▸ HR.out.heap)
    · exact h2.out.wider (fun x hx => .inl (by simp at hx; simp [hx]))
  | some x =>
    have HW := Lib.hid (vsee h hs z hz x (by unfold seeF; exact hS))
    clear h hr hps hz hs hS
    go_enter Try.func24, Try.ntmps24
    go_wp2_with (first
      | (go_at_call 22; refine HW.out.mono ?_; rintro e w4 ⟨y, rfl, hy, ho4, hb4⟩
         have HPS4 := Lib.hid (HPS.out.kept hb4.out)
         have c4 : w4.cell? ⟨ps, 0, none⟩ = some x0 := (HPS4.out.cell 0).trans rfl
         have f4 := HPS4.out.free 0))
    go_end0
    have hc : Chg [ps] w4 (w4.setCell ⟨ps, 0, none⟩ (.slice y.A y.l.length y.c)) := (Chg.refl [ps] w4).setCell (p := ⟨ps, 0, none⟩) (.inl (by simp)) _
    have hN : NoBytes w4 [ps] := fun j hj cs fr => by rw [List.mem_singleton] at hj; subst hj; exact row_noB HPS4.out (by decide) _ _
    have hpm : ps ≠ gm := fun e => H.out.map.no_cells _ _ _ (e ▸ HPS.out.heap)
    have hpg : ps ≠ gv := HPS.out.ne_ H.out.row (by decide)
    have hpr : ps ≠ r := HPS.out.ne_ HR.out (by decide)
    refine .inl ⟨rfl, 0, fun _ => none, (H.out.below hb4.out).keepN hc (by simp; exact hpg.symm) (by simp; exact hpm.symm) hN, by omega, (HR.out.kept hb4.out).far (p := ⟨ps, 0, none⟩) hpr.symm _, ?_, x, y, rfl, hy.out, ?_, ho4.out.chg hc hN, rfl⟩
    · exact (Chg.of (F := [gm, ps]) hb4.out).trans hc (fun x hx => .inl (by simp at hx; simp [hx]))
    · exact ((HPS4.out.put 0 _).cell 0).trans rfl
end
theorem zero_bytes (w : World) : (zeroValue 44).run Try.prog w = .ok (.slice none 0 0) w := by kernel_rfl
theorem bl_nil {qs : List (Int × BV)} (h : ChOf (byL fun _ => none) (chL qs)) : qs.length = 0 := ch_len0 h
set_option maxHeartbeats 2000000 in
theorem freshW {W : World} {AB : Option Addr} {nB cB : Nat} {AK : Option Addr} {nK cK : Nat} {Bs : List BV} {Ks : List Bool} {A : Option Addr} {c : Nat} {ds : List DV} {z : Int} (hz : I64 z) (hm : ∀ (w1 : World) (gs : Nat), Row w1 gs 25 [.slice AB nB cB, .slice AK nK cK] → Below W.heap.size W w1 → SrcR w1 gs Bs Ks) (hd : ScR W A ds) :
    Calls Try.prog 6 #[.agg #[.slice AB nB cB, .slice AK nK cK], .slice A ds.length c, .int .i64 z] W fun e w' => e = .returned (.bool true) ∧ Below W.heap.size W w' := by
  have hmf : ∀ (fn : Fn) (first cap : Array Value) (w : World), (Instr.makeFunc fn first cap).run Try.prog w = .ok (.func fn first cap) w := fun _ _ _ _ => rfl
  have HM := Lib.hid hm
  have HD := Lib.hid hd
  have HZ := Lib.hid hz
  clear hm hd hz
  go_enter Try.func6, Try.ntmps6
  go_wp2_with (first
    | (refine step_box rfl 3 rfl 25 _ rfl [.slice AB nB cB, .slice AK nK cK] rfl ?_; intro gs w1 hr1 hg1 hb1 hs1
       have HS1 := Lib.hid (HM.out w1 gs hr1 hb1); have HB1 := Lib.hid hb1; clear hr1 hg1 hb1 hs1)
    | (refine step_box1 rfl 26 _ rfl (.slice A ds.length c) rfl rfl ?_; intro pd w2 hr2 hg2 hb2
       have R2 := Lib.hid hr2; have HB2 := Lib.hid (below_nxt hb2 HB1.out); have HS2 := Lib.hid (HS1.out.below hb2); clear hr2 hg2 hb2)
    | (refine step_box1 rfl 3 _ rfl (.int .i64 z) rfl rfl ?_; intro pi w3 hr3 hg3 hb3
       have R3 := Lib.hid hr3; have R23 := Lib.hid (R2.out.kept hb3); have HB3 := Lib.hid (below_nxt hb3 HB2.out); have HS3 := Lib.hid (HS2.out.below hb3); clear hr3 hg3 hb3)
    | (go_at_call 7; refine (awake_any _).mono ?_; rintro e w4 ⟨rfl, hb4⟩
       have HB4 := Lib.hid (below_nxt hb4 HB3.out); have HS4 := Lib.hid (HS3.out.below hb4); have R34 := Lib.hid (R3.out.kept hb4); have R24 := Lib.hid (R23.out.kept hb4)
       have c2 : w4.cell? ⟨pd, 0, none⟩ = some (.slice A ds.length c) := (R24.out.cell 0).trans rfl
       clear hb4))
  refine (may_any HS4.out (HD.out.below HB4.out)).mono ?_
  rintro e w5 ⟨rm, rfl, hok, hb5⟩
  have HB5 := Lib.hid (below_nxt hb5.out HB4.out)
  have HS5 := Lib.hid (HS4.out.below hb5.out)
  have R25 := Lib.hid (R24.out.kept hb5.out)
  have R35 := Lib.hid (R34.out.kept hb5.out)
  clear c2
  cases rm with
  | false =>
    go_wp2
    go_ret
    exact ⟨rfl, HB5.out⟩
  | true =>
    have HSO := Lib.hid (HS5.out.ok (hok.out rfl))
    have HDO := Lib.hid ((HD.out.below HB5.out).ok (hok.out rfl))
    go_wp2_with (first
      | (go_at_call 9; refine (vnew gs _).mono ?_; rintro e w6 ⟨gv, gm, rfl, hv6, hb6⟩)
      | (refine step_new rfl 30 rfl (.pointer none) zero_vptr rfl ?_; intro pv w7 hr7 hg7 hb7
         have R7 := Lib.hid hr7; have HB7 := Lib.hid hb7; have HG7 := hg7
         have c7 : w7.cell? ⟨pv, 0, none⟩ = some (.pointer none) := (hr7.cell 0).trans rfl
         have f7 := hr7.free 0
         clear hr7 hb7 hg7))
    have HCF1 := Lib.hid (p := ∀ w, (callFunc 23 #[.pointer (some ⟨pv, 0, none⟩), .pointer (some ⟨pd, 0, none⟩)]).run Try.prog w = .ok (.enter 23 #[.pointer (some ⟨pv, 0, none⟩), .pointer (some ⟨pd, 0, none⟩)]) w) (fun w => by simp [go_sem])
    have lpv : w6.heap.size ≤ pv := Nat.le_of_eq HG7.out.symm
    have hc8 : Chg [pv] w7 (w7.setCell ⟨pv, 0, none⟩ (.pointer (some ⟨gv, 0, none⟩))) := (Chg.refl [pv] w7).setCell (p := ⟨pv, 0, none⟩) (.inl (by simp)) _
    have hc68 : Chg [pv] w6 (w7.setCell ⟨pv, 0, none⟩ (.pointer (some ⟨gv, 0, none⟩))) := (Chg.of HB7.out).trans hc8 (fun x hx => .inl hx)
    have HV8 := Lib.hid (hv6.out.below' hc68 (fun x hx => by rw [List.mem_singleton] at hx; omega))
    have HB8 := Lib.hid (p := Below w5.heap.size w5 (w7.setCell ⟨pv, 0, none⟩ (.pointer (some ⟨gv, 0, none⟩)))) (hb6.out.trans (hc68.below hb6.out.size (fun x hx => by rw [List.mem_singleton] at hx; have := hb6.out.size; omega)))
    have cp8 : (w7.setCell ⟨pv, 0, none⟩ (.pointer (some ⟨gv, 0, none⟩))).cell? ⟨pv, 0, none⟩ = some (.pointer (some ⟨gv, 0, none⟩)) := ((R7.out.put 0 _).cell 0).trans rfl
    have npg : gv < pv ∧ gm < pv := ⟨by have := hv6.out.row.lt; omega, by have := hv6.out.map.lt; omega⟩
    have nlo := hv6.out.lo
    have lpd := R25.out.lt
    have lpi := R35.out.lt
    clear c7 f7 hc8 hc68
    generalize w7.setCell ⟨pv, 0, none⟩ (.pointer (some ⟨gv, 0, none⟩)) = W8 at HV8 HB8 cp8 ⊢
    have cd8 : W8.cell? ⟨pd, 0, none⟩ = some (.slice A ds.length c) := (HB8.out.cell (p := ⟨pd, 0, none⟩) lpd).trans ((R25.out.cell 0).trans rfl)
    have ci8 : W8.cell? ⟨pi, 0, none⟩ = some (.int .i64 z) := (HB8.out.cell (p := ⟨pi, 0, none⟩) lpi).trans ((R35.out.cell 0).trans rfl)
    have hG8 : ∀ x ∈ [gm], x ≠ gv ∧ x < W8.heap.size := fun x hx => by rw [List.mem_singleton] at hx; subst hx; exact ⟨HV8.out.ne.symm, HV8.out.map.lt⟩
    have hbs : ∀ x ∈ [gv, gm], w5.heap.size ≤ x := fun x hx => by simp at hx; rcases hx with rfl | rfl <;> omega
    refine (vrun 23 #[.pointer (some ⟨pv, 0, none⟩), .pointer (some ⟨pd, 0, none⟩)] [gm] _ _ HV8.out hG8 HCF1.out (fun r w1 hv hr hc hrb => fresh1 (c := c) hv (by have := HB8.out.size; have := hc.size; omega) (by have := HB8.out.size; omega) hr (hc.cell cp8 (by simp; omega)) (hc.cell cd8 (by simp; omega)) (HSO.out.keep (HB8.out.trans (hc.below HB8.out.size hbs))) (HDO.out.keep (HB8.out.trans (hc.below HB8.out.size hbs))))).mono ?_
    intro e w9 h9
    obtain ⟨a9, k9, n9, C9, rfl, hv9, hn9, hc9⟩ := h9.any
    have hbs3 : ∀ x ∈ [gv, gm, gm], w5.heap.size ≤ x := fun x hx => by simp at hx; rcases hx with rfl | rfl <;> omega
    have cp9 : w9.cell? ⟨pv, 0, none⟩ = some (.pointer (some ⟨gv, 0, none⟩)) := hc9.out.cell cp8 (by simp; omega)
    have ci9 : w9.cell? ⟨pi, 0, none⟩ = some (.int .i64 z) := hc9.out.cell ci8 (by simp; omega)
    have HB9 := Lib.hid (p := Below w5.heap.size w5 w9) (HB8.out.trans (hc9.out.below HB8.out.size hbs3))
    clear cp8 cd8 ci8
    go_wp2_with (first
      | (refine step_new rfl 44 rfl (.slice none 0 0) zero_bytes rfl ?_; intro ps w10 hr10 hg10 hb10
         have R10 := Lib.hid hr10; have HB10 := Lib.hid (HB9.out.trans (hb10.mono HB9.out.size)); have HG10 := hg10; have HV10 := Lib.hid (hv9.out.below hb10)
         have cp10 : w10.cell? ⟨pv, 0, none⟩ = some (.pointer (some ⟨gv, 0, none⟩)) := (hb10.cell (p := ⟨pv, 0, none⟩) (World.block_lt_of_cell? w9 _ cp9)).trans cp9
         have ci10 : w10.cell? ⟨pi, 0, none⟩ = some (.int .i64 z) := (hb10.cell (p := ⟨pi, 0, none⟩) (World.block_lt_of_cell? w9 _ ci9)).trans ci9
         have lpv9 : pv < w9.heap.size := World.block_lt_of_cell? w9 _ cp9
         clear hr10 hg10 hb10 cp9 ci9))
    have HCF2 := Lib.hid (p := ∀ w, (callFunc 24 #[.pointer (some ⟨pv, 0, none⟩), .pointer (some ⟨pi, 0, none⟩), .pointer (some ⟨ps, 0, none⟩)]).run Try.prog w = .ok (.enter 24 #[.pointer (some ⟨pv, 0, none⟩), .pointer (some ⟨pi, 0, none⟩), .pointer (some ⟨ps, 0, none⟩)]) w) (fun w => by simp [go_sem])
    have hpm : ps ≠ gm := fun e => HV10.out.map.no_cells _ _ _ (e ▸ R10.out.heap)
    have hpg : ps ≠ gv := R10.out.ne_ HV10.out.row (by decide)
    have hpv : pv ≠ ps := by have := HG10.out; omega
    have hpi : pi ≠ ps := by have := HG10.out; have := HB9.out.size; omega
    have lps := R10.out.lt
    have lgv := HV10.out.row.lt
    have hG10 : ∀ x ∈ [gm, ps], x ≠ gv ∧ x < w10.heap.size := fun x hx => by
      simp at hx
      rcases hx with rfl | rfl
      · exact ⟨HV10.out.ne.symm, HV10.out.map.lt⟩
      · exact ⟨hpg, lps⟩
    have hbs4 : ∀ x ∈ [gv, gm, gm, ps], w5.heap.size ≤ x := fun x hx => by
      have h1 := HG10.out
      have h2 := HB9.out.size
      simp at hx
      rcases hx with rfl | rfl | rfl <;> omega
    refine (vrun 24 #[.pointer (some ⟨pv, 0, none⟩), .pointer (some ⟨pi, 0, none⟩), .pointer (some ⟨ps, 0, none⟩)] [gm, ps] _ _ HV10.out hG10 HCF2.out (fun r w1 hv hr hc hrb => fresh2 (z := z) (x0 := .slice none 0 0) hv hr (hc.cell cp10 (by simp; omega)) (hc.cell ci10 (by simp; omega)) (hc.row R10.out (by simp; exact ⟨hpg, hpm⟩)) HZ.out (HSO.out.keep (HB10.out.trans (hc.below HB10.out.size hbs))))).mono ?_
    intro e w11 h11
    rcases h11 with ⟨rfl, n', C', w1, w2, F, hv11, hn11, ⟨x, y, hS, hyl, cps, hy8, hC'⟩, hF, hFF, hsz, hc11⟩ | ⟨a, w2, rfl, hv11, ⟨ha, hS⟩, hc11⟩
    · have hb11 : Below w5.heap.size w5 w11 := HB10.out.trans (hc11.below HB10.out.size hbs4)
      have HB11 := Lib.hid hb11
      have HG := Lib.hid (get_any (HSO.out.keep hb11) z)
      rw [hS] at HG
      have cps11 : w11.cell? ⟨ps, 0, none⟩ = some (.slice y.A y.l.length y.c) := hF.cell cps (fun hx => by rcases hFF ps hx with h | h; exact hpg h; omega)
      have cp11 : w11.cell? ⟨pv, 0, none⟩ = some (.pointer (some ⟨gv, 0, none⟩)) := hc11.cell cp10 (by simp; omega)
      have ci11 : w11.cell? ⟨pi, 0, none⟩ = some (.int .i64 z) := hc11.cell ci10 (by simp; omega)
      have hy11 : Own8 w1.heap.size w11 y := Chg.own hy8 hF (fun k hk hf => by
        have := (hy8.lt k hk).1
        rcases hFF k hf with h | h <;> omega)
      have hxm := src_mem hS
      have HBY := Lib.hid (bytes_same y x w11 hy11.hol ((HSO.out.keep hb11).hol x hxm).1 hyl (by rw [hyl]; exact HSO.out.len x hxm))
      rw [hC'] at hv11
      have HV11 := Lib.hid hv11
      have HN11 := Lib.hid hn11
      have hbx : bvo (some x) = .slice x.A x.l.length x.c := rfl
      rw [hbx] at HG
      clear hb11 hv11 hn11 hF hFF hsz hc11 cps hy8 hC' hS hyl hy11 hxm hbx
      go_wp2_with (first
        | (go_at_call 10; refine HG.out.mono ?_; rintro e w12 ⟨rfl, hw12⟩; subst hw12)
        | (go_at_call 21; refine HBY.out.mono ?_; rintro e w13 ⟨rfl, hb13⟩
           have cp13 : w13.cell? ⟨pv, 0, none⟩ = some (.pointer (some ⟨gv, 0, none⟩)) := (hb13.cell (p := ⟨pv, 0, none⟩) (World.block_lt_of_cell? w11 _ cp11)).trans cp11
           have HV13 := Lib.hid (HV11.out.below hb13)
           have HB13 := Lib.hid (HB11.out.trans (hb13.mono HB11.out.size))
           clear hb13 cp11 cps11)
        | (go_at_call 16; refine (vchanges HV13.out HN11.out).mono ?_; rintro e w14 ⟨qs, A14, c14, rfl, hco, hpa, hb14⟩
           have hl := ch_len0 hco.out
           rw [hl]
           have HB14 := Lib.hid (HB13.out.trans (hb14.out.mono HB13.out.size))
           clear hl))
      go_ret
      exact ⟨rfl, below_nxt HB14.out HB5.out⟩
    · have hb11 : Below w5.heap.size w5 w11 := HB10.out.trans (hc11.below HB10.out.size hbs4)
      have HB11 := Lib.hid hb11
      have HG := Lib.hid (get_any (HSO.out.keep hb11) z)
      rw [hS] at HG
      have cp11 : w11.cell? ⟨pv, 0, none⟩ = some (.pointer (some ⟨gv, 0, none⟩)) := hc11.cell cp10 (by simp; omega)
      have ci11 : w11.cell? ⟨pi, 0, none⟩ = some (.int .i64 z) := hc11.cell ci10 (by simp; omega)
      have HV11 := Lib.hid hv11
      have hbx : bvo (none : Option BV) = .slice none 0 0 := rfl
      rw [hbx] at HG
      clear hb11 hv11 hc11 hS hbx
      go_wp2_with (first
        | (go_at_call 10; refine HG.out.mono ?_; rintro e w12 ⟨rfl, hw12⟩; subst hw12)
        | (go_at_call 16; refine (vchanges HV11.out (by omega)).mono ?_; rintro e w14 ⟨qs, A14, c14, rfl, hco, hpa, hb14⟩
           have hl := ch_len0 hco.out
           rw [hl]
           have HB14 := Lib.hid (HB11.out.trans (hb14.out.mono HB11.out.size))
           clear hl))
      go_ret
      exact ⟨rfl, below_nxt HB14.out HB5.out⟩
end Go.Proofs.Ytpobppoaidngeaa
