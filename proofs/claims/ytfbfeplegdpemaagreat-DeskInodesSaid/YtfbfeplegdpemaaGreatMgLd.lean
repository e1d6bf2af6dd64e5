/- An inode less: Drop. Conditions: the desk lies there, the inode's block is an inode's, or none, its slots are slots. -/
import Derived.Test.YtfbfeplegdpemaaGreatMgFb
import Derived.Test.YtfbfeplegdpemaaGreatDf
import Derived.Test.YtfbfeplegdpemaaGreatMgGu
set_option linter.unusedVariables false
set_option maxRecDepth 20000
namespace Go.Proofs.YtfbfeplegdpemaaGreat
open Go.RowKit

section
variable {P : Program} {ops : Array Oper} {o : Oper} {a : Act} {w : World} {Q : Exit → Act → World → Prop} {K : Act → World → Prop} {E : Prop}
theorem st_box (hw : Region.wanted o (yielded ops a.tmps) = true) (t : TypeId) (x : Operand) (ho : o.op = .box t x) (cs : List Value) (hx : a.eval x = .agg cs.toArray)
    (h : ∀ g w', Row w' g t cs → Hid (g = w.heap.size) → Below w.heap.size w w' → K (a.put o.dst (.pointer (some ⟨g, 0, none⟩))) w') : if Region.wanted o (yielded ops a.tmps) = true then Oper.wp P o a w K Q else E := by
  rw [if_pos hw]
  unfold Oper.wp execOp
  simp only [ho, hx]
  simp [Instr.box, newVar, go_sem]
  exact h _ _ (Row.made w t cs) (show _ = _ from rfl) ((Below.refl _ _).alloc (Nat.le_refl _) _)
end
theorem built_plan0 : Tryz.prog.built 101 [] = some (sup0.cs ++ ptl ino0 0).toArray := by
  obtain ⟨it, hi, z, hz, hc⟩ := zero_plan
  have hu : Tryz.prog.underlying 101 = some (.struct (Tryz.prog.fieldsOf 101)) := by kernel_rfl
  unfold Program.built
  rw [hi, hu]
  simp only [hz, places_plan, hc]
  simp [Instr.fill]
section
variable {b : Nat} {w w' : World} {gd gv gm gs r : Nat} {Bs : List BV} {N n : Nat} {X X' X1 : DX}
set_option maxHeartbeats 4000000 in
theorem ddrop (k z : Nat) (v W0 : Nat → Int) (hk : 1 ≤ k ∧ k ≤ 64) (h : DK b w gd gv gm gs r Bs N n X) (hL : LdR Bs X X') (hz : X'.S.i k = (z : Int)) (hz0 : 0 < z ∧ z < 256) (l : L8) (hl : seeX X' Bs z = some l) (hlen : l.length ≤ 1000) (er : Int) (hU : iV (norm l) = .tuple #[.agg (ncs v).toArray, .int .i64 er])
    (hrow : RowOk b gd gv gm gs r Bs N X' v 128 W0) (hW : ∀ j, j < 128 → 0 ≤ W0 j ∧ W0 j ≤ 255) (hv : 0 ≤ v 26 ∧ v 26 ≤ 255) (n1 : Nat) (hn1 : n + gvs W0 ino0 128 + gvL (v 26) 0 = n1) (hn : n1 + 1 ≤ 1000) (hX1 : ((X'.gives W0 ino0 128).giveL (v 26) 0).give z = X1) (hi : X1.S.i k ≠ 0) :
    Calls Tryz.prog 23 #[.pointer (some ⟨gd, 0, none⟩), .int .i64 (k : Int)] w (DPut b w gd gv gm gs r Bs N (n1 + 1) (X1.setS (X1.S.less k))) := by
  have HBG := Lib.hid (hbegin h (by omega))
  have HLT := Lib.hid (p := gd < w.heap.size ∧ gm < w.heap.size) ⟨h.lt, by obtain ⟨C, h2, _⟩ := h.view; exact h2.map.lt⟩
  have HLO := Lib.hid h.lo
  have HL := Lib.hid hL
  have HKK := Lib.hid hk
  have i0 := Lib.hid (fun x : Sup => info_cs x)
  have i1 := Lib.hid (fun v => info_ncs v)
  have hzi := Lib.hid zero_ino
  have HZ := Lib.hid hz
  have HZ0 := Lib.hid hz0
  have HSEE := Lib.hid (p := I64 (z : Int) ∧ seeX X' Bs z = some l ∧ l.length ≤ 1000) ⟨by unfold I64; omega, hl, hlen⟩
  have HU := Lib.hid hU
  have hzz : ((z : Int) == 0) = false := beq_false_of_ne (by omega)
  have HROW := Lib.hid (p := ∀ (w : World) (n : Nat), DK b w gd gv gm gs r Bs N n X' → Calls Tryz.prog 46 #[.pointer (some ⟨gd, 0, none⟩), .agg (ncs v).toArray, .int .i64 128] w (DOne b w gd gv gm gs r Bs N n X' (.agg (inl 128 W0).toArray))) hrow
  have HREL := Lib.hid (p := ∀ (w : World) (gp : Nat), DK b w gd gv gm gs r Bs N n X' → Row w gp 101 (sup0.cs ++ ptl ino0 0) → b ≤ gp → Calls Tryz.prog 55 #[.pointer (some ⟨gd, 0, none⟩), .agg (ncs v).toArray, .agg (inl 128 W0).toArray, .pointer (some ⟨gp, 0, none⟩)] w (DPut b w gd gv gm gs r Bs N n1 ((X'.gives W0 ino0 128).giveL (v 26) 0))) (fun w gp h1 h2 h3 => by rw [← hn1]; exact drelease v W0 ino0 0 sup0 gp h1 h2 h3 hW hv (by omega))
  obtain ⟨Xr, hXr⟩ : ∃ Xr, (X'.gives W0 ino0 128).giveL (v 26) 0 = Xr := ⟨_, rfl⟩
  rw [hXr] at HREL hX1
  have HX1 := Lib.hid hX1
  have HN := Lib.hid (p := n1 ≤ 1000) (by omega)
  have HREM := Lib.hid (p := ∀ w, Calls Tryz.prog 58 #[.agg X1.S.cs.toArray, .int .i64 (k : Int)] w fun e w' => e = .returned (.agg (X1.S.less k).cs.toArray) ∧ Below w.heap.size w w') (fun w => remove_ok X1.S k hk hi w)
  clear h hL hn hk hz hl hlen hU hz0 hrow hW hv hn1 hX1 hi hXr
  go_enter Tryz.func23, Tryz.ntmps23
  go_wp2_with (first
    | (go_at_call 36; refine (HBG.out _ (Below.refl _ _)).mono ?_; rintro e w4 ⟨rfl, hk, hc⟩
       have HK4 := hk
       have HC4 := Lib.hid (p := Chg [gd] w w4) hc.out
       clear hk hc)
    | (go_at_call 41; refine (dslot k HKK.out HK4.out HL.out).mono ?_; rintro e w5 ⟨rfl, hk, hc⟩
       have HK5 := hk
       have HC5 := Lib.hid (p := Chg [gd] w w5) (chg_same HC4.out hc.out)
       rw [HZ.out]
       clear hk hc)
    | (go_at_call 43; refine (dsee HK5.out (z : Int) HSEE.out.1 l HSEE.out.2.1 HSEE.out.2.2).mono ?_; rintro e w6 ⟨y, rfl, hy, ho, hk, hc⟩
       have HK6 := hk
       have HC6 := Lib.hid (p := Chg [gd] w w6) (chg_same HC5.out hc.out)
       have HY := hy
       have HO := ho
       clear hy ho hk hc)
    | (go_at_call 42; refine (unpack_any y.A _ y.c y.l rfl (by rw [HY.out]; have := norm_len HSEE.out.2.2; omega) _ HO.out.hol).mono ?_; rintro e w7 ⟨rfl, hb⟩
       rw [HY.out, HU.out]
       have HK7 := Lib.hid (HK6.out.below hb)
       have HC7 := Lib.hid (chg_nxt HC6.out hb)
       clear hb)
    | (refine step_alloc rfl 5 rfl 44 rfl _ hzi.out ?_; intro g5 w8 hr8 hg8 hb8 hs8
       have HR58 := Lib.hid hr8
       have HK8 := Lib.hid (HK7.out.below hb8)
       have HC8 := Lib.hid (chg_nxt HC7.out hb8)
       have HG5 := Lib.hid (p := w.heap.size ≤ g5) (by rw [hg8.out]; exact HC7.out.size)
       clear hr8 hg8 hb8 hs8)
    | (refine step_store rfl 44 (.tmp 5) (.tmp 19) rfl g5 rfl _ _ (ncs v) rfl HR58.out rfl (i1.out _) (ncs_one _) ?_; intro w9 hr9 hg9 hs9
       have HR59 := Lib.hid (p := Row w9.drew g5 44 (ncs v)) hr9.drew
       have HK9 := Lib.hid ((HK8.out.other HR58.out (by decide) (by have := HLO.out; have := HG5.out; omega) (Chg.one hg9)).below (below_drw w9))
       have HC9 := Lib.hid (p := Chg [gd] w w9.drew) (chg_nxt (chg_own HC8.out HG5.out (Chg.one hg9)) (below_drw w9))
       clear hr9 hg9 hs9))
  refine wp_region_held_drew (S := fun W => Row W g5 44 (ncs v)) (by kernel_rfl) HR59.out (fun hHeld => ?_)
  refine wpAnyH_take (i := 0) (oi := ⟨some 21, .move (.tmp 0), _, _, _, _⟩) (v := .pointer (some ⟨gd, 0, none⟩)) rfl (by kernel_rfl) (by kernel_rfl) (by kernel_rfl) (fun _ _ _ h => h) (.inl ⟨by rfl, fun w hSw => by go_simp⟩) (by assumption) ?_
  simp only [Act.put, List.setIfInBounds_toArray, List.set_cons_zero, List.set_cons_succ]
  refine wpAnyH_take (i := 1) (oi := ⟨some 22, .load 44 (.tmp 5), _, _, _, _⟩) (v := .agg (ncs v).toArray) rfl (by kernel_rfl) (by kernel_rfl) (by kernel_rfl) (fun _ _ _ h => h) (yieldsIf_load_mid (by rfl) 44 (.tmp 5) rfl g5 0 rfl (ncs v) _ (fun w hSw => hSw.all) Tryz.underlying44 rfl (i1.out _)) (by assumption) ?_
  simp only [Act.put, List.setIfInBounds_toArray, List.set_cons_zero, List.set_cons_succ]
  refine wpAnyH_take (i := 2) (oi := ⟨some 23, .move (.tmp 0), _, _, _, _⟩) (v := .pointer (some ⟨gd, 0, none⟩)) rfl (by kernel_rfl) (by kernel_rfl) (by kernel_rfl) (fun _ _ _ h => h) (.inl ⟨by rfl, fun w hSw => by go_simp⟩) (by assumption) ?_
  simp only [Act.put, List.setIfInBounds_toArray, List.set_cons_zero, List.set_cons_succ]
  refine wpAnyH_take (i := 3) (oi := ⟨some 24, .load 44 (.tmp 5), _, _, _, _⟩) (v := .agg (ncs v).toArray) rfl (by kernel_rfl) (by kernel_rfl) (by kernel_rfl) (fun _ _ _ h => h) (yieldsIf_load_mid (by rfl) 44 (.tmp 5) rfl g5 0 rfl (ncs v) _ (fun w hSw => hSw.all) Tryz.underlying44 rfl (i1.out _)) (by assumption) ?_
  simp only [Act.put, List.setIfInBounds_toArray, List.set_cons_zero, List.set_cons_succ]
  refine wpAnyH_take (i := 5) (oi := ⟨some 26, .build 101 #[], _, _, _, _⟩) (v := .agg (sup0.cs ++ ptl ino0 0).toArray) rfl (by kernel_rfl) (by kernel_rfl) (by kernel_rfl) (fun _ _ _ h => h) (.inl ⟨by rfl, fun w hSw => run_build_op w _ 101 _ rfl [] (by simp [Act.eval, Act.put]) _ built_plan0⟩) (by assumption) ?_
  simp only [Act.put, List.setIfInBounds_toArray, List.set_cons_zero, List.set_cons_succ]
  refine wpAnyH_ready (rs := [4, 6]) (by kernel_rfl) (by simp) ?_
  refine AllReadyH.cons (o := ⟨some 25, .call ⟨.value (.func 46), #[.tmp 23, .tmp 24, .const (.int .i64 128)], _⟩, _, _, _, _⟩) rfl (fun K hK => ?_) (AllReadyH.cons (o := ⟨some 27, .box 101 (.tmp 26), _, _, _, _⟩) rfl (fun K hK => ?_) AllReadyH.nil)
  · skip
    go_simp
    go_at_call 46
    refine (HROW.out _ _ HK9.out).mono ?_
    rintro e w10 ⟨rfl, hk, hc⟩
    have HKw10 := hk
    have HCw10 := Lib.hid (p := Chg [gd] w w10) (chg_same HC9.out hc.out)
    have HRw10 := Lib.hid (hc.out.row HR59.out (by have h1 := HLT.out; have h2 := HG5.out; simp; omega))
    clear hk hc
    refine hK.out _ _ HRw10.out (fun _hH => ?_)
    clear hK K
    refine wpAnyH_ready (rs := [6]) (by kernel_rfl) (by simp) ?_
    refine AllReadyH.cons (o := ⟨some 27, .box 101 (.tmp 26), _, _, _, _⟩) rfl (fun K hK => ?_) AllReadyH.nil
    refine st_box (by rfl) 101 (.tmp 26) rfl (sup0.cs ++ ptl ino0 0) rfl ?_
    intro gp w11 hr6 hg6 hb
    have HPw11 := Lib.hid hr6
    have HKw11 := Lib.hid (HKw10.out.below hb)
    have HCw11 := Lib.hid (chg_nxt HCw10.out hb)
    have HRw11 := Lib.hid (HRw10.out.kept hb)
    have HGP := Lib.hid (p := w.heap.size ≤ gp) (by rw [hg6.out]; exact HCw10.out.size)
    clear hr6 hg6 hb
    refine hK.out _ _ HRw11.out (fun _hH => ?_)
    clear hK K
    refine wpAnyH_ready (rs := [7]) (by kernel_rfl) (by simp) ?_
    refine AllReadyH.cons (o := ⟨some 28, .call ⟨.value (.func 55), #[.tmp 21, .tmp 22, .tmp 25, .tmp 27], _⟩, _, _, _, _⟩) rfl (fun K hK => ?_) AllReadyH.nil
    go_simp
    go_at_call 55
    refine (HREL.out _ gp HKw11.out HPw11.out (by have := HLO.out; have := HGP.out; omega)).mono ?_
    rintro e w12 ⟨rfl, hk, hc⟩
    have HK12 := hk
    have HC12 := Lib.hid (p := Chg [gd, gm] w w12) ((HCw11.out.wider (fun x hx => .inl (by simp at hx ⊢; exact .inl hx))).trans hc.out (fun x hx => .inl hx))
    have HR12 := Lib.hid (hc.out.row HRw11.out (by have h1 := HLT.out; have h2 := HG5.out; simp; omega))
    clear hk hc
    refine hK.out _ _ HR12.out (fun _hH => ?_)
    clear hK K
    refine wpAnyH_done (by kernel_rfl) ?_ _
    go_wp2_with (first
      | (go_at_call 57; refine (dgive_yes z HK12.out HZ0.out HN.out).mono ?_; rintro e w13 ⟨rfl, hk, hc⟩
         rw [HX1.out] at hk
         have HK13 := hk
         have HC13 := Lib.hid (p := Chg [gd, gm] w w13) (chg_same HC12.out hc.out)
         obtain ⟨tl, ah, la, e1, e2, e3, hd⟩ := hk.out.parts
         have HD := Lib.hid hd
         have HE := Lib.hid (p := ah.length = 775 ∧ (∀ v ∈ ah, v.oneCell' = true) ∧ tl = ah ++ dtl false la) ⟨e1, e2, e3⟩
         clear hk hc e1 e2 e3 hd)
      | (refine step_load_at rfl 59 (.tmp 36) rfl gd 3 (by rfl) 88 (dhd gv N ++ [Value.bool X1.rd]) X1.S.cs (X1.S0.cs ++ tl) _ HD.out rfl Tryz.underlying59 rfl (i0.out _) ?_)
      | (go_at_call 58; refine (HREM.out _).mono ?_; rintro e w14 ⟨rfl, hb⟩
         have HD14 := Lib.hid (HD.out.kept hb)
         have HK14 := Lib.hid (HK13.out.below hb)
         have HC14 := Lib.hid (chg_nxt HC13.out hb)
         clear hb)
      | (refine step_store_at rfl 59 (.tmp 42) (.tmp 39) rfl gd 3 (by rfl) 88 (dhd gv N ++ [Value.bool X1.rd]) X1.S.cs (X1.S.less k).cs (X1.S0.cs ++ tl) (by rfl) HD14.out rfl (by simp [Sup.cs_len]) (i0.out _) (Sup.cs_one _) ?_
         intro w15 hr9 hg9
         have HK15 := Lib.hid (HK14.out.setS HE.out.1 HE.out.2.1 HE.out.2.2 hr9 (Chg.one hg9))
         have HC15 := Lib.hid (p := Chg [gd, gm] w w15) (HC14.out.trans (Chg.one hg9) (fun x hx => .inl (by simp at hx ⊢; exact .inl hx)))
         clear hr9 hg9))
    go_end0
    exact ⟨rfl, HK15, HC15⟩
  · skip
    refine st_box (by rfl) 101 (.tmp 26) rfl (sup0.cs ++ ptl ino0 0) rfl ?_
    intro gp w10 hr6 hg6 hb
    have HPw10 := Lib.hid hr6
    have HKw10 := Lib.hid (HK9.out.below hb)
    have HCw10 := Lib.hid (chg_nxt HC9.out hb)
    have HRw10 := Lib.hid (HR59.out.kept hb)
    have HGP := Lib.hid (p := w.heap.size ≤ gp) (by rw [hg6.out]; exact HC9.out.size)
    clear hr6 hg6 hb
    refine hK.out _ _ HRw10.out (fun _hH => ?_)
    clear hK K
    refine wpAnyH_ready (rs := [4]) (by kernel_rfl) (by simp) ?_
    refine AllReadyH.cons (o := ⟨some 25, .call ⟨.value (.func 46), #[.tmp 23, .tmp 24, .const (.int .i64 128)], _⟩, _, _, _, _⟩) rfl (fun K hK => ?_) AllReadyH.nil
    go_simp
    go_at_call 46
    refine (HROW.out _ _ HKw10.out).mono ?_
    rintro e w11 ⟨rfl, hk, hc⟩
    have HKw11 := hk
    have HCw11 := Lib.hid (p := Chg [gd] w w11) (chg_same HCw10.out hc.out)
    have HRw11 := Lib.hid (hc.out.row HRw10.out (by have h1 := HLT.out; have h2 := HG5.out; simp; omega))
    have HPw11 := Lib.hid (hc.out.row HPw10.out (by have h1 := HLT.out; have h2 := HGP.out; simp; omega))
    clear hk hc
    refine hK.out _ _ HRw11.out (fun _hH => ?_)
    clear hK K
    refine wpAnyH_ready (rs := [7]) (by kernel_rfl) (by simp) ?_
    refine AllReadyH.cons (o := ⟨some 28, .call ⟨.value (.func 55), #[.tmp 21, .tmp 22, .tmp 25, .tmp 27], _⟩, _, _, _, _⟩) rfl (fun K hK => ?_) AllReadyH.nil
    go_simp
    go_at_call 55
    refine (HREL.out _ gp HKw11.out HPw11.out (by have := HLO.out; have := HGP.out; omega)).mono ?_
    rintro e w12 ⟨rfl, hk, hc⟩
    have HK12 := hk
    have HC12 := Lib.hid (p := Chg [gd, gm] w w12) ((HCw11.out.wider (fun x hx => .inl (by simp at hx ⊢; exact .inl hx))).trans hc.out (fun x hx => .inl hx))
    have HR12 := Lib.hid (hc.out.row HRw11.out (by have h1 := HLT.out; have h2 := HG5.out; simp; omega))
    clear hk hc
    refine hK.out _ _ HR12.out (fun _hH => ?_)
    clear hK K
    refine wpAnyH_done (by kernel_rfl) ?_ _
    go_wp2_with (first
      | (go_at_call 57; refine (dgive_yes z HK12.out HZ0.out HN.out).mono ?_; rintro e w13 ⟨rfl, hk, hc⟩
         rw [HX1.out] at hk
         have HK13 := hk
         have HC13 := Lib.hid (p := Chg [gd, gm] w w13) (chg_same HC12.out hc.out)
         obtain ⟨tl, ah, la, e1, e2, e3, hd⟩ := hk.out.parts
         have HD := Lib.hid hd
         have HE := Lib.hid (p := ah.length = 775 ∧ (∀ v ∈ ah, v.oneCell' = true) ∧ tl = ah ++ dtl false la) ⟨e1, e2, e3⟩
         clear hk hc e1 e2 e3 hd)
      | (refine step_load_at rfl 59 (.tmp 36) rfl gd 3 (by rfl) 88 (dhd gv N ++ [Value.bool X1.rd]) X1.S.cs (X1.S0.cs ++ tl) _ HD.out rfl Tryz.underlying59 rfl (i0.out _) ?_)
      | (go_at_call 58; refine (HREM.out _).mono ?_; rintro e w14 ⟨rfl, hb⟩
         have HD14 := Lib.hid (HD.out.kept hb)
         have HK14 := Lib.hid (HK13.out.below hb)
         have HC14 := Lib.hid (chg_nxt HC13.out hb)
         clear hb)
      | (refine step_store_at rfl 59 (.tmp 42) (.tmp 39) rfl gd 3 (by rfl) 88 (dhd gv N ++ [Value.bool X1.rd]) X1.S.cs (X1.S.less k).cs (X1.S0.cs ++ tl) (by rfl) HD14.out rfl (by simp [Sup.cs_len]) (i0.out _) (Sup.cs_one _) ?_
         intro w15 hr9 hg9
         have HK15 := Lib.hid (HK14.out.setS HE.out.1 HE.out.2.1 HE.out.2.2 hr9 (Chg.one hg9))
         have HC15 := Lib.hid (p := Chg [gd, gm] w w15) (HC14.out.trans (Chg.one hg9) (fun x hx => .inl (by simp at hx ⊢; exact .inl hx)))
         clear hr9 hg9))
    go_end0
    exact ⟨rfl, HK15, HC15⟩
end
end Go.Proofs.YtfbfeplegdpemaaGreat
/- The reference's Count. No conditions. -/
set_option linter.unusedVariables false
set_option maxRecDepth 20000
namespace Go.Proofs.YtfbfeplegdpemaaGreat
open Go.RowKit

theorem cb_succ (f : Nat → Bool) (n : Nat) : cb f (n + 1) = cb f n + if f n then 1 else 0 := rfl
set_option maxHeartbeats 1000000 in
theorem rcount_any (x : Sup) (w : World) : Calls Tryz.prog 21 #[.agg x.cs.toArray] w fun e w' => e = .returned (.tuple #[.int .i64 (cb x.u 256 : Int), .int .i64 (cb x.has 64 : Int)]) ∧ Below w.heap.size w w' := by
  go_enter Tryz.func21, Tryz.ntmps21
  go_wp2_with (first
    | (refine step_box rfl 1 rfl 59 (.tmp 0) rfl x.cs rfl ?_; intro g1 w2 hr2 hg2 hb2 hs2
       have HR12 := Lib.hid hr2
       have HB2 := Lib.hid hb2
       clear hr2 hg2 hb2 hs2))
  go_loopw [4, 6] (fun a b wr => ∃ k : Nat, k ≤ 256 ∧ a = .int .i64 (cb x.u k : Int) ∧ b = .int .i64 (k : Int) ∧ wr = w2) (fun _ b _ => 256 - (intOf b).toNat)
  case atStart => exact ⟨0, by omega, rfl, rfl, rfl⟩
  case round =>
    obtain ⟨k, hk, rfl, rfl, rfl⟩ := hrel
    by_cases hk2 : k < 256
    · have hki : (k : Int) < 256 := by omega
      obtain ⟨z, hz⟩ : ∃ z, x.u k = z := ⟨_, rfl⟩
      have ck : wr.cell? ⟨g1, 1 + k, none⟩ = some (.bool z) := by rw [HR12.out.cell, x.c_u hk2, hz]
      have hkw : IntKind.i64.wrap ((k : Int) + 1) = (k : Int) + 1 := by rw [IntKind.wrap_i64]; omega
      have hle := cb_le x.u k
      obtain ⟨c, hc⟩ : ∃ c, cb x.u k = c := ⟨_, rfl⟩
      rw [hc] at hle ⊢
      have hcw : IntKind.i64.wrap ((c : Int) + 1) = (c : Int) + 1 := by rw [IntKind.wrap_i64]; omega
      cases z with
      | false =>
        have HN := Lib.hid (p := cb x.u (k + 1) = c) (by rw [cb_succ, hz, hc]; rfl)
        have HK := Lib.hid hk2
        clear hz hc hle hk hk2
        go_wp2
        go_roundw
        case rel => exact ⟨k + 1, HK.out, by rw [HN.out], by go_num, trivial⟩
        case measure => have := HK.out; simp [intOf]; omega
      | true =>
        have HN := Lib.hid (p := cb x.u (k + 1) = c + 1) (by rw [cb_succ, hz, hc]; rfl)
        have HK := Lib.hid hk2
        clear hz hc hle hk hk2
        go_wp2
        go_roundw
        case rel => exact ⟨k + 1, HK.out, by rw [HN.out]; go_num, by go_num, trivial⟩
        case measure => have := HK.out; simp [intOf]; omega
    · have e : k = 256 := by omega
      subst e
      obtain ⟨cu, hcu⟩ : ∃ cu, cb x.u 256 = cu := ⟨_, rfl⟩
      rw [hcu]
      have HCU := Lib.hid hcu
      clear hcu hk hk2
      go_wp2
      go_loopw [5, 7] (fun a b wq => ∃ k : Nat, k ≤ 64 ∧ a = .int .i64 (cb x.has k : Int) ∧ b = .int .i64 ((k : Int) + 1) ∧ wq = wr) (fun _ b _ => 65 - (intOf b).toNat)
      case atStart => exact ⟨0, by omega, rfl, rfl, rfl⟩
      case round =>
        obtain ⟨k, hk, rfl, rfl, rfl⟩ := hrel
        by_cases hk2 : k < 64
        · have hki : (k : Int) + 1 ≤ 64 := by omega
          obtain ⟨z, hz⟩ : ∃ z, x.i (k + 1) = z := ⟨_, rfl⟩
          obtain ⟨q, hq⟩ : ∃ q, k + 1 = q := ⟨_, rfl⟩
          have hqi : (k : Int) + 1 = (q : Int) := by omega
          have ck : wr.cell? ⟨g1, 257 + q, none⟩ = some (.int .i64 z) := by rw [← hq, HR12.out.cell, x.c_i (by omega), hz]
          have hq65 : (q : Int) < 65 := by omega
          have hq64 : (q : Int) ≤ 64 := by omega
          have hkw : IntKind.i64.wrap ((q : Int) + 1) = (q : Int) + 1 := by rw [IntKind.wrap_i64]; omega
          have hle := cb_le x.has k
          obtain ⟨c, hc⟩ : ∃ c, cb x.has k = c := ⟨_, rfl⟩
          rw [hc] at hle ⊢
          rw [hqi]
          have hcw : IntKind.i64.wrap ((c : Int) + 1) = (c : Int) + 1 := by rw [IntKind.wrap_i64]; omega
          by_cases h0 : z = 0
          · have hz0 : (z != 0) = false := by simp [h0]
            have HN := Lib.hid (p := cb x.has (k + 1) = c) (by
              have hh : x.has k = (z != 0) := by rw [← hz]; rfl
              rw [cb_succ, hh, hz0, hc]; rfl)
            have HK := Lib.hid (p := k < 64 ∧ k + 1 = q) ⟨hk2, hq⟩
            clear h0 hz hc hle hk hk2 hki hq hqi
            go_wp2
            go_roundw
            case rel => exact ⟨k + 1, HK.out.1, by rw [HN.out], by rw [HK.out.2], trivial⟩
            case measure => have := HK.out; simp [intOf]; omega
          · have hz0 : (z != 0) = true := by simpa using h0
            have HN := Lib.hid (p := cb x.has (k + 1) = c + 1) (by
              have hh : x.has k = (z != 0) := by rw [← hz]; rfl
              rw [cb_succ, hh, hz0, hc]; rfl)
            have HK := Lib.hid (p := k < 64 ∧ k + 1 = q) ⟨hk2, hq⟩
            clear h0 hz hc hle hk hk2 hki hq hqi
            go_wp2
            go_roundw
            case rel => exact ⟨k + 1, HK.out.1, by rw [HN.out]; go_num, by rw [HK.out.2], trivial⟩
            case measure => have := HK.out; simp [intOf]; omega
        · have e : k = 64 := by omega
          subst e
          obtain ⟨ci, hci⟩ : ∃ ci, cb x.has 64 = ci := ⟨_, rfl⟩
          rw [hci]
          have HCI := Lib.hid hci
          clear hci hk hk2
          go_wp2
          go_ret2
          refine ⟨?_, HB2.out⟩
          rw [HCU.out, HCI.out]
          rfl
end Go.Proofs.YtfbfeplegdpemaaGreat
/- Which inodes a desk has: made and dropped. Rows of names. Conditions: those named. -/
set_option linter.unusedVariables false
set_option maxRecDepth 20000
namespace Go.Proofs.YtfbfeplegdpemaaGreat
open Go.RowKit

/-! How many places hold. -/
theorem cb_all (f : Nat → Bool) : ∀ n, (∀ j, j < n → f j = true) → cb f n = n
  | 0, _ => rfl
  | n + 1, h => by rw [cb_succ, cb_all f n (fun j hj => h j (by omega)), h n (by omega)]; rfl
theorem cb_congr {f g : Nat → Bool} : ∀ n, (∀ j, j < n → f j = g j) → cb f n = cb g n
  | 0, _ => rfl
  | n + 1, h => by rw [cb_succ, cb_succ, cb_congr n (fun j hj => h j (by omega)), h n (by omega)]
theorem cb_set {f : Nat → Bool} {k : Nat} (h0 : f k = false) : ∀ n, k < n → cb (at1 f k true) n = cb f n + 1
  | 0, h => absurd h (Nat.not_lt_zero _)
  | n + 1, h => by
    rw [cb_succ, cb_succ]
    by_cases e : k = n
    · subst e
      rw [at1_same, h0, cb_congr (f := at1 f k true) (g := f) k (fun j hj => at1_other _ _ (by omega))]
      rfl
    · rw [cb_set h0 n (by omega), at1_other _ _ (Ne.symm e)]
      omega
theorem cb_clear {f : Nat → Bool} {k : Nat} (h0 : f k = true) : ∀ n, k < n → cb (at1 f k false) n + 1 = cb f n
  | 0, h => absurd h (Nat.not_lt_zero _)
  | n + 1, h => by
    rw [cb_succ, cb_succ]
    by_cases e : k = n
    · subst e
      rw [at1_same, h0, cb_congr (f := at1 f k false) (g := f) k (fun j hj => at1_other _ _ (by omega))]
      rfl
    · have h1 := cb_clear h0 n (by omega)
      rw [at1_other _ _ (Ne.symm e)]
      omega
theorem at1_at1 {α : Type} (f : Nat → α) (j : Nat) (v : α) : at1 (at1 f j v) j v = at1 f j v := by
  funext k
  unfold at1
  split <;> rfl
/-! The inodes made here. -/
def vG (k : Nat) : Int := if k = 0 then 3 else if k = 4 then 1 else 0
def vS (s : Nat) : Nat → Int := at1 vG 6 (s : Int)
theorem built_link : Tryz.prog.built 44 [(0, .int .i64 3), (4, .int .i64 1)] = some (ncs vG).toArray := by kernel_rfl
theorem vS_ne (s : Nat) {k : Nat} (h : k ≠ 6) : vS s k = vG k := at1_other _ _ h
theorem vS_may (s : Nat) (h : s ≠ 0) : mayB (vS s) = true := by
  rw [mayB_iff]
  refine ⟨by rw [vS_ne s (by decide)]; decide, by rw [vS_ne s (by decide)]; decide, by rw [vS_ne s (by decide)]; decide, by rw [vS_ne s (by decide)]; decide, ?_, by rw [vS_ne s (by decide)]; decide, fun j hj => ?_, by rw [vS_ne s (by decide)]; decide⟩
  · show (s : Int) ≠ 0
    omega
  · have e : vS s (10 + j) = 0 := by
      unfold vS
      rw [at1_other _ _ (by omega)]
      unfold vG
      rw [if_neg (by omega), if_neg (by omega)]
    rw [e]
    omega
theorem vS_wf (s : Nat) (h : s < 18446744073709551616) : Wf (vS s) := by
  refine ⟨fun k hk => ?_, ?_⟩
  · unfold kd at hk
    split at hk
    · rename_i h1
      rcases h1 with rfl | rfl | rfl | rfl <;> (rw [vS_ne s (by decide)]; decide)
    · split at hk <;> cases hk
  · show 0 ≤ (s : Int) ∧ (s : Int) < 18446744073709551616
    omega
theorem vS_row (s j : Nat) : rowD (vS s) j = 0 := by
  unfold rowD
  split
  · rw [vS_ne s (by omega)]
    unfold vG
    rw [if_neg (by omega), if_neg (by omega)]
  · rfl
theorem vS_26 (s : Nat) : vS s 26 = 0 := by rw [vS_ne s (by decide)]; decide
theorem blk_vS (s : Nat) : (blk sz (vS s) 27).length = 256 := blk_len _ _ _ (by decide)
theorem gives_zero (X : DX) (W0 R : Nat → Int) (h : ∀ j, W0 j = 0) : ∀ k, X.gives W0 R k = X
  | 0 => rfl
  | k + 1 => by
    show (if R k = 0 ∧ W0 k ≠ 0 then _ else _) = _
    rw [if_neg (fun hh => hh.2 (h k)), gives_zero X W0 R h k]
theorem gvs_zero (W0 R : Nat → Int) (h : ∀ j, W0 j = 0) : ∀ k, gvs W0 R k = 0
  | 0 => rfl
  | k + 1 => by
    show (if R k = 0 ∧ W0 k ≠ 0 then _ else _) = _
    rw [if_neg (fun hh => hh.2 (h k)), gvs_zero W0 R h k]
/-- A name's two cells. -/
def qcs (p : Nat × Nat) : List Value := rfc p.1 p.2
theorem qcs_len (p : Nat × Nat) : (qcs p).length = 2 := rfl
theorem qcs_one (p : Nat × Nat) : ∀ u ∈ qcs p, u.oneCell' = true := rfc_one _ _
/-- Which inodes there are, and which of them have been told: super, names, blocks. -/
structure JI (Bs : List BV) (X : DX) (last : Nat) (Q : List (Nat × Nat)) : Prop where
  rd : X.rd = true
  may : X.S.May
  s : X.S.s = last + 1
  cnt : cb X.S.u 256 = 1 + cb X.S.has 64
  ref : ∀ p ∈ Q, 1 ≤ p.1 ∧ p.1 ≤ 64 ∧ 1 ≤ p.2 ∧ p.2 ≤ last ∧ ∃ z : Nat, X.S.i p.1 = (z : Int) ∧ 0 < z ∧ z < 256 ∧ seeX X Bs (z : Int) = some (blk sz (vS p.2) 27)
  nd : (Q.map (·.1)).Nodup
section
variable {Bs : List BV} {X : DX} {last : Nat} {Q : List (Nat × Nat)}
theorem JI.start (X : DX) : JI Bs (X.loaded supN) 0 [] := ⟨rfl, may_N, rfl, (by show cb supN.u 256 = 1 + cb supN.has 64; decide +kernel), fun p hp => (by cases hp), List.nodup_nil⟩
theorem JI.full (h : JI Bs X last Q) (hf : ∀ j, j < 64 → X.S.i (j + 1) ≠ 0) : cb X.S.has 64 = 64 := cb_all _ 64 (fun j hj => by
  show (X.S.i (j + 1) != 0) = true
  rw [bne_iff_ne]
  exact hf j hj)
theorem oka_ne {S : Sup} (h : S.May) {j k : Nat} (hj : j < 65) (hk : k < 65) (hne : j ≠ k) (h0 : S.i j ≠ 0) : S.i j ≠ S.i k := by
  intro e
  have hk0 : S.i k ≠ 0 := e ▸ h0
  rcases Nat.lt_or_ge j k with hl | hl
  · exact (oka_used (h.2.2.2 k hk) hk0).2.2.2 j hl e
  · exact (oka_used (h.2.2.2 j hj) h0).2.2.2 k (by omega) e.symm
/-- One more. -/
theorem JI.make (h : JI Bs X last Q) (hf : ¬ ∀ j, j < 64 → X.S.i (j + 1) ≠ 0) : ∃ k s, k < 64 ∧ X.S.i (k + 1) = 0 ∧ (∀ j, j < k → X.S.i (j + 1) ≠ 0) ∧ s < 256 ∧ X.S.u s = false ∧ (∀ j, j < s → X.S.u j = true) ∧
    JI Bs ((X.setS ((((X.S.setU s true).setI (k + 1) (s : Int))).setS (last + 1 + 1))).put (s : Int) (blk sz (vS (last + 1)) 27)) (last + 1) (Q ++ [(k + 1, last + 1)]) := by
  obtain ⟨k, hk, hk0, hkb⟩ := (least_bad (fun j => X.S.i (j + 1) ≠ 0) 64).resolve_left hf
  have hk0 : X.S.i (k + 1) = 0 := Decidable.not_not.1 hk0
  have hnu : ¬ ∀ j, j < 256 → X.S.u j = true := fun hall => by
    have h1 := cb_all X.S.u 256 hall
    have h2 := cb_le X.S.has 64
    have h3 := h.cnt
    omega
  obtain ⟨s, hs, hs0, hsb⟩ := (least_bad (fun j => X.S.u j = true) 256).resolve_left hnu
  have hs0 : X.S.u s = false := by
    cases hu : X.S.u s
    · rfl
    · exact absurd hu hs0
  have hsz : s ≠ 0 := fun e => by
    subst e
    rw [h.may.2.1] at hs0
    cases hs0
  refine ⟨k, s, hk, hk0, hkb, hs, hs0, hsb, h.rd, ?_, rfl, ?_, fun p hp => ?_, ?_⟩
  · have h1 := may_add X.S h.may k s hk hk0 hs hs0
    refine ⟨?_, h1.2.1, h1.2.2.1, h1.2.2.2⟩
    show last + 1 + 1 ≠ 0
    omega
  · show cb (at1 X.S.u s true) 256 = 1 + cb (fun j => at1 X.S.i (k + 1) (s : Int) (j + 1) != 0) 64
    have e : (fun j => at1 X.S.i (k + 1) (s : Int) (j + 1) != 0) = at1 X.S.has k true := by
      funext j
      by_cases hj : j = k
      · subst hj
        rw [at1_same, at1_same, bne_iff_ne]
        omega
      · rw [at1_other _ _ hj, at1_other _ _ (by omega)]
        rfl
    rw [e, cb_set hs0 256 hs, cb_set (f := X.S.has) (by show (X.S.i (k + 1) != 0) = false; rw [hk0]; rfl) 64 hk, h.cnt]
    omega
  · rcases List.mem_append.1 hp with hp | hp
    · obtain ⟨h1, h2, h3, h4, z, h5, h6, h7, h8⟩ := h.ref p hp
      refine ⟨h1, h2, h3, by omega, z, ?_, h6, h7, ?_⟩
      · show at1 X.S.i (k + 1) (s : Int) p.1 = _
        rw [at1_other, h5]
        intro e
        rw [e, hk0] at h5
        omega
      · rw [seeX_put_ne]
        · exact h8
        · intro e
          have h9 := (oka_used (h.may.2.2.2 p.1 (by omega)) (by rw [h5]; omega)).2.2.1
          rw [h5] at h9
          have e2 : z = s := by omega
          subst e2
          rw [Int.toNat_natCast, hs0] at h9
          cases h9
    · rw [List.mem_singleton] at hp
      subst hp
      exact ⟨by show 1 ≤ k + 1; omega, by show k + 1 ≤ 64; omega, by show 1 ≤ last + 1; omega, Nat.le_refl _, s, at1_same _ _ _, by omega, hs, seeX_put _ _ _⟩
  · rw [List.map_append, List.map_cons, List.map_nil]
    refine List.nodup_append.2 ⟨h.nd, by simp, fun a ha b hb e => ?_⟩
    rw [List.mem_singleton] at hb
    subst hb
    subst e
    obtain ⟨p, hp, e⟩ := List.mem_map.1 ha
    obtain ⟨_, _, _, _, z, h5, h6, _⟩ := h.ref p hp
    rw [e, hk0] at h5
    omega
/-- One less. -/
def DX.drops (X : DX) (k z : Nat) : DX := (X.give z).setS ((X.give z).S.less k)
theorem less_give {S : Sup} {k z : Nat} (hz : S.i k = (z : Int)) (h0 : 0 < z ∧ z < 256) : (S.setU z false).less k = S.less k := by
  unfold Sup.less
  have e1 : (S.setU z false).i k = (z : Int) := hz
  have e2 : ∀ T : Sup, T.give (z : Int) = T.setU z false := fun T => by
    unfold Sup.give
    rw [if_pos (by omega)]
    rfl
  rw [e1, hz, e2, e2]
  show (⟨_, at1 (at1 S.u z false) z false, _, _⟩ : Sup) = _
  rw [at1_at1]
  rfl
theorem JI.drop (h : JI Bs X last Q) {q : Nat} {p : Nat × Nat} (hq : Q[q]? = some p) {z : Nat} (hz : X.S.i p.1 = (z : Int)) : JI Bs (X.drops p.1 z) last (Q.take q ++ Q.drop (q + 1)) ∧ (X.drops p.1 z).S.i p.1 = 0 := by
  have hp : p ∈ Q := List.mem_of_getElem? hq
  obtain ⟨h1, h2, h3, h4, z', h5, h6, h7, h8⟩ := h.ref p hp
  have ez : z' = z := by rw [h5] at hz; omega
  subst ez
  have hu : X.S.u z' = true := by
    have h9 := (oka_used (h.may.2.2.2 p.1 (by omega)) (by rw [h5]; omega)).2.2.1
    rw [h5, Int.toNat_natCast] at h9
    exact h9
  have eS : (X.drops p.1 z').S = X.S.less p.1 := less_give h5 ⟨h6, h7⟩
  have eL : X.S.less p.1 = ⟨X.S.s, at1 X.S.u z' false, at1 X.S.i p.1 0, at1 X.S.o p.1 false⟩ := by
    unfold Sup.less Sup.give
    rw [h5, if_pos (by omega)]
    rfl
  have hm := may_less X.S h.may p.1 ⟨h1, h2⟩ (by rw [h5]; omega)
  refine ⟨⟨h.rd, eS ▸ hm.1, ?_, ?_, fun p' hp' => ?_, ?_⟩, ?_⟩
  · rw [eS, hm.2, h.s]
  · rw [eS, eL]
    show cb (at1 X.S.u z' false) 256 = 1 + cb (fun j => at1 X.S.i p.1 0 (j + 1) != 0) 64
    have e : (fun j => at1 X.S.i p.1 0 (j + 1) != 0) = at1 X.S.has (p.1 - 1) false := by
      funext j
      by_cases hj : j = p.1 - 1
      · subst hj
        rw [at1_same, show p.1 - 1 + 1 = p.1 by omega, at1_same]
        rfl
      · rw [at1_other _ _ hj, at1_other _ _ (by omega)]
        rfl
    have h9 := cb_clear hu 256 h7
    have h10 := cb_clear (f := X.S.has) (k := p.1 - 1) (by show (X.S.i (p.1 - 1 + 1) != 0) = true; rw [show p.1 - 1 + 1 = p.1 by omega, h5, bne_iff_ne]; omega) 64 (by omega)
    have h11 := h.cnt
    rw [e]
    omega
  · have hp2 : p' ∈ Q ∧ p'.1 ≠ p.1 := by
      have hql : q < Q.length := (List.getElem?_eq_some_iff.1 hq).1
      have e1 : Q = Q.take q ++ p :: Q.drop (q + 1) := by
        have h9 : Q[q] = p := (List.getElem?_eq_some_iff.1 hq).2
        rw [← h9, List.getElem_cons_drop, List.take_append_drop]
      have h10 := h.nd
      rw [e1, List.map_append, List.map_cons, List.nodup_append] at h10
      obtain ⟨_, h11, h12⟩ := h10
      rw [List.nodup_cons] at h11
      rcases List.mem_append.1 hp' with hm | hm
      · exact ⟨List.mem_of_mem_take hm, fun e => h12 p'.1 (List.mem_map.2 ⟨p', hm, rfl⟩) p.1 (List.mem_cons_self ..) e⟩
      · exact ⟨List.mem_of_mem_drop hm, fun e => h11.1 (List.mem_map.2 ⟨p', hm, e⟩)⟩
    obtain ⟨g1, g2, g3, g4, y, g5, g6, g7, g8⟩ := h.ref p' hp2.1
    refine ⟨g1, g2, g3, g4, y, ?_, g6, g7, ?_⟩
    · rw [eS, eL]
      show at1 X.S.i p.1 0 p'.1 = _
      rw [at1_other _ _ hp2.2, g5]
    · show seeX (X.give z') Bs (y : Int) = _
      rw [give_out, g8]
      intro e
      have h9 := oka_ne h.may (j := p.1) (k := p'.1) (by omega) (by omega) (Ne.symm hp2.2) (by rw [h5]; omega)
      rw [h5, g5] at h9
      exact h9 e
  · have h9 := h.nd
    have e1 : Q.map (·.1) = (Q.take q).map (·.1) ++ (Q.drop q).map (·.1) := by rw [← List.map_append, List.take_append_drop]
    rw [e1, List.nodup_append] at h9
    rw [List.map_append, List.nodup_append]
    refine ⟨h9.1, ?_, fun a ha b hb => h9.2.2 a ha b ?_⟩
    · have h10 := h9.2.1
      rw [List.map_drop] at h10 ⊢
      rw [← List.drop_drop]
      exact h10.sublist (List.drop_sublist ..)
    · rw [List.map_drop] at hb ⊢
      rw [← List.drop_drop] at hb
      exact List.mem_of_mem_drop hb
  · rw [eS, eL]
    exact at1_same _ _ _
end
end Go.Proofs.YtfbfeplegdpemaaGreat
