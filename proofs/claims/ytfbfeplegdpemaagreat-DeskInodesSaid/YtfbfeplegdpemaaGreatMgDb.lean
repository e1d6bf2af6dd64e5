/- Where a desk's call begins. Conditions: the desk lies there. -/
import Derived.Test.YtfbfeplegdpemaaGreatMgDa
import Derived.RegionTactic
set_option linter.unusedVariables false
set_option maxRecDepth 20000
namespace Go.Proofs.YtfbfeplegdpemaaGreat
open Go.RowKit

section
variable {b : Nat} {w w' : World} {gd gv gm gs r : Nat} {Bs : List BV} {N n : Nat} {X : DX} {g1 : Nat} {la : Int} {dl : List Value}
theorem going1_any (p : Int × BV) (w : World) (h1 : w.cell? ⟨g1, 0, none⟩ = some (.pointer (some ⟨gd, 0, none⟩))) (h2 : w.cell? ⟨gd, 1553, none⟩ = some (.int .i64 la)) :
    Calls Tryz.prog 99 #[.agg (pcs p).toArray, .pointer (some ⟨g1, 0, none⟩)] w fun e w' => (∃ z, e = .returned (.bool z)) ∧ Hid (Below w.heap.size w w') := by
  have i2 : (Tryz.prog.info? 70).map (·.size) = some 2 := by kernel_rfl
  have l1 := World.block_lt_of_cell? w _ h1
  have l2 := World.block_lt_of_cell? w _ h2
  obtain ⟨s, y⟩ := p
  have HX := Lib.hid (p := g1 < w.heap.size ∧ gd < w.heap.size) ⟨l1, l2⟩
  have H1 := Lib.hid h1
  have H2 := Lib.hid h2
  clear h1 h2 l1 l2
  go_enter Tryz.func99, Tryz.ntmps99
  go_wp2_with (first
    | (refine step_box rfl 2 rfl 70 (.tmp 0) rfl (pcs (s, y)) rfl ?_; intro g2 w2 hr2 hg2 hb2 hs2
       have c0 : w2.cell? ⟨g2, 0, none⟩ = some (.int .i64 s) := (hr2.cell 0).trans rfl
       have c1 : w2.cell? ⟨g1, 0, none⟩ = some (.pointer (some ⟨gd, 0, none⟩)) := (hb2.cell (p := ⟨g1, 0, none⟩) HX.out.1).trans H1.out
       have c2 : w2.cell? ⟨gd, 1553, none⟩ = some (.int .i64 la) := (hb2.cell (p := ⟨gd, 1553, none⟩) HX.out.2).trans H2.out
       have HB2 := Lib.hid hb2
       clear hr2 hg2 hb2 hs2))
  go_region
  go_wp2
  go_ret
  exact ⟨⟨_, rfl⟩, Lib.hid HB2.out.drew⟩
theorem index_any {A : Option Addr} {c : Nat} {ps : List (Int × BV)} (hp : PutsAt w A ps) (h1 : w.cell? ⟨g1, 0, none⟩ = some (.pointer (some ⟨gd, 0, none⟩))) (h2 : w.cell? ⟨gd, 1553, none⟩ = some (.int .i64 la)) :
    Calls Tryz.prog 118 #[.slice A ps.length c, .func (.func 99) #[] #[.pointer (some ⟨g1, 0, none⟩)]] w fun e w' => (∃ z, e = .returned (.int .i64 z)) ∧ Hid (Below w.heap.size w w') := by
  have i2 := Lib.hid (p := (Tryz.prog.info? 70).map (·.size) = some 2) (by kernel_rfl)
  have HP := Lib.hid hp
  have hlim := hp.lim
  have HL := Lib.hid hlim
  have HX := Lib.hid (p := g1 < w.heap.size ∧ gd < w.heap.size) ⟨World.block_lt_of_cell? w _ h1, World.block_lt_of_cell? w _ h2⟩
  have H1 := Lib.hid h1
  have H2 := Lib.hid h2
  clear hp h1 h2 hlim
  go_enter Tryz.func118, Tryz.ntmps118
  go_wp2
  go_loopw [8] (fun x wr => ∃ k : Nat, Hid (k ≤ ps.length) ∧ x = .int .i64 (k : Int) ∧ Hid (Below w.heap.size w wr)) (fun x _ => ps.length - (intOf x).toNat)
  case atStart => exact ⟨0, Lib.hid (Nat.zero_le _), rfl, Lib.hid (Below.refl _ _)⟩
  case round =>
    obtain ⟨k, HK, rfl, HB⟩ := hrel
    by_cases hk : k < ps.length
    · have hki : (k : Int) < (ps.length : Int) := by omega
      obtain ⟨g, o, rfl, hc⟩ := (HP.out.lies.below HB.out).at_ hk
      obtain ⟨x, hx⟩ : ∃ x, ps[k]'hk = x := ⟨_, rfl⟩
      rw [hx] at hc
      have hr : wr.rangeAt g (o + k * 2) (pcs x) := fun i u hu => hc i u hu
      have HR := Lib.hid hr
      have hkw : IntKind.i64.wrap ((k : Int) + 1) = (k : Int) + 1 := by rw [IntKind.wrap_i64]; have := HL.out; omega
      have HG := Lib.hid (going1_any (g1 := g1) (gd := gd) (la := la) x wr ((HB.out.cell (p := ⟨g1, 0, none⟩) HX.out.1).trans H1.out) ((HB.out.cell (p := ⟨gd, 1553, none⟩) HX.out.2).trans H2.out))
      have HKK := Lib.hid hk
      clear hc hx hr hk
      go_wp2_with (first
        | (refine wpList_load_mid rfl 70 (.tmp 14) rfl g (o + k * 2) (by rfl) (pcs x) _ HR.out Tryz.underlying70 rfl i2.out ?_)
        | (go_at_call 99; refine HG.out.mono ?_; rintro e w4 ⟨⟨z, rfl⟩, hb⟩; cases z))
      · have HB4 := Lib.hid (below_nxt hb.out HB.out)
        clear hb
        go_wp2
        go_roundw
        case rel => exact ⟨k + 1, HKK, by go_num, HB4⟩
        case measure => have := HKK.out; simp [intOf]; omega
      · have HB4 := Lib.hid (below_nxt hb.out HB.out)
        clear hb
        go_wp2
        go_ret
        exact ⟨⟨_, rfl⟩, HB4⟩
    · have hkz : ¬ (k : Int) < (ps.length : Int) := by omega
      clear hk
      go_wp2
      go_ret
      exact ⟨⟨_, rfl⟩, HB⟩
theorem contains_any {A : Option Addr} {c : Nat} {ps : List (Int × BV)} (hp : PutsAt w A ps) (h1 : w.cell? ⟨g1, 0, none⟩ = some (.pointer (some ⟨gd, 0, none⟩))) (h2 : w.cell? ⟨gd, 1553, none⟩ = some (.int .i64 la)) :
    Calls Tryz.prog 98 #[.slice A ps.length c, .func (.func 99) #[] #[.pointer (some ⟨g1, 0, none⟩)]] w fun e w' => (∃ z, e = .returned (.bool z)) ∧ Hid (Below w.heap.size w w') := by
  have HI := Lib.hid (index_any (c := c) hp h1 h2)
  clear hp h1 h2
  go_enter Tryz.func98, Tryz.ntmps98
  go_wp2_with (go_at_call 118; refine HI.out.mono ?_; rintro e w4 ⟨⟨z, rfl⟩, hb⟩)
  go_ret
  exact ⟨⟨_, rfl⟩, hb⟩
theorem going_any (h : DK b w gd gv gm gs r Bs N n X) (hn : n ≤ 1000) : Calls Tryz.prog 68 #[.pointer (some ⟨gd, 0, none⟩)] w fun e w' => (∃ z, e = .returned (.bool z)) ∧ Hid (Below w.heap.size w w') := by
  obtain ⟨ah, la, e1, e2, hd⟩ := h.desk
  obtain ⟨C, hv, _⟩ := h.view
  have HV := Lib.hid hv
  have HD := Lib.hid hd
  have HN := Lib.hid hn
  have HL := Lib.hid (p := ∀ W, Below w.heap.size w W → W.cell? ⟨gd, 1553, none⟩ = some (.int .i64 la)) (fun W hb => ((hd.kept hb).cell 1553).trans (dcs_la (bkcs_len _ _ _) e1))
  have hmf : ∀ (fn : Fn) (first cap : Array Value) (w : World), (Instr.makeFunc fn first cap).run Tryz.prog w = .ok (.func fn first cap) w := fun _ _ _ _ => rfl
  clear h hv hd hn
  go_enter Tryz.func68, Tryz.ntmps68
  go_wp2_with (first
    | (refine step_box1 rfl 33 _ rfl (.pointer (some ⟨gd, 0, none⟩)) rfl rfl ?_; intro g2 w2 hr2 hg2 hb2
       have R2 := Lib.hid hr2
       have HB2 := Lib.hid hb2
       have c1 : w2.cell? ⟨g2, 0, none⟩ = some (.pointer (some ⟨gd, 0, none⟩)) := (hr2.cell 0).trans rfl
       have c0 : w2.cell? ⟨gd, 0, none⟩ = some (.pointer (some ⟨gv, 0, none⟩)) := ((HD.out.kept hb2).cell 0).trans rfl
       clear hr2 hg2 hb2)
    | (go_at_call 30; refine (vchanges (HV.out.below HB2.out) HN.out).mono ?_; rintro e w3 ⟨ps, A, c, rfl, hc, hp, hb⟩
       have HP3 := hp
       have HB3 := Lib.hid (below_nxt hb.out HB2.out)
       have HC3 := Lib.hid (p := w3.cell? ⟨g2, 0, none⟩ = some (.pointer (some ⟨gd, 0, none⟩))) (((R2.out.kept hb.out).cell 0).trans rfl)
       clear hc hp hb)
    | (go_at_call 98; refine (contains_any HP3.out HC3.out (HL.out _ HB3.out)).mono ?_; rintro e w4 ⟨⟨z, rfl⟩, hb⟩
       have HB4 := Lib.hid (below_nxt hb.out HB3.out)
       clear hb))
  go_ret
  exact ⟨⟨_, rfl⟩, HB4⟩
set_option maxHeartbeats 1000000 in
/-- A call begins. -/
theorem dbegin (h : DK b w gd gv gm gs r Bs N n X) (hn : n ≤ 1000) : Calls Tryz.prog 36 #[.pointer (some ⟨gd, 0, none⟩)] w fun e w' => e = .returned (.tuple #[]) ∧ Hid (DK b w' gd gv gm gs r Bs N n X) ∧ Hid (Chg [gd] w w') := by
  have HG := Lib.hid (going_any h hn)
  obtain ⟨ah, la, e1, e2, hd⟩ := h.desk
  have cw : w.cell? ⟨gd, 1552, none⟩ = some (.bool false) := (hd.cell 1552).trans (dcs_wt (bkcs_len _ _ _) e1)
  have H := Lib.hid h
  have HD := Lib.hid hd
  have i1 := Lib.hid info_bkcs
  obtain ⟨bk, hbk⟩ : ∃ bk, bkcs X.rd X.S X.S0 = bk := ⟨_, rfl⟩
  have HBK := Lib.hid hbk
  have HL := Lib.hid (p := bk.length = 775 ∧ (∀ v ∈ bk, v.oneCell' = true)) (by rw [← hbk]; exact ⟨bkcs_len _ _ _, bkcs_one _ _ _⟩)
  rw [hbk] at HD
  have HE := Lib.hid (p := ah.length = 775 ∧ ∀ v ∈ ah, v.oneCell' = true) ⟨e1, e2⟩
  clear h hd hn e1 e2 hbk
  go_enter Tryz.func36, Tryz.ntmps36
  go_wp2_with (first
    | (go_at_call 68; refine HG.out.mono ?_; rintro e w2 ⟨⟨z, rfl⟩, hb⟩
       have HD2 := Lib.hid (HD.out.kept hb.out)
       have HB2 := hb
       clear hb
       cases z)
    | (refine step_load_at rfl 86 (.tmp 24) rfl gd 2 (by rfl) 88 (dhd gv N) bk (ah ++ dtl false la) _ HD2.out rfl Tryz.underlying86 rfl (i1.out _ HL.out.1) ?_)
    | (refine step_store_at rfl 86 (.tmp 27) (.tmp 25) rfl gd 777 (by rfl) 88 (dhd gv N ++ bk) ah bk (dtl false la) (by rfl) (by rw [← dcs_ah]; exact HD2.out) (by simp [dhd, HL.out.1]) (by rw [HE.out.1, HL.out.1]) (i1.out _ HL.out.1) HL.out.2 ?_
       intro w3 hr3 hg3
       have HR3 := Lib.hid hr3
       have HG3 := Lib.hid hg3
       clear hr3 hg3))
  · go_end0
    have hr := HR3.out
    rw [← dcs_ah] at hr
    have hC : Chg [gd] w w3 := (Chg.of HB2.out).trans (Chg.one HG3.out) (fun x hx => .inl hx)
    exact ⟨rfl, Lib.hid (H.out.own (X' := X) (by rw [HBK.out]; exact hr) HL.out.1 HL.out.2 rfl hC), Lib.hid hC⟩
  · go_end0
    exact ⟨rfl, Lib.hid (H.out.below HB2.out), Lib.hid (Chg.of HB2.out)⟩
end
end Go.Proofs.YtfbfeplegdpemaaGreat
/- A desk: what it sees of a slot, what it puts, its book read. Conditions: the desk lies there. -/
set_option linter.unusedVariables false
set_option maxRecDepth 20000
namespace Go.Proofs.YtfbfeplegdpemaaGreat
open Go.RowKit

theorem row_own8 {w : World} {g b : Nat} {l : L8} (h : Row w g 5 (bc l)) (hb : b ≤ g) (hl : l.length ≤ maxLen) : Own8 b w ⟨some ⟨g, 0, none⟩, l.length, l⟩ :=
  ⟨by rw [bc_len, Nat.mul_one], .inr ⟨g, l.length, _, rfl, hb, h, Nat.le_refl _, hl, by simp [bc_len], by simp [bc_len, List.take_of_length_le]⟩⟩
theorem brr0_bc (n : Nat) : brr n (fun _ => 0) = bc (List.replicate n 0) := by
  rw [lst_bc]
  unfold lst
  congr 1
  apply List.ext_getElem?
  intro j
  rw [List.getElem?_replicate, List.getElem?_map]
  by_cases hj : j < n
  · rw [if_pos hj, List.getElem?_range hj]; rfl
  · rw [if_neg hj, List.getElem?_eq_none (by simp; omega)]; rfl
theorem norm_nil : norm [] = List.replicate 256 0 := if_pos rfl
theorem norm_some {l : L8} (h : l ≠ []) : norm l = l := if_neg h
section
variable {b : Nat} {w w' : World} {gd gv gm gs r : Nat} {Bs : List BV} {N n : Nat} {X : DX}
/-- What is seen: bytes of the call's own. -/
def DSee (b : Nat) (w : World) (gd gv gm gs r : Nat) (Bs : List BV) (N n : Nat) (X : DX) (l : L8) (e : Ending) (w' : World) : Prop :=
  ∃ y : BV, e = .returned (.slice y.A y.l.length y.c) ∧ Hid (y.l = l) ∧ Hid (Own8 w.heap.size w' y) ∧ Hid (DK b w' gd gv gm gs r Bs N n X) ∧ Hid (Chg [gd] w w')
set_option maxHeartbeats 1000000 in
theorem dsee (h : DK b w gd gv gm gs r Bs N n X) (a : Int) (ha : I64 a) (l : L8) (hl : seeX X Bs a = some l) (hlen : l.length ≤ 1000) : Calls Tryz.prog 43 #[.pointer (some ⟨gd, 0, none⟩), .int .i64 a] w (DSee b w gd gv gm gs r Bs N n X (norm l)) := by
  obtain ⟨i, U⟩ := u8_tab
  obtain ⟨ah, la, e1, e2, hd⟩ := h.desk
  obtain ⟨C, hv, hC⟩ := h.view
  obtain ⟨x, hx, hxl⟩ := seeX_F hC hl
  have c0 : w.cell? ⟨gd, 0, none⟩ = some (.pointer (some ⟨gv, 0, none⟩)) := hd.cell 0
  have cw : w.cell? ⟨gd, 1552, none⟩ = some (.bool false) := (hd.cell 1552).trans (dcs_wt (bkcs_len _ _ _) e1)
  have fw := hd.free 1552
  have hd1 : Row (w.setCell ⟨gd, 1552, none⟩ (.bool true)) gd 88 (dcs gv N (bkcs X.rd X.S X.S0) ah true la) := by
    have h1 := hd.put 1552 (.bool true)
    rwa [dcs_set_wt (bkcs_len _ _ _) e1] at h1
  have hc1 : Chg [gd] w (w.setCell ⟨gd, 1552, none⟩ (.bool true)) := (Chg.refl _ _).setCell (.inl (by simp)) _
  obtain ⟨n1, n2, n3, n4, n5, n6⟩ := h.ne
  have hN : NoBytes w [gd] := fun x hx cs fr => by
    rw [List.mem_singleton] at hx
    subst hx
    exact row_noB hd (by decide) _ _
  have hv1 := hv.keepN hc1 (by simp; exact n1.symm) (by simp; exact n2.symm) hN
  have hs1 : Src b (w.setCell ⟨gd, 1552, none⟩ (.bool true)) gs Bs := h.src.keep (hc1.below h.lo.2.2 (fun x hx => by rw [List.mem_singleton] at hx; subst hx; exact h.lo.1))
  have HS := Lib.hid (vsee hv1 hs1 a ha x hx)
  have HD1 := Lib.hid hd1
  have HC1 := Lib.hid hc1
  have H := Lib.hid h
  have HE := Lib.hid (p := ah.length = 775 ∧ (∀ v ∈ ah, v.oneCell' = true)) ⟨e1, e2⟩
  have HXL := Lib.hid (p := x.l = l ∧ l.length ≤ 1000) ⟨hxl, hlen⟩
  clear h hd hd1 hc1 hv1 hs1 hN n1 n2 n3 n4 n5 n6 hv hC hx hl ha e1 e2 hxl hlen
  go_enter Tryz.func43, Tryz.ntmps43
  go_wp2_with (first
    | (go_at_call 81; refine HS.out.mono ?_; rintro e w2 ⟨y, rfl, hy, ho, hb⟩
       have HD2 := Lib.hid (HD1.out.kept hb.out)
       have cw2 : w2.cell? ⟨gd, 1552, none⟩ = some (.bool true) := (HD2.out.cell 1552).trans (dcs_wt (bkcs_len _ _ _) HE.out.1)
       have fw2 := HD2.out.free 1552
       obtain ⟨D, hD⟩ : ∃ D : Nat, y.l.length = D := ⟨_, rfl⟩
       rw [hD]
       have HDD := Lib.hid hD
       have HY := Lib.hid (p := y.l = l) (hy.out.trans HXL.out.1)
       have HO := ho
       have HB := hb
       obtain ⟨z, hz, HZ⟩ : ∃ z : Bool, ((D : Int) == 0) = z ∧ Hid (z = true ∧ D = 0 ∨ z = false ∧ 0 < D) := by
         rcases Nat.eq_zero_or_pos D with h0 | h0
         · exact ⟨true, by rw [h0]; rfl, Lib.hid (.inl ⟨rfl, h0⟩)⟩
         · exact ⟨false, beq_false_of_ne (by omega), Lib.hid (.inr ⟨rfl, h0⟩)⟩
       clear hD hy ho hb cw fw c0
       cases z)
    | (refine step_make rfl _ _ 22 5 i U rfl 256 rfl rfl (by decide) ?_
       intro g4 w4 hr4 hg4 hb4 hs4
       have HR4 := Lib.hid hr4
       have HB4 := Lib.hid hb4
       have HG4 := Lib.hid hg4
       clear hr4 hg4 hb4 hs4))
  · have hr := HD2.out.put 1552 (.bool false)
    rw [dcs_set_wt (bkcs_len _ _ _) HE.out.1] at hr
    have hc0 : Chg [gd] w2 (w2.setCell ⟨gd, 1552, none⟩ (.bool false)) := (Chg.refl _ _).setCell (.inl (by simp)) _
    have hc : Chg [gd] w (w2.setCell ⟨gd, 1552, none⟩ (.bool false)) := (HC1.out.trans (Chg.of (F := []) HB.out) (by simp)).setCell (.inl (by simp)) _
    have hk := H.out.own (X' := X) hr HE.out.1 HE.out.2 rfl hc
    have hl0 : l ≠ [] := fun e => by
      have h1 := HDD.out
      rw [HY.out, e] at h1
      simp at h1
      rcases HZ.out with ⟨h2, _⟩ | ⟨_, h2⟩
      · cases h2
      · omega
    have ho : Own8 w.heap.size (w2.setCell ⟨gd, 1552, none⟩ (.bool false)) y := (HO.out.chg hc0 (fun x hx cs fr => by
      rw [List.mem_singleton] at hx
      subst hx
      exact row_noB HD2.out (by decide) _ _)).lower HC1.out.size
    go_ret
    refine ⟨y, (by rw [HDD.out]; rfl), Lib.hid (by rw [HY.out, norm_some hl0]), Lib.hid ho, Lib.hid hk, Lib.hid hc⟩
  · have hr := HD2.out.put 1552 (.bool false)
    rw [dcs_set_wt (bkcs_len _ _ _) HE.out.1] at hr
    have hc : Chg [gd] w (w2.setCell ⟨gd, 1552, none⟩ (.bool false)) := (HC1.out.trans (Chg.of (F := []) HB.out) (by simp)).setCell (.inl (by simp)) _
    have hk := H.out.own (X' := X) hr HE.out.1 HE.out.2 rfl hc
    have hl0 : l = [] := by rw [← HY.out]; exact List.eq_nil_of_length_eq_zero (by rw [HDD.out]; rcases HZ.out with ⟨_, h2⟩ | ⟨h2, _⟩; exact h2; cases h2)
    go_ret
    refine ⟨⟨some ⟨g4, 0, none⟩, 256, List.replicate 256 0⟩, rfl, Lib.hid (by rw [hl0, norm_nil]), Lib.hid ?_, Lib.hid (hk.below HB4.out), Lib.hid (hc.trans (Chg.of (F := []) HB4.out) (by simp))⟩
    have h1 := HR4.out
    rw [brr0_bc] at h1
    have h2 := row_own8 (b := w.heap.size) h1 (by rw [HG4.out.out]; exact hc.size) (by decide)
    simpa using h2
/-- What is put. -/
def DPut (b : Nat) (w : World) (gd gv gm gs r : Nat) (Bs : List BV) (N n : Nat) (X : DX) (e : Ending) (w' : World) : Prop :=
  e = .returned (.tuple #[]) ∧ Hid (DK b w' gd gv gm gs r Bs N n X) ∧ Hid (Chg [gd, gm] w w')
def DX.put (X : DX) (a : Int) (l : L8) : DX := ⟨X.rd, X.S, X.S0, upS X.C a l⟩
theorem dput (h : DK b w gd gv gm gs r Bs N n X) (x : BV) (hx : Hol w x.A x.l) (hl : x.l.length ≤ 131072) (a : Int) (ha : I64 a) (hn : n ≤ 1000) :
    Calls Tryz.prog 40 #[.pointer (some ⟨gd, 0, none⟩), .int .i64 a, .slice x.A x.l.length x.c] w (DPut b w gd gv gm gs r Bs N (n + 1) (X.put a x.l)) := by
  obtain ⟨ah, la, e1, e2, hd⟩ := h.desk
  obtain ⟨C, hv, hC⟩ := h.view
  have c0 : w.cell? ⟨gd, 0, none⟩ = some (.pointer (some ⟨gv, 0, none⟩)) := hd.cell 0
  have HP := Lib.hid (vput hv h.lo.2.2 x hx hl a ha (by omega))
  have H := Lib.hid h
  have HD := Lib.hid hd
  have HC := Lib.hid hC
  have HE := Lib.hid (p := ah.length = 775 ∧ (∀ v ∈ ah, v.oneCell' = true)) ⟨e1, e2⟩
  have HNE := Lib.hid h.ne
  clear h hd hv hC hx hl ha e1 e2 hn
  go_enter Tryz.func40, Tryz.ntmps40
  go_wp2_with (go_at_call 24; refine HP.out.mono ?_; rintro e w2 ⟨rfl, y, hy, hoy, hv2, hc⟩
               have HD2 := Lib.hid (hc.out.row HD.out (by have := HNE.out.2.1; simpa using this))
               have cw2 : w2.cell? ⟨gd, 1553, none⟩ = some (.int .i64 la) := (HD2.out.cell 1553).trans (dcs_la (bkcs_len _ _ _) HE.out.1)
               have fw2 := HD2.out.free 1553
               have HV2 := hv2
               have HY := hy
               have HCH := hc
               clear hy hoy hv2 hc c0)
  go_end0
  have hr := HD2.out.put 1553 (.int .i64 a)
  rw [dcs_set_la (bkcs_len _ _ _) HE.out.1] at hr
  obtain ⟨n1, n2, n3, n4, n5, n6⟩ := HNE.out
  have hc0 : Chg [gd] w2 (w2.setCell ⟨gd, 1553, none⟩ (.int .i64 a)) := (Chg.refl _ _).setCell (.inl (by simp)) _
  have hN : NoBytes w2 [gd] := fun x hx cs fr => by
    rw [List.mem_singleton] at hx
    subst hx
    exact row_noB HD2.out (by decide) _ _
  have hlo := H.out.lo
  have hc1 : Chg [gd, gm] w w2 := HCH.out.wider (fun x hx => .inl (by simp at hx ⊢; exact .inr hx))
  have hc2 : Chg [gd, gm] w (w2.setCell ⟨gd, 1553, none⟩ (.int .i64 a)) := hc1.setCell (.inl (by simp)) _
  refine ⟨rfl, Lib.hid ⟨⟨ah, a, HE.out.1, HE.out.2, hr⟩, ⟨_, HV2.out.keepN hc0 (by simp; exact n1.symm) (by simp; exact n2.symm) hN, ?_⟩, hc2.row H.out.run (by simp; exact ⟨n3.symm, n6.symm⟩), ?_, hlo.1, hlo.2.1, Nat.le_trans hlo.2.2 hc2.size⟩, Lib.hid hc2⟩
  · rw [byL_up, HC.out, HY.out]
    rfl
  · refine H.out.src.keep (hc2.below hlo.2.2 (fun x hx => ?_))
    obtain ⟨C', hv', _⟩ := H.out.view
    simp at hx
    rcases hx with rfl | rfl
    · exact hlo.1
    · exact hv'.lo.2
end
end Go.Proofs.YtfbfeplegdpemaaGreat
/- A desk's book, read; its super, told, set and saved. Conditions: the desk lies there. -/
set_option linter.unusedVariables false
set_option maxRecDepth 20000
namespace Go.Proofs.YtfbfeplegdpemaaGreat
open Go.RowKit

/-- A super that a block tells; of what tells none, a new one. -/
def ldS (L : L8) (S : Sup) : Prop := (¬ SOk L ∧ S = supN) ∨ (SOk L ∧ S.cs = (sr L).cs)
def DX.loaded (X : DX) (S : Sup) : DX := ⟨true, S, S, X.C⟩
/-- What reading the book makes of a desk. -/
def LdR (Bs : List BV) (X X' : DX) : Prop := (X.rd = true ∧ X' = X) ∨ (X.rd = false ∧ ∃ l S, seeX X Bs 0 = some l ∧ l.length ≤ 1000 ∧ ldS (norm l) S ∧ X' = X.loaded S)
theorem LdR.rd {Bs : List BV} {X X' : DX} (h : LdR Bs X X') : X'.rd = true := by
  rcases h with ⟨h1, rfl⟩ | ⟨_, _, S, _, _, _, rfl⟩
  · exact h1
  · rfl
theorem LdR.C {Bs : List BV} {X X' : DX} (h : LdR Bs X X') : X'.C = X.C := by
  rcases h with ⟨h1, rfl⟩ | ⟨_, _, S, _, _, _, rfl⟩ <;> rfl
theorem norm_len {l : L8} (h : l.length ≤ 1000) : (norm l).length ≤ 1000 := by
  unfold norm
  split
  · simp
  · exact h
section
variable {b : Nat} {w w' : World} {gd gv gm gs r : Nat} {Bs : List BV} {N n : Nat} {X : DX}
def DOne (b : Nat) (w : World) (gd gv gm gs r : Nat) (Bs : List BV) (N n : Nat) (X : DX) (v : Value) (e : Ending) (w' : World) : Prop :=
  e = .returned v ∧ Hid (DK b w' gd gv gm gs r Bs N n X) ∧ Hid (Chg [gd] w w')
def tup0 : Value := .tuple #[]
theorem dload_have (h : DK b w gd gv gm gs r Bs N n X) (hr : X.rd = true) : Calls Tryz.prog 37 #[.pointer (some ⟨gd, 0, none⟩)] w (DOne b w gd gv gm gs r Bs N n X tup0) := by
  obtain ⟨ah, la, e1, e2, hd⟩ := h.desk
  have c2 : w.cell? ⟨gd, 2, none⟩ = some (.bool true) := by rw [hd.cell, dcs_2, hr]
  have H := Lib.hid h
  clear h hd e1 e2 hr
  go_enter Tryz.func37, Tryz.ntmps37
  go_wp2
  go_end0
  exact ⟨rfl, H, Lib.hid (Chg.refl _ _)⟩
set_option maxHeartbeats 1000000 in
theorem dload_ok (h : DK b w gd gv gm gs r Bs N n X) (hr : X.rd = false) (l : L8) (hl : seeX X Bs 0 = some l) (hlen : l.length ≤ 1000) (S : Sup) (hS : SOk (norm l) ∧ S.cs = (sr (norm l)).cs) : Calls Tryz.prog 37 #[.pointer (some ⟨gd, 0, none⟩)] w (DOne b w gd gv gm gs r Bs N n (X.loaded S) tup0) := by
  obtain ⟨ah, la, e1, e2, hd⟩ := h.desk
  have c2 : w.cell? ⟨gd, 2, none⟩ = some (.bool false) := by rw [hd.cell, dcs_2, hr]
  have HS := Lib.hid (dsee h 0 (by unfold I64; omega) l hl hlen)
  have HU := Lib.hid (p := ∀ (y : BV) (W : World), y.l = norm l → Hol W y.A y.l → Calls Tryz.prog 69 #[.slice y.A y.l.length y.c] W fun e w' => e = .returned (.tuple #[.agg S.cs.toArray, .int .i64 0]) ∧ Below W.heap.size W w') (fun y W hy hh => by
      have e := hS.1.1
      rw [hS.2]
      rw [hy] at hh ⊢
      rw [e]
      exact gunpack_ok y.A y.c (norm l) hS.1 W hh)
  have i1 := Lib.hid (fun x : Sup => info_cs x)
  have i2 := Lib.hid info_bkcs
  have hz := Lib.hid zero_sup
  have HBB := Lib.hid built_book
  have HNE := Lib.hid h.ne
  clear h hd hl hlen hS e1 e2 hr
  go_enter Tryz.func37, Tryz.ntmps37
  go_wp2_with (first
    | (go_at_call 43; refine HS.out.mono ?_; rintro e w2 ⟨y, rfl, hy, ho, hk, hc⟩
       have HK2 := hk
       have HC2 := hc
       have HU2 := Lib.hid (HU.out y w2 hy.out ho.out.hol)
       clear hy ho hk hc c2)
    | (go_at_call 69; refine HU2.out.mono ?_; rintro e w3 ⟨rfl, hb⟩
       have HB3 := Lib.hid hb
       clear hb)
    | (refine step_alloc rfl 2 rfl 59 rfl _ hz.out ?_; intro g4 w4 hr4 hg4 hb4 hs4
       have HR4 := Lib.hid hr4
       have HB4 := Lib.hid (below_nxt hb4 HB3.out)
       have HG4 := Lib.hid (p := w2.heap.size ≤ g4) (by rw [hg4.out]; exact HB3.out.size)
       clear hr4 hg4 hb4 hs4)
    | (refine step_store rfl 59 (.tmp 2) (.tmp 13) rfl g4 rfl _ _ S.cs rfl HR4.out (by simp [Sup.cs_len]) (i1.out _) (Sup.cs_one _) ?_; intro w5 hr5 hg5 hs5
       have HR5 := Lib.hid hr5
       have HB5 := Lib.hid (below_own HB4.out hg5 HG4.out)
       clear hr5 hg5 hs5 HR4)
    | (refine step_load rfl 19 rfl 59 (.tmp 2) rfl g4 rfl S.cs _ HR5.out.all Tryz.underlying59 rfl (i1.out _) ?_)
    | (refine step_load rfl 20 rfl 59 (.tmp 2) rfl g4 rfl S.cs _ HR5.out.all Tryz.underlying59 rfl (i1.out _) ?_)
    | (refine step_build rfl 86 _ rfl [(0, .bool true), (1, .agg S.cs.toArray), (2, .agg S.cs.toArray)] ?hv _ (HBB.out _ _) ?_; case hv => (simp [Act.eval, Act.put]))
    | (have HK8 := Lib.hid (HK2.out.below HB5.out)
       obtain ⟨ah8, la8, e81, e82, hd8⟩ := HK8.out.desk
       refine step_store_at rfl 86 (.tmp 23) (.tmp 21) rfl gd 2 (by rfl) 88 (dhd gv N) (bkcs X.rd X.S X.S0) (bkcs true S S) (ah8 ++ dtl false la8) (by rfl) hd8 rfl (by simp [bkcs_len]) (i2.out _ (bkcs_len _ _ _)) (bkcs_one _ _ _) ?_
       intro w9 hr9 hg9
       have HR9 := Lib.hid hr9
       have HG9 := Lib.hid hg9
       have HE9 := Lib.hid (p := ah8.length = 775 ∧ (∀ v ∈ ah8, v.oneCell' = true)) ⟨e81, e82⟩
       clear hr9 hg9 e81 e82 hd8))
  go_end0
  exact ⟨rfl, Lib.hid (HK8.out.own (X' := X.loaded S) HR9.out HE9.out.1 HE9.out.2 rfl (Chg.one HG9.out)), Lib.hid ((HC2.out.trans (Chg.of (F := []) HB5.out) (by simp)).trans (Chg.one HG9.out) (fun x hx => .inl hx))⟩
set_option maxHeartbeats 1000000 in
theorem dload_not (h : DK b w gd gv gm gs r Bs N n X) (hr : X.rd = false) (l : L8) (hl : seeX X Bs 0 = some l) (hlen : l.length ≤ 1000) (hS : ¬ SOk (norm l)) : Calls Tryz.prog 37 #[.pointer (some ⟨gd, 0, none⟩)] w (DOne b w gd gv gm gs r Bs N n (X.loaded supN) tup0) := by
  obtain ⟨ah, la, e1, e2, hd⟩ := h.desk
  have c2 : w.cell? ⟨gd, 2, none⟩ = some (.bool false) := by rw [hd.cell, dcs_2, hr]
  have HS := Lib.hid (dsee h 0 (by unfold I64; omega) l hl hlen)
  have HU := Lib.hid (p := ∀ (y : BV) (W : World), y.l = norm l → Hol W y.A y.l → Calls Tryz.prog 69 #[.slice y.A y.l.length y.c] W fun e w' => e = .returned (.tuple #[.agg sup0.cs.toArray, .int .i64 210]) ∧ Below W.heap.size W w') (fun y W hy hh => by
      rw [hy] at hh ⊢
      exact gunpack_not y.A _ y.c (norm l) rfl (by have := norm_len hlen; omega) hS W hh)
  have i1 := Lib.hid (fun x : Sup => info_cs x)
  have i2 := Lib.hid info_bkcs
  have hz := Lib.hid zero_sup
  have HBB := Lib.hid built_book
  have HNE := Lib.hid h.ne
  clear h hd hl hlen hS e1 e2 hr
  go_enter Tryz.func37, Tryz.ntmps37
  go_wp2_with (first
    | (go_at_call 43; refine HS.out.mono ?_; rintro e w2 ⟨y, rfl, hy, ho, hk, hc⟩
       have HK2 := hk
       have HC2 := hc
       have HU2 := Lib.hid (HU.out y w2 hy.out ho.out.hol)
       clear hy ho hk hc c2)
    | (go_at_call 69; refine HU2.out.mono ?_; rintro e w3 ⟨rfl, hb⟩
       have HB3 := Lib.hid hb
       clear hb)
    | (refine step_alloc rfl 2 rfl 59 rfl _ hz.out ?_; intro g4 w4 hr4 hg4 hb4 hs4
       have HR4 := Lib.hid hr4
       have HB4 := Lib.hid (below_nxt hb4 HB3.out)
       have HG4 := Lib.hid (p := w2.heap.size ≤ g4) (by rw [hg4.out]; exact HB3.out.size)
       clear hr4 hg4 hb4 hs4)
    | (refine step_store rfl 59 (.tmp 2) (.tmp 13) rfl g4 rfl _ _ sup0.cs rfl HR4.out (by simp [Sup.cs_len]) (i1.out _) (Sup.cs_one _) ?_; intro w5 hr5 hg5 hs5
       have HR5 := Lib.hid hr5
       have HB5 := Lib.hid (below_own HB4.out hg5 HG4.out)
       clear hr5 hg5 hs5 HR4)
    | (go_at_call 70; refine (gnew_any _).mono ?_; rintro e w6 ⟨rfl, hb⟩
       have HR6 := Lib.hid (HR5.out.kept hb)
       have HB6 := Lib.hid (below_nxt hb HB5.out)
       clear hb)
    | (refine step_store rfl 59 (.tmp 2) (.tmp 17) rfl g4 rfl _ _ supN.cs rfl HR6.out (by simp [Sup.cs_len]) (i1.out _) (Sup.cs_one _) ?_; intro w7 hr7 hg7 hs7
       have HR7 := Lib.hid hr7
       have HB7 := Lib.hid (below_own HB6.out hg7 HG4.out)
       clear hr7 hg7 hs7 HR6 HR5)
    | (refine step_load rfl 19 rfl 59 (.tmp 2) rfl g4 rfl supN.cs _ HR7.out.all Tryz.underlying59 rfl (i1.out _) ?_)
    | (refine step_load rfl 20 rfl 59 (.tmp 2) rfl g4 rfl supN.cs _ HR7.out.all Tryz.underlying59 rfl (i1.out _) ?_)
    | (refine step_build rfl 86 _ rfl [(0, .bool true), (1, .agg supN.cs.toArray), (2, .agg supN.cs.toArray)] ?hv _ (HBB.out _ _) ?_; case hv => (simp [Act.eval, Act.put]))
    | (have HK8 := Lib.hid (HK2.out.below HB7.out)
       obtain ⟨ah8, la8, e81, e82, hd8⟩ := HK8.out.desk
       refine step_store_at rfl 86 (.tmp 23) (.tmp 21) rfl gd 2 (by rfl) 88 (dhd gv N) (bkcs X.rd X.S X.S0) (bkcs true supN supN) (ah8 ++ dtl false la8) (by rfl) hd8 rfl (by simp [bkcs_len]) (i2.out _ (bkcs_len _ _ _)) (bkcs_one _ _ _) ?_
       intro w9 hr9 hg9
       have HR9 := Lib.hid hr9
       have HG9 := Lib.hid hg9
       have HE9 := Lib.hid (p := ah8.length = 775 ∧ (∀ v ∈ ah8, v.oneCell' = true)) ⟨e81, e82⟩
       clear hr9 hg9 e81 e82 hd8))
  go_end0
  exact ⟨rfl, Lib.hid (HK8.out.own (X' := X.loaded supN) HR9.out HE9.out.1 HE9.out.2 rfl (Chg.one HG9.out)), Lib.hid ((HC2.out.trans (Chg.of (F := []) HB7.out) (by simp)).trans (Chg.one HG9.out) (fun x hx => .inl hx))⟩
theorem dload {X' : DX} (h : DK b w gd gv gm gs r Bs N n X) (hL : LdR Bs X X') : Calls Tryz.prog 37 #[.pointer (some ⟨gd, 0, none⟩)] w (DOne b w gd gv gm gs r Bs N n X' tup0) := by
  rcases hL with ⟨h1, rfl⟩ | ⟨h1, l, S, h2, h3, h4, rfl⟩
  · exact dload_have h h1
  · rcases h4 with ⟨h5, rfl⟩ | h5
    · exact dload_not h h1 l h2 h3 h5
    · exact dload_ok h h1 l h2 h3 S h5
end
end Go.Proofs.YtfbfeplegdpemaaGreat
