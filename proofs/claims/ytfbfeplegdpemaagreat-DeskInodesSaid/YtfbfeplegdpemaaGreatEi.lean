/- Files: what a file takes; its bytes read. Conditions: the desk lies there; the row of slots is told; each block's content is known. -/
import Derived.Test.YtfbfeplegdpemaaGreatEh
set_option linter.unusedVariables false
set_option maxRecDepth 20000
namespace Go.Proofs.YtfbfeplegdpemaaGreat
open Go.RowKit

theorem hol_sub2 {w : World} {g o : Nat} {l : List UInt8} (h : Hol w (some ⟨g, o, none⟩) l) (i n : Nat) : Hol w (some ⟨g, o + i, none⟩) ((l.drop i).take n) := (hol_drop h i).take_ n
section
variable {b : Nat} {w w' : World} {gd gv gm gs r : Nat} {Bs : List BV} {N n : Nat} {X X' : DX}
def DeskRow (W : World) (gd gv N : Nat) (X : DX) : Prop := ∃ ah la, ah.length = 775 ∧ (∀ v ∈ ah, v.oneCell' = true) ∧ Row W gd 88 (dcs gv N (bkcs X.rd X.S X.S0) ah false la)
/-- Nothing but the desk's own cells has turned. -/
theorem DK.again (h : DK b w gd gv gm gs r Bs N n X) (hc : Chg [gd] w w') (hd : DeskRow w' gd gv N X) : DK b w' gd gv gm gs r Bs N n X := by
  obtain ⟨ah, la, e1, e2, e3⟩ := hd
  obtain ⟨n1, n2, n3, n4, n5, n6⟩ := h.ne
  obtain ⟨_, _, _, _, h0⟩ := h.desk
  have hN : NoBytes w [gd] := fun x hx cs fr => by
    rw [List.mem_singleton] at hx
    subst hx
    exact row_noB h0 (by decide) _ _
  obtain ⟨C, v1, v2⟩ := h.view
  exact ⟨⟨ah, la, e1, e2, e3⟩, ⟨C, v1.keepN hc (by simp; exact n1.symm) (by simp; exact n2.symm) hN, v2⟩, hc.row h.run (by simp; exact n3.symm), h.src.keep (hc.below h.lo.2.2 (fun x hx => by rw [List.mem_singleton] at hx; subst hx; exact h.lo.1)), h.lo.1, h.lo.2.1, Nat.le_trans h.lo.2.2 hc.size⟩
theorem dtakes (v R : Nat → Int) (h : DK b w gd gv gm gs r Bs N n X) (hn : n ≤ 1000) (hrow : RowOk b gd gv gm gs r Bs N X v 128 R) : Calls Tryz.prog 19 #[.pointer (some ⟨gd, 0, none⟩), .agg (ncs v).toArray] w (DOne b w gd gv gm gs r Bs N n X (.int .i64 (tks R : Int))) := by
  have HBG := Lib.hid (hbegin h hn)
  have i2 := Lib.hid (fun v => info_ncs v)
  have HLT := Lib.hid h.lt
  have HROW := Lib.hid (p := ∀ (w : World) (n : Nat), DK b w gd gv gm gs r Bs N n X → Calls Tryz.prog 46 #[.pointer (some ⟨gd, 0, none⟩), .agg (ncs v).toArray, .int .i64 128] w (DOne b w gd gv gm gs r Bs N n X (.agg (inl 128 R).toArray))) hrow
  have HT := Lib.hid (takes_any R)
  clear h hn hrow
  go_enter Tryz.func19, Tryz.ntmps19
  go_wp2_with (first
    | (refine step_box rfl 3 rfl 44 (.tmp 1) rfl (ncs v) rfl ?_; intro g3 w2 hr2 hg2 hb2 hs2
       have HR32 := Lib.hid hr2
       have HB2 := Lib.hid hb2
       have HG3 := Lib.hid (p := w.heap.size ≤ g3) (Nat.le_of_eq hg2.out.symm)
       clear hr2 hg2 hb2 hs2)
    | (go_at_call 36; refine (HBG.out _ HB2.out).mono ?_; rintro e w4 ⟨rfl, hk, hc⟩
       have HK4 := hk
       have HC4 := Lib.hid (p := Chg [gd] w w4) ((Chg.of (F := [gd]) HB2.out).trans hc.out (fun x hx => .inl hx))
       have HR34 := Lib.hid (hc.out.row HR32.out (by have h1 := HLT.out; have h2 := HG3.out; simp; omega))
       clear hk hc)
    | (refine step_load rfl 8 rfl 44 (.tmp 3) rfl g3 rfl (ncs v) _ HR34.out.all Tryz.underlying44 rfl (i2.out _) ?_)
    | (go_at_call 46; refine (HROW.out _ _ HK4.out).mono ?_; rintro e w6 ⟨rfl, hk, hc⟩
       have HK6 := hk
       have HC6 := Lib.hid (p := Chg [gd] w w6) (chg_same HC4.out hc.out)
       clear hk hc)
    | (go_at_call 56; refine (HT.out _).mono ?_; rintro e w7 ⟨rfl, hb⟩
       have HB7 := Lib.hid hb
       clear hb))
  go_ret
  exact ⟨rfl, Lib.hid (HK6.out.below HB7.out), Lib.hid (chg_nxt HC6.out HB7.out)⟩
/-- How many bytes are read behind k blocks. -/
def dl (off cn first k : Nat) : Nat := min (off + cn) ((first + k) * 256) - off
set_option maxHeartbeats 8000000 in
theorem dread (v R : Nat → Int) (off count cn sz first cnt e : Nat) (F : Nat → UInt8) (h : DK b w gd gv gm gs r Bs N n X) (hn : n ≤ 1000)
    (hsz : v 5 = (sz : Int)) (hsz2 : sz ≤ 32768) (hcount : count ≤ 32768) (hoff : off < sz) (hcn : cn = min count (sz - off)) (hcn1 : 1 ≤ cn) (hF : first * 256 ≤ off ∧ off < first * 256 + 256 ∧ off + cn ≤ e * 256 ∧ e * 256 < off + cn + 256) (hcnt : first + cnt = e)
    (hrow : RowOk b gd gv gm gs r Bs N X v e R) (hcont : ∀ k, k < cnt → ∃ zk : Nat, R (first + k) = (zk : Int) ∧ CW X Bs zk (fun j => F ((first + k) * 256 + j))) :
    Calls Tryz.prog 17 #[.pointer (some ⟨gd, 0, none⟩), .agg (ncs v).toArray, .int .i64 (off : Int), .int .i64 (count : Int)] w (DSee b w gd gv gm gs r Bs N n X (lst cn fun i => F (off + i))) := by
  obtain ⟨iU, U⟩ := u8_tab
  have HBG := Lib.hid (hbegin h hn)
  have HLT := Lib.hid h.lt
  have HLO := Lib.hid h.lo
  have i2 := Lib.hid (fun v => info_ncs v)
  have i3 := Lib.hid info_rows
  have i5 := Lib.hid info_brr
  have hzr := Lib.hid zero_row
  have hzb := Lib.hid zero_block
  have he128 : e ≤ 128 := by omega
  have HSPAN := Lib.hid (p := ∀ w, Calls Tryz.prog 45 #[.int .i64 (off : Int), .int .i64 (cn : Int)] w fun e' w' => e' = .returned (.tuple #[.int .i64 (first : Int), .int .i64 (e : Int)]) ∧ w = w') (fun w => by
    have h1 := span_ok off cn hcn1 (by omega) w
    rw [show off / 256 = first by omega, show (off + cn - 1) / 256 + 1 = e by omega] at h1
    exact h1)
  have HROW := Lib.hid hrow
  have HV := Lib.hid (p := ∀ W g, Row W g 44 (ncs v) → W.cell? ⟨g, 5, none⟩ = some (.int .i64 (sz : Int))) (fun W g h => by rw [← hsz]; exact (h.cell 5).trans rfl)
  have HCT := Lib.hid hcont
  have hsub : IntKind.i64.wrap ((e : Int) - (first : Int)) = (cnt : Int) := by rw [IntKind.wrap_i64]; omega
  have hm1 : (if (32768 : Int) < (sz : Int) then 32768 else (sz : Int)) = (sz : Int) := by rw [if_neg (by omega)]
  have HM1 := Lib.hid hm1
  obtain ⟨sd, hsd⟩ : ∃ sd, (sz : Int) - (off : Int) = sd := ⟨_, rfl⟩
  have hsd2 : IntKind.i64.wrap ((sz : Int) - (off : Int)) = sd := by rw [IntKind.wrap_i64]; omega
  have HM2 := Lib.hid (p := (if sd < (count : Int) then sd else (count : Int)) = (cn : Int)) (by rw [← hsd]; split <;> omega)
  have g1 : ¬ (off : Int) < 0 := by omega
  have g2 : ¬ (sz : Int) ≤ (off : Int) := by omega
  have g3 : ¬ (count : Int) ≤ 0 := by omega
  have HK := Lib.hid (p := first + cnt = e ∧ e ≤ 128 ∧ off ≤ 32768 ∧ cn ≤ 32768 ∧ 1 ≤ cn ∧ first * 256 ≤ off ∧ off < first * 256 + 256 ∧ off + cn ≤ e * 256 ∧ e * 256 < off + cn + 256) ⟨hcnt, he128, by omega, by omega, hcn1, hF⟩
  clear h hn hsz hsz2 hcount hoff hcn hcn1 hF hcnt hrow hcont he128 hm1 hsd
  go_enter Tryz.func17, Tryz.ntmps17
  go_wp2_with (first
    | (refine step_box rfl 5 rfl 44 (.tmp 1) rfl (ncs v) rfl ?_; intro g5 w2 hr2 hg2 hb2 hs2
       have HR52 := Lib.hid hr2
       have HB2 := Lib.hid hb2
       have HG5 := Lib.hid (p := w.heap.size ≤ g5) (Nat.le_of_eq hg2.out.symm)
       clear hr2 hg2 hb2 hs2)
    | (go_at_call 36; refine (HBG.out _ HB2.out).mono ?_; rintro e w4 ⟨rfl, hk, hc⟩
       have HK4 := hk
       have HC4 := Lib.hid (p := Chg [gd] w w4) ((Chg.of (F := [gd]) HB2.out).trans hc.out (fun x hx => .inl hx))
       have HR54 := Lib.hid (hc.out.row HR52.out (by have h1 := HLT.out; have h2 := HG5.out; simp; omega))
       have c5 := HV.out _ _ HR54.out
       clear hk hc)
    | (refine wp_min rfl (.tmp 20) _ _ rfl _ _ _ rfl rfl HM1.out ?_)
    | (refine wp_min rfl (.tmp 33) _ _ rfl _ _ _ rfl rfl HM2.out ?_)
    | (go_at_call 45; refine (HSPAN.out _).mono ?_; rintro e w6 ⟨rfl, rfl⟩)
    | (refine step_load rfl 45 rfl 44 (.tmp 5) rfl g5 rfl (ncs v) _ HR54.out.all Tryz.underlying44 rfl (i2.out _) ?_)
    | (go_at_call 46; refine (HROW.out _ _ HK4.out).mono ?_; rintro e w6 ⟨rfl, hk, hc⟩
       have HK6 := hk
       have HC6 := Lib.hid (p := Chg [gd] w w6) (chg_same HC4.out hc.out)
       clear hk hc c5)
    | (refine step_alloc rfl 12 rfl 98 rfl _ hzr.out ?_; intro g12 w7 hr8 hg8 hb8 hs8
       have HR127 := Lib.hid hr8
       have HK7 := Lib.hid (HK6.out.below hb8)
       have HC7 := Lib.hid (chg_nxt HC6.out hb8)
       have HG12 := Lib.hid (p := w.heap.size ≤ g12) (by rw [hg8.out]; exact HC6.out.size)
       clear hr8 hg8 hb8 hs8)
    | (refine step_store rfl 98 (.tmp 12) (.tmp 47) rfl g12 rfl _ _ (inl 128 R) rfl HR127.out (by rw [inl_len, inl_len]) (i3.out _) (inl_one _ _) ?_; intro w8 hr9 hg9 hs9
       have HR128 := Lib.hid hr9
       have HK8 := Lib.hid (HK7.out.other HR127.out (by decide) (by have := HLO.out; have := HG12.out; omega) (Chg.one hg9))
       have HC8 := Lib.hid (p := Chg [gd] w w8) (chg_own HC7.out HG12.out (Chg.one hg9))
       clear hr9 hg9 hs9))
  have HGX := Lib.hid (p := gd < w.heap.size ∧ w.heap.size ≤ g12) ⟨HLT.out, HG12.out⟩
  go_loopw [13, 51] (fun x y wr => ∃ (k D : Nat) (A' : Option Addr) (c' : Nat), Hid (k ≤ cnt) ∧ y = .int .i64 (k : Int) ∧ x = .slice A' D c' ∧ Hid (D = dl off cn first k) ∧ Hid (wr.ownsRow w8.heap.size 5 1 (.slice A' D c') D (bc (lst D fun i => F (off + i)))) ∧ Hid (DeskRow wr gd gv N X) ∧ Hid (Row wr g12 98 (inl 128 R)) ∧ Hid (Chg [gd] w8 wr)) (fun _ y _ => cnt - (intOf y).toNat)
  case atStart => exact ⟨0, 0, none, 0, Lib.hid (Nat.zero_le _), rfl, rfl, Lib.hid (by unfold dl; have := HK.out; omega), Lib.hid (World.ownsRow_nil _ _ _ _), Lib.hid HK8.out.desk, HR128, Lib.hid (Chg.refl _ _)⟩
  case round =>
    obtain ⟨k, D, A', c', HKL, rfl, rfl, HDL, HO, HDR, HR12, HCW⟩ := hrel
    by_cases hk : k < cnt
    · have hki : (k : Int) < (cnt : Int) := by omega
      have hkf := HK.out
      have HDK := Lib.hid (HK8.out.again HCW.out HDR.out)
      obtain ⟨zk, hzk, hct⟩ := HCT.out k hk
      obtain ⟨j, hj⟩ : ∃ j, first + k = j := ⟨_, rfl⟩
      rw [hj] at hzk hct
      obtain ⟨fb, hfb⟩ : ∃ fb : Nat → UInt8, (fun i => F (j * 256 + i)) = fb := ⟨_, rfl⟩
      rw [hfb] at hct
      have HFB := Lib.hid hfb
      have hjw : IntKind.i64.wrap ((first : Int) + (k : Int)) = (j : Int) := by rw [IntKind.wrap_i64]; omega
      have hj128 : (j : Int) < 128 := by omega
      obtain ⟨jq, hjq⟩ : ∃ jq : Int, (j : Int) * 256 = jq := ⟨_, rfl⟩
      have hjm : IntKind.i64.wrap ((j : Int) * 256) = jq := by rw [IntKind.wrap_i64, ← hjq]; omega
      obtain ⟨lo, hlo⟩ : ∃ lo : Nat, (if (0 : Int) > (off : Int) - jq then 0 else (off : Int) - jq) = (lo : Int) := ⟨((off : Int) - jq).toNat, by split <;> omega⟩
      obtain ⟨oc, hoc⟩ : ∃ oc, off + cn = oc := ⟨_, rfl⟩
      have hocw : IntKind.i64.wrap ((off : Int) + (cn : Int)) = (oc : Int) := by rw [IntKind.wrap_i64]; omega
      obtain ⟨hi, hhi⟩ : ∃ hi : Nat, (if (256 : Int) < (oc : Int) - jq then 256 else (oc : Int) - jq) = (hi : Int) := ⟨(min 256 ((oc : Int) - jq)).toNat, by split <;> omega⟩
      obtain ⟨d1, hd1⟩ : ∃ d1, (off : Int) - jq = d1 := ⟨_, rfl⟩
      obtain ⟨d2, hd2⟩ : ∃ d2, (oc : Int) - jq = d2 := ⟨_, rfl⟩
      have hd1w : IntKind.i64.wrap ((off : Int) - jq) = d1 := by rw [IntKind.wrap_i64]; omega
      have hd2w : IntKind.i64.wrap ((oc : Int) - jq) = d2 := by rw [IntKind.wrap_i64]; omega
      have hdl := HDL.out
      unfold dl at hdl
      rw [hj] at hdl
      have HX := Lib.hid (p := lo < hi ∧ hi ≤ 256 ∧ lo ≤ 255 ∧ D + (hi - lo) = dl off cn first (k + 1) ∧ j * 256 + lo = off + D ∧ D ≤ 32768) (by
        unfold dl
        rw [show first + (k + 1) = j + 1 by omega]
        split at hlo <;> split at hhi <;> omega)
      have hlh1 : (lo : Int) ≤ (hi : Int) := by have := HX.out; omega
      have hlh2 : (hi : Int) ≤ 256 := by have := HX.out; omega
      have hlh3 : ¬ 256 = lo := by have := HX.out; omega
      rw [hd1] at hlo
      rw [hd2] at hhi
      have HLO2 := Lib.hid hlo
      have HHI := Lib.hid hhi
      obtain ⟨mh, hmh⟩ : ∃ mh, hi - lo = mh := ⟨_, rfl⟩
      rw [hmh] at HX
      have HMH := Lib.hid (p := hi - lo = mh ∧ lo < hi ∧ hi ≤ 256) ⟨hmh, by omega, by omega⟩
      have cz : wr.cell? ⟨g12, j, none⟩ = some (.int .i64 (zk : Int)) := by rw [HR12.out.cell, inl_get _ (by omega), hzk]
      have hkw : IntKind.i64.wrap ((k : Int) + 1) = (k : Int) + 1 := by rw [IntKind.wrap_i64]; omega
      have HCN := Lib.hid (dcontentW zk fb HDK.out hct)
      have HKK := Lib.hid hk
      clear hk hzk hct hj hjq hkf hlo hhi hdl hd1 hd2 hfb hoc
      go_wp2_with (first
        | (go_at_call 51; refine HCN.out.mono ?_; rintro e w13 ⟨rfl, hk, hc⟩
           obtain ⟨_, _, _, _, hdd⟩ := HDK.out.desk
           have HO13 := Lib.hid (own_chg HO.out hc.out (fun x hx => by rw [List.mem_singleton] at hx; subst hx; exact row_parted hdd HO.out (by decide)))
           have HK13 := hk
           have HC13 := Lib.hid (p := Chg [gd] w8 w13) (chg_same HCW.out hc.out)
           have HR1213 := Lib.hid (hc.out.row HR12.out (by have := HGX.out; simp; omega))
           clear hk hc hdd cz)
        | (refine step_alloc rfl 15 rfl 105 rfl _ hzb.out ?_; intro g15 w14 hr8 hg8 hb8 hs8
           have HR1514 := Lib.hid hr8
           have HK14 := Lib.hid (HK13.out.below hb8)
           have HC14 := Lib.hid (chg_nxt HC13.out hb8)
           have HO14 := Lib.hid (own_kept HO13.out hb8)
           have HR1214 := Lib.hid (HR1213.out.kept hb8)
           have HG15 := Lib.hid (p := w8.heap.size ≤ g15 ∧ g12 < g15) (by rw [hg8.out]; exact ⟨HC13.out.size, HR1213.out.lt⟩)
           clear hr8 hg8 hb8 hs8)
        | (refine step_store rfl 105 (.tmp 15) (.tmp 60) rfl g15 rfl _ _ (brr 256 fb) rfl HR1514.out (by rw [brr_len, brr_len]) (i5.out _) (brr_one _ _) ?_; intro w15 hr9 hg9 hs9
           have HR1515 := Lib.hid hr9
           have HK15 := Lib.hid (HK14.out.other HR1514.out (by decide) (by have h1 := HLO.out; have h2 := HG15.out; have h3 := HC8.out.size; omega) (Chg.one hg9))
           have HC15 := Lib.hid (p := Chg [gd] w8 w15) (chg_own HC14.out HG15.out.1 (Chg.one hg9))
           have HO15 := Lib.hid (own_chg HO14.out (Chg.one hg9) (fun x hx => by rw [List.mem_singleton] at hx; subst hx; exact row_parted HR1514.out HO14.out (by decide)))
           have HR1215 := Lib.hid (HR1214.out.grown hg9 (fun e => by have := HG15.out; injection e; omega))
           clear hr9 hg9 hs9)
        | (refine wp_max rfl _ _ _ rfl _ _ _ rfl rfl HLO2.out ?_)
        | (refine wp_min rfl (.tmp 74) _ _ rfl _ _ _ rfl rfl HHI.out ?_)
        | (at_builtin
           refine wpList_app _ rfl _ _ _ rfl 5 iU U w8.heap.size (.slice A' D c') D (bc (lst D fun i => F (off + i))) rfl HO15.out (some ⟨g15, lo, none⟩) mh (256 - lo) (lst mh fun i => fb (lo + i)) rfl (by rw [lst_len]) (by
             have h1 := hol_sub2 (Row.hol HR1515.out) lo mh
             rwa [lst_drop_take _ _ _ _ (by have := HMH.out; omega), Nat.zero_add] at h1) (by have h1 := HMH.out; have h2 := HX.out; omega) HC15.out.size ?_
           intro v1 w16 ho1 hg1 hat1
           obtain ⟨A1, c1', rfl⟩ := own_sl ho1
           have HO16 := Lib.hid (p := w16.ownsRow w8.heap.size 5 1 (.slice A1 (D + mh) c1') (D + mh) (bc (lst (D + mh) fun i => F (off + i)))) (by
             rw [lst_add, bc_app]
             have e1 : (lst mh fun i => fb (lo + i)) = lst mh fun i => F (off + (D + i)) := lst_congr fun i hi' => by
               rw [← HFB.out]
               show F (j * 256 + (lo + i)) = _
               rw [← Nat.add_assoc, HX.out.2.2.2.2.1, Nat.add_assoc]
             rw [e1] at ho1
             exact ho1)
           obtain ⟨ah, la, e1, e2, hdd⟩ := HK15.out.desk
           have HDR16 := Lib.hid (p := DeskRow w16 gd gv N X) ⟨ah, la, e1, e2, hdd.grown hg1 (row_parted hdd HO15.out (by decide)).symm⟩
           have HR1216 := Lib.hid (HR1215.out.grown hg1 (row_parted HR1215.out HO15.out (by decide)).symm)
           have HC16 := Lib.hid (p := Chg [gd] w8 w16) (HC15.out.grown hg1 (fun q hq => .inr (HO15.out.lt q hq).1))
           clear ho1 hg1 hat1 e1 e2 hdd))
      go_roundw
      case rel => exact ⟨k + 1, D + mh, A1, c1', HKK, by go_num, rfl, Lib.hid HX.out.2.2.2.1, HO16, HDR16, HR1216, HC16⟩
      case measure => have := HKK.out; simp [intOf]; omega
    · have hkz : ¬ (k : Int) < (cnt : Int) := by omega
      have hke : k = cnt := by have := HKL.out; omega
      subst hke
      have hDcn : D = cn := by
        rw [HDL.out]
        unfold dl
        have := HK.out
        omega
      subst hDcn
      clear hk
      go_wp2
      go_ret
      refine ⟨⟨A', c', lst D fun i => F (off + i)⟩, (by rw [lst_len]; rfl), Lib.hid rfl, Lib.hid ?_, Lib.hid (HK8.out.again HCW.out HDR.out), Lib.hid (HC8.out.trans HCW.out (fun x hx => .inl hx))⟩
      have h1 := own_lower HO.out HC8.out.size
      unfold Own8 bvv
      simp only [lst_len]
      exact h1
theorem dread_nil (v : Nat → Int) (off count : Nat) (h : DK b w gd gv gm gs r Bs N n X) (hn : n ≤ 1000) (sz : Nat) (hsz : v 5 = (sz : Int)) (hsz2 : sz ≤ 32768) (hoff : sz ≤ off) :
    Calls Tryz.prog 17 #[.pointer (some ⟨gd, 0, none⟩), .agg (ncs v).toArray, .int .i64 (off : Int), .int .i64 (count : Int)] w (DSee b w gd gv gm gs r Bs N n X []) := by
  have HBG := Lib.hid (hbegin h hn)
  have HLT := Lib.hid h.lt
  have HV := Lib.hid (p := ∀ W g, Row W g 44 (ncs v) → W.cell? ⟨g, 5, none⟩ = some (.int .i64 (sz : Int))) (fun W g h => by rw [← hsz]; exact (h.cell 5).trans rfl)
  have HM1 := Lib.hid (p := (if (32768 : Int) < (sz : Int) then 32768 else (sz : Int)) = (sz : Int)) (by rw [if_neg (by omega)])
  have g1 : ¬ (off : Int) < 0 := by omega
  have g2 : (sz : Int) ≤ (off : Int) := by omega
  clear h hn hsz hsz2 hoff
  go_enter Tryz.func17, Tryz.ntmps17
  go_wp2_with (first
    | (refine step_box rfl 5 rfl 44 (.tmp 1) rfl (ncs v) rfl ?_; intro g5 w2 hr2 hg2 hb2 hs2
       have HR52 := Lib.hid hr2
       have HB2 := Lib.hid hb2
       have HG5 := Lib.hid (p := w.heap.size ≤ g5) (Nat.le_of_eq hg2.out.symm)
       clear hr2 hg2 hb2 hs2)
    | (go_at_call 36; refine (HBG.out _ HB2.out).mono ?_; rintro e w4 ⟨rfl, hk, hc⟩
       have HK4 := hk
       have HC4 := Lib.hid (p := Chg [gd] w w4) ((Chg.of (F := [gd]) HB2.out).trans hc.out (fun x hx => .inl hx))
       have c5 := HV.out _ _ (hc.out.row HR52.out (by have h1 := HLT.out; have h2 := HG5.out; simp; omega))
       clear hk hc)
    | (refine wp_min rfl (.tmp 20) _ _ rfl _ _ _ rfl rfl HM1.out ?_))
  go_ret
  exact ⟨noBV, rfl, Lib.hid rfl, Lib.hid (Own8.none_ _ _), HK4, HC4⟩
end
end Go.Proofs.YtfbfeplegdpemaaGreat
