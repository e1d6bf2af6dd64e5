/- DeskSaves, walked. No conditions. -/
import Derived.Test.YtfbfeplegdpemaaGreatMgHa
set_option linter.unusedVariables false
set_option maxRecDepth 20000
namespace Go.Proofs.YtfbfeplegdpemaaGreat
open Go.RowKit

section
theorem see_at0 {Bs : List BV} {x : BV} (h : Bs[0]? = some x) : seeX ⟨false, sup0, sup0, byL fun _ => none⟩ Bs 0 = some x.l := by
  have h1 : seeX ⟨false, sup0, sup0, byL fun _ => none⟩ Bs ((0 : Nat) : Int) = some x.l := by
    unfold seeX
    have e : (byL fun _ => none) ((0 : Nat) : Int) = none := rfl
    simp only [e]
    rw [src_nat, h]
    rfl
  exact h1
/-- The changes of a run told: none, or the first is the super's. -/
theorem told_none {k c : Nat} {C : Int → Option L8} {qs : List (Int × BV)} (h : ChOf C (chL qs)) (hq : CQ k c C) (hk : k = 0) : qs = [] := by
  cases qs with
  | nil => rfl
  | cons q t =>
    have h1 := (h.mem q.1 q.2.l).1 (by unfold chL; simp)
    rw [hq.z hk] at h1
    cases h1
theorem told_first {k c : Nat} {C : Int → Option L8} {qs : List (Int × BV)} (h : ChOf C (chL qs)) (hq : CQ k c C) (hk : k ≠ 0) : ∃ q t, qs = q :: t ∧ q.1 = 0 := by
  have h0 := (h.mem 0 _).2 (hq.at0 hk)
  cases qs with
  | nil => unfold chL at h0; simp at h0
  | cons q t =>
    refine ⟨q, t, rfl, ?_⟩
    have h1 := (h.mem q.1 q.2.l).1 (by unfold chL; simp)
    have h2 := (hq.in_ _ _ h1).1
    have h3 := h.lt
    unfold chL at h3 h0
    rw [List.map_cons, List.pairwise_cons] at h3
    rw [List.map_cons, List.mem_cons] at h0
    rcases h0 with e | h0
    · injection e with e
      exact e.symm
    · have := h3.1 _ h0
      simp only at this
      omega
theorem told_in {k c : Nat} {C : Int → Option L8} {qs : List (Int × BV)} (h : ChOf C (chL qs)) (hq : CQ k c C) : ∀ p ∈ qs, 0 ≤ p.1 ∧ p.1 < 256 ∧ p.2.l.length = 256 := fun p hp =>
  hq.in_ _ _ ((h.mem p.1 p.2.l).1 (by unfold chL; exact List.mem_map.2 ⟨p, hp, rfl⟩))
/-- What slot 0 holds behind the changes. -/
theorem kept_first {k c : Nat} {C : Int → Option L8} {qs : List (Int × BV)} (h : ChOf C (chL qs)) (hq : CQ k c C) (L : List L8) (hL : L.length = 256) : (k ≠ 0 → (keepL L (chL qs))[0]? = some (blkK c)) ∧ (k = 0 → keepL L (chL qs) = L) := by
  refine ⟨fun hk => ?_, fun hk => by rw [told_none h hq hk]; rfl⟩
  refine (keepL_get 0 (chL qs) L h.lt (fun p hp => ?_)).1 _ ((h.mem _ _).2 (hq.at0 hk))
  obtain ⟨q, hq1, rfl⟩ := List.mem_map.1 hp
  have := told_in h hq q hq1
  rw [hL]
  exact ⟨this.1, this.2.1⟩
theorem blk_off {base : Nat} {w : World} {gs : Nat} {A : Option Addr} {c : Nat} {Bs : List BV} (h : Vol base w gs A c Bs) : ∀ q ∈ blkL A, base ≤ q ∧ q < w.heap.size := fun q hq => by
  cases A with
  | none => cases hq
  | some ad =>
    unfold blkL at hq
    rw [List.mem_singleton] at hq
    subst hq
    exact h.own.lt ad.block rfl
theorem vol_apart {base : Nat} {w : World} {gs : Nat} {A : Option Addr} {c : Nat} {Bs : List BV} (h : Vol base w gs A c Bs) {g : Nat} {t : TypeId} {cs : List Value} (hr : Row w g t cs) (ht : t ≠ 22) : g ∉ blkL A := fun hg => by
  cases A with
  | none => cases hg
  | some ad =>
    unfold blkL at hg
    rw [List.mem_singleton] at hg
    subst hg
    exact (row_parted hr h.own ht) rfl
theorem vol_get {base : Nat} {w : World} {gs : Nat} {A : Option Addr} {c : Nat} {Bs : List BV} (h : Vol base w gs A c Bs) (a : Nat) {x : BV} (hx : Bs[a]? = some x) : ∃ gL, A = some ⟨gL, 0, none⟩ ∧ w.cell? ⟨gL, a, none⟩ = some (.slice x.A 256 x.c) ∧ Hol w x.A x.l ∧ x.l.length = 256 ∧ 256 ≤ x.c ∧ x.c < 9223372036854775808 := by
  have hm : x ∈ Bs := List.mem_of_getElem? hx
  have hn : a < Bs.length := (List.getElem?_eq_some_iff.1 hx).1
  obtain ⟨gL, rfl⟩ : ∃ gL, A = some ⟨gL, 0, none⟩ := by
    rcases h.own.2 with ⟨h1, h2⟩ | ⟨g, cap, cur, h1, _⟩
    · omega
    · simp only [Value.slice.injEq] at h1
      exact ⟨g, h1.1⟩
  have h1 := h.own.cells (g := gL) rfl a (bvv x) (by rw [flat_sc, List.getElem?_map, hx]; rfl)
  rw [Addr.add_lit, Nat.zero_add] at h1
  have hl := h.len x hm
  have ho := h.bytes x hm
  have hcap : 256 ≤ x.c ∧ x.c < 9223372036854775808 := by
    rcases ho.2 with ⟨h1, h2⟩ | ⟨g, cap, cur, h1, _, _, h2, h3, _⟩
    · omega
    · unfold bvv at h1
      simp only [Value.slice.injEq] at h1
      obtain ⟨_, _, h4⟩ := h1
      subst h4
      rw [hl] at h2
      refine ⟨h2, Nat.lt_of_le_of_lt h3 (by decide)⟩
  refine ⟨gL, rfl, ?_, ho.hol, hl, hcap⟩
  rw [h1]
  unfold bvv
  rw [hl]
theorem kept_at0 {k c m : Nat} {C : Int → Option L8} {qs : List (Int × BV)} {Bi Bj : List BV} {x0 : BV} (h : ChOf C (chL qs)) (hq : CQ k m C) (hl : Bi.length = 256) (hm : Bj.map (·.l) = keepL (Bi.map (·.l)) (chL qs)) (h0 : Bi[0]? = some x0) (hld : ldS x0.l (supK c)) (hcm : c + k = m) (h60 : m ≤ 60) :
    Bj.length = 256 ∧ ∃ x, Bj[0]? = some x ∧ ldS x.l (supK m) ∧ (k ≠ 0 → x.l = blkK m) := by
  have hlen : Bj.length = 256 := by
    have h1 := congrArg List.length hm
    rw [List.length_map, keepL_len, List.length_map] at h1
    omega
  refine ⟨hlen, ?_⟩
  obtain ⟨k1, k2⟩ := kept_first h hq (Bi.map (·.l)) (by rw [List.length_map]; exact hl)
  obtain ⟨x, hx⟩ : ∃ x, Bj[0]? = some x := ⟨_, List.getElem?_eq_getElem (by omega)⟩
  have hx2 : (Bj.map (·.l))[0]? = some x.l := by rw [List.getElem?_map, hx]; rfl
  rw [hm] at hx2
  refine ⟨x, hx, ?_⟩
  by_cases hk : k = 0
  · have e : c = m := by omega
    subst e
    rw [k2 hk, List.getElem?_map, h0] at hx2
    injection hx2 with hx2
    rw [← hx2]
    exact ⟨hld, fun h => absurd hk h⟩
  · rw [k1 hk] at hx2
    injection hx2 with hx2
    rw [← hx2]
    exact ⟨blkK_ld m (by omega), fun _ => rfl⟩
/-- The reference's reading of a slot, whatever it holds. -/
theorem unpacked (A : Option Addr) (cb : Nat) (L : L8) (hn : L.length = 256) (hcap : 256 ≤ cb) (hlen : cb < 9223372036854775808) : ∃ (S : Sup) (er : Int), ∀ w, Hol w A L → Calls Tryz.prog 32 #[.slice A 256 cb] w fun e w' => e = .returned (.tuple #[.agg S.cs.toArray, .int .i64 er]) ∧ Below w.heap.size w w' := by
  by_cases h : SOk L
  · exact ⟨sr L, 0, fun w hA => runpack_ok A cb L hn hcap hlen h.2.1 h.2.2 w hA⟩
  · exact ⟨sup0, 210, fun w hA => runpack_not A 256 cb L hn hcap hlen h w hA⟩
/-- How far the law is. -/
structure SV (base k i : Nat) (W : World) (gs : Nat) (A : Option Addr) (cv pk : Nat) (Bs : List BV) : Prop where
  vol : Vol base W gs A cv Bs
  pk : Row W pk 3 [.int .i64 (k : Int)]
  len : Bs.length = 256
  at0 : ∃ x, Bs[0]? = some x ∧ ldS x.l (supK (i * k))
theorem SV.below {base k i : Nat} {W W' : World} {gs : Nat} {A : Option Addr} {cv pk : Nat} {Bs : List BV} (h : SV base k i W gs A cv pk Bs) (hb : Below W.heap.size W W') : SV base k i W' gs A cv pk Bs := ⟨h.vol.below hb, h.pk.kept hb, h.len, h.at0⟩
set_option maxHeartbeats 8000000 in
theorem savesW (nb : Nat) (hnb : nb < 256) (w : World) : Calls Tryz.prog 6 #[.int .u8 (nb : Int)] w fun e w' => e = .returned (.bool true) ∧ Below w.heap.size w w' := by
  have hmf : ∀ (fn : Fn) (first cap : Array Value) (w : World), (Instr.makeFunc fn first cap).run Tryz.prog w = .ok (.func fn first cap) w := fun _ _ _ _ => rfl
  have HST := Lib.hid (p := ∀ w, Calls Tryz.prog 8 #[.int .i64 256] w fun e w' => ∃ gs, e = .returned (.pointer (some ⟨gs, 0, none⟩)) ∧ ∃ A c Bs, Hid (Vol w.heap.size w' gs A c Bs) ∧ Hid (Bs.length = 256 ∧ ∀ x ∈ Bs, x.l = List.replicate 256 0) ∧ Hid (Below w.heap.size w w')) (fun w => start_any 256 (by decide) w)
  obtain ⟨k, hk⟩ : ∃ k, nb % 20 = k := ⟨_, rfl⟩
  have HKL := Lib.hid (p := k < 20) (by omega)
  have hkm : (nb : Int) % 20 = (k : Int) := by omega
  have i1 := Lib.hid (fun x : Sup => info_cs x)
  have hz := Lib.hid zero_sup
  clear hk hnb
  go_enter Tryz.func6, Tryz.ntmps6
  go_wp2_with (first
    | (go_at_call 7; refine (awake_any _).mono ?_; rintro e w1 ⟨rfl, hb⟩
       have HB1 := Lib.hid hb
       clear hb)
    | (go_at_call 8; refine (HST.out _).mono ?_; rintro e w2 ⟨gs, rfl, A, cv, Bs, hv, hB, hb⟩
       have HVOL := hv
       have HBZ := hB
       have HB2 := Lib.hid (p := Below w.heap.size w w2) (below_nxt hb.out HB1.out)
       clear hv hB hb)
    | (refine step_new rfl 3 rfl (.int .i64 0) zero_int rfl ?_; intro pk w3 hr3 hg3 hb3
       have R3 := Lib.hid hr3; have HB3 := Lib.hid hb3; have HG3 := hg3
       have c3 : w3.cell? ⟨pk, 0, none⟩ = some (.int .i64 0) := (hr3.cell 0).trans rfl
       have f3 := hr3.free 0
       clear hr3 hb3 hg3))
  have R4 := Lib.hid (R3.out.put 0 (.int .i64 (k : Int)))
  have hc3 : Chg [pk] w2 (w3.setCell ⟨pk, 0, none⟩ (.int .i64 (k : Int))) := (Chg.of HB3.out).setCell (p := ⟨pk, 0, none⟩) (.inl (by simp)) _
  have hb3 : Below w2.heap.size w2 (w3.setCell ⟨pk, 0, none⟩ (.int .i64 (k : Int))) := hc3.below (Nat.le_refl _) (fun x hx => by have h1 := HG3.out; simp at hx; omega)
  have HB4 := Lib.hid (p := Below w.heap.size w (w3.setCell ⟨pk, 0, none⟩ (.int .i64 (k : Int)))) (below_nxt hb3 HB2.out)
  have HV4 := Lib.hid (p := Vol w1.heap.size (w3.setCell ⟨pk, 0, none⟩ (.int .i64 (k : Int))) gs A cv Bs) (HVOL.out.below hb3)
  have HSV := Lib.hid (p := SV w1.heap.size k 0 (w3.setCell ⟨pk, 0, none⟩ (.int .i64 (k : Int))) gs A cv pk Bs) ⟨HV4.out, R4.out, HBZ.out.1, by
    have hlt : 0 < Bs.length := by rw [HBZ.out.1]; decide
    refine ⟨Bs[0]'hlt, List.getElem?_eq_getElem hlt, ?_⟩
    rw [Nat.zero_mul, supK_zero]
    exact .inl ⟨zeros_not _ (HBZ.out.2 _ (List.getElem_mem _)), rfl⟩⟩
  have HBW := Lib.hid (p := w.heap.size ≤ w1.heap.size) HB1.out.size
  clear HV4 R4 R3 HB3 HB2 HG3 HVOL HBZ c3 f3 hc3 hb3
  generalize w3.setCell ⟨pk, 0, none⟩ (.int .i64 (k : Int)) = W3 at HB4 HSV ⊢
  go_loopw [5] (fun x wr => ∃ (i : Nat) (Bs : List BV), Hid (i ≤ 2) ∧ x = .int .i64 (i : Int) ∧ Hid (SV w1.heap.size k i wr gs A cv pk Bs) ∧ Hid (Below w.heap.size w wr)) (fun x _ => 2 - (intOf x).toNat)
  case atStart => exact ⟨0, Bs, Lib.hid (by decide), rfl, HSV, HB4⟩
  case round =>
    clear HSV HB4
    obtain ⟨i, Bi, HI, rfl, HSI, HBI⟩ := hrel
    rename World => wo
    by_cases hi : i < 2
    · have hii : (i : Int) < 2 := by omega
      have hiw : IntKind.i64.wrap ((i : Int) + 1) = (i : Int) + 1 := by rw [IntKind.wrap_i64]; omega
      have HII := Lib.hid hi
      obtain ⟨c, hc⟩ : ∃ c, i * k = c := ⟨_, rfl⟩
      obtain ⟨m, hm⟩ : ∃ m, c + k = m := ⟨_, rfl⟩
      have HM := Lib.hid (p := c + k = m ∧ m ≤ 60 ∧ (i + 1) * k = m) (by
        have h1 : (i + 1) * k = i * k + k := Nat.succ_mul i k
        have h2 := HKL.out
        have h3 : i * k ≤ 1 * k := Nat.mul_le_mul_right k (by omega)
        omega)
      obtain ⟨x0, hx0, hld0⟩ := HSI.out.at0
      rw [hc] at hld0
      have HX0 := Lib.hid (p := Bi[0]? = some x0 ∧ x0.l.length = 256 ∧ ldS x0.l (supK c)) ⟨hx0, HSI.out.vol.len x0 (List.mem_of_getElem? hx0), hld0⟩
      have HSRC := Lib.hid HSI.out.vol.src
      clear hi hc hm hx0 hld0
      go_wp2_with (first
        | (go_at_call 9; refine (vnew gs _).mono ?_; rintro e w2 ⟨gv, gm, rfl, hv2, hb2⟩)
        | (refine step_new rfl 28 rfl (.pointer none) zero_vptr rfl ?_; intro pv w3 hr3 hg3 hb3
           have R3 := Lib.hid hr3; have HB3 := Lib.hid hb3; have HG3 := hg3
           have c3 : w3.cell? ⟨pv, 0, none⟩ = some (.pointer none) := (hr3.cell 0).trans rfl
           have f3 := hr3.free 0
           clear hr3 hb3 hg3)
        | (refine step_alloc rfl 7 rfl 59 rfl _ hz.out ?_; intro ps w4 hr4 hg4 hb4 hs4
           have R4 := Lib.hid hr4; have HB4 := Lib.hid hb4; have HG4 := hg4
           have npp : pv < ps := by have h1 := R3.out.lt; have h2 := HG4.out; simp at h2; omega
           have cq : w4.cell? ⟨pv, 0, none⟩ = some (.pointer (some ⟨gv, 0, none⟩)) := (((R3.out.put 0 (.pointer (some ⟨gv, 0, none⟩))).kept hb4).cell 0).trans rfl
           clear hr4 hb4 hg4 hs4))
      have HCF1 := Lib.hid (p := ∀ w, (callFunc 27 #[.pointer (some ⟨pv, 0, none⟩), .pointer (some ⟨pk, 0, none⟩), .pointer (some ⟨ps, 0, none⟩)]).run Tryz.prog w = .ok (.enter 27 #[.pointer (some ⟨pv, 0, none⟩), .pointer (some ⟨pk, 0, none⟩), .pointer (some ⟨ps, 0, none⟩)]) w) (fun w => by simp [go_sem])
      have lpv : w2.heap.size ≤ pv := Nat.le_of_eq HG3.out.symm
      have hc23 : Chg [pv] w2 (w3.setCell ⟨pv, 0, none⟩ (.pointer (some ⟨gv, 0, none⟩))) := ((Chg.of HB3.out).setCell (p := ⟨pv, 0, none⟩) (.inl (by simp)) _)
      have hc24 : Chg [pv] w2 w4 := chg_nxt hc23 HB4.out
      have HVV := Lib.hid (hv2.out.below' hc24 (fun x hx => by simp at hx; omega))
      have RV := Lib.hid ((R3.out.put 0 (.pointer (some ⟨gv, 0, none⟩))).kept HB4.out)
      have RP := Lib.hid R4.out
      have hbb : Below wo.heap.size wo w4 := hb2.out.trans (hc24.below hb2.out.size (fun x hx => by have := hb2.out.size; simp at hx; omega))
      have HBB := Lib.hid hbb
      have RK := Lib.hid (HSI.out.pk.kept hbb)
      have lpk : pk < wo.heap.size := HSI.out.pk.lt
      have npg : gv < pv ∧ gm < pv ∧ wo.heap.size ≤ gv ∧ wo.heap.size ≤ gm := ⟨by have := hv2.out.row.lt; omega, by have := hv2.out.map.lt; omega, hv2.out.lo.1, hv2.out.lo.2⟩
      have lps : ps < w4.heap.size := RP.out.lt
      have NPG := Lib.hid (And.intro lpk (And.intro npp (And.intro lpv (And.intro lps npg))))
      clear c3 f3 hc23 hc24 hbb lpk lpv lps npg npp HG4 HB4 R4 HB3 HG3 R3
      have hG8 : ∀ x ∈ [gm, ps], x ≠ gv ∧ x < w4.heap.size := fun x hx => by
        simp at hx
        have h1 := NPG.out
        rcases hx with rfl | rfl
        · exact ⟨HVV.out.ne.symm, HVV.out.map.lt⟩
        · exact ⟨by omega, by omega⟩
      refine (vrun 27 #[.pointer (some ⟨pv, 0, none⟩), .pointer (some ⟨pk, 0, none⟩), .pointer (some ⟨ps, 0, none⟩)] [gm, ps] _ _ HVV.out hG8 HCF1.out (fun r w1' hv hr hc hrb => saves1 k c (by have := HM.out; omega) hv (by have := HBB.out.size; have := hc.size; omega) (by have := HBB.out.size; omega) hr (hc.row RV.out (by have := NPG.out; simp; omega)) (hc.row RK.out (by have := NPG.out; simp; omega)) (hc.row RP.out (by have := NPG.out; simp; omega)) (HSRC.out.keep (HBB.out.trans (hc.below HBB.out.size (fun x hx => by
        have := NPG.out
        simp at hx
        rcases hx with rfl | rfl <;> omega)))) x0.l (see_at0 HX0.out.1) HX0.out.2 (by have := NPG.out; have := hb2.out.size; omega))).mono ?_
      intro e w9 h9
      obtain ⟨rfl, n', C', wa, wb, F, hv9, hn9, hd9, hcF, hF, hsz, hc9⟩ := h9.done (fun _ _ h => h)
      have cp9 : w9.cell? ⟨pv, 0, none⟩ = some (.pointer (some ⟨gv, 0, none⟩)) := hc9.out.cell cq (by have := NPG.out; simp; omega)
      have HP9 := Lib.hid (p := Row w9 ps 59 (supK m).cs) (by
        rw [← HM.out.1]
        refine hcF.out.row hd9.out.1 (fun hx => ?_)
        have h1 := NPG.out
        rcases hF.out ps hx with h | h <;> omega)
      have HQ9 := Lib.hid (p := CQ k m (byL C')) (by rw [← HM.out.1]; exact hd9.out.2)
      have HB9 := Lib.hid (p := Below wo.heap.size wo w9) (HBB.out.trans (hc9.out.below HBB.out.size (fun x hx => by
        have h1 := NPG.out
        have h2 := hb2.out.size
        simp at hx
        rcases hx with rfl | rfl | rfl <;> omega)))
      have HLP := Lib.hid (p := wo.heap.size ≤ ps) (by have := NPG.out; have := hb2.out.size; omega)
      clear cq hcF hF hsz hd9 HCF1
      go_wp2_with (first
        | (go_at_call 30; refine (vchanges2 hv9.out hn9.out).mono ?_; rintro e w10 ⟨qs, A', c', rfl, hco, hpa, hb10, ho10⟩
           have HCO := hco
           have HB10 := Lib.hid (p := Below wo.heap.size wo w10.drew) ((HB9.out.trans (hb10.out.mono HB9.out.size)).trans ((below_drw w10).mono (Nat.le_trans HB9.out.size hb10.out.size)))
           have HP10 := Lib.hid (p := Row w10.drew ps 59 (supK m).cs) ((HP9.out.kept hb10.out).drew)
           have HO10 := Lib.hid (p := w10.drew.ownsRow w9.heap.size 70 2 (.slice A' qs.length c') qs.length (qs.flatMap pcs) ∧ ∀ p ∈ qs, Own8 w9.heap.size w10.drew p.2) ⟨own_kept ho10.out.1 (below_drw _), fun p hp => (ho10.out.2 p hp).below (below_drw _)⟩
           have HLQ := Lib.hid (p := qs.length ≤ 1000) hpa.out.lim
           have HS10 := Lib.hid (p := SV w1.heap.size k i w10.drew gs A cv pk Bi) (HSI.out.below HB10.out)
           have H910 := Lib.hid (p := w9.heap.size ≤ w10.heap.size) hb10.out.size
           clear hco hpa hb10 ho10))
      have HKEEP := Lib.hid (keep_any HS10.out.vol HO10.out.1 HO10.out.2 ⟨rfl, HLQ.out⟩ (fun p hp => by rw [HS10.out.len]; exact told_in HCO.out HQ9.out p hp))
      have cpk : w10.drew.cell? ⟨pk, 0, none⟩ = some (.int .i64 (k : Int)) := (HS10.out.pk.cell 0).trans rfl
      clear cp9 hc9 hv9 hn9
      by_cases hk0 : k = 0
      · have hqn := told_none HCO.out HQ9.out hk0
        have hqz : qs.length = 0 := by rw [hqn]; rfl
        obtain ⟨nq, hnq⟩ : ∃ nq, qs.length = nq := ⟨_, rfl⟩
        have hd1 : decide ((0 : Int) < (nq : Int)) = false := decide_eq_false (by omega)
        have hd3 : decide (0 < nq) = false := decide_eq_false (by omega)
        have hd2 : decide ((0 : Int) < (k : Int)) = false := decide_eq_false (by omega)
        have hd4 : decide (0 < k) = false := decide_eq_false (by omega)
        have hkz : ¬ (0 : Int) < (k : Int) := by omega
        rw [hnq] at HKEEP ⊢
        clear hqz hqn hnq hk0
        refine wp_region_held_drew (S := fun W => W.cell? ⟨pk, 0, none⟩ = some (.int .i64 (k : Int))) (by kernel_rfl) cpk (fun hHeld => ?_)
        refine wpAnyH_take (i := 0) (oi := ⟨some 34, .move (.tmp 9), _, _, _, _⟩) (v := .bool true) rfl (by kernel_rfl) (by kernel_rfl) (by kernel_rfl) (fun _ _ _ h => h) (.inl ⟨by rfl, fun w hSw => by go_simp⟩) (by assumption) ?_
        simp only [Act.put, List.setIfInBounds_toArray, List.set_cons_zero, List.set_cons_succ]
        refine wpAnyH_take (i := 1) (oi := ⟨some 35, .unOp .not 4 (.tmp 34), _, _, _, _⟩) (v := .bool false) rfl (by kernel_rfl) (by kernel_rfl) (by kernel_rfl) (fun _ _ _ h => h) (.inl ⟨by rfl, fun w hSw => by go_simp⟩) (by assumption) ?_
        simp only [Act.put, List.setIfInBounds_toArray, List.set_cons_zero, List.set_cons_succ]
        refine wpAnyH_take (i := 2) (oi := ⟨some 36, .move (.tmp 35), _, _, _, _⟩) (v := .bool false) rfl (by kernel_rfl) (by kernel_rfl) (by kernel_rfl) (fun _ _ _ h => h) (.inl ⟨by rfl, fun w hSw => by go_simp⟩) (by assumption) ?_
        simp only [Act.put, List.setIfInBounds_toArray, List.set_cons_zero, List.set_cons_succ]
        refine wpAnyH_take (i := 3) (oi := ⟨some 37, .move (.tmp 10), _, _, _, _⟩) (v := .slice A' nq c') rfl (by kernel_rfl) (by kernel_rfl) (by kernel_rfl) (fun _ _ _ h => h) (.inl ⟨by rfl, fun w hSw => by go_simp⟩) (by assumption) ?_
        simp only [Act.put, List.setIfInBounds_toArray, List.set_cons_zero, List.set_cons_succ]
        refine wpAnyH_take (i := 4) (oi := ⟨some 38, .call ⟨.builtin .len, #[.tmp 37], #[67]⟩, _, _, _, _⟩) (v := .int .i64 (nq : Int)) rfl (by kernel_rfl) (by kernel_rfl) (by kernel_rfl) (fun _ _ _ h => h) (.inl ⟨by rfl, fun w hSw => by go_simp⟩) (by assumption) ?_
        simp only [Act.put, List.setIfInBounds_toArray, List.set_cons_zero, List.set_cons_succ]
        refine wpAnyH_take (i := 5) (oi := ⟨some 39, .binOp .gtr 3 (.tmp 38) (.const (.int .i64 0)) 3, _, _, _, _⟩) (v := .bool false) rfl (by kernel_rfl) (by kernel_rfl) (by kernel_rfl) (fun _ _ _ h => h) (.inl ⟨by rfl, fun w hSw => by go_simp⟩) (by assumption) ?_
        simp only [Act.put, List.setIfInBounds_toArray, List.set_cons_zero, List.set_cons_succ]
        refine wpAnyH_take (i := 6) (oi := ⟨some 40, .move (.tmp 39), _, _, _, _⟩) (v := .bool false) rfl (by kernel_rfl) (by kernel_rfl) (by kernel_rfl) (fun _ _ _ h => h) (.inl ⟨by rfl, fun w hSw => by go_simp⟩) (by assumption) ?_
        simp only [Act.put, List.setIfInBounds_toArray, List.set_cons_zero, List.set_cons_succ]
        refine wpAnyH_take (i := 7) (oi := ⟨some 41, .move (.tmp 10), _, _, _, _⟩) (v := undef) rfl (by kernel_rfl) (by kernel_rfl) (by kernel_rfl) (fun _ _ _ h => h) (.inr ⟨by rfl, rfl⟩) (by assumption) ?_
        simp only [Act.put, List.setIfInBounds_toArray, List.set_cons_zero, List.set_cons_succ]
        refine wpAnyH_take (i := 8) (oi := ⟨some 42, .indexAddr 67 (.tmp 41) (.const (.int .i64 0)), _, _, _, _⟩) (v := undef) rfl (by kernel_rfl) (by kernel_rfl) (by kernel_rfl) (fun _ _ _ h => h) (.inr ⟨by rfl, rfl⟩) (by assumption) ?_
        simp only [Act.put, List.setIfInBounds_toArray, List.set_cons_zero, List.set_cons_succ]
        refine wpAnyH_take (i := 9) (oi := ⟨some 43, .fieldAddr 70 (.tmp 42) 0, _, _, _, _⟩) (v := undef) rfl (by kernel_rfl) (by kernel_rfl) (by kernel_rfl) (fun _ _ _ h => h) (.inr ⟨by rfl, rfl⟩) (by assumption) ?_
        simp only [Act.put, List.setIfInBounds_toArray, List.set_cons_zero, List.set_cons_succ]
        refine wpAnyH_take (i := 10) (oi := ⟨some 44, .load 3 (.tmp 43), _, _, _, _⟩) (v := undef) rfl (by kernel_rfl) (by kernel_rfl) (by kernel_rfl) (fun _ _ _ h => h) (.inr ⟨by rfl, rfl⟩) (by assumption) ?_
        simp only [Act.put, List.setIfInBounds_toArray, List.set_cons_zero, List.set_cons_succ]
        refine wpAnyH_take (i := 11) (oi := ⟨some 45, .binOp .eql 3 (.tmp 44) (.const (.int .i64 0)) 3, _, _, _, _⟩) (v := undef) rfl (by kernel_rfl) (by kernel_rfl) (by kernel_rfl) (fun _ _ _ h => h) (.inr ⟨by rfl, rfl⟩) (by assumption) ?_
        simp only [Act.put, List.setIfInBounds_toArray, List.set_cons_zero, List.set_cons_succ]
        refine wpAnyH_take (i := 12) (oi := ⟨some 46, .pick (.tmp 40) (.tmp 45) (.const (.bool false)), _, _, _, _⟩) (v := .bool false) rfl (by kernel_rfl) (by kernel_rfl) (by kernel_rfl) (fun _ _ _ h => h) (.inl ⟨by rfl, fun w hSw => by go_simp⟩) (by assumption) ?_
        simp only [Act.put, List.setIfInBounds_toArray, List.set_cons_zero, List.set_cons_succ]
        refine wpAnyH_take (i := 13) (oi := ⟨some 47, .load 3 (.tmp 4), _, _, _, _⟩) (v := .int .i64 (k : Int)) rfl (by kernel_rfl) (by kernel_rfl) (by kernel_rfl) (fun _ _ _ h => h) (.inl ⟨by rfl, fun w hSw => by have z := hSw; go_simp⟩) (by assumption) ?_
        simp only [Act.put, List.setIfInBounds_toArray, List.set_cons_zero, List.set_cons_succ]
        refine wpAnyH_take (i := 14) (oi := ⟨some 48, .binOp .gtr 3 (.tmp 47) (.const (.int .i64 0)) 3, _, _, _, _⟩) (v := .bool false) rfl (by kernel_rfl) (by kernel_rfl) (by kernel_rfl) (fun _ _ _ h => h) (.inl ⟨by rfl, fun w hSw => by go_simp⟩) (by assumption) ?_
        simp only [Act.put, List.setIfInBounds_toArray, List.set_cons_zero, List.set_cons_succ]
        refine wpAnyH_take (i := 15) (oi := ⟨some 49, .binOp .neq 4 (.tmp 46) (.tmp 48) 4, _, _, _, _⟩) (v := .bool false) rfl (by kernel_rfl) (by kernel_rfl) (by kernel_rfl) (fun _ _ _ h => h) (.inl ⟨by rfl, fun w hSw => by go_simp⟩) (by assumption) ?_
        simp only [Act.put, List.setIfInBounds_toArray, List.set_cons_zero, List.set_cons_succ]
        refine wpAnyH_take (i := 16) (oi := ⟨some 50, .pick (.tmp 36) (.const (.bool true)) (.tmp 49), _, _, _, _⟩) (v := .bool false) rfl (by kernel_rfl) (by kernel_rfl) (by kernel_rfl) (fun _ _ _ h => h) (.inl ⟨by rfl, fun w hSw => by go_simp⟩) (by assumption) ?_
        simp only [Act.put, List.setIfInBounds_toArray, List.set_cons_zero, List.set_cons_succ]
        refine wpAnyH_take (i := 17) (oi := ⟨some 51, .move (.tmp 50), _, _, _, _⟩) (v := .bool false) rfl (by kernel_rfl) (by kernel_rfl) (by kernel_rfl) (fun _ _ _ h => h) (.inl ⟨by rfl, fun w hSw => by go_simp⟩) (by assumption) ?_
        simp only [Act.put, List.setIfInBounds_toArray, List.set_cons_zero, List.set_cons_succ]
        refine wpAnyH_take (i := 18) (oi := ⟨some 52, .move (.tmp 3), _, _, _, _⟩) (v := .pointer (some ⟨gs, 0, none⟩)) rfl (by kernel_rfl) (by kernel_rfl) (by kernel_rfl) (fun _ _ _ h => h) (.inl ⟨by rfl, fun w hSw => by go_simp⟩) (by assumption) ?_
        simp only [Act.put, List.setIfInBounds_toArray, List.set_cons_zero, List.set_cons_succ]
        refine wpAnyH_take (i := 19) (oi := ⟨some 53, .move (.tmp 10), _, _, _, _⟩) (v := .slice A' nq c') rfl (by kernel_rfl) (by kernel_rfl) (by kernel_rfl) (fun _ _ _ h => h) (.inl ⟨by rfl, fun w hSw => by go_simp⟩) (by assumption) ?_
        simp only [Act.put, List.setIfInBounds_toArray, List.set_cons_zero, List.set_cons_succ]
        refine wpAnyH_ready (rs := [20]) (by kernel_rfl) (by simp) ?_
        refine AllReadyH.cons (o := ⟨some 54, .call ⟨.value (.func 31), #[.tmp 52, .tmp 53], _⟩, _, _, _, _⟩) rfl (fun K hK => ?_) AllReadyH.nil
        go_simp
        go_at_call 31
        refine HKEEP.out.mono ?_
        rintro e w11 ⟨rfl, Bj, hv, hm2, hc⟩
        have HV11 := hv
        have HP11 := Lib.hid (hc.out.row HP10.out (vol_apart HS10.out.vol HP10.out (by decide)))
        have HK11 := Lib.hid (hc.out.row HS10.out.pk (vol_apart HS10.out.vol HS10.out.pk (by decide)))
        obtain ⟨hlj, x1, hx1, hld1, hx1k⟩ := kept_at0 HCO.out HQ9.out HS10.out.len hm2.out HX0.out.1 HX0.out.2.2 HM.out.1 HM.out.2.1
        have HX1 := Lib.hid (p := x1.l.length = 256 ∧ (k ≠ 0 → x1.l = blkK m)) ⟨hv.out.len x1 (List.mem_of_getElem? hx1), hx1k⟩
        have HS11 := Lib.hid (p := SV w1.heap.size k (i + 1) w11 gs A cv pk Bj) ⟨hv.out, HK11.out, hlj, x1, hx1, by rw [HM.out.2.2]; exact hld1⟩
        have HB11 := Lib.hid (p := Below w.heap.size w w11) ((HBI.out.trans (HB10.out.mono HBI.out.size)).trans (hc.out.below (Nat.le_trans HBI.out.size HB10.out.size) (fun x hx => Nat.le_trans HBW.out (blk_off HS10.out.vol x hx).1)))
        have spk : w11.cell? ⟨pk, 0, none⟩ = some (.int .i64 (k : Int)) := (HK11.out.cell 0).trans rfl
        obtain ⟨gL, hA, v1, hh1, hl1, hcap1, hcap2⟩ := vol_get hv.out 0 hx1
        have HH1 := Lib.hid hh1
        have HCAP := Lib.hid (And.intro hl1 (And.intro hcap1 hcap2))
        have v0 : w11.cell? ⟨gs, 0, none⟩ = some (.slice A 256 cv) := by rw [← hlj]; exact hv.out.row.cell 0
        clear hv hm2 hc hlj hx1 hld1 hx1k hh1 hl1 hcap1 hcap2 HKEEP cpk
        refine hK.out _ _ spk (fun _hH => ?_)
        clear hK K
        refine wpAnyH_take (i := 21) (oi := ⟨some 55, .unOp .not 4 (.tmp 54), _, _, _, _⟩) (v := .bool false) rfl (by kernel_rfl) (by kernel_rfl) (by kernel_rfl) (fun _ _ _ h => h) (.inl ⟨by rfl, fun w hSw => by go_simp⟩) (by assumption) ?_
        simp only [Act.put, List.setIfInBounds_toArray, List.set_cons_zero, List.set_cons_succ]
        refine wpAnyH_take (i := 22) (oi := ⟨some 56, .pick (.tmp 51) (.const (.bool true)) (.tmp 55), _, _, _, _⟩) (v := .bool false) rfl (by kernel_rfl) (by kernel_rfl) (by kernel_rfl) (fun _ _ _ h => h) (.inl ⟨by rfl, fun w hSw => by go_simp⟩) (by assumption) ?_
        simp only [Act.put, List.setIfInBounds_toArray, List.set_cons_zero, List.set_cons_succ]
        refine wpAnyH_done (by kernel_rfl) ?_ _
        subst hA
        obtain ⟨Sx, er, hun⟩ := unpacked x1.A x1.c x1.l HX1.out.1 HCAP.out.2.1 HCAP.out.2.2
        have HUN := Lib.hid hun
        clear hun
        go_wp2_with (first
          | (go_at_call 32; refine (HUN.out _ HH1.out).mono ?_; rintro e w12 ⟨rfl, hb12⟩
             have HB12 := Lib.hid hb12
             clear hb12)
          | (refine step_alloc rfl 11 rfl 59 rfl _ hz.out ?_; intro g11 w13 hr9 hg9 hb9 hs9
             have HR13 := Lib.hid hr9
             have HB13 := Lib.hid (p := Below w11.heap.size w11 w13) (HB12.out.trans (hb9.mono HB12.out.size))
             have HG13 := Lib.hid (p := w11.heap.size ≤ g11) (by rw [hg9.out]; exact HB12.out.size)
             clear hr9 hg9 hb9 hs9)
          | (refine step_store rfl 59 (.tmp 11) (.tmp 65) rfl g11 rfl _ _ Sx.cs rfl HR13.out (by simp [Sup.cs_len]) (i1.out _) (Sup.cs_one _) ?_; intro w14 hr9 hg9 hs9
             have HR14 := Lib.hid hr9
             have HB14 := Lib.hid (p := Below w11.heap.size w11 w14) (below_own HB13.out hg9 HG13.out)
             have HP14 := Lib.hid (HP11.out.kept HB14.out)
             have cpk : w14.cell? ⟨pk, 0, none⟩ = some (.int .i64 (k : Int)) := ((HK11.out.kept HB14.out).cell 0).trans rfl
             clear hr9 hg9 hs9 spk v0 v1))
        go_roundw
        case rel => exact ⟨i + 1, Bj, HII, by go_num, Lib.hid (HS11.out.below HB14.out), Lib.hid (HB11.out.trans (HB14.out.mono HB11.out.size))⟩
        case measure => have := HII.out; simp [intOf]; omega
      · have hd2 : decide ((0 : Int) < (k : Int)) = true := decide_eq_true (by omega)
        have hkz : (0 : Int) < (k : Int) := by omega
        have hk1 : 0 < k := by omega
        obtain ⟨q0, qt, hq0, hq00⟩ := told_first HCO.out HQ9.out hk0
        obtain ⟨gP, hgP⟩ : ∃ gP, A' = some ⟨gP, 0, none⟩ := by
          rcases HO10.out.1.2 with ⟨h1, h2⟩ | ⟨g, cap, cur, h1, _⟩
          · rw [hq0] at h2; simp at h2
          · simp only [Value.slice.injEq] at h1
            exact ⟨g, h1.1⟩
        subst hgP
        have cP : w10.drew.cell? ⟨gP, 0, none⟩ = some (.int .i64 0) := by
          have h0 := HO10.out.1.cells (g := gP) rfl (0 * 2 + 0) _ (by rw [flat_get pcs_len (show qs[0]? = some q0 by rw [hq0]; rfl) 0 (by decide)]; rfl)
          rw [Addr.add_lit, Nat.zero_add] at h0
          rw [h0, hq00]
        have lP : w9.heap.size ≤ gP := (HO10.out.1.lt gP rfl).1
        obtain ⟨nq, hnq⟩ : ∃ nq, qs.length = nq := ⟨_, rfl⟩
        have hnq0 : 0 < nq := by rw [← hnq, hq0]; simp
        have hd1 : decide ((0 : Int) < (nq : Int)) = true := decide_eq_true (by omega)
        have hd3 : decide (0 < nq) = true := decide_eq_true hnq0
        have HNP := Lib.hid (p := gP ∉ blkL A) (fun hg => by have h1 := (blk_off HS10.out.vol gP hg).2; have h2 := (blk_off HSI.out.vol gP hg).2; have h3 := HB9.out.size; omega)
        rw [hnq] at HKEEP ⊢
        clear hq0
        refine wp_region_held_drew (S := fun W => W.cell? ⟨gP, 0, none⟩ = some (.int .i64 0) ∧ W.cell? ⟨pk, 0, none⟩ = some (.int .i64 (k : Int))) (by kernel_rfl) ⟨cP, cpk⟩ (fun hHeld => ?_)
        refine wpAnyH_take (i := 0) (oi := ⟨some 34, .move (.tmp 9), _, _, _, _⟩) (v := .bool true) rfl (by kernel_rfl) (by kernel_rfl) (by kernel_rfl) (fun _ _ _ h => h) (.inl ⟨by rfl, fun w hSw => by go_simp⟩) (by assumption) ?_
        simp only [Act.put, List.setIfInBounds_toArray, List.set_cons_zero, List.set_cons_succ]
        refine wpAnyH_take (i := 1) (oi := ⟨some 35, .unOp .not 4 (.tmp 34), _, _, _, _⟩) (v := .bool false) rfl (by kernel_rfl) (by kernel_rfl) (by kernel_rfl) (fun _ _ _ h => h) (.inl ⟨by rfl, fun w hSw => by go_simp⟩) (by assumption) ?_
        simp only [Act.put, List.setIfInBounds_toArray, List.set_cons_zero, List.set_cons_succ]
        refine wpAnyH_take (i := 2) (oi := ⟨some 36, .move (.tmp 35), _, _, _, _⟩) (v := .bool false) rfl (by kernel_rfl) (by kernel_rfl) (by kernel_rfl) (fun _ _ _ h => h) (.inl ⟨by rfl, fun w hSw => by go_simp⟩) (by assumption) ?_
        simp only [Act.put, List.setIfInBounds_toArray, List.set_cons_zero, List.set_cons_succ]
        refine wpAnyH_take (i := 3) (oi := ⟨some 37, .move (.tmp 10), _, _, _, _⟩) (v := .slice (some ⟨gP, 0, none⟩) nq c') rfl (by kernel_rfl) (by kernel_rfl) (by kernel_rfl) (fun _ _ _ h => h) (.inl ⟨by rfl, fun w hSw => by go_simp⟩) (by assumption) ?_
        simp only [Act.put, List.setIfInBounds_toArray, List.set_cons_zero, List.set_cons_succ]
        refine wpAnyH_take (i := 4) (oi := ⟨some 38, .call ⟨.builtin .len, #[.tmp 37], #[67]⟩, _, _, _, _⟩) (v := .int .i64 (nq : Int)) rfl (by kernel_rfl) (by kernel_rfl) (by kernel_rfl) (fun _ _ _ h => h) (.inl ⟨by rfl, fun w hSw => by go_simp⟩) (by assumption) ?_
        simp only [Act.put, List.setIfInBounds_toArray, List.set_cons_zero, List.set_cons_succ]
        refine wpAnyH_take (i := 5) (oi := ⟨some 39, .binOp .gtr 3 (.tmp 38) (.const (.int .i64 0)) 3, _, _, _, _⟩) (v := .bool true) rfl (by kernel_rfl) (by kernel_rfl) (by kernel_rfl) (fun _ _ _ h => h) (.inl ⟨by rfl, fun w hSw => by go_simp⟩) (by assumption) ?_
        simp only [Act.put, List.setIfInBounds_toArray, List.set_cons_zero, List.set_cons_succ]
        refine wpAnyH_take (i := 6) (oi := ⟨some 40, .move (.tmp 39), _, _, _, _⟩) (v := .bool true) rfl (by kernel_rfl) (by kernel_rfl) (by kernel_rfl) (fun _ _ _ h => h) (.inl ⟨by rfl, fun w hSw => by go_simp⟩) (by assumption) ?_
        simp only [Act.put, List.setIfInBounds_toArray, List.set_cons_zero, List.set_cons_succ]
        refine wpAnyH_take (i := 7) (oi := ⟨some 41, .move (.tmp 10), _, _, _, _⟩) (v := .slice (some ⟨gP, 0, none⟩) nq c') rfl (by kernel_rfl) (by kernel_rfl) (by kernel_rfl) (fun _ _ _ h => h) (.inl ⟨by rfl, fun w hSw => by go_simp⟩) (by assumption) ?_
        simp only [Act.put, List.setIfInBounds_toArray, List.set_cons_zero, List.set_cons_succ]
        refine wpAnyH_take (i := 8) (oi := ⟨some 42, .indexAddr 67 (.tmp 41) (.const (.int .i64 0)), _, _, _, _⟩) (v := .pointer (some ⟨gP, 0, none⟩)) rfl (by kernel_rfl) (by kernel_rfl) (by kernel_rfl) (fun _ _ _ h => h) (.inl ⟨by rfl, fun w hSw => by go_simp⟩) (by assumption) ?_
        simp only [Act.put, List.setIfInBounds_toArray, List.set_cons_zero, List.set_cons_succ]
        refine wpAnyH_take (i := 9) (oi := ⟨some 43, .fieldAddr 70 (.tmp 42) 0, _, _, _, _⟩) (v := .pointer (some ⟨gP, 0, none⟩)) rfl (by kernel_rfl) (by kernel_rfl) (by kernel_rfl) (fun _ _ _ h => h) (.inl ⟨by rfl, fun w hSw => by go_simp⟩) (by assumption) ?_
        simp only [Act.put, List.setIfInBounds_toArray, List.set_cons_zero, List.set_cons_succ]
        refine wpAnyH_take (i := 10) (oi := ⟨some 44, .load 3 (.tmp 43), _, _, _, _⟩) (v := .int .i64 0) rfl (by kernel_rfl) (by kernel_rfl) (by kernel_rfl) (fun _ _ _ h => h) (.inl ⟨by rfl, fun w hSw => by have z := hSw.1; go_simp⟩) (by assumption) ?_
        simp only [Act.put, List.setIfInBounds_toArray, List.set_cons_zero, List.set_cons_succ]
        refine wpAnyH_take (i := 11) (oi := ⟨some 45, .binOp .eql 3 (.tmp 44) (.const (.int .i64 0)) 3, _, _, _, _⟩) (v := .bool true) rfl (by kernel_rfl) (by kernel_rfl) (by kernel_rfl) (fun _ _ _ h => h) (.inl ⟨by rfl, fun w hSw => by go_simp⟩) (by assumption) ?_
        simp only [Act.put, List.setIfInBounds_toArray, List.set_cons_zero, List.set_cons_succ]
        refine wpAnyH_take (i := 12) (oi := ⟨some 46, .pick (.tmp 40) (.tmp 45) (.const (.bool false)), _, _, _, _⟩) (v := .bool true) rfl (by kernel_rfl) (by kernel_rfl) (by kernel_rfl) (fun _ _ _ h => h) (.inl ⟨by rfl, fun w hSw => by go_simp⟩) (by assumption) ?_
        simp only [Act.put, List.setIfInBounds_toArray, List.set_cons_zero, List.set_cons_succ]
        refine wpAnyH_take (i := 13) (oi := ⟨some 47, .load 3 (.tmp 4), _, _, _, _⟩) (v := .int .i64 (k : Int)) rfl (by kernel_rfl) (by kernel_rfl) (by kernel_rfl) (fun _ _ _ h => h) (.inl ⟨by rfl, fun w hSw => by have z := hSw.2; go_simp⟩) (by assumption) ?_
        simp only [Act.put, List.setIfInBounds_toArray, List.set_cons_zero, List.set_cons_succ]
        refine wpAnyH_take (i := 14) (oi := ⟨some 48, .binOp .gtr 3 (.tmp 47) (.const (.int .i64 0)) 3, _, _, _, _⟩) (v := .bool true) rfl (by kernel_rfl) (by kernel_rfl) (by kernel_rfl) (fun _ _ _ h => h) (.inl ⟨by rfl, fun w hSw => by go_simp⟩) (by assumption) ?_
        simp only [Act.put, List.setIfInBounds_toArray, List.set_cons_zero, List.set_cons_succ]
        refine wpAnyH_take (i := 15) (oi := ⟨some 49, .binOp .neq 4 (.tmp 46) (.tmp 48) 4, _, _, _, _⟩) (v := .bool false) rfl (by kernel_rfl) (by kernel_rfl) (by kernel_rfl) (fun _ _ _ h => h) (.inl ⟨by rfl, fun w hSw => by go_simp⟩) (by assumption) ?_
        simp only [Act.put, List.setIfInBounds_toArray, List.set_cons_zero, List.set_cons_succ]
        refine wpAnyH_take (i := 16) (oi := ⟨some 50, .pick (.tmp 36) (.const (.bool true)) (.tmp 49), _, _, _, _⟩) (v := .bool false) rfl (by kernel_rfl) (by kernel_rfl) (by kernel_rfl) (fun _ _ _ h => h) (.inl ⟨by rfl, fun w hSw => by go_simp⟩) (by assumption) ?_
        simp only [Act.put, List.setIfInBounds_toArray, List.set_cons_zero, List.set_cons_succ]
        refine wpAnyH_take (i := 17) (oi := ⟨some 51, .move (.tmp 50), _, _, _, _⟩) (v := .bool false) rfl (by kernel_rfl) (by kernel_rfl) (by kernel_rfl) (fun _ _ _ h => h) (.inl ⟨by rfl, fun w hSw => by go_simp⟩) (by assumption) ?_
        simp only [Act.put, List.setIfInBounds_toArray, List.set_cons_zero, List.set_cons_succ]
        refine wpAnyH_take (i := 18) (oi := ⟨some 52, .move (.tmp 3), _, _, _, _⟩) (v := .pointer (some ⟨gs, 0, none⟩)) rfl (by kernel_rfl) (by kernel_rfl) (by kernel_rfl) (fun _ _ _ h => h) (.inl ⟨by rfl, fun w hSw => by go_simp⟩) (by assumption) ?_
        simp only [Act.put, List.setIfInBounds_toArray, List.set_cons_zero, List.set_cons_succ]
        refine wpAnyH_take (i := 19) (oi := ⟨some 53, .move (.tmp 10), _, _, _, _⟩) (v := .slice (some ⟨gP, 0, none⟩) nq c') rfl (by kernel_rfl) (by kernel_rfl) (by kernel_rfl) (fun _ _ _ h => h) (.inl ⟨by rfl, fun w hSw => by go_simp⟩) (by assumption) ?_
        simp only [Act.put, List.setIfInBounds_toArray, List.set_cons_zero, List.set_cons_succ]
        refine wpAnyH_ready (rs := [20]) (by kernel_rfl) (by simp) ?_
        refine AllReadyH.cons (o := ⟨some 54, .call ⟨.value (.func 31), #[.tmp 52, .tmp 53], _⟩, _, _, _, _⟩) rfl (fun K hK => ?_) AllReadyH.nil
        go_simp
        go_at_call 31
        refine HKEEP.out.mono ?_
        rintro e w11 ⟨rfl, Bj, hv, hm2, hc⟩
        have HV11 := hv
        have HP11 := Lib.hid (hc.out.row HP10.out (vol_apart HS10.out.vol HP10.out (by decide)))
        have HK11 := Lib.hid (hc.out.row HS10.out.pk (vol_apart HS10.out.vol HS10.out.pk (by decide)))
        obtain ⟨hlj, x1, hx1, hld1, hx1k⟩ := kept_at0 HCO.out HQ9.out HS10.out.len hm2.out HX0.out.1 HX0.out.2.2 HM.out.1 HM.out.2.1
        have HX1 := Lib.hid (p := x1.l.length = 256 ∧ (k ≠ 0 → x1.l = blkK m)) ⟨hv.out.len x1 (List.mem_of_getElem? hx1), hx1k⟩
        have HS11 := Lib.hid (p := SV w1.heap.size k (i + 1) w11 gs A cv pk Bj) ⟨hv.out, HK11.out, hlj, x1, hx1, by rw [HM.out.2.2]; exact hld1⟩
        have HB11 := Lib.hid (p := Below w.heap.size w w11) ((HBI.out.trans (HB10.out.mono HBI.out.size)).trans (hc.out.below (Nat.le_trans HBI.out.size HB10.out.size) (fun x hx => Nat.le_trans HBW.out (blk_off HS10.out.vol x hx).1)))
        have spk : w11.cell? ⟨pk, 0, none⟩ = some (.int .i64 (k : Int)) := (HK11.out.cell 0).trans rfl
        have spP : w11.cell? ⟨gP, 0, none⟩ = some (.int .i64 0) := hc.out.cell cP HNP.out
        clear cP
        obtain ⟨gL, hA, v1, hh1, hl1, hcap1, hcap2⟩ := vol_get hv.out 0 hx1
        have HH1 := Lib.hid hh1
        have HCAP := Lib.hid (And.intro hl1 (And.intro hcap1 hcap2))
        have v0 : w11.cell? ⟨gs, 0, none⟩ = some (.slice A 256 cv) := by rw [← hlj]; exact hv.out.row.cell 0
        clear hv hm2 hc hlj hx1 hld1 hx1k hh1 hl1 hcap1 hcap2 HKEEP cpk
        refine hK.out _ _ ⟨spP, spk⟩ (fun _hH => ?_)
        clear hK K
        refine wpAnyH_take (i := 21) (oi := ⟨some 55, .unOp .not 4 (.tmp 54), _, _, _, _⟩) (v := .bool false) rfl (by kernel_rfl) (by kernel_rfl) (by kernel_rfl) (fun _ _ _ h => h) (.inl ⟨by rfl, fun w hSw => by go_simp⟩) (by assumption) ?_
        simp only [Act.put, List.setIfInBounds_toArray, List.set_cons_zero, List.set_cons_succ]
        refine wpAnyH_take (i := 22) (oi := ⟨some 56, .pick (.tmp 51) (.const (.bool true)) (.tmp 55), _, _, _, _⟩) (v := .bool false) rfl (by kernel_rfl) (by kernel_rfl) (by kernel_rfl) (fun _ _ _ h => h) (.inl ⟨by rfl, fun w hSw => by go_simp⟩) (by assumption) ?_
        simp only [Act.put, List.setIfInBounds_toArray, List.set_cons_zero, List.set_cons_succ]
        refine wpAnyH_done (by kernel_rfl) ?_ _
        subst hA
        have HUN := Lib.hid (p := ∀ w, Hol w x1.A x1.l → Calls Tryz.prog 32 #[.slice x1.A 256 x1.c] w fun e w' => e = .returned (.tuple #[.agg (supK m).cs.toArray, .int .i64 0]) ∧ Below w.heap.size w w') (fun w hA => by
          have h1 := HX1.out.2 hk0
          have h2 := blkK_ok m (by have := HM.out; omega)
          rw [h1] at hA
          have h3 := runpack_ok x1.A x1.c (blkK m) (blkK_len m) HCAP.out.2.1 HCAP.out.2.2 h2.2.1 h2.2.2 w hA
          rw [blkK_sr m (by have := HM.out; omega)] at h3
          exact h3)
        have HEQ := Lib.hid (p := ∀ w, (Op.equalIn 10000 59 (.agg (supK m).cs.toArray) (.agg (supK m).cs.toArray)).run Tryz.prog w = .ok true w) (fun w => by rw [← supK_eq m]; exact eq_sup _ _ _ w)
        have hmw : ((i : Int) + 1) * (k : Int) = (m : Int) := by have h1 := HM.out.2.2; rw [← h1]; simp
        have hm0 : IntKind.i64.wrap (m : Int) = (m : Int) := by rw [IntKind.wrap_i64]; have := HM.out; omega
        have h1w : IntKind.i64.wrap (1 + (m : Int)) = 1 + (m : Int) := by rw [IntKind.wrap_i64]; have := HM.out; omega
        have h1u : IntKind.u64.wrap (1 + (m : Int)) = 1 + (m : Int) := by rw [IntKind.wrap_u64]; have := HM.out; omega
        go_wp2_with (first
          | (go_at_call 32; refine (HUN.out _ HH1.out).mono ?_; rintro e w12 ⟨rfl, hb12⟩
             have HB12 := Lib.hid hb12
             clear hb12)
          | (refine step_alloc rfl 11 rfl 59 rfl _ hz.out ?_; intro g11 w13 hr9 hg9 hb9 hs9
             have HR13 := Lib.hid hr9
             have HB13 := Lib.hid (p := Below w11.heap.size w11 w13) (HB12.out.trans (hb9.mono HB12.out.size))
             have HG13 := Lib.hid (p := w11.heap.size ≤ g11) (by rw [hg9.out]; exact HB12.out.size)
             clear hr9 hg9 hb9 hs9)
          | (refine step_store rfl 59 (.tmp 11) (.tmp 65) rfl g11 rfl _ _ (supK m).cs rfl HR13.out (by simp [Sup.cs_len]) (i1.out _) (Sup.cs_one _) ?_; intro w14 hr9 hg9 hs9
             have HR14 := Lib.hid hr9
             have HB14 := Lib.hid (p := Below w11.heap.size w11 w14) (below_own HB13.out hg9 HG13.out)
             have HP14 := Lib.hid (HP11.out.kept HB14.out)
             have cpk : w14.cell? ⟨pk, 0, none⟩ = some (.int .i64 (k : Int)) := ((HK11.out.kept HB14.out).cell 0).trans rfl
             have cs0 : w14.cell? ⟨ps, 0, none⟩ = some (.int .u64 (1 + (m : Int))) := by
               rw [HP14.out.cell, Sup.c_s]
               show some (Value.int .u64 (((1 + m : Nat)) : Int)) = _
               rw [Int.natCast_add]
               rfl
             clear hr9 hg9 hs9 spk v0 v1)
          | (refine step_load_g (by rfl) 73 rfl 59 (.tmp 7) rfl ps rfl (supK m).cs _ HP14.out.all Tryz.underlying59 rfl (i1.out _) ?_)
          | (refine step_load_g (by rfl) 74 rfl 59 (.tmp 11) rfl g11 rfl (supK m).cs _ HR14.out.all Tryz.underlying59 rfl (i1.out _) ?_)
          | (refine step_neq (by rfl) 59 59 (.tmp 73) (.tmp 74) rfl _ _ rfl rfl sup_guard true (fun w => HEQ.out w) ?_))
        go_roundw
        case rel => exact ⟨i + 1, Bj, HII, by go_num, Lib.hid (HS11.out.below HB14.out), Lib.hid (HB11.out.trans (HB14.out.mono HB11.out.size))⟩
        case measure => have := HII.out; simp [intOf]; omega
    · have hiz : ¬ (i : Int) < 2 := by omega
      clear hi
      go_wp2
      go_ret
      exact ⟨rfl, HBI.out⟩
end
end Go.Proofs.YtfbfeplegdpemaaGreat
