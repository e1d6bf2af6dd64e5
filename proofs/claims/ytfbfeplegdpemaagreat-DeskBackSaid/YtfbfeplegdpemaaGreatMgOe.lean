/- DeskBack, walked. No conditions. -/
import Derived.Test.YtfbfeplegdpemaaGreatOd
import Derived.Test.YtfbfeplegdpemaaGreatMgFd
import Derived.Test.YtfbfeplegdpemaaGreatMgMem
import Derived.Test.YtfbfeplegdpemaaGreatFa
set_option linter.unusedVariables false
set_option maxRecDepth 20000
namespace Go.Proofs.YtfbfeplegdpemaaGreat
open Go.RowKit

theorem below_new {w u v : World} {g : Nat} {x : Value} (hb : Below w.heap.size w u) (hn : Below u.heap.size u v) (hg : w.heap.size ≤ g) : Below w.heap.size w (v.setCell ⟨g, 0, none⟩ x) :=
  ((Chg.of (F := [g]) (below_nxt hn hb)).setCell (p := ⟨g, 0, none⟩) (.inl (by simp)) x).below (Nat.le_refl _) (fun y hy => by simp at hy; omega)
set_option maxHeartbeats 8000000 in
theorem backW (xp xq : Nat) (hxp : xp < 65536) (hxq : xq < 65536) (A B : Option Addr) (la lb c d : Nat) (l k : L8) (hlen : l.length = la) (hlc : la ≤ c) (hmax : la ≤ 9223372036854775807) (hlen2 : k.length = lb) (hlc2 : lb ≤ d) (hmax2 : lb ≤ 9223372036854775807) (w : World) (hD : Hol w A l) (hE : Hol w B k) : Calls Tryz.prog 3 #[.slice A la c, .slice B lb d, .agg #[.int .u16 (xp : Int), .int .u16 (xq : Int)]] w fun e w' => e = .returned (.bool true) ∧ Below w.heap.size w w' := by
  have hmf : ∀ (fn : Fn) (first cap : Array Value) (w : World), (Instr.makeFunc fn first cap).run Tryz.prog w = .ok (.func fn first cap) w := fun _ _ _ _ => rfl
  have HST := Lib.hid (p := ∀ w, Calls Tryz.prog 8 #[.int .i64 256] w fun e w' => ∃ gs, e = .returned (.pointer (some ⟨gs, 0, none⟩)) ∧ ∃ A c Bs, Hid (Vol w.heap.size w' gs A c Bs) ∧ Hid (Bs.length = 256 ∧ ∀ x ∈ Bs, x.l = List.replicate 256 0) ∧ Hid (Below w.heap.size w w')) (fun w => start_any 256 (by decide) w)
  obtain ⟨p, hp⟩ : ∃ p, xp % 3000 = p := ⟨_, rfl⟩
  obtain ⟨q, hq⟩ : ∃ q, xq % 3000 = q := ⟨_, rfl⟩
  have HPQ := Lib.hid (p := p < 3000 ∧ q < 3000) (by omega)
  have ho1 : IntKind.i64.wrap (xp : Int) = (xp : Int) := by rw [IntKind.wrap_i64]; omega
  have ho2 : Int.tmod (xp : Int) 3000 = (p : Int) := by rw [Int.tmod_eq_emod_of_nonneg (by omega)]; omega
  have hq1 : IntKind.i64.wrap (xq : Int) = (xq : Int) := by rw [IntKind.wrap_i64]; omega
  have hq2 : Int.tmod (xq : Int) 3000 = (q : Int) := by rw [Int.tmod_eq_emod_of_nonneg (by omega)]; omega
  have HD := Lib.hid hD
  have HE := Lib.hid hE
  have HLA := Lib.hid (p := l.length = la ∧ la ≤ c) ⟨hlen, hlc⟩
  have HLB := Lib.hid (p := k.length = lb ∧ lb ≤ d) ⟨hlen2, hlc2⟩
  have HMAX := Lib.hid (And.intro hmax hmax2)
  clear hD hE hxp hxq hp hq hlen hlc hmax hlen2 hlc2 hmax2
  by_cases hbig : 3000 < la
  · have hbi : (3000 : Int) < (la : Int) := by omega
    clear hbig
    go_enter Tryz.func3, Tryz.ntmps3
    go_wp2_with (first
      | (refine step_box1 rfl 22 (.tmp 0) rfl (.slice A la c) rfl rfl ?_; intro pa w1 hr2 hg2 hb2
         have RA1 := Lib.hid hr2
         have B1 := Lib.hid hb2
         clear hr2 hg2 hb2)
      | (refine step_box1 rfl 22 (.tmp 1) rfl (.slice B lb d) rfl rfl ?_; intro pb w2 hr2 hg2 hb2
         have RB2 := Lib.hid hr2
         have RA2 := Lib.hid (RA1.out.kept hb2)
         have B2 := Lib.hid (below_nxt hb2 B1.out)
         clear hr2 hg2 hb2)
      | (refine step_box rfl 5 rfl 24 (.tmp 2) rfl [.int .u16 (xp : Int), .int .u16 (xq : Int)] rfl ?_; intro px w3 hr2 hg2 hb2 hs2
         have RX3 := Lib.hid hr2
         have RB3 := Lib.hid (RB2.out.kept hb2)
         have RA3 := Lib.hid (RA2.out.kept hb2)
         have B3 := Lib.hid (below_nxt hb2 B2.out)
         clear hr2 hg2 hb2 hs2)
      | (go_at_call 7; refine (awake_any _).mono ?_; rintro e w4 ⟨rfl, hb⟩
         have RX4 := Lib.hid (RX3.out.kept hb)
         have RB4 := Lib.hid (RB3.out.kept hb)
         have RA4 := Lib.hid (RA3.out.kept hb)
         have B4 := Lib.hid (below_nxt hb B3.out)
         have cd : w4.cell? ⟨pa, 0, none⟩ = some (.slice A la c) := (RA4.out.cell 0).trans rfl
         have ce : w4.cell? ⟨pb, 0, none⟩ = some (.slice B lb d) := (RB4.out.cell 0).trans rfl
         clear hb))
    go_ret
    exact ⟨rfl, B4.out⟩
  have hbi : ¬ (3000 : Int) < (la : Int) := by omega
  have H3 := Lib.hid (p := la ≤ 3000) (by omega)
  clear hbig
  by_cases hbig : 3000 < lb
  · have hbj : (3000 : Int) < (lb : Int) := by omega
    clear hbig
    go_enter Tryz.func3, Tryz.ntmps3
    go_wp2_with (first
      | (refine step_box1 rfl 22 (.tmp 0) rfl (.slice A la c) rfl rfl ?_; intro pa w1 hr2 hg2 hb2
         have RA1 := Lib.hid hr2
         have B1 := Lib.hid hb2
         clear hr2 hg2 hb2)
      | (refine step_box1 rfl 22 (.tmp 1) rfl (.slice B lb d) rfl rfl ?_; intro pb w2 hr2 hg2 hb2
         have RB2 := Lib.hid hr2
         have RA2 := Lib.hid (RA1.out.kept hb2)
         have B2 := Lib.hid (below_nxt hb2 B1.out)
         clear hr2 hg2 hb2)
      | (refine step_box rfl 5 rfl 24 (.tmp 2) rfl [.int .u16 (xp : Int), .int .u16 (xq : Int)] rfl ?_; intro px w3 hr2 hg2 hb2 hs2
         have RX3 := Lib.hid hr2
         have RB3 := Lib.hid (RB2.out.kept hb2)
         have RA3 := Lib.hid (RA2.out.kept hb2)
         have B3 := Lib.hid (below_nxt hb2 B2.out)
         clear hr2 hg2 hb2 hs2)
      | (go_at_call 7; refine (awake_any _).mono ?_; rintro e w4 ⟨rfl, hb⟩
         have RX4 := Lib.hid (RX3.out.kept hb)
         have RB4 := Lib.hid (RB3.out.kept hb)
         have RA4 := Lib.hid (RA3.out.kept hb)
         have B4 := Lib.hid (below_nxt hb B3.out)
         have cd : w4.cell? ⟨pa, 0, none⟩ = some (.slice A la c) := (RA4.out.cell 0).trans rfl
         have ce : w4.cell? ⟨pb, 0, none⟩ = some (.slice B lb d) := (RB4.out.cell 0).trans rfl
         clear hb))
    go_ret
    exact ⟨rfl, B4.out⟩
  have hbj : ¬ (3000 : Int) < (lb : Int) := by omega
  have H4 := Lib.hid (p := lb ≤ 3000) (by omega)
  clear hbig
  go_enter Tryz.func3, Tryz.ntmps3
  go_wp2_with (first
    | (refine step_box1 rfl 22 (.tmp 0) rfl (.slice A la c) rfl rfl ?_; intro pa w1 hr2 hg2 hb2
       have RA1 := Lib.hid hr2
       have B1 := Lib.hid hb2
       clear hr2 hg2 hb2)
    | (refine step_box1 rfl 22 (.tmp 1) rfl (.slice B lb d) rfl rfl ?_; intro pb w2 hr2 hg2 hb2
       have RB2 := Lib.hid hr2
       have RA2 := Lib.hid (RA1.out.kept hb2)
       have B2 := Lib.hid (below_nxt hb2 B1.out)
       clear hr2 hg2 hb2)
    | (refine step_box rfl 5 rfl 24 (.tmp 2) rfl [.int .u16 (xp : Int), .int .u16 (xq : Int)] rfl ?_; intro px w3 hr2 hg2 hb2 hs2
       have RX3 := Lib.hid hr2
       have RB3 := Lib.hid (RB2.out.kept hb2)
       have RA3 := Lib.hid (RA2.out.kept hb2)
       have B3 := Lib.hid (below_nxt hb2 B2.out)
       clear hr2 hg2 hb2 hs2)
    | (go_at_call 7; refine (awake_any _).mono ?_; rintro e w4 ⟨rfl, hb⟩
       have RX4 := Lib.hid (RX3.out.kept hb)
       have RB4 := Lib.hid (RB3.out.kept hb)
       have RA4 := Lib.hid (RA3.out.kept hb)
       have B4 := Lib.hid (below_nxt hb B3.out)
       have cd : w4.cell? ⟨pa, 0, none⟩ = some (.slice A la c) := (RA4.out.cell 0).trans rfl
       have ce : w4.cell? ⟨pb, 0, none⟩ = some (.slice B lb d) := (RB4.out.cell 0).trans rfl
       clear hb)
    | (go_at_call 8; refine (HST.out _).mono ?_; rintro e w5 ⟨gs, rfl, VA, vc, Bs, hv, hB, hb⟩
       have HS1 := Lib.hid hv.out.src
       have HBZ := hB
       have RX5 := Lib.hid (RX4.out.kept hb.out)
       have RB5 := Lib.hid (RB4.out.kept hb.out)
       have RA5 := Lib.hid (RA4.out.kept hb.out)
       have B5 := Lib.hid (below_nxt hb.out B4.out)
       clear hv hB hb cd ce)
    | (go_at_call 9; refine (vnew gs _).mono ?_; rintro e w6 ⟨gv, gm, rfl, hv2, hb2⟩
       have HB6 := Lib.hid hb2.out
       have HVV6 := Lib.hid hv2.out
       have RX6 := Lib.hid (RX5.out.kept hb2.out)
       clear hv2 hb2)
    | (refine step_new rfl 28 rfl (.pointer none) zero_vptr rfl ?_; intro pv w7 hr3 hg3 hb3
       have R7 := Lib.hid (hr3.put 0 (.pointer (some ⟨gv, 0, none⟩)))
       have L7 := Lib.hid (p := w6.heap.size ≤ pv) (Nat.le_of_eq hg3.out.symm)
       have D7 := Lib.hid (below_new (x := .pointer (some ⟨gv, 0, none⟩)) (Below.refl _ _) hb3 L7.out)
       have c3 : w7.cell? ⟨pv, 0, none⟩ = some (.pointer none) := (hr3.cell 0).trans rfl
       have f3 := hr3.free 0
       have cx : (w7.setCell ⟨pv, 0, none⟩ (.pointer (some ⟨gv, 0, none⟩))).cell? ⟨px, 0, none⟩ = some (.int .u16 (xp : Int)) := ((RX6.out.kept D7.out).cell 0).trans rfl
       clear hr3 hb3 hg3)
    | (refine step_new (o := ⟨some 9, .alloc 3, _, _, _, _⟩) rfl 3 rfl (.int .i64 0) zero_int rfl ?_; intro pp w8 hr3 hg3 hb3
       have R8 := Lib.hid (hr3.put 0 (.int .i64 (p : Int)))
       have L8_ := Lib.hid (p := w6.heap.size ≤ pp ∧ pv < pp) (by have h1 := R7.out.lt; have h2 := D7.out.size; rw [hg3.out]; exact ⟨h2, h1⟩)
       have D8 := Lib.hid (below_new (x := .int .i64 (p : Int)) D7.out hb3 L8_.out.1)
       have RV8 := Lib.hid ((R7.out.kept hb3).far (p := ⟨pp, 0, none⟩) (by have := L8_.out; simp; omega) (.int .i64 (p : Int)))
       have c8 : w8.cell? ⟨pp, 0, none⟩ = some (.int .i64 0) := (hr3.cell 0).trans rfl
       have f8 := hr3.free 0
       have cy : (w8.setCell ⟨pp, 0, none⟩ (.int .i64 (p : Int))).cell? ⟨px, 1, none⟩ = some (.int .u16 (xq : Int)) := ((RX6.out.kept D8.out).cell 1).trans rfl
       clear hr3 hb3 hg3 c3 f3 cx)
    | (refine step_new (o := ⟨some 10, .alloc 3, _, _, _, _⟩) rfl 3 rfl (.int .i64 0) zero_int rfl ?_; intro pq w9 hr3 hg3 hb3
       have R9 := Lib.hid (hr3.put 0 (.int .i64 (q : Int)))
       have L9 := Lib.hid (p := w6.heap.size ≤ pq ∧ pv < pq ∧ pp < pq) (by have h1 := R8.out.lt; have h2 := D8.out.size; have h3 := RV8.out.lt; rw [hg3.out]; exact ⟨h2, h3, h1⟩)
       have D9 := Lib.hid (below_new (x := .int .i64 (q : Int)) D8.out hb3 L9.out.1)
       have RV9 := Lib.hid ((RV8.out.kept hb3).far (p := ⟨pq, 0, none⟩) (by have := L9.out; simp; omega) (.int .i64 (q : Int)))
       have RP9 := Lib.hid ((R8.out.kept hb3).far (p := ⟨pq, 0, none⟩) (by have := L9.out; simp; omega) (.int .i64 (q : Int)))
       have c9 : w9.cell? ⟨pq, 0, none⟩ = some (.int .i64 0) := (hr3.cell 0).trans rfl
       have f9 := hr3.free 0
       clear hr3 hb3 hg3 c8 f8 cy)
    | (refine step_new rfl 4 rfl (.bool false) zero_bool rfl ?_; intro pr w10 hr3 hg3 hb3
       have R10 := Lib.hid (hr3.put 0 (.bool false))
       have L10 := Lib.hid (p := w6.heap.size ≤ pr ∧ pv < pr ∧ pp < pr ∧ pq < pr) (by have h1 := R9.out.lt; have h2 := D9.out.size; have h3 := RV9.out.lt; have h4 := RP9.out.lt; rw [hg3.out]; exact ⟨h2, h3, h4, h1⟩)
       have D10 := Lib.hid (below_new (x := .bool false) D9.out hb3 L10.out.1)
       have RV10 := Lib.hid ((RV9.out.kept hb3).far (p := ⟨pr, 0, none⟩) (by have := L10.out; simp; omega) (.bool false))
       have RP10 := Lib.hid ((RP9.out.kept hb3).far (p := ⟨pr, 0, none⟩) (by have := L10.out; simp; omega) (.bool false))
       have RQ10 := Lib.hid ((R9.out.kept hb3).far (p := ⟨pr, 0, none⟩) (by have := L10.out; simp; omega) (.bool false))
       have c10 : w10.cell? ⟨pr, 0, none⟩ = some (.bool false) := (hr3.cell 0).trans rfl
       have f10 := hr3.free 0
       have cq : (w10.setCell ⟨pr, 0, none⟩ (.bool false)).cell? ⟨pv, 0, none⟩ = some (.pointer (some ⟨gv, 0, none⟩)) := (RV10.out.cell 0).trans rfl
       clear hr3 hb3 hg3 c9 f9))
  have HCF1 := Lib.hid (p := ∀ w, (callFunc 12 #[.pointer (some ⟨pv, 0, none⟩), .pointer (some ⟨pp, 0, none⟩), .pointer (some ⟨pa, 0, none⟩), .pointer (some ⟨pq, 0, none⟩), .pointer (some ⟨pb, 0, none⟩), .pointer (some ⟨pr, 0, none⟩)]).run Tryz.prog w = .ok (.enter 12 #[.pointer (some ⟨pv, 0, none⟩), .pointer (some ⟨pp, 0, none⟩), .pointer (some ⟨pa, 0, none⟩), .pointer (some ⟨pq, 0, none⟩), .pointer (some ⟨pb, 0, none⟩), .pointer (some ⟨pr, 0, none⟩)]) w) (fun w => by simp [go_sem])
  have HVV := Lib.hid (HVV6.out.below D10.out)
  have HBB := Lib.hid (below_nxt D10.out HB6.out)
  have RXW := Lib.hid (RA5.out.kept HBB.out)
  have RYW := Lib.hid (RB5.out.kept HBB.out)
  have npg : gv < pv ∧ gm < pv := ⟨by have := HVV6.out.row.lt; have := L7.out; omega, by have := HVV6.out.map.lt; have := L7.out; omega⟩
  have lpw : pr < (w10.setCell ⟨pr, 0, none⟩ (.bool false)).heap.size := R10.out.lt
  have lo5 : pa < w5.heap.size ∧ pb < w5.heap.size ∧ w5.heap.size ≤ gv ∧ w5.heap.size ≤ gm ∧ w5.heap.size ≤ w6.heap.size := ⟨RA5.out.lt, RB5.out.lt, HVV6.out.lo.1, HVV6.out.lo.2, HB6.out.size⟩
  clear c10 f10
  generalize w10.setCell ⟨pr, 0, none⟩ (.bool false) = W8 at HVV HBB RXW RYW RV10 RP10 RQ10 R10 D10 lpw cq ⊢
  have hG8 : ∀ x ∈ [gm, pr], x ≠ gv ∧ x < W8.heap.size := fun x hx => by
    simp at hx
    have := L10.out
    rcases hx with rfl | rfl
    · exact ⟨HVV.out.ne.symm, HVV.out.map.lt⟩
    · exact ⟨by omega, lpw⟩
  refine (vrun 12 #[.pointer (some ⟨pv, 0, none⟩), .pointer (some ⟨pp, 0, none⟩), .pointer (some ⟨pa, 0, none⟩), .pointer (some ⟨pq, 0, none⟩), .pointer (some ⟨pb, 0, none⟩), .pointer (some ⟨pr, 0, none⟩)] [gm, pr] _ _ HVV.out hG8 HCF1.out (fun r w1' hv hr hc hrb => by
    have hbel : Below w5.heap.size w5 w1' := HBB.out.trans (hc.below HBB.out.size (fun x hx => by
      simp at hx
      rcases hx with rfl | rfl <;> omega))
    have h8 := L8_.out
    have h9 := L9.out
    have h10 := L10.out
    exact back1 (A := A) (B := B) (c := c) (d := d) (la := la) (lb := lb) (l := l) (k := k) p q HPQ.out.1 HPQ.out.2 hv hbel.size (by have := HBB.out.size; omega) hr (hc.row RV10.out (by simp; omega)) (hc.row RP10.out (by simp; omega)) (hc.row RXW.out (by simp; omega)) (hc.row RQ10.out (by simp; omega)) (hc.row RYW.out (by simp; omega)) (hc.row R10.out (by simp; omega)) (HS1.out.keep hbel) HBZ.out (by omega) (holB_of HD.out (below_nxt hbel B5.out) B5.out.size) (holB_of HE.out (below_nxt hbel B5.out) B5.out.size) ⟨HLA.out.1, HLA.out.2, H3.out⟩ ⟨HLB.out.1, HLB.out.2, H4.out⟩)).mono ?_
  intro e w9 h9
  obtain ⟨rfl, n', C', wa, wb, F, hv9, hn9, hd9, hcF, hF, hsz, hc9⟩ := h9.done (fun _ _ h => h)
  have cr9 : w9.cell? ⟨pr, 0, none⟩ = some (.bool true) := hcF.out.cell hd9.out (fun hx => by have := L10.out; rcases hF.out pr hx with h | h <;> omega)
  have HB9 := Lib.hid (p := Below w5.heap.size w5 w9) (HBB.out.trans (hc9.out.below HBB.out.size (fun x hx => by
    have h2 := L10.out
    simp at hx
    rcases hx with rfl | rfl | rfl <;> omega)))
  go_wp2
  go_ret
  exact ⟨rfl, below_nxt HB9.out B5.out⟩
end Go.Proofs.YtfbfeplegdpemaaGreat
/- Two numbers of 16 bits as an argument. No conditions. -/
set_option linter.unusedVariables false
set_option maxRecDepth 20000
namespace Go.Proofs.YtfbfeplegdpemaaGreat
open Go.ChangeShapes Go.WideShapes Go.ChangeAt Go.RowKit

section
variable {H : Type} {enc : TypeId × Value → H} {W : World} {sp : Nat → Bool} {held : Bool} {base : Nat}
theorem pair_in {r : Reach} {b0 : Nat} {v : Value} {d : DataW H} {p : List MemPlace} (hv : Value.okWide Tryz.prog W r b0 24 v) (h : DataW.Trod enc Tryz.prog W base sp held 24 v d p) : ∃ x y : Nat, v = .agg #[.int .u16 (x : Int), .int .u16 (y : Int)] ∧ x < 65536 ∧ y < 65536 := by
  obtain ⟨cs, rfl, hsz⟩ := okWide_row Tryz.underlying24 hv
  obtain ⟨fuel, hf⟩ := h
  have hce : Tryz.prog.cellsOf 23 = 1 := by kernel_rfl
  have hct : Tryz.prog.cellsOf 24 = 2 := by kernel_rfl
  obtain ⟨xs, m, _, _, hl, hlen, hg⟩ := DataW.trod_array Tryz.underlying24 hf
  have hone : ∀ i, i < 2 → ∃ z : Nat, cs.toList[i]? = some (.int .u16 (z : Int)) ∧ z < 65536 := fun i hi => by
    have h1 := hg i hi
    rw [hce, Nat.mul_one] at h1
    have hx : i < xs.length := by omega
    rw [List.getElem?_eq_getElem hx] at h1
    obtain ⟨z, hz, _, hwf⟩ := DataW.trod_int Tryz.underlying23 h1
    obtain ⟨n, rfl, hn⟩ := u16_num hwf
    refine ⟨n, ?_, hn⟩
    have := congrArg (·[0]?) hz
    simp only [List.getElem?_take, List.getElem?_drop, Value.cells] at this
    simpa using this
  obtain ⟨x, hx, hx2⟩ := hone 0 (by decide)
  obtain ⟨y, hy, hy2⟩ := hone 1 (by decide)
  refine ⟨x, y, ?_, hx2, hy2⟩
  have hl2 : cs.toList.length = 2 := by
    rw [← hct]
    simpa using hsz
  have e' : cs.toList = [.int .u16 (x : Int), .int .u16 (y : Int)] := by
    apply List.ext_getElem?
    intro i
    rcases i with _ | _ | i
    · exact hx
    · exact hy
    · rw [List.getElem?_eq_none (by omega)]
      rfl
  rw [← Array.toArray_toList (xs := cs), e']
end
end Go.Proofs.YtfbfeplegdpemaaGreat
