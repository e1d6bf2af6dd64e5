/- The function that the law DeskHoles runs. Conditions: those named. -/
import Derived.Test.YtfbfeplegdpemaaGreatMgFb
import Derived.Test.YtfbfeplegdpemaaGreatMgOh
import Derived.Test.YtfbfeplegdpemaaGreatOi
set_option linter.unusedVariables false
set_option maxRecDepth 20000
namespace Go.Proofs.YtfbfeplegdpemaaGreat
open Go.RowKit

section
variable {b : Nat} {w w' : World} {gv gm gs r pv po pd pr pc : Nat} {Bs : List BV} {n : Nat}
end
end Go.Proofs.YtfbfeplegdpemaaGreat
/- DeskHoles, walked. No conditions. -/
set_option linter.unusedVariables false
set_option maxRecDepth 20000
namespace Go.Proofs.YtfbfeplegdpemaaGreat
open Go.RowKit

theorem holB_of {b : Nat} {w w' : World} {A : Option Addr} {l : L8} (h : Hol w A l) (hb : Below w.heap.size w w') (hs : w.heap.size ≤ b) : HolB b w' A l := by
  refine ⟨h.below hb, ?_⟩
  by_cases hl : l = []
  · exact .inl hl
  · obtain ⟨g, o, rfl, hg, _⟩ := h.some_ (Nat.pos_of_ne_zero fun e => hl (List.length_eq_zero_iff.1 e))
    exact .inr fun ad e => by
      injection e with e
      subst e
      show g < b
      omega
end Go.Proofs.YtfbfeplegdpemaaGreat
/- DeskInodes, walked. No conditions. -/
set_option linter.unusedVariables false
set_option maxRecDepth 20000
namespace Go.Proofs.YtfbfeplegdpemaaGreat
open Go.RowKit

set_option maxHeartbeats 8000000 in
theorem inodesW (A B : Option Addr) (len c lb d : Nat) (l k : L8) (hlen : l.length = len) (hlc : len ≤ c) (hmax : len ≤ 9223372036854775807) (hlen2 : k.length = lb) (hlc2 : lb ≤ d) (hmax2 : lb ≤ 9223372036854775807) (w : World) (hD : Hol w A l) (hE : Hol w B k) : Calls Tryz.prog 4 #[.slice A len c, .slice B lb d] w fun e w' => e = .returned (.bool true) ∧ Below w.heap.size w w' := by
  have hmf : ∀ (fn : Fn) (first cap : Array Value) (w : World), (Instr.makeFunc fn first cap).run Tryz.prog w = .ok (.func fn first cap) w := fun _ _ _ _ => rfl
  have HST := Lib.hid (p := ∀ w, Calls Tryz.prog 8 #[.int .i64 256] w fun e w' => ∃ gs, e = .returned (.pointer (some ⟨gs, 0, none⟩)) ∧ ∃ A c Bs, Hid (Vol w.heap.size w' gs A c Bs) ∧ Hid (Bs.length = 256 ∧ ∀ x ∈ Bs, x.l = List.replicate 256 0) ∧ Hid (Below w.heap.size w w')) (fun w => start_any 256 (by decide) w)
  have HD := Lib.hid hD
  have HE := Lib.hid hE
  have HLEN2 := Lib.hid (p := k.length = lb ∧ lb ≤ d) ⟨hlen2, hlc2⟩
  have HMAX2 := Lib.hid hmax2
  have HLEN := Lib.hid (p := l.length = len ∧ len ≤ c) ⟨hlen, hlc⟩
  have HMAX := Lib.hid hmax
  clear hD hE hlen hlc hmax hlen2 hlc2 hmax2
  by_cases hbig : 1000 < lb
  · have hbi : (1000 : Int) < (lb : Int) := by omega
    clear hbig
    go_enter Tryz.func4, Tryz.ntmps4
    go_wp2_with (first
      | (refine step_box1 rfl 22 (.tmp 0) rfl (.slice A len c) rfl rfl ?_; intro pd w2 hr2 hg2 hb2
         have RD2 := Lib.hid hr2
         have B2 := Lib.hid hb2
         clear hr2 hg2 hb2)
      | (refine step_box1 rfl 22 (.tmp 1) rfl (.slice B lb d) rfl rfl ?_; intro pe w3 hr2 hg2 hb2
         have RO3 := Lib.hid hr2
         have RD3 := Lib.hid (RD2.out.kept hb2)
         have B3 := Lib.hid (below_nxt hb2 B2.out)
         clear hr2 hg2 hb2)
      | (go_at_call 7; refine (awake_any _).mono ?_; rintro e w4 ⟨rfl, hb⟩
         have RD4 := Lib.hid (RD3.out.kept hb)
         have RO4 := Lib.hid (RO3.out.kept hb)
         have B4 := Lib.hid (below_nxt hb B3.out)
         have cd : w4.cell? ⟨pe, 0, none⟩ = some (.slice B lb d) := (RO4.out.cell 0).trans rfl
         clear hb))
    go_ret
    exact ⟨rfl, B4.out⟩
  have hbi : ¬ (1000 : Int) < (lb : Int) := by omega
  have H3 := Lib.hid (p := lb ≤ 1000) (by omega)
  clear hbig
  go_enter Tryz.func4, Tryz.ntmps4
  go_wp2_with (first
    | (refine step_box1 rfl 22 (.tmp 0) rfl (.slice A len c) rfl rfl ?_; intro pd w2 hr2 hg2 hb2
       have RD2 := Lib.hid hr2
       have B2 := Lib.hid hb2
       clear hr2 hg2 hb2)
    | (refine step_box1 rfl 22 (.tmp 1) rfl (.slice B lb d) rfl rfl ?_; intro pe w3 hr2 hg2 hb2
       have RO3 := Lib.hid hr2
       have RD3 := Lib.hid (RD2.out.kept hb2)
       have B3 := Lib.hid (below_nxt hb2 B2.out)
       clear hr2 hg2 hb2)
    | (go_at_call 7; refine (awake_any _).mono ?_; rintro e w4 ⟨rfl, hb⟩
       have RD4 := Lib.hid (RD3.out.kept hb)
       have RO4 := Lib.hid (RO3.out.kept hb)
       have B4 := Lib.hid (below_nxt hb B3.out)
       have cd : w4.cell? ⟨pe, 0, none⟩ = some (.slice B lb d) := (RO4.out.cell 0).trans rfl
       clear hb)
    | (go_at_call 8; refine (HST.out _).mono ?_; rintro e w5 ⟨gs, rfl, VA, vc, Bs, hv, hB, hb⟩
       have HS1 := Lib.hid hv.out.src
       have HBZ := hB
       have RD5 := Lib.hid (RD4.out.kept hb.out)
       have RO5 := Lib.hid (RO4.out.kept hb.out)
       have B5 := Lib.hid (below_nxt hb.out B4.out)
       clear hv hB hb cd)
    | (go_at_call 9; refine (vnew gs _).mono ?_; rintro e w6 ⟨gv, gm, rfl, hv2, hb2⟩
       have HB6 := Lib.hid hb2.out
       have HVV6 := Lib.hid hv2.out
       clear hv2 hb2)
    | (refine step_new rfl 28 rfl (.pointer none) zero_vptr rfl ?_; intro pv w7 hr3 hg3 hb3
       have R3 := Lib.hid hr3; have HB3 := Lib.hid hb3; have HG3 := hg3
       have c3 : w7.cell? ⟨pv, 0, none⟩ = some (.pointer none) := (hr3.cell 0).trans rfl
       have f3 := hr3.free 0
       clear hr3 hb3 hg3)
    | (refine step_new rfl 4 rfl (.bool false) zero_bool rfl ?_; intro pr w8 hr4 hg4 hb4
       have R4 := Lib.hid hr4; have HB4 := Lib.hid hb4; have HG4 := hg4
       have c4 : w8.cell? ⟨pr, 0, none⟩ = some (.bool false) := (hr4.cell 0).trans rfl
       have f4 := hr4.free 0
       have npp : pv < pr := by have h1 := R3.out.lt; have h2 := HG4.out; simp at h2; omega
       have cq : (w8.setCell ⟨pr, 0, none⟩ (.bool true)).cell? ⟨pv, 0, none⟩ = some (.pointer (some ⟨gv, 0, none⟩)) := ((((R3.out.put 0 (.pointer (some ⟨gv, 0, none⟩))).kept hb4).far (p := ⟨pr, 0, none⟩) (by simp; omega) (.bool true)).cell 0).trans rfl
       clear hr4 hb4 hg4))
  have HCF1 := Lib.hid (p := ∀ w, (callFunc 20 #[.pointer (some ⟨pv, 0, none⟩), .pointer (some ⟨pd, 0, none⟩), .pointer (some ⟨pr, 0, none⟩), .pointer (some ⟨pe, 0, none⟩)]).run Tryz.prog w = .ok (.enter 20 #[.pointer (some ⟨pv, 0, none⟩), .pointer (some ⟨pd, 0, none⟩), .pointer (some ⟨pr, 0, none⟩), .pointer (some ⟨pe, 0, none⟩)]) w) (fun w => by simp [go_sem])
  have lpv : w6.heap.size ≤ pv := Nat.le_of_eq HG3.out.symm
  have hc23 : Chg [pv] w6 (w7.setCell ⟨pv, 0, none⟩ (.pointer (some ⟨gv, 0, none⟩))) := ((Chg.of HB3.out).setCell (p := ⟨pv, 0, none⟩) (.inl (by simp)) _)
  have hc24 : Chg [pv, pr] w6 (w8.setCell ⟨pr, 0, none⟩ (.bool true)) := ((hc23.wider (fun x hx => .inl (by simp at hx ⊢; exact .inl hx))).trans (Chg.of (F := []) HB4.out) (by simp)).setCell (p := ⟨pr, 0, none⟩) (.inl (by simp)) _
  have HVV := Lib.hid (HVV6.out.below' hc24 (fun x hx => by simp at hx; rcases hx with rfl | rfl <;> omega))
  have RV := Lib.hid ((((R3.out.put 0 (.pointer (some ⟨gv, 0, none⟩))).kept HB4.out).far (p := ⟨pr, 0, none⟩) (by simp; omega) (.bool true)))
  have RR := Lib.hid (R4.out.put 0 (.bool true))
  have hbb : Below w5.heap.size w5 (w8.setCell ⟨pr, 0, none⟩ (.bool true)) := HB6.out.trans (hc24.below HB6.out.size (fun x hx => by have := HB6.out.size; simp at hx; rcases hx with rfl | rfl <;> omega))
  have HBB := Lib.hid hbb
  have RDW := Lib.hid (RD5.out.kept hbb)
  have ROW := Lib.hid (RO5.out.kept hbb)
  have npg : gv < pv ∧ gm < pv := ⟨by have := HVV6.out.row.lt; omega, by have := HVV6.out.map.lt; omega⟩
  have lpw : pr < (w8.setCell ⟨pr, 0, none⟩ (.bool true)).heap.size := RR.out.lt
  have lo5 : pe < w5.heap.size ∧ pd < w5.heap.size ∧ w5.heap.size ≤ gv ∧ w5.heap.size ≤ gm := ⟨RO5.out.lt, RD5.out.lt, HVV6.out.lo.1, HVV6.out.lo.2⟩
  clear c3 f3 c4 f4 hc23 hc24 hbb
  generalize w8.setCell ⟨pr, 0, none⟩ (.bool true) = W8 at HVV RV RR HBB RDW ROW lpw cq ⊢
  have hG8 : ∀ x ∈ [gm, pr], x ≠ gv ∧ x < W8.heap.size := fun x hx => by
    simp at hx
    rcases hx with rfl | rfl
    · exact ⟨HVV.out.ne.symm, HVV.out.map.lt⟩
    · exact ⟨by omega, lpw⟩
  refine (vrun 20 #[.pointer (some ⟨pv, 0, none⟩), .pointer (some ⟨pd, 0, none⟩), .pointer (some ⟨pr, 0, none⟩), .pointer (some ⟨pe, 0, none⟩)] [gm, pr] _ _ HVV.out hG8 HCF1.out (fun r w1' hv hr hc hrb => by
    have hbel : Below w5.heap.size w5 w1' := HBB.out.trans (hc.below HBB.out.size (fun x hx => by
      simp at hx
      rcases hx with rfl | rfl <;> omega))
    exact inodes1 (DA := A) (dc := c) (dl := len) (l := l) (EA := B) (ec := d) (el := lb) (e8 := k) hv hbel.size (by have := HBB.out.size; omega) hr (hc.row RV.out (by simp; omega)) (hc.row RDW.out (by simp; omega)) (hc.row RR.out (by simp; omega)) (hc.row ROW.out (by simp; omega)) (HS1.out.keep hbel) HBZ.out (by have := HB6.out.size; omega) (holB_of HD.out (below_nxt hbel B5.out) B5.out.size) (holB_of HE.out (below_nxt hbel B5.out) B5.out.size) HLEN.out HLEN2.out)).mono ?_
  intro e w9 h9
  obtain ⟨rfl, n', C', wa, wb, F, hv9, hn9, hd9, hcF, hF, hsz, hc9⟩ := h9.done (fun _ _ h => h)
  have cr9 : w9.cell? ⟨pr, 0, none⟩ = some (.bool true) := hcF.out.cell hd9.out (fun hx => by rcases hF.out pr hx with h | h <;> omega)
  have HB9 := Lib.hid (p := Below w5.heap.size w5 w9) (HBB.out.trans (hc9.out.below HBB.out.size (fun x hx => by
    have h2 := HB6.out.size
    simp at hx
    rcases hx with rfl | rfl | rfl <;> omega)))
  go_wp2
  go_ret
  exact ⟨rfl, below_nxt HB9.out B5.out⟩
end Go.Proofs.YtfbfeplegdpemaaGreat
