/- The laws' first test, as a whole. No conditions. -/
import Derived.Test.YtpobppoaidngeaaKo
set_option linter.unusedVariables false
set_option maxRecDepth 20000
namespace Go.Proofs.Ytpobppoaidngeaa
open Go.RowKit

def aB (w : World) : List BV := [⟨some ⟨w.heap.size, 0, none⟩, 1, [1]⟩, ⟨some ⟨w.heap.size + 1, 0, none⟩, 1, [2]⟩]
def aK : List Bool := [true, false]
def aCs (w : World) : List Value := [.slice (some ⟨w.heap.size + 1 + 1, 0, none⟩) 2 2, .slice (some ⟨w.heap.size + 1 + 1 + 1, 0, none⟩) 2 2]
def w4a (w : World) : World := (((w.alloc (.cells #[.int .u8 1] 5)).alloc (.cells #[.int .u8 2] 5)).alloc (.cells #[.slice (some ⟨w.heap.size, 0, none⟩) 1 1, .slice (some ⟨w.heap.size + 1, 0, none⟩) 1 1] 44)).alloc (.cells #[.bool true, .bool false] 4)
theorem src_awake {w w5 : World} {gs : Nat} (hr : Row w5 gs 25 (aCs w)) (hb : Below (w4a w).heap.size (w4a w) w5) : Src w5.heap.size w5 gs (aB w) aK := by
  have r1 : Row (w4a w) w.heap.size 5 [.int .u8 1] := (((Row.made w 5 [.int .u8 1]).alloc _).alloc _).alloc _
  have r2 : Row (w4a w) (w.heap.size + 1) 5 [.int .u8 2] := by
    have h := ((Row.made (w.alloc (.cells #[.int .u8 1] 5)) 5 [.int .u8 2]).alloc (.cells #[.slice (some ⟨w.heap.size, 0, none⟩) 1 1, .slice (some ⟨w.heap.size + 1, 0, none⟩) 1 1] 44)).alloc (.cells #[.bool true, .bool false] 4)
    simpa [w4a] using h
  have r3 : Row (w4a w) (w.heap.size + 1 + 1) 44 [.slice (some ⟨w.heap.size, 0, none⟩) 1 1, .slice (some ⟨w.heap.size + 1, 0, none⟩) 1 1] := by
    have h := (Row.made ((w.alloc (.cells #[.int .u8 1] 5)).alloc (.cells #[.int .u8 2] 5)) 44 [.slice (some ⟨w.heap.size, 0, none⟩) 1 1, .slice (some ⟨w.heap.size + 1, 0, none⟩) 1 1]).alloc (.cells #[.bool true, .bool false] 4)
    simpa [w4a] using h
  have r4 : Row (w4a w) (w.heap.size + 1 + 1 + 1) 4 [.bool true, .bool false] := by
    have h := Row.made (((w.alloc (.cells #[.int .u8 1] 5)).alloc (.cells #[.int .u8 2] 5)).alloc (.cells #[.slice (some ⟨w.heap.size, 0, none⟩) 1 1, .slice (some ⟨w.heap.size + 1, 0, none⟩) 1 1] 44)) 4 [.bool true, .bool false]
    simpa [w4a] using h
  have q1 := r1.kept hb
  have q2 := r2.kept hb
  have q3 := r3.kept hb
  have q4 := r4.kept hb
  refine ⟨hr.lt, ⟨some ⟨w.heap.size + 1 + 1, 0, none⟩, 2, (hr.cell 0).trans rfl, LiesB.all (fun x => by rw [sc_len]; decide) (.inr ⟨_, _, rfl, fun j x hx i u hu => ?_⟩)⟩, ⟨some ⟨w.heap.size + 1 + 1 + 1, 0, none⟩, 2, (hr.cell 1).trans rfl, LiesB.all (fun x => by rw [bcs_len]; decide) (.inr ⟨_, _, rfl, fun j x hx i u hu => ?_⟩)⟩, fun x hx => HolB.all ?_, fun x hx => ?_, rfl, by show 2 ≤ 300; omega⟩
  · have hi : i = 0 := by have := (List.getElem?_eq_some_iff.1 hu).1; rw [sc_len] at this; omega
    subst hi
    rw [Nat.zero_add, Nat.mul_one, Nat.add_zero, q3.cell]
    match j, hx with
    | 0, hx => simp [aB] at hx; subst hx; simpa [sc, bvv] using hu
    | 1, hx => simp [aB] at hx; subst hx; simpa [sc, bvv] using hu
    | j + 2, hx => simp [aB] at hx
  · have hi : i = 0 := by have := (List.getElem?_eq_some_iff.1 hu).1; rw [bcs_len] at this; omega
    subst hi
    rw [Nat.zero_add, Nat.mul_one, Nat.add_zero, q4.cell]
    match j, hx with
    | 0, hx => simp [aK] at hx; subst hx; simpa [bcs] using hu
    | 1, hx => simp [aK] at hx; subst hx; simpa [bcs] using hu
    | j + 2, hx => simp [aK] at hx
  · simp only [aB, List.mem_cons, List.mem_nil_iff, or_false] at hx
    rcases hx with rfl | rfl
    · exact hol_byte (x := 1) ((q1.cell 0).trans rfl)
    · exact hol_byte (x := 2) ((q2.cell 0).trans rfl)
  · simp only [aB, List.mem_cons, List.mem_nil_iff, or_false] at hx
    rcases hx with rfl | rfl <;> (show 1 ≤ 131072; omega)
theorem aK_1 (w : World) : srcF (aB w) aK 1 = none := by
  refine if_neg ?_
  rintro ⟨_, h⟩
  simp [aK] at h
theorem built_src (A B : Option Addr) : Try.prog.built 25 [(0, .slice A 2 2), (1, .slice B 2 2)] = some #[.slice A 2 2, .slice B 2 2] := by kernel_rfl
theorem zero_vptr (w : World) : (zeroValue 30).run Try.prog w = .ok (.pointer none) w := by kernel_rfl
theorem ch_len1 {qs : List (Int × BV)} {l : List UInt8} (h : ChOf (upL (fun _ => none) 0 l) (chL qs)) : qs.length = 1 := by
  have h1 : ChOf (upL (fun _ => none) 0 l) [(0, l)] := ⟨by simp, fun s x => by
    unfold upL
    by_cases e : s = 0
    · subst e
      simp [eq_comm]
    · simp [e]⟩
  have := congrArg List.length (h.one h1)
  simpa [chL] using this
theorem ch_len0 {qs : List (Int × BV)} (h : ChOf (byL fun _ => none) (chL qs)) : qs.length = 0 := by
  have h1 : ChOf (byL fun _ => none) [] := ⟨by simp, fun s x => by simp [byL]⟩
  have := congrArg List.length (h.one h1)
  simpa [chL] using this
set_option maxHeartbeats 2000000 in
theorem awake_any (w : World) : Calls Try.prog 7 #[] w fun e w' => e = .returned (.bool true) ∧ Below w.heap.size w w' := by
  have hmf : ∀ (fn : Fn) (first cap : Array Value) (w : World), (Instr.makeFunc fn first cap).run Try.prog w = .ok (.func fn first cap) w := fun _ _ _ _ => rfl
  have HBS := Lib.hid built_src
  go_enter Try.func7, Try.ntmps7
  go_wp2_with (first
    | (refine step_build rfl 25 _ rfl [(0, .slice (some ⟨w.heap.size + 1 + 1, 0, none⟩) 2 2), (1, .slice (some ⟨w.heap.size + 1 + 1 + 1, 0, none⟩) 2 2)] ?hv _ (HBS.out _ _) ?_; case hv => (simp [Act.eval, Act.put]))
    | (refine step_box rfl 13 rfl 25 _ rfl (aCs w) rfl ?_; intro gs w5 hr5 hg5 hb5 hs5
       have R5 := Lib.hid hr5
       have HB5 := Lib.hid (p := Below (w4a w).heap.size (w4a w) w5) hb5
       have HB05 := Lib.hid (p := Below w.heap.size w w5) (below_nxt hb5 (((below_al w _).alloc (by simp) _).alloc (by simp; omega) _ |>.alloc (by simp; omega) _))
       have HS5 := Lib.hid (src_awake hr5 hb5)
       clear hr5 hg5 hb5 hs5)
    | (go_at_call 9; refine (vnew gs _).mono ?_; rintro e w6 ⟨gv, gm, rfl, hv6, hb6⟩)
    | (refine step_new rfl 30 rfl (.pointer none) zero_vptr rfl ?_; intro pv w7 hr7 hg7 hb7
       have R7 := Lib.hid hr7; have HB7 := Lib.hid hb7; have HG7 := hg7
       have c7 : w7.cell? ⟨pv, 0, none⟩ = some (.pointer none) := (hr7.cell 0).trans rfl
       have f7 := hr7.free 0
       clear hr7 hb7 hg7))
  have HCF1 := Lib.hid (p := ∀ w, (callFunc 25 #[.pointer (some ⟨pv, 0, none⟩)]).run Try.prog w = .ok (.enter 25 #[.pointer (some ⟨pv, 0, none⟩)]) w) (fun w => by simp [go_sem])
  have HCF2 := Lib.hid (p := ∀ w, (callFunc 26 #[.pointer (some ⟨pv, 0, none⟩)]).run Try.prog w = .ok (.enter 26 #[.pointer (some ⟨pv, 0, none⟩)]) w) (fun w => by simp [go_sem])
  have lpv : w6.heap.size ≤ pv := Nat.le_of_eq HG7.out.symm
  have hc8 : Chg [pv] w7 (w7.setCell ⟨pv, 0, none⟩ (.pointer (some ⟨gv, 0, none⟩))) := (Chg.refl [pv] w7).setCell (p := ⟨pv, 0, none⟩) (.inl (by simp)) _
  have hc68 : Chg [pv] w6 (w7.setCell ⟨pv, 0, none⟩ (.pointer (some ⟨gv, 0, none⟩))) := (Chg.of HB7.out).trans hc8 (fun x hx => .inl hx)
  have HV8 := Lib.hid (hv6.out.below' hc68 (fun x hx => by rw [List.mem_singleton] at hx; omega))
  have HB8 := Lib.hid (p := Below w5.heap.size w5 (w7.setCell ⟨pv, 0, none⟩ (.pointer (some ⟨gv, 0, none⟩)))) (hb6.out.trans (hc68.below hb6.out.size (fun x hx => by rw [List.mem_singleton] at hx; have := hb6.out.size; omega)))
  have cp8 : (w7.setCell ⟨pv, 0, none⟩ (.pointer (some ⟨gv, 0, none⟩))).cell? ⟨pv, 0, none⟩ = some (.pointer (some ⟨gv, 0, none⟩)) := ((R7.out.put 0 _).cell 0).trans rfl
  have npg : gv < pv ∧ gm < pv := ⟨by have := hv6.out.row.lt; omega, by have := hv6.out.map.lt; omega⟩
  have lpw : pv < (w7.setCell ⟨pv, 0, none⟩ (.pointer (some ⟨gv, 0, none⟩))).heap.size := World.block_lt_of_cell? _ _ cp8
  clear c7 f7 hc8 hc68
  generalize w7.setCell ⟨pv, 0, none⟩ (.pointer (some ⟨gv, 0, none⟩)) = W8 at HV8 HB8 cp8 lpw ⊢
  have hG8 : ∀ x ∈ [gm], x ≠ gv ∧ x < W8.heap.size := fun x hx => by rw [List.mem_singleton] at hx; subst hx; exact ⟨HV8.out.ne.symm, HV8.out.map.lt⟩
  refine (vrun 25 #[.pointer (some ⟨pv, 0, none⟩)] [gm] _ _ HV8.out hG8 HCF1.out (fun r w1 hv hr hc hrb => awake1 hv (by have := HB8.out.size; have := hc.size; omega) hr (hc.cell cp8 (by simp; omega)))).mono ?_
  intro e w9 h9
  obtain ⟨rfl, n', C', _, _, _, hv9, hn9, hd9, _, _, _, hc9⟩ := h9.done (fun _ _ h => h)
  have cp9 : w9.cell? ⟨pv, 0, none⟩ = some (.pointer (some ⟨gv, 0, none⟩)) := hc9.out.cell cp8 (by simp; omega)
  have HB9 := Lib.hid (p := Below w5.heap.size w5 w9) (HB8.out.trans (hc9.out.below HB8.out.size (fun x hx => by
    have := hv6.out.lo
    simp at hx
    rcases hx with rfl | rfl <;> omega)))
  go_wp2_with (first
    | (go_at_call 16; refine (vchanges hv9.out hn9.out).mono ?_; rintro e w10 ⟨qs, A, c, rfl, hco, hpa, hb10⟩
       have hl := ch_len1 (by rw [← hd9.out]; exact hco.out)
       rw [hl]
       have cp10 : w10.cell? ⟨pv, 0, none⟩ = some (.pointer (some ⟨gv, 0, none⟩)) := (hb10.out.cell (p := ⟨pv, 0, none⟩) (World.block_lt_of_cell? w9 _ cp9)).trans cp9
       have HV10 := Lib.hid (hv9.out.below hb10.out)
       have HB10 := Lib.hid (HB9.out.trans (hb10.out.mono HB9.out.size))
       clear hl))
  have hG10 : ∀ x ∈ [gm], x ≠ gv ∧ x < w10.heap.size := fun x hx => by rw [List.mem_singleton] at hx; subst hx; exact ⟨HV10.out.ne.symm, HV10.out.map.lt⟩
  refine (vrun 26 #[.pointer (some ⟨pv, 0, none⟩)] [gm] _ _ HV10.out hG10 HCF2.out (fun r w1 hv hr hc hrb => awake2 (Bs := aB w) (Ks := aK) hv (by have := HB10.out.size; have := hc.size; omega) hr (hc.cell cp10 (by simp; omega)) (by omega) (HS5.out.keep (HB10.out.trans (hc.below HB10.out.size (fun x hx => by
    have := hv6.out.lo
    simp at hx
    rcases hx with rfl | rfl <;> omega)))) (aK_1 w))).mono ?_
  intro e w11 h11
  obtain ⟨rfl, hv11, hc11⟩ := h11.gave (fun _ _ _ h => h) (fun s _ h => h)
  have cp11 : w11.cell? ⟨pv, 0, none⟩ = some (.pointer (some ⟨gv, 0, none⟩)) := hc11.out.cell cp10 (by simp; omega)
  have HB11 := Lib.hid (p := Below w5.heap.size w5 w11) (HB10.out.trans (hc11.out.below HB10.out.size (fun x hx => by
    have := hv6.out.lo
    simp at hx
    rcases hx with rfl | rfl <;> omega)))
  go_wp2_with (first
    | (go_at_call 16; refine (vchanges hv11.out (by omega)).mono ?_; rintro e w12 ⟨qs, A, c, rfl, hco, hpa, hb12⟩
       have hl := ch_len0 hco.out
       rw [hl]
       have HB12 := Lib.hid (HB11.out.trans (hb12.out.mono HB11.out.size))
       clear hl))
  go_ret
  exact ⟨rfl, below_nxt HB12.out HB05.out⟩
end Go.Proofs.Ytpobppoaidngeaa
