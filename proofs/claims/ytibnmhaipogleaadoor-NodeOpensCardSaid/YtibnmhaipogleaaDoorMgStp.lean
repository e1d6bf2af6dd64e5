/- Bytes as a block, by the law's own function: what the call leaves, for all bytes. No conditions but those named. -/
import Derived.Test.YtibnmhaipogleaaDoorCopy
import Derived.Test.YtibnmhaipogleaaDoorCalls
import Derived.Test.YtibnmhaipogleaaDoorAesK
import Derived.BigQuiet
import Derived.Test.YtibnmhaipogleaaDoorRecE
import Derived.Deep.RegionHeld
import Derived.Test.YtibnmhaipogleaaDoorAwakeN
import Derived.Test.YtibnmhaipogleaaDoorOpen
import Derived.Test.YtibnmhaipogleaaDoorMgRefK
import Derived.Test.YtibnmhaipogleaaDoorBin
import Derived.Test.YtibnmhaipogleaaDoorMgCtr
import Derived.Deep.CutRange
set_option linter.unusedVariables false
namespace Go.Proofs.YtibnmhaipogleaaDoor
open Go.RowKit

/-- A new row of bytes. -/
def Fresh (w : World) (n : Nat) (f : Nat → UInt8) (x : Ending) (w' : World) : Prop :=
  ∃ g, x = .returned (.slice (some ⟨g, 0, none⟩) n n) ∧ Row w' g 5 (brr n f) ∧ w.heap.size ≤ g ∧ Below w.heap.size w w'
/-- A block's bytes. -/
def wh (l : List UInt8) : Nat → UInt8 := fun j => l.getD j 0
set_option maxHeartbeats 1000000 in
theorem whl_any (A : Option Addr) (c : Nat) (l : List UInt8) (hl : l.length ≤ 9223372036854775807) (w : World) (hA : Hol w A l) :
    Calls Tryd.prog 22 #[.slice A l.length c] w (Fresh w 256 (wh l)) := by
  obtain ⟨i, U⟩ := u8_tab
  have HA := Lib.hid hA
  have HL := Lib.hid hl
  clear hA hl
  go_enter Tryd.func22, Tryd.ntmps22
  go_wp2_with (refine step_make rfl _ _ 29 5 i U rfl 256 rfl rfl (by omega) ?_; intro g w1 hr1 hg1 hb1 hs1)
  have q1 : w.heap.size ≤ g := by rw [hg1.out]; exact Nat.le_refl _
  have HB1 := Lib.hid hb1
  clear hb1 hg1 hs1
  go_loopw [4] (fun x wr => ∃ k : Nat, k ≤ l.length ∧ k ≤ 256 ∧ x = .int .i64 (k : Int) ∧ Row wr g 5 (brr 256 (upto k (wh l) fun _ => 0)) ∧ Below w.heap.size w wr) (fun x _ => 256 - (intOf x).toNat)
  case atStart => exact ⟨0, by omega, by omega, rfl, by rw [upto_zero]; exact hr1, HB1.out⟩
  case round =>
    clear hr1
    obtain ⟨k, hk, hk2, rfl, hR, hB⟩ := hrel
    by_cases h1 : k < l.length
    · have h1i : (k : Int) < (l.length : Int) := by omega
      by_cases h2 : k < 256
      · have h2i : (k : Int) < 256 := by omega
        obtain ⟨ga, oa, rfl, _, hc2⟩ := (HA.out.below hB).at_ h1
        obtain ⟨y, hy⟩ : ∃ y, l[k] = y := ⟨_, rfl⟩
        rw [hy] at hc2
        replace hc2 : wr.cell? ⟨ga, oa + k, none⟩ = some (B y) := hc2
        have HY : Hid (wh l k = y) := Lib.hid (by unfold wh; rw [List.getD_eq_getElem?_getD, List.getElem?_eq_getElem h1, hy]; rfl)
        have c1 : wr.cell? ⟨g, k, none⟩ = some (B 0) := by rw [hR.cell, brr_get _ h2, upto_self]
        have f1 := hR.free k
        have HR := Lib.hid hR
        have HB := Lib.hid hB
        clear hR hB hy
        go_wp2
        go_roundw
        case rel => exact ⟨k + 1, by omega, by omega, by go_num, by rw [← upto_step, ← brr_set, HY.out]; exact HR.out.put _ _, HB.out.setCell q1 _⟩
        case measure => simp [intOf]; omega
      · have h2i : ¬ (k : Int) < 256 := by omega
        have hfin : brr 256 (upto k (wh l) fun _ => 0) = brr 256 (wh l) := brr_congr fun j hj => upto_near _ _ (by omega)
        rw [hfin] at hR
        have HR := Lib.hid hR
        have HB := Lib.hid hB
        clear hR hB hfin
        go_wp2
        go_ret
        exact ⟨g, rfl, HR.out, q1, HB.out⟩
    · have h1i : ¬ (k : Int) < (l.length : Int) := by omega
      have hfin : brr 256 (upto k (wh l) fun _ => 0) = brr 256 (wh l) := brr_congr fun j hj => by
        by_cases h : j < k
        · exact upto_near _ _ h
        · rw [upto_far _ _ (by omega)]
          unfold wh
          rw [List.getD_eq_getElem?_getD, List.getElem?_eq_none (by omega)]
          rfl
      rw [hfin] at hR
      have HR := Lib.hid hR
      have HB := Lib.hid hB
      clear hR hB hfin
      go_wp2
      go_ret
      exact ⟨g, rfl, HR.out, q1, HB.out⟩
end Go.Proofs.YtibnmhaipogleaaDoor
/- Steps of a region that draws, one by one: a row made, a row stored. No conditions. -/
set_option linter.unusedVariables false
namespace Go.Proofs.YtibnmhaipogleaaDoor
open Go.RowKit

section
variable {P : Program} {ops : Array Oper} {o : Oper} {a : Act} {w : World} {Q : Exit → Act → World → Prop} {K : Act → World → Prop} {E : Prop}
theorem st_alloc (hw : Region.wanted o (yielded ops a.tmps) = true) (t : TypeId) (ho : o.op = .alloc t) (cs : List Value) (hz : ∀ w : World, (zeroValue t).run P w = .ok (.agg cs.toArray) w)
    (h : ∀ g w', Row w' g t cs → Hid (g = w.heap.size) → Below w.heap.size w w' → K (a.put o.dst (.pointer (some ⟨g, 0, none⟩))) w') : if Region.wanted o (yielded ops a.tmps) = true then Oper.wp P o a w K Q else E := by
  rw [if_pos hw]
  unfold Oper.wp execOp
  simp only [ho]
  simp [Instr.alloc, hz, newVar, go_sem]
  exact h _ _ (Row.made w t cs) (show _ = _ from rfl) ((Below.refl _ _).alloc (Nat.le_refl _) _)
theorem st_store (hw : Region.wanted o (yielded ops a.tmps) = true) (ty : TypeId) (x y : Operand) (ho : o.op = .store ty x y) (g : Nat) (hx : a.eval x = .pointer (some ⟨g, 0, none⟩)) (t : TypeId) (old cs : List Value) (hy : a.eval y = .agg cs.toArray)
    (hr : Row w g t old) (hl : old.length = cs.length) (hi : (P.info? ty).map (·.size) = some cs.length) (h1 : ∀ v ∈ cs, v.oneCell' = true)
    (h : ∀ w', Row w' g t cs → w.grownBy w' (some g) → K (a.put o.dst undef) w') : if Region.wanted o (yielded ops a.tmps) = true then Oper.wp P o a w K Q else E := by
  rw [if_pos hw]
  refine wp_store_row ty x y ho g cs.toArray hx hy t old.toArray hr (by simpa using hi) (by simpa using hl) (all_oneCell_toArray h1) ?_
  exact h _ (setRow_heap w g _ _ t _ hr) ⟨rfl, rfl, rfl, by simp, fun k hk hne => setRow_other w g k _ (fun e => hne (by rw [e]))⟩
theorem run_eql_op {P : Program} (w : World) {a : Act} (o : Oper) (t t' : TypeId) (x y : Operand) (ho : o.op = .binOp .eql t x y t') (xs ys : Array Value) (hx : a.eval x = .agg xs) (hy : a.eval y = .agg ys) (hg : P.eqGuardType P.depth t = false) (b : Bool)
    (he : ∀ w, (Op.equalIn 10000 t (.agg xs) (.agg ys)).run P w = .ok b w) : (execOp a.eval o).run P w = .ok (.value (.bool b)) w := by
  unfold execOp
  simp only [ho, hx, hy, Sem.run_bind, run_eqGuard_agg w _ t x y xs ys hg, run_eql_struct, he, Result.andThen_ok]
  rfl
theorem run_build_op {P : Program} (w : World) {a : Act} (o : Oper) (t : TypeId) (parts : Array (Nat × Operand)) (ho : o.op = .build t parts) (vs : List (Nat × Value)) (hv : (parts.map fun (i, x) => (i, a.eval x)).toList = vs) (cells : Array Value) (hb : P.built t vs = some cells) : (execOp a.eval o).run P w = .ok (.value (.agg cells)) w := by
  subst hv
  unfold execOp
  simp only [ho, Sem.run_bind, run_build w t _ cells hb, Result.andThen_ok]
  rfl
end
end Go.Proofs.YtibnmhaipogleaaDoor
/- What was sealed is opened as it was; under any record of any bytes a block is opened just where its digest is the record's: the walk, under way. Condition: the listed tables. -/
set_option linter.unusedVariables false
set_option maxRecDepth 20000
namespace Go.Proofs.YtibnmhaipogleaaDoor.nodeOpens
open Go.RowKit

theorem hid_twice (m : Nat → UInt8) (l : List UInt8) : lst 256 (hid m (lst 256 (hid m (lst 256 (wh l))))) = lst 256 (wh l) := by
  unfold lst
  refine List.map_congr_left fun j hj => ?_
  have hj' : j < 256 := by simpa using hj
  unfold hid
  have e1 : ((List.range 256).map fun j => m j ^^^ ((List.range 256).map (wh l)).getD j 0).getD j 0 = m j ^^^ ((List.range 256).map (wh l)).getD j 0 := lst_getD _ hj'
  have e2 : ((List.range 256).map (wh l)).getD j 0 = wh l j := lst_getD _ hj'
  rw [e1, e2, ← UInt8.xor_assoc, UInt8.xor_self, UInt8.zero_xor]
theorem hol_lt {w : World} {A : Option Addr} {l : List UInt8} (h : Hol w A l) (hl : 256 = l.length) (ad : Addr) (hd : A = some ad) : ad.block < w.heap.size := by
  obtain ⟨g, o, e, hg, _⟩ := h.some_ (by omega)
  rw [hd] at e
  injection e with e
  rw [e]
  exact hg
/-- Where the law stands behind Seal. -/
def Rel8 (w4 : World) (r : RecV) (F : Nat → UInt8) (h p q : Value) (wx : World) : Prop :=
  ∃ gh g9, h = .slice (some ⟨gh, 0, none⟩) 256 256 ∧ p = .pointer (some ⟨g9, 0, none⟩) ∧ q = .int .i64 0 ∧ Row wx gh 5 (brr 256 F) ∧ Row wx g9 26 r.cs ∧ w4.heap.size ≤ gh ∧ w4.heap.size ≤ g9 ∧ Below w4.heap.size w4 wx
set_option maxHeartbeats 4000000 in
theorem walk (w : World) (e s : Nat) (A0 : Option Addr) (n0 c0 : Nat) (l0 : List UInt8) (he : e < 4294967296) (hs : s < 4294967296) (hI0 : InB w A0 n0 c0 l0) (A : Option Addr) (n c : Nat) (l : List UInt8) (hI : InB w A n c l) (A2 : Option Addr) (n2 c2 : Nat) (l2 : List UInt8) (hI2 : InB w A2 n2 c2 l2) (hT : Tabs w) :
    Calls Tryd.prog 6 #[.agg #[.int .u32 (e : Int), .int .u32 (s : Int), .slice A0 n0 c0], .slice A n c, .slice A2 n2 c2] w fun x w' => x = .returned (.bool true) ∧ Below w.heap.size w w' := by
  have HE := Lib.hid he
  have HS := Lib.hid hs
  have HI0 := Lib.hid hI0
  have HI := Lib.hid hI
  have HI2 := Lib.hid hI2
  have HT := Lib.hid hT
  clear hI hI0 hI2 he hs hT
  by_cases hlong : 4096 < n2
  · have h2 : (4096 : Int) < (n2 : Int) := by omega
    clear hlong
    go_enter Tryd.func6, Tryd.ntmps6
    go_wp2_with (first
      | (refine step_box rfl 3 rfl 39 _ rfl [.int .u32 (e : Int), .int .u32 (s : Int), .slice A0 n0 c0] rfl ?_; intro g3 w1 hr1 hg1 hb1 hs1)
      | (go_at_call 10; refine (awake_any _).mono ?_; rintro e3 w3 ⟨rfl, hb3⟩
         have HB3 := Lib.hid (hb1.trans (hb3.mono hb1.size))
         clear hr1 hb1 hg1 hs1 hb3))
    go_ret
    exact ⟨rfl, HB3.out⟩
  have h2 : ¬ (4096 : Int) < (n2 : Int) := by omega
  have HL2 := Lib.hid (p := n2 ≤ 4096) (by omega)
  clear hlong
  by_cases hlong : 5000 < n0
  · have h3 : (5000 : Int) < (n0 : Int) := by omega
    clear hlong
    go_enter Tryd.func6, Tryd.ntmps6
    go_wp2_with (first
      | (refine step_box rfl 3 rfl 39 _ rfl [.int .u32 (e : Int), .int .u32 (s : Int), .slice A0 n0 c0] rfl ?_; intro g3 w1 hr1 hg1 hb1 hs1)
      | (go_at_call 10; refine (awake_any _).mono ?_; rintro e3 w3 ⟨rfl, hb3⟩
         have HB3 := Lib.hid (hb1.trans (hb3.mono hb1.size))
         have k2 : w3.cell? ⟨g3, 2, none⟩ = some (.slice A0 n0 c0) := (hr1.kept hb3).cell 2
         clear hr1 hb1 hg1 hs1 hb3))
    go_ret
    exact ⟨rfl, HB3.out⟩
  have h3 : ¬ (5000 : Int) < (n0 : Int) := by omega
  have HL0 := Lib.hid (p := n0 ≤ 5000) (by omega)
  clear hlong
  have HWh := Lib.hid (p := ∀ W, Below w.heap.size w W → Calls Tryd.prog 22 #[.slice A n c] W (Fresh W 256 (wh l))) (fun W hb => by
    have h9 := whl_any A c l (by have h1 := HI.out.len_; have h2 := HI.out.cap_; have h3 := HI.out.max_; unfold maxLen at h3; omega) W (HI.out.hol.below hb)
    rwa [← HI.out.len_] at h9)
  have HWp := Lib.hid (p := ∀ W, Below w.heap.size w W → Calls Tryd.prog 22 #[.slice A0 n0 c0] W (Fresh W 256 (wh l0))) (fun W hb => by
    have h9 := whl_any A0 c0 l0 (by have h1 := HI0.out.len_; have h2 := HI0.out.cap_; have h3 := HI0.out.max_; unfold maxLen at h3; omega) W (HI0.out.hol.below hb)
    rwa [← HI0.out.len_] at h9)
  have HNew := Lib.hid (p := ∀ (gq : Nat) (W : World), Row W gq 5 (brr 256 (wh l0)) → Calls Tryd.prog 23 #[.slice (some ⟨gq, 0, none⟩) 32 256] W fun x w' => ∃ g, x = .returned (.tuple #[.pointer (some ⟨g, 0, none⟩), .int .i64 0]) ∧ MaskAt w' g (mk (kx (byl (lst 32 (wh l0))))) ∧ Below W.heap.size W w') (fun gq W hr => by
    have h9 := vnew_any (some ⟨gq, 0, none⟩) 256 (lst 32 (wh l0)) (lst_len _ _) W (.inr ⟨gq, 0, rfl, fun j x hx => by
      have hj : j < 32 := by have h9 := (List.getElem?_eq_some_iff.1 hx).1; rwa [lst_len] at h9
      rw [lst_get _ hj] at hx
      injection hx with hx
      subst hx
      rw [hr.cell, Nat.zero_add, brr_get _ (by omega)]
      rfl⟩)
    rwa [lst_len] at h9)
  go_enter Tryd.func6, Tryd.ntmps6
  go_wp2_with (first
    | (refine step_box rfl 3 rfl 39 _ rfl [.int .u32 (e : Int), .int .u32 (s : Int), .slice A0 n0 c0] rfl ?_; intro g3 w1 hr1 hg1 hb1 hs1)
    | (go_at_call 10; refine (awake_any _).mono ?_; rintro e3 w3 ⟨rfl, hb3⟩
       have HB3 := Lib.hid (hb1.trans (hb3.mono hb1.size))
       have HR3 := Lib.hid (hr1.kept hb3)
       have k2 : w3.cell? ⟨g3, 2, none⟩ = some (.slice A0 n0 c0) := (hr1.kept hb3).cell 2
       clear hr1 hb1 hg1 hs1 hb3)
    | (go_at_call_of 22 (Value.slice A n c); refine (HWh.out _ HB3.out).mono ?_; rintro xp wp ⟨gp, rfl, hrp, hqp, hbp⟩
       have HBp := Lib.hid (HB3.out.trans (hbp.mono HB3.out.size))
       have HRp := Lib.hid hrp
       have HQp := Lib.hid (p := w.heap.size ≤ gp) (Nat.le_trans HB3.out.size hqp)
       have HR3p := Lib.hid (HR3.out.kept hbp)
       have k2p : wp.cell? ⟨g3, 2, none⟩ = some (.slice A0 n0 c0) := HR3p.out.cell 2
       clear k2 hrp hqp hbp)
    | (go_at_call_of 22 (Value.slice A0 n0 c0); refine (HWp.out _ HBp.out).mono ?_; rintro xq wq ⟨gq, rfl, hrq, hqq, hbq⟩
       have HBq := Lib.hid (HBp.out.trans (hbq.mono HBp.out.size))
       have HRq := Lib.hid hrq
       have HRpq := Lib.hid (HRp.out.kept hbq)
       have HR3q := Lib.hid (HR3p.out.kept hbq)
       clear k2p hrq hqq hbq)
    | (go_at_call 23; refine (HNew.out gq _ HRq.out).mono ?_; rintro xk wk ⟨gk, rfl, hMk, hbk⟩
       have HBk := Lib.hid (HBq.out.trans (hbk.mono HBq.out.size))
       have HRpk := Lib.hid (HRpq.out.kept hbk)
       have HR3k := Lib.hid (HR3q.out.kept hbk)
       have HMk := Lib.hid hMk
       have k0 : wk.cell? ⟨g3, 0, none⟩ = some (.int .u32 (e : Int)) := HR3k.out.cell 0
       have k1 : wk.cell? ⟨g3, 1, none⟩ = some (.int .u32 (s : Int)) := HR3k.out.cell 1
       have k2 : wk.cell? ⟨g3, 2, none⟩ = some (.slice A0 n0 c0) := HR3k.out.cell 2
       clear hbk hMk)
    | (go_at_call 17
       have hba : Below wk.heap.size wk (wk.alloc (.cells #[.int .u32 (e : Int), .int .u32 (s : Int), .slice A0 n0 c0] 41)) := (Below.refl _ _).alloc (Nat.le_refl _) _
       refine (ideal_call wk.heap.size e s A0 c0 n0 l0 HI0.out.len_ HE.out HS.out HI0.out.cap_ (by have := HL0.out; omega) _ (by simp) (by simp) (by simp) ((HI0.out.hol.below HBk.out).below hba)).mono ?_
       rintro x w4 ⟨g1, M, rfl, hM4, hME, hb4⟩
       have hbk4 := below_next hb4 hba
       have HB4 := Lib.hid (below_next hbk4 HBk.out)
       have HM4 := Lib.hid hM4
       have HMk4 := Lib.hid (HMk.out.below hbk4)
       have HR4 := Lib.hid (HR3k.out.kept hbk4)
       have HRp4 := Lib.hid (HRpk.out.kept hbk4)
       clear hba hbk4 hb4 hM4 hME k0 k1 k2))
  have gpc : (w4.alloc (.cells #[.pointer (some ⟨gk, 0, none⟩), .pointer (some ⟨g1, 0, none⟩)] 45)).heap[w4.heap.size]? = some (.cells #[.pointer (some ⟨gk, 0, none⟩), .pointer (some ⟨g1, 0, none⟩)] 45 (0, 0)) := heap_alloc_new w4 _
  have hb45 : Below w4.heap.size w4 (w4.alloc (.cells #[.pointer (some ⟨gk, 0, none⟩), .pointer (some ⟨g1, 0, none⟩)] 45)) := (Below.refl _ _).alloc (Nat.le_refl _) _
  generalize w4.alloc (.cells #[.pointer (some ⟨gk, 0, none⟩), .pointer (some ⟨g1, 0, none⟩)] 45) = w5 at *
  obtain ⟨ga, hga⟩ : ∃ ga, ga = w4.heap.size := ⟨_, rfl⟩
  rw [← hga] at gpc ⊢
  have HRa := Lib.hid (p := Row w5 ga 45 [.pointer (some ⟨gk, 0, none⟩), .pointer (some ⟨g1, 0, none⟩)]) gpc
  have HB5 := Lib.hid (HB4.out.trans (hb45.mono HB4.out.size))
  have HR5 := Lib.hid (HR4.out.kept hb45)
  have HRp5 := Lib.hid (HRp4.out.kept hb45)
  have HV5 := Lib.hid (p := ∀ k, k < 2 → ∃ gv M, (∀ W, Below w5.heap.size w5 W → W.cell? ⟨ga, k, none⟩ = some (.pointer (some ⟨gv, 0, none⟩))) ∧ MaskAt w5 gv M) (fun k hk => by
    have h9 : k = 0 ∨ k = 1 := by omega
    rcases h9 with rfl | rfl
    · exact ⟨gk, _, fun W hb => by have h := (HRa.out.kept hb).cell 0; simpa using h, HMk4.out.below hb45⟩
    · exact ⟨g1, M, fun W hb => by have h := (HRa.out.kept hb).cell 1; simpa using h, HM4.out.below hb45⟩)
  have i35 := Lib.hid (p := ∀ r : RecV, (Tryd.prog.info? 26).map (·.size) = some r.cs.length) (fun r => by rw [r.cs_len]; exact info_rec)
  have i32 := Lib.hid (p := ∀ r : RecV, (Tryd.prog.info? 24).map (·.size) = some (brr 32 r.f).length) (fun r => by rw [brr_len]; exact info_sum)
  have hzr := Lib.hid zero_rec
  have H23 := Lib.hid h3
  clear gpc hb45 hga HR4 HRp4 HMk4 HM4 HB4 HRa HNew HWh HWp HB3 HR3 HBp HRp HQp HR3p HBq HRq HRpq HR3q HBk HRpk HR3k HMk h2 h3
  try go_frame
  go_loopw [11] (fun x wr => ∃ k : Nat, k ≤ 2 ∧ x = .int .i64 (k : Int) ∧ Hid (Below w5.heap.size w5 wr)) (fun x _ => 2 - (intOf x).toNat)
  case atStart => exact ⟨0, by omega, rfl, Lib.hid (Below.refl _ _)⟩
  case round =>
    obtain ⟨k, hk, rfl, HBr⟩ := hrel
    by_cases hk2 : k < 2
    · have hki : (k : Int) < 2 := by omega
      have hk0 : (0 : Int) ≤ (k : Int) := by omega
      have HK := Lib.hid hk2
      obtain ⟨gv, Mv, hcv, hmv⟩ := HV5.out k hk2
      have HCv := Lib.hid (p := ∀ W, Below wr.heap.size wr W → W.cell? ⟨ga, k, none⟩ = some (.pointer (some ⟨gv, 0, none⟩))) (fun W hb => hcv W (HBr.out.trans (hb.mono HBr.out.size)))
      have HMr := Lib.hid (hmv.below HBr.out)
      have HR3r := Lib.hid (HR5.out.kept HBr.out)
      have HRpr := Lib.hid (HRp5.out.kept HBr.out)
      have HBw := Lib.hid (HB5.out.trans (HBr.out.mono HB5.out.size))
      obtain ⟨F, hF⟩ : ∃ F, F = hid (Mv e s) (lst 256 (wh l)) := ⟨_, rfl⟩
      have HF := Lib.hid hF
      have HSeal := Lib.hid (p := ∀ (W : World), Below wr.heap.size wr W → Calls Tryd.prog 16 #[.pointer (some ⟨gv, 0, none⟩), .int .i64 5, .int .u32 (e : Int), .int .u32 (s : Int), .slice (some ⟨gp, 0, none⟩) 256 256] W (SealPost 5 e s F W)) (fun W hb => by
        rw [hF]
        exact seal_any gv Mv 5 e s (by omega) (some ⟨gp, 0, none⟩) 256 (lst 256 (wh l)) HE.out HS.out (lst_len _ _) W (HMr.out.below hb) (HRpr.out.kept hb).hol (HT.out.below (HBw.out.trans (hb.mono HBw.out.size))))
      clear hk hk2 hcv hmv hF
      go_wp2_with fail
      try go_frame
      go_cut [12, 13, 14] from 64 to 77 (fun h p q wx => Rel8 wr (sealR 5 e s (lst 256 F)) F h p q wx)
      case first =>
        refine wp_region_held_drew (S := fun W => W.cell? ⟨ga, k, none⟩ = some (.pointer (some ⟨gv, 0, none⟩)) ∧ Row W g3 39 [.int .u32 (e : Int), .int .u32 (s : Int), .slice A0 n0 c0]) (by kernel_rfl) ⟨HCv.out _ (below_draw wr), HR3r.out.drew⟩ (fun hHeld => ?_)
        refine wpAnyH_take (i := 0) (oi := ⟨some 65, .move (.tmp 10), _, _, _, _⟩) (v := .slice (some ⟨ga, 0, none⟩) 2 2) rfl (by kernel_rfl) (by kernel_rfl) (by kernel_rfl) (fun _ _ _ h => h) (.inl ⟨by rfl, fun w hSw => by go_simp⟩) (by assumption) ?_
        simp only [Act.put, List.setIfInBounds_toArray, List.set_cons_zero, List.set_cons_succ]
        refine wpAnyH_take (i := 1) (oi := ⟨some 66, .move (.tmp 11), _, _, _, _⟩) (v := .int .i64 (k : Int)) rfl (by kernel_rfl) (by kernel_rfl) (by kernel_rfl) (fun _ _ _ h => h) (.inl ⟨by rfl, fun w hSw => by go_simp⟩) (by assumption) ?_
        simp only [Act.put, List.setIfInBounds_toArray, List.set_cons_zero, List.set_cons_succ]
        refine wpAnyH_take (i := 2) (oi := ⟨some 67, .indexAddr 54 (.tmp 65) (.tmp 66), _, _, _, _⟩) (v := .pointer (some ⟨ga, k, none⟩)) rfl (by kernel_rfl) (by kernel_rfl) (by kernel_rfl) (fun _ _ _ h => h) (.inl ⟨by rfl, fun w hSw => by go_simp⟩) (by assumption) ?_
        simp only [Act.put, List.setIfInBounds_toArray, List.set_cons_zero, List.set_cons_succ]
        refine wpAnyH_take (i := 3) (oi := ⟨some 68, .load 45 (.tmp 67), _, _, _, _⟩) (v := .pointer (some ⟨gv, 0, none⟩)) rfl (by kernel_rfl) (by kernel_rfl) (by kernel_rfl) (fun _ _ _ h => h) (.inl ⟨by rfl, fun w hSw => by have z0 := hSw.1; go_simp⟩) (by assumption) ?_
        simp only [Act.put, List.setIfInBounds_toArray, List.set_cons_zero, List.set_cons_succ]
        refine wpAnyH_take (i := 4) (oi := ⟨some 69, .fieldAddr 39 (.tmp 3) 0, _, _, _, _⟩) (v := .pointer (some ⟨g3, 0, none⟩)) rfl (by kernel_rfl) (by kernel_rfl) (by kernel_rfl) (fun _ _ _ h => h) (.inl ⟨by rfl, fun w hSw => by go_simp⟩) (by assumption) ?_
        simp only [Act.put, List.setIfInBounds_toArray, List.set_cons_zero, List.set_cons_succ]
        refine wpAnyH_take (i := 5) (oi := ⟨some 70, .load 22 (.tmp 69), _, _, _, _⟩) (v := .int .u32 (e : Int)) rfl (by kernel_rfl) (by kernel_rfl) (by kernel_rfl) (fun _ _ _ h => h) (.inl ⟨by rfl, fun w hSw => by have z0 := Row.cell hSw.2 0; have z1 := Row.cell hSw.2 1; simp at z0 z1; go_simp⟩) (by assumption) ?_
        simp only [Act.put, List.setIfInBounds_toArray, List.set_cons_zero, List.set_cons_succ]
        refine wpAnyH_take (i := 6) (oi := ⟨some 71, .fieldAddr 39 (.tmp 3) 1, _, _, _, _⟩) (v := .pointer (some ⟨g3, 1, none⟩)) rfl (by kernel_rfl) (by kernel_rfl) (by kernel_rfl) (fun _ _ _ h => h) (.inl ⟨by rfl, fun w hSw => by go_simp⟩) (by assumption) ?_
        simp only [Act.put, List.setIfInBounds_toArray, List.set_cons_zero, List.set_cons_succ]
        refine wpAnyH_take (i := 7) (oi := ⟨some 72, .load 22 (.tmp 71), _, _, _, _⟩) (v := .int .u32 (s : Int)) rfl (by kernel_rfl) (by kernel_rfl) (by kernel_rfl) (fun _ _ _ h => h) (.inl ⟨by rfl, fun w hSw => by have z0 := Row.cell hSw.2 0; have z1 := Row.cell hSw.2 1; simp at z0 z1; go_simp⟩) (by assumption) ?_
        simp only [Act.put, List.setIfInBounds_toArray, List.set_cons_zero, List.set_cons_succ]
        refine wpAnyH_take (i := 8) (oi := ⟨some 73, .move (.tmp 7), _, _, _, _⟩) (v := .slice (some ⟨gp, 0, none⟩) 256 256) rfl (by kernel_rfl) (by kernel_rfl) (by kernel_rfl) (fun _ _ _ h => h) (.inl ⟨by rfl, fun w hSw => by go_simp⟩) (by assumption) ?_
        simp only [Act.put, List.setIfInBounds_toArray, List.set_cons_zero, List.set_cons_succ]
        refine wpAnyH_ready (rs := [9, 14]) (by kernel_rfl) (by simp) ?_
        refine AllReadyH.cons (o := ⟨some 74, .call ⟨.value (.func 16), #[.tmp 68, .const (.int .i64 5), .tmp 70, .tmp 72, .tmp 73], _⟩, _, _, _, _⟩) rfl (fun K hK => ?_) (AllReadyH.cons (o := ⟨some 13, .alloc 26, _, _, _, _⟩) rfl (fun K hK => ?_) AllReadyH.nil)
        · skip
          go_simp
          refine (HSeal.out _ (below_draw wr)).mono ?_
          rintro xs ws ⟨gh, rfl, hrh, hqh, hbs⟩
          have HBs := Lib.hid (p := Below wr.heap.size wr ws) (Below.trans (below_draw wr) (hbs.out.mono (Below.size (below_draw wr))))
          have HQh := Lib.hid (p := wr.heap.size ≤ gh) (Nat.le_trans (Below.size (below_draw wr)) hqh.out)
          refine hK.out _ _ ⟨HCv.out _ HBs.out, HR3r.out.kept HBs.out⟩ (fun hH => ?_)
          clear hK K
          refine wpAnyH_take (i := 10) (oi := ⟨some 64, .move (.tmp 74), _, _, _, _⟩) (v := .tuple #[.slice (some ⟨gh, 0, none⟩) 256 256, .agg (sealR 5 e s (lst 256 F)).cs.toArray, .int .i64 0]) rfl (by kernel_rfl) (by kernel_rfl) (by kernel_rfl) (fun _ _ _ h => h) (.inl ⟨by rfl, fun w hSw => by go_simp⟩) (by assumption) ?_
          simp only [Act.put, List.setIfInBounds_toArray, List.set_cons_zero, List.set_cons_succ]
          refine wpAnyH_take (i := 11) (oi := ⟨some 75, .extract (.tmp 64) 0, _, _, _, _⟩) (v := .slice (some ⟨gh, 0, none⟩) 256 256) rfl (by kernel_rfl) (by kernel_rfl) (by kernel_rfl) (fun _ _ _ h => h) (.inl ⟨by rfl, fun w hSw => by go_simp⟩) (by assumption) ?_
          simp only [Act.put, List.setIfInBounds_toArray, List.set_cons_zero, List.set_cons_succ]
          refine wpAnyH_take (i := 12) (oi := ⟨some 76, .extract (.tmp 64) 1, _, _, _, _⟩) (v := .agg (sealR 5 e s (lst 256 F)).cs.toArray) rfl (by kernel_rfl) (by kernel_rfl) (by kernel_rfl) (fun _ _ _ h => h) (.inl ⟨by rfl, fun w hSw => by go_simp⟩) (by assumption) ?_
          simp only [Act.put, List.setIfInBounds_toArray, List.set_cons_zero, List.set_cons_succ]
          refine wpAnyH_take (i := 13) (oi := ⟨some 77, .extract (.tmp 64) 2, _, _, _, _⟩) (v := .int .i64 0) rfl (by kernel_rfl) (by kernel_rfl) (by kernel_rfl) (fun _ _ _ h => h) (.inl ⟨by rfl, fun w hSw => by go_simp⟩) (by assumption) ?_
          simp only [Act.put, List.setIfInBounds_toArray, List.set_cons_zero, List.set_cons_succ]
          refine wpAnyH_ready (rs := [14]) (by kernel_rfl) (by simp) ?_
          refine AllReadyH.cons (o := ⟨some 13, .alloc 26, _, _, _, _⟩) rfl (fun K hK => ?_) AllReadyH.nil
          refine st_alloc (by rfl) 26 rfl rec0.cs hzr.out ?_
          intro g9 w9 hr9 hg9 hb9
          have HB9 := Lib.hid (p := Below wr.heap.size wr w9) (Below.trans HBs.out (hb9.mono (Below.size HBs.out)))
          have N9 := Lib.hid (p := wr.heap.size ≤ g9) (by have h2 := Below.size HBs.out; rw [hg9.out]; exact h2)
          refine hK.out _ _ ⟨HCv.out _ HB9.out, HR3r.out.kept HB9.out⟩ (fun hH => ?_)
          clear hK K
          refine wpAnyH_take (i := 15) (oi := ⟨some 12, .assign (.tmp 75), _, _, _, _⟩) (v := .slice (some ⟨gh, 0, none⟩) 256 256) rfl (by kernel_rfl) (by kernel_rfl) (by kernel_rfl) (fun _ _ _ h => h) (.inl ⟨by rfl, fun w hSw => by go_simp⟩) (by assumption) ?_
          simp only [Act.put, List.setIfInBounds_toArray, List.set_cons_zero, List.set_cons_succ]
          refine wpAnyH_ready (rs := [16]) (by kernel_rfl) (by simp) ?_
          refine AllReadyH.cons (o := ⟨none, .store 26 (.tmp 13) (.tmp 76), _, _, _, _⟩) rfl (fun K hK => ?_) AllReadyH.nil
          have hrh9 := (hrh.out.kept hb9)
          have hr99 := hr9
          refine st_store (by rfl) 26 (.tmp 13) (.tmp 76) rfl g9 (by rfl) 26 rec0.cs (sealR 5 e s (lst 256 F)).cs (by rfl) hr99 (by rw [RecV.cs_len, RecV.cs_len]) (i35.out _) (RecV.cs_one _) ?_
          intro wz hrz hgz
          have hn := N9.out
          have hRh := hrh9.grown hgz (fun e => by injection e with e; exact hrh9.ne_ hr99 (by decide) e)
          have hBz := HB9.out.grown hgz HB9.out.size (fun q hq => by injection hq with hq; omega)
          refine hK.out _ _ ⟨HCv.out _ hBz, HR3r.out.kept hBz⟩ (fun hHz => ?_)
          clear hK K
          refine wpAnyH_take (i := 17) (oi := ⟨some 14, .assign (.tmp 77), _, _, _, _⟩) (v := .int .i64 0) rfl (by kernel_rfl) (by kernel_rfl) (by kernel_rfl) (fun _ _ _ h => h) (.inl ⟨by rfl, fun w hSw => by go_simp⟩) (by assumption) ?_
          simp only [Act.put, List.setIfInBounds_toArray, List.set_cons_zero, List.set_cons_succ]
          refine wpAnyH_done (by kernel_rfl) ?_ _
          go_wp2_with fail
          go_meet
          case rel => exact ⟨gh, g9, rfl, rfl, rfl, hRh, hrz, HQh.out, N9.out, hBz⟩
        · skip
          refine st_alloc (by rfl) 26 rfl rec0.cs hzr.out ?_
          intro g9 w9 hr9 hg9 hb9
          have HB9 := Lib.hid (p := Below wr.heap.size wr w9) (Below.trans (below_draw wr) (hb9.mono (Below.size (below_draw wr))))
          have N9 := Lib.hid (p := wr.heap.size ≤ g9) (by have h2 := Below.size (below_draw wr); rw [hg9.out]; exact h2)
          refine hK.out _ _ ⟨HCv.out _ HB9.out, HR3r.out.kept HB9.out⟩ (fun hH => ?_)
          clear hK K
          refine wpAnyH_ready (rs := [9]) (by kernel_rfl) (by simp) ?_
          refine AllReadyH.cons (o := ⟨some 74, .call ⟨.value (.func 16), #[.tmp 68, .const (.int .i64 5), .tmp 70, .tmp 72, .tmp 73], _⟩, _, _, _, _⟩) rfl (fun K hK => ?_) AllReadyH.nil
          go_simp
          refine (HSeal.out _ HB9.out).mono ?_
          rintro xs ws ⟨gh, rfl, hrh, hqh, hbs⟩
          have HBs := Lib.hid (p := Below wr.heap.size wr ws) (Below.trans HB9.out (hbs.out.mono (Below.size HB9.out)))
          have HQh := Lib.hid (p := wr.heap.size ≤ gh) (Nat.le_trans (Below.size HB9.out) hqh.out)
          refine hK.out _ _ ⟨HCv.out _ HBs.out, HR3r.out.kept HBs.out⟩ (fun hH => ?_)
          clear hK K
          refine wpAnyH_take (i := 10) (oi := ⟨some 64, .move (.tmp 74), _, _, _, _⟩) (v := .tuple #[.slice (some ⟨gh, 0, none⟩) 256 256, .agg (sealR 5 e s (lst 256 F)).cs.toArray, .int .i64 0]) rfl (by kernel_rfl) (by kernel_rfl) (by kernel_rfl) (fun _ _ _ h => h) (.inl ⟨by rfl, fun w hSw => by go_simp⟩) (by assumption) ?_
          simp only [Act.put, List.setIfInBounds_toArray, List.set_cons_zero, List.set_cons_succ]
          refine wpAnyH_take (i := 11) (oi := ⟨some 75, .extract (.tmp 64) 0, _, _, _, _⟩) (v := .slice (some ⟨gh, 0, none⟩) 256 256) rfl (by kernel_rfl) (by kernel_rfl) (by kernel_rfl) (fun _ _ _ h => h) (.inl ⟨by rfl, fun w hSw => by go_simp⟩) (by assumption) ?_
          simp only [Act.put, List.setIfInBounds_toArray, List.set_cons_zero, List.set_cons_succ]
          refine wpAnyH_take (i := 12) (oi := ⟨some 76, .extract (.tmp 64) 1, _, _, _, _⟩) (v := .agg (sealR 5 e s (lst 256 F)).cs.toArray) rfl (by kernel_rfl) (by kernel_rfl) (by kernel_rfl) (fun _ _ _ h => h) (.inl ⟨by rfl, fun w hSw => by go_simp⟩) (by assumption) ?_
          simp only [Act.put, List.setIfInBounds_toArray, List.set_cons_zero, List.set_cons_succ]
          refine wpAnyH_take (i := 13) (oi := ⟨some 77, .extract (.tmp 64) 2, _, _, _, _⟩) (v := .int .i64 0) rfl (by kernel_rfl) (by kernel_rfl) (by kernel_rfl) (fun _ _ _ h => h) (.inl ⟨by rfl, fun w hSw => by go_simp⟩) (by assumption) ?_
          simp only [Act.put, List.setIfInBounds_toArray, List.set_cons_zero, List.set_cons_succ]
          refine wpAnyH_take (i := 15) (oi := ⟨some 12, .assign (.tmp 75), _, _, _, _⟩) (v := .slice (some ⟨gh, 0, none⟩) 256 256) rfl (by kernel_rfl) (by kernel_rfl) (by kernel_rfl) (fun _ _ _ h => h) (.inl ⟨by rfl, fun w hSw => by go_simp⟩) (by assumption) ?_
          simp only [Act.put, List.setIfInBounds_toArray, List.set_cons_zero, List.set_cons_succ]
          refine wpAnyH_ready (rs := [16]) (by kernel_rfl) (by simp) ?_
          refine AllReadyH.cons (o := ⟨none, .store 26 (.tmp 13) (.tmp 76), _, _, _, _⟩) rfl (fun K hK => ?_) AllReadyH.nil
          have hrh9 := hrh.out
          have hr99 := (hr9.kept hbs.out)
          refine st_store (by rfl) 26 (.tmp 13) (.tmp 76) rfl g9 (by rfl) 26 rec0.cs (sealR 5 e s (lst 256 F)).cs (by rfl) hr99 (by rw [RecV.cs_len, RecV.cs_len]) (i35.out _) (RecV.cs_one _) ?_
          intro wz hrz hgz
          have hn := N9.out
          have hRh := hrh9.grown hgz (fun e => by injection e with e; exact hrh9.ne_ hr99 (by decide) e)
          have hBz := HBs.out.grown hgz HBs.out.size (fun q hq => by injection hq with hq; omega)
          refine hK.out _ _ ⟨HCv.out _ hBz, HR3r.out.kept hBz⟩ (fun hHz => ?_)
          clear hK K
          refine wpAnyH_take (i := 17) (oi := ⟨some 14, .assign (.tmp 77), _, _, _, _⟩) (v := .int .i64 0) rfl (by kernel_rfl) (by kernel_rfl) (by kernel_rfl) (fun _ _ _ h => h) (.inl ⟨by rfl, fun w hSw => by go_simp⟩) (by assumption) ?_
          simp only [Act.put, List.setIfInBounds_toArray, List.set_cons_zero, List.set_cons_succ]
          refine wpAnyH_done (by kernel_rfl) ?_ _
          go_wp2_with fail
          go_meet
          case rel => exact ⟨gh, g9, rfl, rfl, rfl, hRh, hrz, HQh.out, N9.out, hBz⟩
      case rest =>
        obtain ⟨gh, g9, rfl, rfl, rfl, hrh, hr9, hqh, hq9, hbc⟩ := hcut
        have HRh := Lib.hid hrh
        have HR9 := Lib.hid hr9
        have HBc := Lib.hid hbc
        have HOkR := Lib.hid (p := (sealR 5 e s (lst 256 F)).Ok) ⟨HE.out, HS.out⟩
        have HLd := Lib.hid (p := (sealR 5 e s (lst 256 F)).leads = true) (by unfold sealR; exact RecV.leads_yes (by show (1 : Int) ≤ ((5 : Nat) : Int) + 1; omega) (by show ((5 : Nat) : Int) + 1 ≤ 1024; omega))
        have HTc := Lib.hid (HT.out.below (HBw.out.trans (HBc.out.mono HBw.out.size)))
        have HMc := Lib.hid (HMr.out.below HBc.out)
        clear hrh hr9 hbc hqh hq9 HSeal
        have hq : (lst 32 (shaF (nonB e s ++ lst 256 F)) == lst 32 (shaF (nonB e s ++ lst 256 F))) = true := by simp
        have HOp := Lib.hid (p := ∀ W, Below wc.heap.size wc W → Calls Tryd.prog 24 #[.pointer (some ⟨gv, 0, none⟩), .agg (sealR 5 e s (lst 256 F)).cs.toArray, .slice (some ⟨gh, 0, none⟩) 256 256] W (OpenPost (hid (Mv e s) (lst 256 F)) W)) (fun W hb => open_any gv Mv (sealR 5 e s (lst 256 F)) HOkR.out HLd.out (some ⟨gh, 0, none⟩) 256 (lst 256 F) (lst_len _ _) (Nat.le_refl _) W (HRh.out.kept hb).hol (fun ad hd => by injection hd with hd; subst hd; exact (HRh.out.kept hb).lt) (HTc.out.below hb) (HMc.out.below hb) hq)
        clear hq
        have HCc := Lib.hid (p := ∀ W, Below wc.heap.size wc W → W.cell? ⟨ga, k, none⟩ = some (.pointer (some ⟨gv, 0, none⟩))) (fun W hb => HCv.out W (HBc.out.trans (hb.mono HBc.out.size)))
        go_wp2_with fail
        refine wp_region_held_drew (S := fun W => W.cell? ⟨ga, k, none⟩ = some (.pointer (some ⟨gv, 0, none⟩)) ∧ Row W g9 26 (sealR 5 e s (lst 256 F)).cs) (by kernel_rfl) ⟨HCc.out _ (below_draw wc), HR9.out.drew⟩ (fun hHeld => ?_)
        refine wpAnyH_take (i := 0) (oi := ⟨some 81, .move (.tmp 10), _, _, _, _⟩) (v := .slice (some ⟨ga, 0, none⟩) 2 2) rfl (by kernel_rfl) (by kernel_rfl) (by kernel_rfl) (fun _ _ _ h => h) (.inl ⟨by rfl, fun w hSw => by go_simp⟩) (by assumption) ?_
        simp only [Act.put, List.setIfInBounds_toArray, List.set_cons_zero, List.set_cons_succ]
        refine wpAnyH_take (i := 1) (oi := ⟨some 82, .move (.tmp 11), _, _, _, _⟩) (v := .int .i64 (k : Int)) rfl (by kernel_rfl) (by kernel_rfl) (by kernel_rfl) (fun _ _ _ h => h) (.inl ⟨by rfl, fun w hSw => by go_simp⟩) (by assumption) ?_
        simp only [Act.put, List.setIfInBounds_toArray, List.set_cons_zero, List.set_cons_succ]
        refine wpAnyH_take (i := 2) (oi := ⟨some 83, .indexAddr 54 (.tmp 81) (.tmp 82), _, _, _, _⟩) (v := .pointer (some ⟨ga, k, none⟩)) rfl (by kernel_rfl) (by kernel_rfl) (by kernel_rfl) (fun _ _ _ h => h) (.inl ⟨by rfl, fun w hSw => by go_simp⟩) (by assumption) ?_
        simp only [Act.put, List.setIfInBounds_toArray, List.set_cons_zero, List.set_cons_succ]
        refine wpAnyH_take (i := 3) (oi := ⟨some 84, .load 45 (.tmp 83), _, _, _, _⟩) (v := .pointer (some ⟨gv, 0, none⟩)) rfl (by kernel_rfl) (by kernel_rfl) (by kernel_rfl) (fun _ _ _ h => h) (.inl ⟨by rfl, fun w hSw => by have z0 := hSw.1; go_simp⟩) (by assumption) ?_
        simp only [Act.put, List.setIfInBounds_toArray, List.set_cons_zero, List.set_cons_succ]
        refine wpAnyH_take (i := 4) (oi := ⟨some 85, .load 26 (.tmp 13), _, _, _, _⟩) (v := .agg (sealR 5 e s (lst 256 F)).cs.toArray) rfl (by kernel_rfl) (by kernel_rfl) (by kernel_rfl) (fun _ _ _ h => h) (yieldsIf_load_mid (by rfl) 26 (.tmp 13) rfl g9 0 rfl (sealR 5 e s (lst 256 F)).cs _ (fun w hSw => hSw.2.all) Tryd.underlying26 rfl (i35.out _)) (by assumption) ?_
        simp only [Act.put, List.setIfInBounds_toArray, List.set_cons_zero, List.set_cons_succ]
        refine wpAnyH_take (i := 5) (oi := ⟨some 86, .move (.tmp 12), _, _, _, _⟩) (v := .slice (some ⟨gh, 0, none⟩) 256 256) rfl (by kernel_rfl) (by kernel_rfl) (by kernel_rfl) (fun _ _ _ h => h) (.inl ⟨by rfl, fun w hSw => by go_simp⟩) (by assumption) ?_
        simp only [Act.put, List.setIfInBounds_toArray, List.set_cons_zero, List.set_cons_succ]
        refine wpAnyH_ready (rs := [6]) (by kernel_rfl) (by simp) ?_
        refine AllReadyH.cons (o := ⟨some 87, .call ⟨.value (.func 24), #[.tmp 84, .tmp 85, .tmp 86], _⟩, _, _, _, _⟩) rfl (fun K hK => ?_) AllReadyH.nil
        go_simp
        refine (HOp.out _ (below_draw wc)).mono ?_
        rintro x15 w15 ⟨gb, rfl, hrb, _, hb15⟩
        have HB15 := Lib.hid (p := Below wc.heap.size wc w15) (below_next hb15.out (below_draw wc))
        have htw : lst 256 (hid (Mv e s) (lst 256 F)) = lst 256 (wh l) := by rw [HF.out]; exact hid_twice _ _
        have HRb := Lib.hid hrb.out.hol
        rw [htw] at HRb
        clear htw hrb hb15
        refine hK.out _ _ ⟨HCc.out _ HB15.out, HR9.out.kept HB15.out⟩ (fun hH => ?_)
        clear hK K hHeld
        refine wpAnyH_take (i := 7) (oi := ⟨some 80, .move (.tmp 87), _, _, _, _⟩) (v := .tuple #[.slice (some ⟨gb, 0, none⟩) 256 256, .int .i64 0]) rfl (by kernel_rfl) (by kernel_rfl) (by kernel_rfl) (fun _ _ _ h => h) (.inl ⟨by rfl, fun w hSw => by go_simp⟩) (by assumption) ?_
        simp only [Act.put, List.setIfInBounds_toArray, List.set_cons_zero, List.set_cons_succ]
        refine wpAnyH_take (i := 8) (oi := ⟨some 88, .extract (.tmp 80) 0, _, _, _, _⟩) (v := .slice (some ⟨gb, 0, none⟩) 256 256) rfl (by kernel_rfl) (by kernel_rfl) (by kernel_rfl) (fun _ _ _ h => h) (.inl ⟨by rfl, fun w hSw => by go_simp⟩) (by assumption) ?_
        simp only [Act.put, List.setIfInBounds_toArray, List.set_cons_zero, List.set_cons_succ]
        refine wpAnyH_take (i := 9) (oi := ⟨some 89, .extract (.tmp 80) 1, _, _, _, _⟩) (v := .int .i64 0) rfl (by kernel_rfl) (by kernel_rfl) (by kernel_rfl) (fun _ _ _ h => h) (.inl ⟨by rfl, fun w hSw => by go_simp⟩) (by assumption) ?_
        simp only [Act.put, List.setIfInBounds_toArray, List.set_cons_zero, List.set_cons_succ]
        refine wpAnyH_take (i := 10) (oi := ⟨some 15, .assign (.tmp 88), _, _, _, _⟩) (v := .slice (some ⟨gb, 0, none⟩) 256 256) rfl (by kernel_rfl) (by kernel_rfl) (by kernel_rfl) (fun _ _ _ h => h) (.inl ⟨by rfl, fun w hSw => by go_simp⟩) (by assumption) ?_
        simp only [Act.put, List.setIfInBounds_toArray, List.set_cons_zero, List.set_cons_succ]
        refine wpAnyH_take (i := 11) (oi := ⟨some 16, .assign (.tmp 89), _, _, _, _⟩) (v := .int .i64 0) rfl (by kernel_rfl) (by kernel_rfl) (by kernel_rfl) (fun _ _ _ h => h) (.inl ⟨by rfl, fun w hSw => by go_simp⟩) (by assumption) ?_
        simp only [Act.put, List.setIfInBounds_toArray, List.set_cons_zero, List.set_cons_succ]
        refine wpAnyH_done (by kernel_rfl) ?_ _
        have HRp15 := Lib.hid ((HRpr.out.kept (HBc.out.trans (HB15.out.mono HBc.out.size))).hol)
        go_wp2_with (first
          | (go_at_call 13; refine (bytes_call _ _ 256 256 256 256 _ _ (lst_len _ _).symm (lst_len _ _).symm _ HRb.out HRp15.out (by rw [lst_len]; omega) (by rw [lst_len]; omega)).mono ?_; rintro x17 w17 ⟨rfl, hb17⟩; rw [decide_eq_true rfl]
             have HB17 := Lib.hid (p := Below wc.heap.size wc w17) (HB15.out.trans (hb17.mono HB15.out.size))
             clear hb17))
        clear HRb HRp15 HOp HRh HB15 HF
        by_cases hn2 : n2 ≠ 256
        · skip
          have HOp2 := Lib.hid (fun W => open_long (.pointer (some ⟨gv, 0, none⟩)) (sealR 5 e s (lst 256 F)) HLd.out A2 n2 c2 hn2 W)
          have e256 : ((n2 : Int) == 256) = false := by simp; omega
          clear hn2
          refine wp_region_held_drew (S := fun W => W.cell? ⟨ga, k, none⟩ = some (.pointer (some ⟨gv, 0, none⟩)) ∧ Row W g9 26 (sealR 5 e s (lst 256 F)).cs) (by kernel_rfl) ⟨HCc.out _ (below_next (below_draw w17) HB17.out), (HR9.out.kept HB17.out).drew⟩ (fun hHeld => ?_)
          refine wpAnyH_take (i := 0) (oi := ⟨some 99, .move (.tmp 10), _, _, _, _⟩) (v := .slice (some ⟨ga, 0, none⟩) 2 2) rfl (by kernel_rfl) (by kernel_rfl) (by kernel_rfl) (fun _ _ _ h => h) (.inl ⟨by rfl, fun w hSw => by go_simp⟩) (by assumption) ?_
          simp only [Act.put, List.setIfInBounds_toArray, List.set_cons_zero, List.set_cons_succ]
          refine wpAnyH_take (i := 1) (oi := ⟨some 100, .move (.tmp 11), _, _, _, _⟩) (v := .int .i64 (k : Int)) rfl (by kernel_rfl) (by kernel_rfl) (by kernel_rfl) (fun _ _ _ h => h) (.inl ⟨by rfl, fun w hSw => by go_simp⟩) (by assumption) ?_
          simp only [Act.put, List.setIfInBounds_toArray, List.set_cons_zero, List.set_cons_succ]
          refine wpAnyH_take (i := 2) (oi := ⟨some 101, .indexAddr 54 (.tmp 99) (.tmp 100), _, _, _, _⟩) (v := .pointer (some ⟨ga, k, none⟩)) rfl (by kernel_rfl) (by kernel_rfl) (by kernel_rfl) (fun _ _ _ h => h) (.inl ⟨by rfl, fun w hSw => by go_simp⟩) (by assumption) ?_
          simp only [Act.put, List.setIfInBounds_toArray, List.set_cons_zero, List.set_cons_succ]
          refine wpAnyH_take (i := 3) (oi := ⟨some 102, .load 45 (.tmp 101), _, _, _, _⟩) (v := .pointer (some ⟨gv, 0, none⟩)) rfl (by kernel_rfl) (by kernel_rfl) (by kernel_rfl) (fun _ _ _ h => h) (.inl ⟨by rfl, fun w hSw => by have z0 := hSw.1; go_simp⟩) (by assumption) ?_
          simp only [Act.put, List.setIfInBounds_toArray, List.set_cons_zero, List.set_cons_succ]
          refine wpAnyH_take (i := 4) (oi := ⟨some 103, .load 26 (.tmp 13), _, _, _, _⟩) (v := .agg (sealR 5 e s (lst 256 F)).cs.toArray) rfl (by kernel_rfl) (by kernel_rfl) (by kernel_rfl) (fun _ _ _ h => h) (yieldsIf_load_mid (by rfl) 26 (.tmp 13) rfl g9 0 rfl (sealR 5 e s (lst 256 F)).cs _ (fun w hSw => hSw.2.all) Tryd.underlying26 rfl (i35.out _)) (by assumption) ?_
          simp only [Act.put, List.setIfInBounds_toArray, List.set_cons_zero, List.set_cons_succ]
          refine wpAnyH_take (i := 5) (oi := ⟨some 104, .move (.tmp 2), _, _, _, _⟩) (v := .slice A2 n2 c2) rfl (by kernel_rfl) (by kernel_rfl) (by kernel_rfl) (fun _ _ _ h => h) (.inl ⟨by rfl, fun w hSw => by go_simp⟩) (by assumption) ?_
          simp only [Act.put, List.setIfInBounds_toArray, List.set_cons_zero, List.set_cons_succ]
          refine wpAnyH_ready (rs := [6]) (by kernel_rfl) (by simp) ?_
          refine AllReadyH.cons (o := ⟨some 105, .call ⟨.value (.func 24), #[.tmp 102, .tmp 103, .tmp 104], _⟩, _, _, _, _⟩) rfl (fun K hK => ?_) AllReadyH.nil
          go_simp
          refine (HOp2.out _).mono ?_
          rintro x18 w18 ⟨rfl, hb18⟩
          have HB18 := Lib.hid (p := Below wc.heap.size wc w18) (below_next (below_next hb18 (below_draw w17)) HB17.out)
          clear hb18
          refine hK.out _ _ ⟨HCc.out _ HB18.out, HR9.out.kept HB18.out⟩ (fun hH => ?_)
          clear hK K hHeld
          refine wpAnyH_take (i := 7) (oi := ⟨some 98, .move (.tmp 105), _, _, _, _⟩) (v := .tuple #[.slice none 0 0, .int .i64 5]) rfl (by kernel_rfl) (by kernel_rfl) (by kernel_rfl) (fun _ _ _ h => h) (.inl ⟨by rfl, fun w hSw => by go_simp⟩) (by assumption) ?_
          simp only [Act.put, List.setIfInBounds_toArray, List.set_cons_zero, List.set_cons_succ]
          refine wpAnyH_take (i := 8) (oi := ⟨some 106, .extract (.tmp 98) 0, _, _, _, _⟩) (v := .slice none 0 0) rfl (by kernel_rfl) (by kernel_rfl) (by kernel_rfl) (fun _ _ _ h => h) (.inl ⟨by rfl, fun w hSw => by go_simp⟩) (by assumption) ?_
          simp only [Act.put, List.setIfInBounds_toArray, List.set_cons_zero, List.set_cons_succ]
          refine wpAnyH_take (i := 9) (oi := ⟨some 107, .extract (.tmp 98) 1, _, _, _, _⟩) (v := .int .i64 5) rfl (by kernel_rfl) (by kernel_rfl) (by kernel_rfl) (fun _ _ _ h => h) (.inl ⟨by rfl, fun w hSw => by go_simp⟩) (by assumption) ?_
          simp only [Act.put, List.setIfInBounds_toArray, List.set_cons_zero, List.set_cons_succ]
          refine wpAnyH_take (i := 10) (oi := ⟨some 17, .assign (.tmp 106), _, _, _, _⟩) (v := .slice none 0 0) rfl (by kernel_rfl) (by kernel_rfl) (by kernel_rfl) (fun _ _ _ h => h) (.inl ⟨by rfl, fun w hSw => by go_simp⟩) (by assumption) ?_
          simp only [Act.put, List.setIfInBounds_toArray, List.set_cons_zero, List.set_cons_succ]
          refine wpAnyH_take (i := 11) (oi := ⟨some 18, .assign (.tmp 107), _, _, _, _⟩) (v := .int .i64 5) rfl (by kernel_rfl) (by kernel_rfl) (by kernel_rfl) (fun _ _ _ h => h) (.inl ⟨by rfl, fun w hSw => by go_simp⟩) (by assumption) ?_
          simp only [Act.put, List.setIfInBounds_toArray, List.set_cons_zero, List.set_cons_succ]
          refine wpAnyH_done (by kernel_rfl) ?_ _
          try clear hH
          have HR3c := Lib.hid (HR3r.out.kept (HBc.out.trans (HB18.out.mono HBc.out.size)))
          go_wp2_with fail
          refine wp_region_held_drew (S := fun W => Row W g3 39 [.int .u32 (e : Int), .int .u32 (s : Int), .slice A0 n0 c0] ∧ Row W g9 26 (sealR 5 e s (lst 256 F)).cs) (by kernel_rfl) ⟨HR3c.out.drew, (HR9.out.kept HB18.out).drew⟩ (fun hHeld => ?_)
          refine wpAnyH_take (i := 0) (oi := ⟨some 108, .move (.tmp 2), _, _, _, _⟩) (v := .slice A2 n2 c2) rfl (by kernel_rfl) (by kernel_rfl) (by kernel_rfl) (fun _ _ _ h => h) (.inl ⟨by rfl, fun w hSw => by go_simp⟩) (by assumption) ?_
          simp only [Act.put, List.setIfInBounds_toArray, List.set_cons_zero, List.set_cons_succ]
          refine wpAnyH_take (i := 1) (oi := ⟨some 109, .call ⟨.builtin .len, #[.tmp 108], _⟩, _, _, _, _⟩) (v := .int .i64 (n2 : Int)) rfl (by kernel_rfl) (by kernel_rfl) (by kernel_rfl) (fun _ _ _ h => h) (.inl ⟨by rfl, fun w hSw => by go_simp⟩) (by assumption) ?_
          simp only [Act.put, List.setIfInBounds_toArray, List.set_cons_zero, List.set_cons_succ]
          refine wpAnyH_take (i := 2) (oi := ⟨some 110, .binOp .eql 3 (.tmp 109) (.const (.int .i64 256)) 3, _, _, _, _⟩) (v := .bool false) rfl (by kernel_rfl) (by kernel_rfl) (by kernel_rfl) (fun _ _ _ h => h) (.inl ⟨by rfl, fun w hSw => by go_simp⟩) (by assumption) ?_
          simp only [Act.put, List.setIfInBounds_toArray, List.set_cons_zero, List.set_cons_succ]
          refine wpAnyH_take (i := 3) (oi := ⟨some 111, .move (.tmp 110), _, _, _, _⟩) (v := .bool false) rfl (by kernel_rfl) (by kernel_rfl) (by kernel_rfl) (fun _ _ _ h => h) (.inl ⟨by rfl, fun w hSw => by go_simp⟩) (by assumption) ?_
          simp only [Act.put, List.setIfInBounds_toArray, List.set_cons_zero, List.set_cons_succ]
          refine wpAnyH_take (i := 4) (oi := ⟨some 112, .fieldAddr 39 (.tmp 3) 0, _, _, _, _⟩) (v := undef) rfl (by kernel_rfl) (by kernel_rfl) (by kernel_rfl) (fun _ _ _ h => h) (.inr ⟨by rfl, rfl⟩) (by assumption) ?_
          simp only [Act.put, List.setIfInBounds_toArray, List.set_cons_zero, List.set_cons_succ]
          refine wpAnyH_take (i := 5) (oi := ⟨some 113, .load 22 (.tmp 112), _, _, _, _⟩) (v := undef) rfl (by kernel_rfl) (by kernel_rfl) (by kernel_rfl) (fun _ _ _ h => h) (.inr ⟨by rfl, rfl⟩) (by assumption) ?_
          simp only [Act.put, List.setIfInBounds_toArray, List.set_cons_zero, List.set_cons_succ]
          refine wpAnyH_take (i := 6) (oi := ⟨some 114, .fieldAddr 39 (.tmp 3) 1, _, _, _, _⟩) (v := undef) rfl (by kernel_rfl) (by kernel_rfl) (by kernel_rfl) (fun _ _ _ h => h) (.inr ⟨by rfl, rfl⟩) (by assumption) ?_
          simp only [Act.put, List.setIfInBounds_toArray, List.set_cons_zero, List.set_cons_succ]
          refine wpAnyH_take (i := 7) (oi := ⟨some 115, .load 22 (.tmp 114), _, _, _, _⟩) (v := undef) rfl (by kernel_rfl) (by kernel_rfl) (by kernel_rfl) (fun _ _ _ h => h) (.inr ⟨by rfl, rfl⟩) (by assumption) ?_
          simp only [Act.put, List.setIfInBounds_toArray, List.set_cons_zero, List.set_cons_succ]
          refine wpAnyH_take (i := 8) (oi := ⟨some 116, .move (.tmp 2), _, _, _, _⟩) (v := undef) rfl (by kernel_rfl) (by kernel_rfl) (by kernel_rfl) (fun _ _ _ h => h) (.inr ⟨by rfl, rfl⟩) (by assumption) ?_
          simp only [Act.put, List.setIfInBounds_toArray, List.set_cons_zero, List.set_cons_succ]
          refine wpAnyH_take (i := 9) (oi := ⟨some 117, .call ⟨.value (.func 20), #[.tmp 113, .tmp 115, .tmp 116], _⟩, _, _, _, _⟩) (v := undef) rfl (by kernel_rfl) (by kernel_rfl) (by kernel_rfl) (fun _ _ _ h => h) (.inr ⟨by rfl, rfl⟩) (by assumption) ?_
          simp only [Act.put, List.setIfInBounds_toArray, List.set_cons_zero, List.set_cons_succ]
          refine wpAnyH_take (i := 10) (oi := ⟨some 118, .fieldAddr 26 (.tmp 13) 3, _, _, _, _⟩) (v := undef) rfl (by kernel_rfl) (by kernel_rfl) (by kernel_rfl) (fun _ _ _ h => h) (.inr ⟨by rfl, rfl⟩) (by assumption) ?_
          simp only [Act.put, List.setIfInBounds_toArray, List.set_cons_zero, List.set_cons_succ]
          refine wpAnyH_take (i := 11) (oi := ⟨some 119, .load 24 (.tmp 118), _, _, _, _⟩) (v := undef) rfl (by kernel_rfl) (by kernel_rfl) (by kernel_rfl) (fun _ _ _ h => h) (.inr ⟨by rfl, rfl⟩) (by assumption) ?_
          simp only [Act.put, List.setIfInBounds_toArray, List.set_cons_zero, List.set_cons_succ]
          refine wpAnyH_take (i := 12) (oi := ⟨some 120, .binOp .eql 24 (.tmp 117) (.tmp 119) 24, _, _, _, _⟩) (v := undef) rfl (by kernel_rfl) (by kernel_rfl) (by kernel_rfl) (fun _ _ _ h => h) (.inr ⟨by rfl, rfl⟩) (by assumption) ?_
          simp only [Act.put, List.setIfInBounds_toArray, List.set_cons_zero, List.set_cons_succ]
          refine wpAnyH_take (i := 13) (oi := ⟨some 121, .pick (.tmp 111) (.tmp 120) (.const (.bool false)), _, _, _, _⟩) (v := .bool false) rfl (by kernel_rfl) (by kernel_rfl) (by kernel_rfl) (fun _ _ _ h => h) (.inl ⟨by rfl, fun w hSw => by go_simp⟩) (by assumption) ?_
          simp only [Act.put, List.setIfInBounds_toArray, List.set_cons_zero, List.set_cons_succ]
          refine wpAnyH_take (i := 14) (oi := ⟨some 19, .assign (.tmp 121), _, _, _, _⟩) (v := .bool false) rfl (by kernel_rfl) (by kernel_rfl) (by kernel_rfl) (fun _ _ _ h => h) (.inl ⟨by rfl, fun w hSw => by go_simp⟩) (by assumption) ?_
          simp only [Act.put, List.setIfInBounds_toArray, List.set_cons_zero, List.set_cons_succ]
          refine wpAnyH_done (by kernel_rfl) ?_ _
          try clear hH
          go_wp2_with fail
          go_roundw
          case rel => exact ⟨k + 1, HK.out, by go_num, Lib.hid (below_next (below_next (Lib.hid (below_next (below_draw w18) HB18.out)).out HBc.out) HBr.out)⟩
          case measure => have := HK.out; simp [intOf]; omega
        · replace hn2 : n2 = 256 := by omega
          cases hq2 : (lst 32 (shaF (nonB e s ++ l2)) == lst 32 (shaF (nonB e s ++ lst 256 F)))
          case false =>
            have HOp2 := Lib.hid (p := ∀ W, Below wc.heap.size wc W → Calls Tryd.prog 24 #[.pointer (some ⟨gv, 0, none⟩), .agg (sealR 5 e s (lst 256 F)).cs.toArray, .slice A2 n2 c2] W (ShutPost W)) (fun W hb => by have hI := HI2.out; rw [hn2] at hI ⊢; exact open_other (.pointer (some ⟨gv, 0, none⟩)) (sealR 5 e s (lst 256 F)) HOkR.out HLd.out A2 c2 l2 hI.len_.symm hI.cap_ W (hI.hol.below ((HBw.out.trans (HBc.out.mono HBw.out.size)).trans (hb.mono (HBw.out.trans (HBc.out.mono HBw.out.size)).size))) (hol_lt (hI.hol.below ((HBw.out.trans (HBc.out.mono HBw.out.size)).trans (hb.mono (HBw.out.trans (HBc.out.mono HBw.out.size)).size))) hI.len_) (HTc.out.below hb) hq2)
            have HQ2 := Lib.hid hq2
            have HDg := Lib.hid (p := ∀ W, Below w.heap.size w W → Calls Tryd.prog 20 #[.int .u32 (e : Int), .int .u32 (s : Int), .slice A2 n2 c2] W fun x w' => x = .returned (.agg (brr 32 (shaF (nonB e s ++ l2))).toArray) ∧ Below W.heap.size W w') (fun W hb => by have hI := HI2.out; rw [hn2] at hI ⊢; exact rdigest_any e s A2 256 c2 l2 hI.len_ HE.out HS.out W (hI.hol.below hb) (by have := hI.len_; omega))
            have e256 : ((n2 : Int) == 256) = true := by simp; omega
            clear hq2 hn2
            refine wp_region_held_drew (S := fun W => W.cell? ⟨ga, k, none⟩ = some (.pointer (some ⟨gv, 0, none⟩)) ∧ Row W g9 26 (sealR 5 e s (lst 256 F)).cs) (by kernel_rfl) ⟨HCc.out _ (below_next (below_draw w17) HB17.out), (HR9.out.kept HB17.out).drew⟩ (fun hHeld => ?_)
            refine wpAnyH_take (i := 0) (oi := ⟨some 99, .move (.tmp 10), _, _, _, _⟩) (v := .slice (some ⟨ga, 0, none⟩) 2 2) rfl (by kernel_rfl) (by kernel_rfl) (by kernel_rfl) (fun _ _ _ h => h) (.inl ⟨by rfl, fun w hSw => by go_simp⟩) (by assumption) ?_
            simp only [Act.put, List.setIfInBounds_toArray, List.set_cons_zero, List.set_cons_succ]
            refine wpAnyH_take (i := 1) (oi := ⟨some 100, .move (.tmp 11), _, _, _, _⟩) (v := .int .i64 (k : Int)) rfl (by kernel_rfl) (by kernel_rfl) (by kernel_rfl) (fun _ _ _ h => h) (.inl ⟨by rfl, fun w hSw => by go_simp⟩) (by assumption) ?_
            simp only [Act.put, List.setIfInBounds_toArray, List.set_cons_zero, List.set_cons_succ]
            refine wpAnyH_take (i := 2) (oi := ⟨some 101, .indexAddr 54 (.tmp 99) (.tmp 100), _, _, _, _⟩) (v := .pointer (some ⟨ga, k, none⟩)) rfl (by kernel_rfl) (by kernel_rfl) (by kernel_rfl) (fun _ _ _ h => h) (.inl ⟨by rfl, fun w hSw => by go_simp⟩) (by assumption) ?_
            simp only [Act.put, List.setIfInBounds_toArray, List.set_cons_zero, List.set_cons_succ]
            refine wpAnyH_take (i := 3) (oi := ⟨some 102, .load 45 (.tmp 101), _, _, _, _⟩) (v := .pointer (some ⟨gv, 0, none⟩)) rfl (by kernel_rfl) (by kernel_rfl) (by kernel_rfl) (fun _ _ _ h => h) (.inl ⟨by rfl, fun w hSw => by have z0 := hSw.1; go_simp⟩) (by assumption) ?_
            simp only [Act.put, List.setIfInBounds_toArray, List.set_cons_zero, List.set_cons_succ]
            refine wpAnyH_take (i := 4) (oi := ⟨some 103, .load 26 (.tmp 13), _, _, _, _⟩) (v := .agg (sealR 5 e s (lst 256 F)).cs.toArray) rfl (by kernel_rfl) (by kernel_rfl) (by kernel_rfl) (fun _ _ _ h => h) (yieldsIf_load_mid (by rfl) 26 (.tmp 13) rfl g9 0 rfl (sealR 5 e s (lst 256 F)).cs _ (fun w hSw => hSw.2.all) Tryd.underlying26 rfl (i35.out _)) (by assumption) ?_
            simp only [Act.put, List.setIfInBounds_toArray, List.set_cons_zero, List.set_cons_succ]
            refine wpAnyH_take (i := 5) (oi := ⟨some 104, .move (.tmp 2), _, _, _, _⟩) (v := .slice A2 n2 c2) rfl (by kernel_rfl) (by kernel_rfl) (by kernel_rfl) (fun _ _ _ h => h) (.inl ⟨by rfl, fun w hSw => by go_simp⟩) (by assumption) ?_
            simp only [Act.put, List.setIfInBounds_toArray, List.set_cons_zero, List.set_cons_succ]
            refine wpAnyH_ready (rs := [6]) (by kernel_rfl) (by simp) ?_
            refine AllReadyH.cons (o := ⟨some 105, .call ⟨.value (.func 24), #[.tmp 102, .tmp 103, .tmp 104], _⟩, _, _, _, _⟩) rfl (fun K hK => ?_) AllReadyH.nil
            go_simp
            refine (HOp2.out _ (below_next (below_draw w17) HB17.out)).mono ?_
            rintro x18 w18 ⟨rfl, hb18⟩
            have HB18 := Lib.hid (p := Below wc.heap.size wc w18) (below_next (below_next hb18 (below_draw w17)) HB17.out)
            clear hb18
            refine hK.out _ _ ⟨HCc.out _ HB18.out, HR9.out.kept HB18.out⟩ (fun hH => ?_)
            clear hK K hHeld
            refine wpAnyH_take (i := 7) (oi := ⟨some 98, .move (.tmp 105), _, _, _, _⟩) (v := .tuple #[.slice none 0 0, .int .i64 5]) rfl (by kernel_rfl) (by kernel_rfl) (by kernel_rfl) (fun _ _ _ h => h) (.inl ⟨by rfl, fun w hSw => by go_simp⟩) (by assumption) ?_
            simp only [Act.put, List.setIfInBounds_toArray, List.set_cons_zero, List.set_cons_succ]
            refine wpAnyH_take (i := 8) (oi := ⟨some 106, .extract (.tmp 98) 0, _, _, _, _⟩) (v := .slice none 0 0) rfl (by kernel_rfl) (by kernel_rfl) (by kernel_rfl) (fun _ _ _ h => h) (.inl ⟨by rfl, fun w hSw => by go_simp⟩) (by assumption) ?_
            simp only [Act.put, List.setIfInBounds_toArray, List.set_cons_zero, List.set_cons_succ]
            refine wpAnyH_take (i := 9) (oi := ⟨some 107, .extract (.tmp 98) 1, _, _, _, _⟩) (v := .int .i64 5) rfl (by kernel_rfl) (by kernel_rfl) (by kernel_rfl) (fun _ _ _ h => h) (.inl ⟨by rfl, fun w hSw => by go_simp⟩) (by assumption) ?_
            simp only [Act.put, List.setIfInBounds_toArray, List.set_cons_zero, List.set_cons_succ]
            refine wpAnyH_take (i := 10) (oi := ⟨some 17, .assign (.tmp 106), _, _, _, _⟩) (v := .slice none 0 0) rfl (by kernel_rfl) (by kernel_rfl) (by kernel_rfl) (fun _ _ _ h => h) (.inl ⟨by rfl, fun w hSw => by go_simp⟩) (by assumption) ?_
            simp only [Act.put, List.setIfInBounds_toArray, List.set_cons_zero, List.set_cons_succ]
            refine wpAnyH_take (i := 11) (oi := ⟨some 18, .assign (.tmp 107), _, _, _, _⟩) (v := .int .i64 5) rfl (by kernel_rfl) (by kernel_rfl) (by kernel_rfl) (fun _ _ _ h => h) (.inl ⟨by rfl, fun w hSw => by go_simp⟩) (by assumption) ?_
            simp only [Act.put, List.setIfInBounds_toArray, List.set_cons_zero, List.set_cons_succ]
            refine wpAnyH_done (by kernel_rfl) ?_ _
            try clear hH
            have HR3c := Lib.hid (HR3r.out.kept (HBc.out.trans (HB18.out.mono HBc.out.size)))
            go_wp2_with fail
            refine wp_region_held_drew (S := fun W => Row W g3 39 [.int .u32 (e : Int), .int .u32 (s : Int), .slice A0 n0 c0] ∧ Row W g9 26 (sealR 5 e s (lst 256 F)).cs) (by kernel_rfl) ⟨HR3c.out.drew, (HR9.out.kept HB18.out).drew⟩ (fun hHeld => ?_)
            refine wpAnyH_take (i := 0) (oi := ⟨some 108, .move (.tmp 2), _, _, _, _⟩) (v := .slice A2 n2 c2) rfl (by kernel_rfl) (by kernel_rfl) (by kernel_rfl) (fun _ _ _ h => h) (.inl ⟨by rfl, fun w hSw => by go_simp⟩) (by assumption) ?_
            simp only [Act.put, List.setIfInBounds_toArray, List.set_cons_zero, List.set_cons_succ]
            refine wpAnyH_take (i := 1) (oi := ⟨some 109, .call ⟨.builtin .len, #[.tmp 108], _⟩, _, _, _, _⟩) (v := .int .i64 (n2 : Int)) rfl (by kernel_rfl) (by kernel_rfl) (by kernel_rfl) (fun _ _ _ h => h) (.inl ⟨by rfl, fun w hSw => by go_simp⟩) (by assumption) ?_
            simp only [Act.put, List.setIfInBounds_toArray, List.set_cons_zero, List.set_cons_succ]
            refine wpAnyH_take (i := 2) (oi := ⟨some 110, .binOp .eql 3 (.tmp 109) (.const (.int .i64 256)) 3, _, _, _, _⟩) (v := .bool true) rfl (by kernel_rfl) (by kernel_rfl) (by kernel_rfl) (fun _ _ _ h => h) (.inl ⟨by rfl, fun w hSw => by go_simp⟩) (by assumption) ?_
            simp only [Act.put, List.setIfInBounds_toArray, List.set_cons_zero, List.set_cons_succ]
            refine wpAnyH_take (i := 3) (oi := ⟨some 111, .move (.tmp 110), _, _, _, _⟩) (v := .bool true) rfl (by kernel_rfl) (by kernel_rfl) (by kernel_rfl) (fun _ _ _ h => h) (.inl ⟨by rfl, fun w hSw => by go_simp⟩) (by assumption) ?_
            simp only [Act.put, List.setIfInBounds_toArray, List.set_cons_zero, List.set_cons_succ]
            refine wpAnyH_take (i := 4) (oi := ⟨some 112, .fieldAddr 39 (.tmp 3) 0, _, _, _, _⟩) (v := .pointer (some ⟨g3, 0, none⟩)) rfl (by kernel_rfl) (by kernel_rfl) (by kernel_rfl) (fun _ _ _ h => h) (.inl ⟨by rfl, fun w hSw => by go_simp⟩) (by assumption) ?_
            simp only [Act.put, List.setIfInBounds_toArray, List.set_cons_zero, List.set_cons_succ]
            refine wpAnyH_take (i := 5) (oi := ⟨some 113, .load 22 (.tmp 112), _, _, _, _⟩) (v := .int .u32 (e : Int)) rfl (by kernel_rfl) (by kernel_rfl) (by kernel_rfl) (fun _ _ _ h => h) (.inl ⟨by rfl, fun w hSw => by have z0 := Row.cell hSw.1 0; have z1 := Row.cell hSw.1 1; simp at z0 z1; go_simp⟩) (by assumption) ?_
            simp only [Act.put, List.setIfInBounds_toArray, List.set_cons_zero, List.set_cons_succ]
            refine wpAnyH_take (i := 6) (oi := ⟨some 114, .fieldAddr 39 (.tmp 3) 1, _, _, _, _⟩) (v := .pointer (some ⟨g3, 1, none⟩)) rfl (by kernel_rfl) (by kernel_rfl) (by kernel_rfl) (fun _ _ _ h => h) (.inl ⟨by rfl, fun w hSw => by go_simp⟩) (by assumption) ?_
            simp only [Act.put, List.setIfInBounds_toArray, List.set_cons_zero, List.set_cons_succ]
            refine wpAnyH_take (i := 7) (oi := ⟨some 115, .load 22 (.tmp 114), _, _, _, _⟩) (v := .int .u32 (s : Int)) rfl (by kernel_rfl) (by kernel_rfl) (by kernel_rfl) (fun _ _ _ h => h) (.inl ⟨by rfl, fun w hSw => by have z0 := Row.cell hSw.1 0; have z1 := Row.cell hSw.1 1; simp at z0 z1; go_simp⟩) (by assumption) ?_
            simp only [Act.put, List.setIfInBounds_toArray, List.set_cons_zero, List.set_cons_succ]
            refine wpAnyH_take (i := 8) (oi := ⟨some 116, .move (.tmp 2), _, _, _, _⟩) (v := .slice A2 n2 c2) rfl (by kernel_rfl) (by kernel_rfl) (by kernel_rfl) (fun _ _ _ h => h) (.inl ⟨by rfl, fun w hSw => by go_simp⟩) (by assumption) ?_
            simp only [Act.put, List.setIfInBounds_toArray, List.set_cons_zero, List.set_cons_succ]
            refine wpAnyH_take (i := 10) (oi := ⟨some 118, .fieldAddr 26 (.tmp 13) 3, _, _, _, _⟩) (v := .pointer (some ⟨g9, 3, none⟩)) rfl (by kernel_rfl) (by kernel_rfl) (by kernel_rfl) (fun _ _ _ h => h) (.inl ⟨by rfl, fun w hSw => by go_simp⟩) (by assumption) ?_
            simp only [Act.put, List.setIfInBounds_toArray, List.set_cons_zero, List.set_cons_succ]
            refine wpAnyH_take (i := 11) (oi := ⟨some 119, .load 24 (.tmp 118), _, _, _, _⟩) (v := .agg (brr 32 (sealR 5 e s (lst 256 F)).f).toArray) rfl (by kernel_rfl) (by kernel_rfl) (by kernel_rfl) (fun _ _ _ h => h) (yieldsIf_load_mid (by rfl) 24 (.tmp 118) rfl g9 3 rfl (brr 32 (sealR 5 e s (lst 256 F)).f) _ (fun w hSw => RecV.sum_range hSw.2) Tryd.underlying24 rfl (i32.out (sealR 5 e s (lst 256 F)))) (by assumption) ?_
            simp only [Act.put, List.setIfInBounds_toArray, List.set_cons_zero, List.set_cons_succ]
            refine wpAnyH_ready (rs := [9]) (by kernel_rfl) (by simp) ?_
            refine AllReadyH.cons (o := ⟨some 117, .call ⟨.value (.func 20), #[.tmp 113, .tmp 115, .tmp 116], _⟩, _, _, _, _⟩) rfl (fun K hK => ?_) AllReadyH.nil
            go_simp
            refine (HDg.out _ (((HBw.out.trans (HBc.out.mono HBw.out.size)).trans (HB18.out.mono (HBw.out.trans (HBc.out.mono HBw.out.size)).size)).drew)).mono ?_
            rintro x19 w19 ⟨rfl, hb19⟩
            have HB19 := Lib.hid (p := Below wc.heap.size wc w19) (below_next (below_next hb19 (below_draw w18)) HB18.out)
            clear hb19
            refine hK.out _ _ ⟨HR3r.out.kept (HBc.out.trans (HB19.out.mono HBc.out.size)), HR9.out.kept HB19.out⟩ (fun hH => ?_)
            clear hK K hHeld
            have HEQ := Lib.hid (fun w => eq_sum 9998 (shaF (nonB e s ++ l2)) (shaF (nonB e s ++ lst 256 F)) w)
            refine wpAnyH_take (i := 12) (oi := ⟨some 120, .binOp .eql 24 (.tmp 117) (.tmp 119) 24, _, _, _, _⟩) (v := .bool (lst 32 (shaF (nonB e s ++ l2)) == lst 32 (shaF (nonB e s ++ lst 256 F)))) rfl (by kernel_rfl) (by kernel_rfl) (by kernel_rfl) (fun _ _ _ h => h) (.inl ⟨by rfl, fun w hSw => run_eql_op w _ _ _ _ _ rfl _ _ rfl rfl sum_guard _ HEQ.out⟩) (by assumption) ?_
            simp only [Act.put, List.setIfInBounds_toArray, List.set_cons_zero, List.set_cons_succ]
            have hqq : (lst 32 (shaF (nonB e s ++ l2)) == lst 32 (shaF (nonB e s ++ lst 256 F))) = false := HQ2.out
            rw [hqq]
            clear HEQ hqq
            refine wpAnyH_take (i := 13) (oi := ⟨some 121, .pick (.tmp 111) (.tmp 120) (.const (.bool false)), _, _, _, _⟩) (v := .bool false) rfl (by kernel_rfl) (by kernel_rfl) (by kernel_rfl) (fun _ _ _ h => h) (.inl ⟨by rfl, fun w hSw => by go_simp⟩) (by assumption) ?_
            simp only [Act.put, List.setIfInBounds_toArray, List.set_cons_zero, List.set_cons_succ]
            refine wpAnyH_take (i := 14) (oi := ⟨some 19, .assign (.tmp 121), _, _, _, _⟩) (v := .bool false) rfl (by kernel_rfl) (by kernel_rfl) (by kernel_rfl) (fun _ _ _ h => h) (.inl ⟨by rfl, fun w hSw => by go_simp⟩) (by assumption) ?_
            simp only [Act.put, List.setIfInBounds_toArray, List.set_cons_zero, List.set_cons_succ]
            refine wpAnyH_done (by kernel_rfl) ?_ _
            try clear hH
            go_wp2_with fail
            go_roundw
            case rel => exact ⟨k + 1, HK.out, by go_num, Lib.hid (below_next (below_next HB19.out HBc.out) HBr.out)⟩
            case measure => have := HK.out; simp [intOf]; omega
          case true =>
            have HOp2 := Lib.hid (p := ∀ W, Below wc.heap.size wc W → Calls Tryd.prog 24 #[.pointer (some ⟨gv, 0, none⟩), .agg (sealR 5 e s (lst 256 F)).cs.toArray, .slice A2 n2 c2] W (OpenPost (hid (Mv e s) l2) W)) (fun W hb => by have hI := HI2.out; rw [hn2] at hI ⊢; exact open_any gv Mv (sealR 5 e s (lst 256 F)) HOkR.out HLd.out A2 c2 l2 hI.len_.symm hI.cap_ W (hI.hol.below ((HBw.out.trans (HBc.out.mono HBw.out.size)).trans (hb.mono (HBw.out.trans (HBc.out.mono HBw.out.size)).size))) (hol_lt (hI.hol.below ((HBw.out.trans (HBc.out.mono HBw.out.size)).trans (hb.mono (HBw.out.trans (HBc.out.mono HBw.out.size)).size))) hI.len_) (HTc.out.below hb) (HMc.out.below hb) hq2)
            have HQ2 := Lib.hid hq2
            have HDg := Lib.hid (p := ∀ W, Below w.heap.size w W → Calls Tryd.prog 20 #[.int .u32 (e : Int), .int .u32 (s : Int), .slice A2 n2 c2] W fun x w' => x = .returned (.agg (brr 32 (shaF (nonB e s ++ l2))).toArray) ∧ Below W.heap.size W w') (fun W hb => by have hI := HI2.out; rw [hn2] at hI ⊢; exact rdigest_any e s A2 256 c2 l2 hI.len_ HE.out HS.out W (hI.hol.below hb) (by have := hI.len_; omega))
            have e256 : ((n2 : Int) == 256) = true := by simp; omega
            clear hq2 hn2
            refine wp_region_held_drew (S := fun W => W.cell? ⟨ga, k, none⟩ = some (.pointer (some ⟨gv, 0, none⟩)) ∧ Row W g9 26 (sealR 5 e s (lst 256 F)).cs) (by kernel_rfl) ⟨HCc.out _ (below_next (below_draw w17) HB17.out), (HR9.out.kept HB17.out).drew⟩ (fun hHeld => ?_)
            refine wpAnyH_take (i := 0) (oi := ⟨some 99, .move (.tmp 10), _, _, _, _⟩) (v := .slice (some ⟨ga, 0, none⟩) 2 2) rfl (by kernel_rfl) (by kernel_rfl) (by kernel_rfl) (fun _ _ _ h => h) (.inl ⟨by rfl, fun w hSw => by go_simp⟩) (by assumption) ?_
            simp only [Act.put, List.setIfInBounds_toArray, List.set_cons_zero, List.set_cons_succ]
            refine wpAnyH_take (i := 1) (oi := ⟨some 100, .move (.tmp 11), _, _, _, _⟩) (v := .int .i64 (k : Int)) rfl (by kernel_rfl) (by kernel_rfl) (by kernel_rfl) (fun _ _ _ h => h) (.inl ⟨by rfl, fun w hSw => by go_simp⟩) (by assumption) ?_
            simp only [Act.put, List.setIfInBounds_toArray, List.set_cons_zero, List.set_cons_succ]
            refine wpAnyH_take (i := 2) (oi := ⟨some 101, .indexAddr 54 (.tmp 99) (.tmp 100), _, _, _, _⟩) (v := .pointer (some ⟨ga, k, none⟩)) rfl (by kernel_rfl) (by kernel_rfl) (by kernel_rfl) (fun _ _ _ h => h) (.inl ⟨by rfl, fun w hSw => by go_simp⟩) (by assumption) ?_
            simp only [Act.put, List.setIfInBounds_toArray, List.set_cons_zero, List.set_cons_succ]
            refine wpAnyH_take (i := 3) (oi := ⟨some 102, .load 45 (.tmp 101), _, _, _, _⟩) (v := .pointer (some ⟨gv, 0, none⟩)) rfl (by kernel_rfl) (by kernel_rfl) (by kernel_rfl) (fun _ _ _ h => h) (.inl ⟨by rfl, fun w hSw => by have z0 := hSw.1; go_simp⟩) (by assumption) ?_
            simp only [Act.put, List.setIfInBounds_toArray, List.set_cons_zero, List.set_cons_succ]
            refine wpAnyH_take (i := 4) (oi := ⟨some 103, .load 26 (.tmp 13), _, _, _, _⟩) (v := .agg (sealR 5 e s (lst 256 F)).cs.toArray) rfl (by kernel_rfl) (by kernel_rfl) (by kernel_rfl) (fun _ _ _ h => h) (yieldsIf_load_mid (by rfl) 26 (.tmp 13) rfl g9 0 rfl (sealR 5 e s (lst 256 F)).cs _ (fun w hSw => hSw.2.all) Tryd.underlying26 rfl (i35.out _)) (by assumption) ?_
            simp only [Act.put, List.setIfInBounds_toArray, List.set_cons_zero, List.set_cons_succ]
            refine wpAnyH_take (i := 5) (oi := ⟨some 104, .move (.tmp 2), _, _, _, _⟩) (v := .slice A2 n2 c2) rfl (by kernel_rfl) (by kernel_rfl) (by kernel_rfl) (fun _ _ _ h => h) (.inl ⟨by rfl, fun w hSw => by go_simp⟩) (by assumption) ?_
            simp only [Act.put, List.setIfInBounds_toArray, List.set_cons_zero, List.set_cons_succ]
            refine wpAnyH_ready (rs := [6]) (by kernel_rfl) (by simp) ?_
            refine AllReadyH.cons (o := ⟨some 105, .call ⟨.value (.func 24), #[.tmp 102, .tmp 103, .tmp 104], _⟩, _, _, _, _⟩) rfl (fun K hK => ?_) AllReadyH.nil
            go_simp
            refine (HOp2.out _ (below_next (below_draw w17) HB17.out)).mono ?_
            rintro x18 w18 ⟨gb2, rfl, _, _, hb18⟩
            have HB18 := Lib.hid (p := Below wc.heap.size wc w18) (below_next (below_next hb18.out (below_draw w17)) HB17.out)
            clear hb18
            refine hK.out _ _ ⟨HCc.out _ HB18.out, HR9.out.kept HB18.out⟩ (fun hH => ?_)
            clear hK K hHeld
            refine wpAnyH_take (i := 7) (oi := ⟨some 98, .move (.tmp 105), _, _, _, _⟩) (v := .tuple #[.slice (some ⟨gb2, 0, none⟩) 256 256, .int .i64 0]) rfl (by kernel_rfl) (by kernel_rfl) (by kernel_rfl) (fun _ _ _ h => h) (.inl ⟨by rfl, fun w hSw => by go_simp⟩) (by assumption) ?_
            simp only [Act.put, List.setIfInBounds_toArray, List.set_cons_zero, List.set_cons_succ]
            refine wpAnyH_take (i := 8) (oi := ⟨some 106, .extract (.tmp 98) 0, _, _, _, _⟩) (v := .slice (some ⟨gb2, 0, none⟩) 256 256) rfl (by kernel_rfl) (by kernel_rfl) (by kernel_rfl) (fun _ _ _ h => h) (.inl ⟨by rfl, fun w hSw => by go_simp⟩) (by assumption) ?_
            simp only [Act.put, List.setIfInBounds_toArray, List.set_cons_zero, List.set_cons_succ]
            refine wpAnyH_take (i := 9) (oi := ⟨some 107, .extract (.tmp 98) 1, _, _, _, _⟩) (v := .int .i64 0) rfl (by kernel_rfl) (by kernel_rfl) (by kernel_rfl) (fun _ _ _ h => h) (.inl ⟨by rfl, fun w hSw => by go_simp⟩) (by assumption) ?_
            simp only [Act.put, List.setIfInBounds_toArray, List.set_cons_zero, List.set_cons_succ]
            refine wpAnyH_take (i := 10) (oi := ⟨some 17, .assign (.tmp 106), _, _, _, _⟩) (v := .slice (some ⟨gb2, 0, none⟩) 256 256) rfl (by kernel_rfl) (by kernel_rfl) (by kernel_rfl) (fun _ _ _ h => h) (.inl ⟨by rfl, fun w hSw => by go_simp⟩) (by assumption) ?_
            simp only [Act.put, List.setIfInBounds_toArray, List.set_cons_zero, List.set_cons_succ]
            refine wpAnyH_take (i := 11) (oi := ⟨some 18, .assign (.tmp 107), _, _, _, _⟩) (v := .int .i64 0) rfl (by kernel_rfl) (by kernel_rfl) (by kernel_rfl) (fun _ _ _ h => h) (.inl ⟨by rfl, fun w hSw => by go_simp⟩) (by assumption) ?_
            simp only [Act.put, List.setIfInBounds_toArray, List.set_cons_zero, List.set_cons_succ]
            refine wpAnyH_done (by kernel_rfl) ?_ _
            try clear hH
            have HR3c := Lib.hid (HR3r.out.kept (HBc.out.trans (HB18.out.mono HBc.out.size)))
            go_wp2_with fail
            refine wp_region_held_drew (S := fun W => Row W g3 39 [.int .u32 (e : Int), .int .u32 (s : Int), .slice A0 n0 c0] ∧ Row W g9 26 (sealR 5 e s (lst 256 F)).cs) (by kernel_rfl) ⟨HR3c.out.drew, (HR9.out.kept HB18.out).drew⟩ (fun hHeld => ?_)
            refine wpAnyH_take (i := 0) (oi := ⟨some 108, .move (.tmp 2), _, _, _, _⟩) (v := .slice A2 n2 c2) rfl (by kernel_rfl) (by kernel_rfl) (by kernel_rfl) (fun _ _ _ h => h) (.inl ⟨by rfl, fun w hSw => by go_simp⟩) (by assumption) ?_
            simp only [Act.put, List.setIfInBounds_toArray, List.set_cons_zero, List.set_cons_succ]
            refine wpAnyH_take (i := 1) (oi := ⟨some 109, .call ⟨.builtin .len, #[.tmp 108], _⟩, _, _, _, _⟩) (v := .int .i64 (n2 : Int)) rfl (by kernel_rfl) (by kernel_rfl) (by kernel_rfl) (fun _ _ _ h => h) (.inl ⟨by rfl, fun w hSw => by go_simp⟩) (by assumption) ?_
            simp only [Act.put, List.setIfInBounds_toArray, List.set_cons_zero, List.set_cons_succ]
            refine wpAnyH_take (i := 2) (oi := ⟨some 110, .binOp .eql 3 (.tmp 109) (.const (.int .i64 256)) 3, _, _, _, _⟩) (v := .bool true) rfl (by kernel_rfl) (by kernel_rfl) (by kernel_rfl) (fun _ _ _ h => h) (.inl ⟨by rfl, fun w hSw => by go_simp⟩) (by assumption) ?_
            simp only [Act.put, List.setIfInBounds_toArray, List.set_cons_zero, List.set_cons_succ]
            refine wpAnyH_take (i := 3) (oi := ⟨some 111, .move (.tmp 110), _, _, _, _⟩) (v := .bool true) rfl (by kernel_rfl) (by kernel_rfl) (by kernel_rfl) (fun _ _ _ h => h) (.inl ⟨by rfl, fun w hSw => by go_simp⟩) (by assumption) ?_
            simp only [Act.put, List.setIfInBounds_toArray, List.set_cons_zero, List.set_cons_succ]
            refine wpAnyH_take (i := 4) (oi := ⟨some 112, .fieldAddr 39 (.tmp 3) 0, _, _, _, _⟩) (v := .pointer (some ⟨g3, 0, none⟩)) rfl (by kernel_rfl) (by kernel_rfl) (by kernel_rfl) (fun _ _ _ h => h) (.inl ⟨by rfl, fun w hSw => by go_simp⟩) (by assumption) ?_
            simp only [Act.put, List.setIfInBounds_toArray, List.set_cons_zero, List.set_cons_succ]
            refine wpAnyH_take (i := 5) (oi := ⟨some 113, .load 22 (.tmp 112), _, _, _, _⟩) (v := .int .u32 (e : Int)) rfl (by kernel_rfl) (by kernel_rfl) (by kernel_rfl) (fun _ _ _ h => h) (.inl ⟨by rfl, fun w hSw => by have z0 := Row.cell hSw.1 0; have z1 := Row.cell hSw.1 1; simp at z0 z1; go_simp⟩) (by assumption) ?_
            simp only [Act.put, List.setIfInBounds_toArray, List.set_cons_zero, List.set_cons_succ]
            refine wpAnyH_take (i := 6) (oi := ⟨some 114, .fieldAddr 39 (.tmp 3) 1, _, _, _, _⟩) (v := .pointer (some ⟨g3, 1, none⟩)) rfl (by kernel_rfl) (by kernel_rfl) (by kernel_rfl) (fun _ _ _ h => h) (.inl ⟨by rfl, fun w hSw => by go_simp⟩) (by assumption) ?_
            simp only [Act.put, List.setIfInBounds_toArray, List.set_cons_zero, List.set_cons_succ]
            refine wpAnyH_take (i := 7) (oi := ⟨some 115, .load 22 (.tmp 114), _, _, _, _⟩) (v := .int .u32 (s : Int)) rfl (by kernel_rfl) (by kernel_rfl) (by kernel_rfl) (fun _ _ _ h => h) (.inl ⟨by rfl, fun w hSw => by have z0 := Row.cell hSw.1 0; have z1 := Row.cell hSw.1 1; simp at z0 z1; go_simp⟩) (by assumption) ?_
            simp only [Act.put, List.setIfInBounds_toArray, List.set_cons_zero, List.set_cons_succ]
            refine wpAnyH_take (i := 8) (oi := ⟨some 116, .move (.tmp 2), _, _, _, _⟩) (v := .slice A2 n2 c2) rfl (by kernel_rfl) (by kernel_rfl) (by kernel_rfl) (fun _ _ _ h => h) (.inl ⟨by rfl, fun w hSw => by go_simp⟩) (by assumption) ?_
            simp only [Act.put, List.setIfInBounds_toArray, List.set_cons_zero, List.set_cons_succ]
            refine wpAnyH_take (i := 10) (oi := ⟨some 118, .fieldAddr 26 (.tmp 13) 3, _, _, _, _⟩) (v := .pointer (some ⟨g9, 3, none⟩)) rfl (by kernel_rfl) (by kernel_rfl) (by kernel_rfl) (fun _ _ _ h => h) (.inl ⟨by rfl, fun w hSw => by go_simp⟩) (by assumption) ?_
            simp only [Act.put, List.setIfInBounds_toArray, List.set_cons_zero, List.set_cons_succ]
            refine wpAnyH_take (i := 11) (oi := ⟨some 119, .load 24 (.tmp 118), _, _, _, _⟩) (v := .agg (brr 32 (sealR 5 e s (lst 256 F)).f).toArray) rfl (by kernel_rfl) (by kernel_rfl) (by kernel_rfl) (fun _ _ _ h => h) (yieldsIf_load_mid (by rfl) 24 (.tmp 118) rfl g9 3 rfl (brr 32 (sealR 5 e s (lst 256 F)).f) _ (fun w hSw => RecV.sum_range hSw.2) Tryd.underlying24 rfl (i32.out (sealR 5 e s (lst 256 F)))) (by assumption) ?_
            simp only [Act.put, List.setIfInBounds_toArray, List.set_cons_zero, List.set_cons_succ]
            refine wpAnyH_ready (rs := [9]) (by kernel_rfl) (by simp) ?_
            refine AllReadyH.cons (o := ⟨some 117, .call ⟨.value (.func 20), #[.tmp 113, .tmp 115, .tmp 116], _⟩, _, _, _, _⟩) rfl (fun K hK => ?_) AllReadyH.nil
            go_simp
            refine (HDg.out _ (((HBw.out.trans (HBc.out.mono HBw.out.size)).trans (HB18.out.mono (HBw.out.trans (HBc.out.mono HBw.out.size)).size)).drew)).mono ?_
            rintro x19 w19 ⟨rfl, hb19⟩
            have HB19 := Lib.hid (p := Below wc.heap.size wc w19) (below_next (below_next hb19 (below_draw w18)) HB18.out)
            clear hb19
            refine hK.out _ _ ⟨HR3r.out.kept (HBc.out.trans (HB19.out.mono HBc.out.size)), HR9.out.kept HB19.out⟩ (fun hH => ?_)
            clear hK K hHeld
            have HEQ := Lib.hid (fun w => eq_sum 9998 (shaF (nonB e s ++ l2)) (shaF (nonB e s ++ lst 256 F)) w)
            refine wpAnyH_take (i := 12) (oi := ⟨some 120, .binOp .eql 24 (.tmp 117) (.tmp 119) 24, _, _, _, _⟩) (v := .bool (lst 32 (shaF (nonB e s ++ l2)) == lst 32 (shaF (nonB e s ++ lst 256 F)))) rfl (by kernel_rfl) (by kernel_rfl) (by kernel_rfl) (fun _ _ _ h => h) (.inl ⟨by rfl, fun w hSw => run_eql_op w _ _ _ _ _ rfl _ _ rfl rfl sum_guard _ HEQ.out⟩) (by assumption) ?_
            simp only [Act.put, List.setIfInBounds_toArray, List.set_cons_zero, List.set_cons_succ]
            have hqq : (lst 32 (shaF (nonB e s ++ l2)) == lst 32 (shaF (nonB e s ++ lst 256 F))) = true := HQ2.out
            rw [hqq]
            clear HEQ hqq
            refine wpAnyH_take (i := 13) (oi := ⟨some 121, .pick (.tmp 111) (.tmp 120) (.const (.bool false)), _, _, _, _⟩) (v := .bool true) rfl (by kernel_rfl) (by kernel_rfl) (by kernel_rfl) (fun _ _ _ h => h) (.inl ⟨by rfl, fun w hSw => by go_simp⟩) (by assumption) ?_
            simp only [Act.put, List.setIfInBounds_toArray, List.set_cons_zero, List.set_cons_succ]
            refine wpAnyH_take (i := 14) (oi := ⟨some 19, .assign (.tmp 121), _, _, _, _⟩) (v := .bool true) rfl (by kernel_rfl) (by kernel_rfl) (by kernel_rfl) (fun _ _ _ h => h) (.inl ⟨by rfl, fun w hSw => by go_simp⟩) (by assumption) ?_
            simp only [Act.put, List.setIfInBounds_toArray, List.set_cons_zero, List.set_cons_succ]
            refine wpAnyH_done (by kernel_rfl) ?_ _
            try clear hH
            go_wp2_with fail
            go_roundw
            case rel => exact ⟨k + 1, HK.out, by go_num, Lib.hid (below_next (below_next HB19.out HBc.out) HBr.out)⟩
            case measure => have := HK.out; simp [intOf]; omega
    · skip
      obtain rfl : k = 2 := by omega
      clear hk hk2
      go_wp2_with fail
      go_ret
      exact ⟨rfl, HB5.out.trans (HBr.out.mono HB5.out.size)⟩
end Go.Proofs.YtibnmhaipogleaaDoor.nodeOpens
