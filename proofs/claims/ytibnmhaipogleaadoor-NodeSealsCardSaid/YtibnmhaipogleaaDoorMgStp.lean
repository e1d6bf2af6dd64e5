/- Steps of a region that draws, one by one: a row made, a row stored. No conditions. -/
import Derived.Test.YtibnmhaipogleaaDoorRecE
import Derived.Deep.RegionHeld
import Derived.Test.YtibnmhaipogleaaDoorAwakeN
import Derived.Test.YtibnmhaipogleaaDoorSeal
import Derived.Test.YtibnmhaipogleaaDoorRDig
import Derived.Test.YtibnmhaipogleaaDoorBin
import Derived.Deep.CutRange
set_option linter.unusedVariables false
namespace Go.Proofs.YtibnmhaipogleaaDoor
open Go.RowKit

section
variable {P : Program} {ops : Array Oper} {o : Oper} {a : Act} {w : World} {Q : Exit → Act → World → Prop} {K : Act → World → Prop} {E : Prop}
theorem st_alloc (hw : Region.wanted o (yielded ops a.tmps) = true) (t : TypeId) (ho : o.op = .alloc t) (cs : List Value) (hz : ∀ w : World, (zeroValue t).run P w = .ok (.agg cs.toArray) w)
    (h : ∀ g w', Row w' g t cs → Hid (g = w.heap.size) → Below w.heap.size w w' → K (a.put o.dst (.pointer (some ⟨g, 0, none⟩))) w') : if Region.wanted o (yielded ops a.tmps) = true then Oper.wp P o a w K Q else E := by
  rw [if_pos hw]
  unfold Oper.wp execOp
  simp only [ho]
  simp [Instr.alloc, hz, newVar, go_sem]
  exact h _ _ (Row.made w t cs) (show _ = _ from rfl) ((Below.refl _ _).alloc (Nat.le_refl _) _)
theorem st_store (hw : Region.wanted o (yielded ops a.tmps) = true) (ty : TypeId) (x y : Operand) (ho : o.op = .store ty x y) (g : Nat) (hx : a.eval x = .pointer (some ⟨g, 0, none⟩)) (t : TypeId) (old cs : List Value) (hy : a.eval y = .agg cs.toArray)
    (hr : Row w g t old) (hl : old.length = cs.length) (hi : (P.info? ty).map (·.size) = some cs.length) (h1 : ∀ v ∈ cs, v.oneCell' = true)
    (h : ∀ w', Row w' g t cs → w.grownBy w' (some g) → K (a.put o.dst undef) w') : if Region.wanted o (yielded ops a.tmps) = true then Oper.wp P o a w K Q else E := by
  rw [if_pos hw]
  refine wp_store_row ty x y ho g cs.toArray hx hy t old.toArray hr (by simpa using hi) (by simpa using hl) (all_oneCell_toArray h1) ?_
  exact h _ (setRow_heap w g _ _ t _ hr) ⟨rfl, rfl, rfl, by simp, fun k hk hne => setRow_other w g k _ (fun e => hne (by rw [e]))⟩
theorem run_eql_op {P : Program} (w : World) {a : Act} (o : Oper) (t t' : TypeId) (x y : Operand) (ho : o.op = .binOp .eql t x y t') (xs ys : Array Value) (hx : a.eval x = .agg xs) (hy : a.eval y = .agg ys) (hg : P.eqGuardType P.depth t = false) (b : Bool)
    (he : ∀ w, (Op.equalIn 10000 t (.agg xs) (.agg ys)).run P w = .ok b w) : (execOp a.eval o).run P w = .ok (.value (.bool b)) w := by
  unfold execOp
  simp only [ho, hx, hy, Sem.run_bind, run_eqGuard_agg w _ t x y xs ys hg, run_eql_struct, he, Result.andThen_ok]
  rfl
theorem run_build_op {P : Program} (w : World) {a : Act} (o : Oper) (t : TypeId) (parts : Array (Nat × Operand)) (ho : o.op = .build t parts) (vs : List (Nat × Value)) (hv : (parts.map fun (i, x) => (i, a.eval x)).toList = vs) (cells : Array Value) (hb : P.built t vs = some cells) : (execOp a.eval o).run P w = .ok (.value (.agg cells)) w := by
  subst hv
  unfold execOp
  simp only [ho, Sem.run_bind, run_build w t _ cells hb, Result.andThen_ok]
  rfl
end
end Go.Proofs.YtibnmhaipogleaaDoor
/- Every block is hidden, and has its record, as the document says, or is refused: the walk. Condition: the listed tables. -/
set_option linter.unusedVariables false
set_option maxRecDepth 20000
namespace Go.Proofs.YtibnmhaipogleaaDoor.nodeSeals
open Go.RowKit

/-- What the veil's pad makes of bytes. -/
def padM (l0 : List UInt8) : Nat → UInt8 := fun j => (l0.take 4096).getD j 0
/-- What Seal leaves, whatever comes in. -/
theorem seal_gen (w : World) (e s : Nat) (he : e < 4294967296) (hs : s < 4294967296) (l0 : List UInt8) (z : Int) (A : Option Addr) (n c : Nat) (l : List UInt8) (hI : InB w A n c l) (hT : Tabs w) :
    ∃ (r : RecV) (E : Int) (QH : Value → World → Prop),
      (∀ (W : World) (g : Nat) (M : Nat → Nat → Nat → UInt8), Below w.heap.size w W → MaskAt W g M → M e s = padM l0 →
        Calls Tryd.prog 16 #[.pointer (some ⟨g, 0, none⟩), .int .i64 z, .int .u32 (e : Int), .int .u32 (s : Int), .slice A n c] W fun x w' => ∃ hv, x = .returned (.tuple #[hv, .agg r.cs.toArray, .int .i64 E]) ∧ Hid (QH hv w') ∧ Hid (Below W.heap.size W w')) ∧
      (∀ hv W W', Below W.heap.size W W' → QH hv W → QH hv W') ∧
      (∀ hv W W' g cs, Row W g 26 cs → W.grownBy W' (some g) → QH hv W → QH hv W') ∧
      (((z < 0 ∨ 1024 ≤ z ∨ n ≠ 256) ∧ r = rec0 ∧ E = 201 ∧ ∀ hv W, QH hv W → hv = .slice none 0 0) ∨
       (∃ a : Nat, z = (a : Int) ∧ a < 1024 ∧ n = 256 ∧ r = sealR a e s (lst 256 (hid (padM l0) l)) ∧ E = 0 ∧ ∀ hv W, QH hv W → ∃ g, hv = .slice (some ⟨g, 0, none⟩) 256 256 ∧ Row W g 5 (brr 256 (hid (padM l0) l)))) := by
  by_cases h : z < 0 ∨ 1024 ≤ z ∨ n ≠ 256
  · refine ⟨rec0, 201, fun hv _ => hv = .slice none 0 0, fun W g M hb hM hMe => ?_, fun _ _ _ _ h => h, fun _ _ _ _ _ _ _ h => h, .inl ⟨h, rfl, rfl, fun _ _ h => h⟩⟩
    refine (seal_bad _ z e s A n c h W).mono ?_
    rintro x w' ⟨rfl, hb'⟩
    exact ⟨_, rfl, rfl, hb'⟩
  · obtain ⟨a, rfl⟩ := Int.eq_ofNat_of_zero_le (by omega : 0 ≤ z)
    have hn : n = 256 := by omega
    subst hn
    refine ⟨sealR a e s (lst 256 (hid (padM l0) l)), 0, fun hv W => ∃ g, hv = .slice (some ⟨g, 0, none⟩) 256 256 ∧ Row W g 5 (brr 256 (hid (padM l0) l)), fun W g M hb hM hMe => ?_, fun hv W W' hb ⟨g, h1, h2⟩ => ⟨g, h1, h2.kept hb⟩, fun hv W W' g' cs hr hg ⟨g, h1, h2⟩ => ⟨g, h1, h2.grown hg (fun e => by injection e with e; exact h2.ne_ hr (by decide) e)⟩, .inr ⟨a, rfl, by omega, rfl, rfl, rfl, fun _ _ h => h⟩⟩
    refine (seal_any g M a e s (by omega) A c l he hs hI.len_.symm W hM (hI.hol.below hb) (hT.below hb)).mono ?_
    rw [hMe]
    rintro x w' ⟨gh, rfl, hr, _, hb'⟩
    exact ⟨_, rfl, ⟨gh, rfl, hr.out⟩, hb'⟩
theorem hol_lt {w : World} {A : Option Addr} {l : List UInt8} (h : Hol w A l) (hl : 256 = l.length) (ad : Addr) (hd : A = some ad) : ad.block < w.heap.size := by
  obtain ⟨g, o, e, hg, _⟩ := h.some_ (by omega)
  rw [hd] at e
  injection e with e
  rw [e]
  exact hg
theorem pm_one (e s : Nat) (A : Option Addr) (c : Nat) (l : List UInt8) (j : Nat) : pm [⟨e, s, A, c, l⟩] e s j = l.getD j 0 := by
  unfold pm
  simp
theorem want_eq (e s : Nat) (A : Option Addr) (c : Nat) (l0 l : List UInt8) : lst 256 (xr l (lst 256 (pm [⟨e, s, A, c, l0⟩] e s))) = lst 256 (hid (padM l0) l) := by
  unfold lst
  refine List.map_congr_left fun j hj => ?_
  have hj' : j < 256 := by simpa using hj
  unfold xr hid padM
  have e1 : ((List.range 256).map (pm [⟨e, s, A, c, l0⟩] e s)).getD j 0 = pm [⟨e, s, A, c, l0⟩] e s j := lst_getD _ hj'
  rw [e1, pm_one, UInt8.xor_comm]
  congr 1
  simp only [List.getD_eq_getElem?_getD, List.getElem?_take]
  rw [if_pos (by omega)]
/-- Where the law stands behind Seal. -/
def Rel6 (w : World) (g3 gp : Nat) (W3 WP : List Value) (r : RecV) (E : Int) (QH : Value → World → Prop) (h p q : Value) (wx : World) : Prop :=
  ∃ g9, p = .pointer (some ⟨g9, 0, none⟩) ∧ q = .int .i64 E ∧ QH h wx ∧ Row wx g9 26 r.cs ∧ Row wx g3 39 W3 ∧ Row wx gp 41 WP ∧ Below w.heap.size w wx
set_option maxHeartbeats 4000000 in
theorem walk (w : World) (e s : Nat) (A0 : Option Addr) (n0 c0 : Nat) (l0 : List UInt8) (he : e < 4294967296) (hs : s < 4294967296) (hI0 : InB w A0 n0 c0 l0) (z : Int) (hz : (Lit.int .i64 z).wf = true) (A : Option Addr) (n c : Nat) (l : List UInt8) (hI : InB w A n c l) (hT : Tabs w) :
    Calls Tryd.prog 5 #[.agg #[.int .u32 (e : Int), .int .u32 (s : Int), .slice A0 n0 c0], .int .i64 z, .slice A n c] w fun x w' => x = .returned (.bool true) ∧ Below w.heap.size w w' := by
  by_cases hlong : 4096 < n
  · have h1 : (4096 : Int) < (n : Int) := by omega
    clear hI hI0 hlong
    go_enter Tryd.func5, Tryd.ntmps5
    go_wp2_with (go_at_call 10; refine (awake_any _).mono ?_; rintro e2 w2 ⟨rfl, hb2⟩)
    go_ret
    exact ⟨rfl, ((Below.refl _ _).alloc (Nat.le_refl _) _).trans (hb2.mono (by simp))⟩
  have h1 : ¬ (4096 : Int) < (n : Int) := by omega
  have HE := Lib.hid he
  have HS := Lib.hid hs
  have HI0 := Lib.hid hI0
  have HI := Lib.hid hI
  have HT := Lib.hid hT
  have HL := Lib.hid (p := n ≤ 4096) (by omega)
  by_cases hlong2 : 5000 < n0
  · have h2 : (5000 : Int) < (n0 : Int) := by omega
    clear hI hI0 hlong hlong2 he hs hT
    go_enter Tryd.func5, Tryd.ntmps5
    go_wp2_with (first
      | (refine step_box rfl 3 rfl 39 _ rfl [.int .u32 (e : Int), .int .u32 (s : Int), .slice A0 n0 c0] rfl ?_; intro g3 w1 hr1 hg1 hb1 hs1)
      | (go_at_call 10; refine (awake_any _).mono ?_; rintro e2 w2 ⟨rfl, hb2⟩
         have HB2 := Lib.hid (hb1.trans (hb2.mono hb1.size))
         have k2 : w2.cell? ⟨g3, 2, none⟩ = some (.slice A0 n0 c0) := (hr1.kept hb2).cell 2
         clear hr1 hb1 hb2 hg1 hs1))
    go_ret
    exact ⟨rfl, HB2.out⟩
  have h2 : ¬ (5000 : Int) < (n0 : Int) := by omega
  obtain ⟨r, E, QH, hseal, hstab, hstab2, hcase⟩ := seal_gen w e s he hs l0 z A n c l hI hT
  have HSeal := Lib.hid hseal
  have HStab := Lib.hid hstab
  have HStab2 := Lib.hid hstab2
  have HCase := Lib.hid hcase
  have i35 := Lib.hid (p := ∀ r : RecV, (Tryd.prog.info? 26).map (·.size) = some r.cs.length) (fun r => by rw [r.cs_len]; exact info_rec)
  have hzr := Lib.hid zero_rec
  clear hseal hstab hstab2 hcase
  have HL0 := Lib.hid (p := n0 ≤ 5000) (by omega)
  clear hI hI0 hlong hlong2 he hs hT
  go_enter Tryd.func5, Tryd.ntmps5
  go_wp2_with (first
    | (refine step_box rfl 3 rfl 39 _ rfl [.int .u32 (e : Int), .int .u32 (s : Int), .slice A0 n0 c0] rfl ?_; intro g3 w1 hr1 hg1 hb1 hs1)
    | (go_at_call 10; refine (awake_any _).mono ?_; rintro e2 w2 ⟨rfl, hb2⟩
       have HB2 := Lib.hid (hb1.trans (hb2.mono hb1.size))
       have HR2 := Lib.hid (hr1.kept hb2)
       have k0 : w2.cell? ⟨g3, 0, none⟩ = some (.int .u32 (e : Int)) := (hr1.kept hb2).cell 0
       have k1 : w2.cell? ⟨g3, 1, none⟩ = some (.int .u32 (s : Int)) := (hr1.kept hb2).cell 1
       have k2 : w2.cell? ⟨g3, 2, none⟩ = some (.slice A0 n0 c0) := (hr1.kept hb2).cell 2
       clear hr1 hb1 hb2 hg1 hs1))
  have gpc : (w2.alloc (.cells #[.int .u32 (e : Int), .int .u32 (s : Int), .slice A0 n0 c0] 41)).heap[w2.heap.size]? = some (.cells #[.int .u32 (e : Int), .int .u32 (s : Int), .slice A0 n0 c0] 41 (0, 0)) := heap_alloc_new w2 _
  have hb25 : Below w2.heap.size w2 (w2.alloc (.cells #[.int .u32 (e : Int), .int .u32 (s : Int), .slice A0 n0 c0] 41)) := (Below.refl _ _).alloc (Nat.le_refl _) _
  generalize w2.alloc (.cells #[.int .u32 (e : Int), .int .u32 (s : Int), .slice A0 n0 c0] 41) = w5 at *
  have HB5 := Lib.hid (HB2.out.trans (hb25.mono HB2.out.size))
  have HR5 := Lib.hid (HR2.out.kept hb25)
  obtain ⟨gp, hgp⟩ : ∃ gp, gp = w2.heap.size := ⟨_, rfl⟩
  rw [← hgp] at gpc ⊢
  have HP5 := Lib.hid (p := Row w5 gp 41 [.int .u32 (e : Int), .int .u32 (s : Int), .slice A0 n0 c0]) gpc
  have HIdeal := Lib.hid (p := ∀ W, Below w5.heap.size w5 W → Calls Tryd.prog 17 #[.slice (some ⟨gp, 0, none⟩) 1 1] W fun x w' => ∃ g' M, x = .returned (.pointer (some ⟨g', 0, none⟩)) ∧ MaskAt w' g' M ∧ Hid (M e s = fun j => (l0.take 4096).getD j 0) ∧ Below W.heap.size W w') (fun W hb =>
    ideal_call gp e s A0 c0 n0 l0 HI0.out.len_ HE.out HS.out HI0.out.cap_ (by have := HL0.out; omega) W ((HP5.out.kept hb).cell 0) ((HP5.out.kept hb).cell 1) ((HP5.out.kept hb).cell 2) (HI0.out.hol.below (HB5.out.trans (hb.mono HB5.out.size))))
  clear gpc hb25 k0 k1 k2 HR2 HB2 hgp
  try go_frame
  go_cut [8, 9, 10] from 31 to 43 (fun h p q wx => Rel6 w g3 gp [.int .u32 (e : Int), .int .u32 (s : Int), .slice A0 n0 c0] [.int .u32 (e : Int), .int .u32 (s : Int), .slice A0 n0 c0] r E QH h p q wx)
  case first =>
    refine wp_region_held_drew (S := fun W => Row W g3 39 [.int .u32 (e : Int), .int .u32 (s : Int), .slice A0 n0 c0]) (by kernel_rfl) HR5.out.drew (fun hHeld => ?_)
    refine wpAnyH_take (i := 0) (oi := ⟨some 32, .move (.tmp 7), _, _, _, _⟩) (v := .slice (some ⟨gp, 0, none⟩) 1 1) rfl (by kernel_rfl) (by kernel_rfl) (by kernel_rfl) (fun _ _ _ h => h) (.inl ⟨by rfl, fun w hSw => by go_simp⟩) (by assumption) ?_
    simp only [Act.put, List.setIfInBounds_toArray, List.set_cons_zero, List.set_cons_succ]
    refine wpAnyH_take (i := 2) (oi := ⟨some 34, .move (.tmp 1), _, _, _, _⟩) (v := .int .i64 z) rfl (by kernel_rfl) (by kernel_rfl) (by kernel_rfl) (fun _ _ _ h => h) (.inl ⟨by rfl, fun w hSw => by go_simp⟩) (by assumption) ?_
    simp only [Act.put, List.setIfInBounds_toArray, List.set_cons_zero, List.set_cons_succ]
    refine wpAnyH_take (i := 3) (oi := ⟨some 35, .fieldAddr 39 (.tmp 3) 0, _, _, _, _⟩) (v := .pointer (some ⟨g3, 0, none⟩)) rfl (by kernel_rfl) (by kernel_rfl) (by kernel_rfl) (fun _ _ _ h => h) (.inl ⟨by rfl, fun w hSw => by go_simp⟩) (by assumption) ?_
    simp only [Act.put, List.setIfInBounds_toArray, List.set_cons_zero, List.set_cons_succ]
    refine wpAnyH_take (i := 4) (oi := ⟨some 36, .load 22 (.tmp 35), _, _, _, _⟩) (v := .int .u32 (e : Int)) rfl (by kernel_rfl) (by kernel_rfl) (by kernel_rfl) (fun _ _ _ h => h) (.inl ⟨by rfl, fun w hSw => by have z0 := Row.cell hSw 0; have z1 := Row.cell hSw 1; have z2 := Row.cell hSw 2; simp at z0 z1 z2; go_simp⟩) (by assumption) ?_
    simp only [Act.put, List.setIfInBounds_toArray, List.set_cons_zero, List.set_cons_succ]
    refine wpAnyH_take (i := 5) (oi := ⟨some 37, .fieldAddr 39 (.tmp 3) 1, _, _, _, _⟩) (v := .pointer (some ⟨g3, 1, none⟩)) rfl (by kernel_rfl) (by kernel_rfl) (by kernel_rfl) (fun _ _ _ h => h) (.inl ⟨by rfl, fun w hSw => by go_simp⟩) (by assumption) ?_
    simp only [Act.put, List.setIfInBounds_toArray, List.set_cons_zero, List.set_cons_succ]
    refine wpAnyH_take (i := 6) (oi := ⟨some 38, .load 22 (.tmp 37), _, _, _, _⟩) (v := .int .u32 (s : Int)) rfl (by kernel_rfl) (by kernel_rfl) (by kernel_rfl) (fun _ _ _ h => h) (.inl ⟨by rfl, fun w hSw => by have z0 := Row.cell hSw 0; have z1 := Row.cell hSw 1; have z2 := Row.cell hSw 2; simp at z0 z1 z2; go_simp⟩) (by assumption) ?_
    simp only [Act.put, List.setIfInBounds_toArray, List.set_cons_zero, List.set_cons_succ]
    refine wpAnyH_take (i := 7) (oi := ⟨some 39, .move (.tmp 2), _, _, _, _⟩) (v := .slice A n c) rfl (by kernel_rfl) (by kernel_rfl) (by kernel_rfl) (fun _ _ _ h => h) (.inl ⟨by rfl, fun w hSw => by go_simp⟩) (by assumption) ?_
    simp only [Act.put, List.setIfInBounds_toArray, List.set_cons_zero, List.set_cons_succ]
    refine wpAnyH_ready (rs := [1, 13]) (by kernel_rfl) (by simp) ?_
    refine AllReadyH.cons (o := ⟨some 33, .call ⟨.value (.func 17), #[.tmp 32], _⟩, _, _, _, _⟩) rfl (fun K hK => ?_) (AllReadyH.cons (o := ⟨some 9, .alloc 26, _, _, _, _⟩) rfl (fun K hK => ?_) AllReadyH.nil)
    · skip
      go_simp
      refine (HIdeal.out _ (below_draw w5)).mono ?_
      rintro xa wa ⟨g1, M, rfl, hM1, hMe1, hba⟩
      have HBa := Lib.hid (p := Below w5.heap.size w5 wa) (Below.trans (below_draw w5) (hba.mono (Below.size (below_draw w5))))
      have HMa := Lib.hid hM1
      have HMe := Lib.hid (p := M e s = padM l0) hMe1.out
      refine hK.out _ _ (HR5.out.kept HBa.out) (fun hH2 => ?_)
      clear hK K
      refine wpAnyH_ready (rs := [8, 13]) (by kernel_rfl) (by simp) ?_
      refine AllReadyH.cons (o := ⟨some 40, .call ⟨.value (.func 16), #[.tmp 33, .tmp 34, .tmp 36, .tmp 38, .tmp 39], _⟩, _, _, _, _⟩) rfl (fun K hK => ?_) (AllReadyH.cons (o := ⟨some 9, .alloc 26, _, _, _, _⟩) rfl (fun K hK => ?_) AllReadyH.nil)
      · skip
        go_simp
        refine (HSeal.out _ g1 M (HB5.out.trans (HBa.out.mono HB5.out.size)) HMa.out HMe.out).mono ?_
        rintro xs ws ⟨hv, rfl, hQ, hbs⟩
        have HBs := Lib.hid (p := Below w5.heap.size w5 ws) (HBa.out.trans (hbs.out.mono HBa.out.size))
        refine hK.out _ _ (HR5.out.kept HBs.out) (fun hH3 => ?_)
        clear hK K
        refine wpAnyH_take (i := 9) (oi := ⟨some 31, .move (.tmp 40), _, _, _, _⟩) (v := .tuple #[hv, .agg r.cs.toArray, .int .i64 E]) rfl (by kernel_rfl) (by kernel_rfl) (by kernel_rfl) (fun _ _ _ h => h) (.inl ⟨by rfl, fun w hSw => by go_simp⟩) (by assumption) ?_
        simp only [Act.put, List.setIfInBounds_toArray, List.set_cons_zero, List.set_cons_succ]
        refine wpAnyH_take (i := 10) (oi := ⟨some 41, .extract (.tmp 31) 0, _, _, _, _⟩) (v := hv) rfl (by kernel_rfl) (by kernel_rfl) (by kernel_rfl) (fun _ _ _ h => h) (.inl ⟨by rfl, fun w hSw => by go_simp⟩) (by assumption) ?_
        simp only [Act.put, List.setIfInBounds_toArray, List.set_cons_zero, List.set_cons_succ]
        refine wpAnyH_take (i := 11) (oi := ⟨some 42, .extract (.tmp 31) 1, _, _, _, _⟩) (v := .agg r.cs.toArray) rfl (by kernel_rfl) (by kernel_rfl) (by kernel_rfl) (fun _ _ _ h => h) (.inl ⟨by rfl, fun w hSw => by go_simp⟩) (by assumption) ?_
        simp only [Act.put, List.setIfInBounds_toArray, List.set_cons_zero, List.set_cons_succ]
        refine wpAnyH_take (i := 12) (oi := ⟨some 43, .extract (.tmp 31) 2, _, _, _, _⟩) (v := .int .i64 E) rfl (by kernel_rfl) (by kernel_rfl) (by kernel_rfl) (fun _ _ _ h => h) (.inl ⟨by rfl, fun w hSw => by go_simp⟩) (by assumption) ?_
        simp only [Act.put, List.setIfInBounds_toArray, List.set_cons_zero, List.set_cons_succ]
        refine wpAnyH_ready (rs := [13]) (by kernel_rfl) (by simp) ?_
        refine AllReadyH.cons (o := ⟨some 9, .alloc 26, _, _, _, _⟩) rfl (fun K hK => ?_) AllReadyH.nil
        refine st_alloc (by rfl) 26 rfl rec0.cs hzr.out ?_
        intro g9 w9 hr9 hg9 hb9
        have HB9 := Lib.hid (p := Below w5.heap.size w5 w9) (Below.trans HBs.out (hb9.mono (Below.size HBs.out)))
        have N9 := Lib.hid (p := w5.heap.size ≤ g9) (by have h2 := Below.size HBs.out; rw [hg9.out]; exact h2)
        refine hK.out _ _ (HR5.out.kept HB9.out) (fun hH4 => ?_)
        clear hK K
        refine wpAnyH_take (i := 14) (oi := ⟨some 8, .assign (.tmp 41), _, _, _, _⟩) (v := hv) rfl (by kernel_rfl) (by kernel_rfl) (by kernel_rfl) (fun _ _ _ h => h) (.inl ⟨by rfl, fun w hSw => by go_simp⟩) (by assumption) ?_
        simp only [Act.put, List.setIfInBounds_toArray, List.set_cons_zero, List.set_cons_succ]
        refine wpAnyH_ready (rs := [15]) (by kernel_rfl) (by simp) ?_
        refine AllReadyH.cons (o := ⟨none, .store 26 (.tmp 9) (.tmp 42), _, _, _, _⟩) rfl (fun K hK => ?_) AllReadyH.nil
        refine st_store (by rfl) 26 (.tmp 9) (.tmp 42) rfl g9 (by rfl) 26 rec0.cs r.cs (by rfl) hr9 (by rw [RecV.cs_len, RecV.cs_len]) (i35.out _) (RecV.cs_one _) ?_
        intro wz hrz hgz
        have hn := N9.out
        have hR3 := (HR5.out.kept HB9.out).grown hgz (fun e => by injection e with e; have := HR5.out.lt; omega)
        have hPz := (HP5.out.kept HB9.out).grown hgz (fun e => by injection e with e; have := HP5.out.lt; omega)
        have hQz := HStab2.out hv _ _ _ _ hr9 hgz (HStab.out _ _ _ hb9 hQ.out)
        have hBz := (HB5.out.trans (HB9.out.mono HB5.out.size)).grown hgz (Nat.le_trans HB5.out.size HB9.out.size) (fun q hq => by injection hq with hq; have := HB5.out.size; omega)
        refine hK.out _ _ hR3 (fun hHz => ?_)
        clear hK K
        refine wpAnyH_take (i := 16) (oi := ⟨some 10, .assign (.tmp 43), _, _, _, _⟩) (v := .int .i64 E) rfl (by kernel_rfl) (by kernel_rfl) (by kernel_rfl) (fun _ _ _ h => h) (.inl ⟨by rfl, fun w hSw => by go_simp⟩) (by assumption) ?_
        simp only [Act.put, List.setIfInBounds_toArray, List.set_cons_zero, List.set_cons_succ]
        refine wpAnyH_done (by kernel_rfl) ?_ _
        go_wp2_with fail
        go_meet
        case rel => exact ⟨g9, rfl, rfl, hQz, hrz, hR3, hPz, hBz⟩
      · skip
        refine st_alloc (by rfl) 26 rfl rec0.cs hzr.out ?_
        intro g9 w9 hr9 hg9 hb9
        have HB9 := Lib.hid (p := Below w5.heap.size w5 w9) (Below.trans HBa.out (hb9.mono (Below.size HBa.out)))
        have N9 := Lib.hid (p := w5.heap.size ≤ g9) (by have h2 := Below.size HBa.out; rw [hg9.out]; exact h2)
        refine hK.out _ _ (HR5.out.kept HB9.out) (fun hH3 => ?_)
        clear hK K
        refine wpAnyH_ready (rs := [8]) (by kernel_rfl) (by simp) ?_
        refine AllReadyH.cons (o := ⟨some 40, .call ⟨.value (.func 16), #[.tmp 33, .tmp 34, .tmp 36, .tmp 38, .tmp 39], _⟩, _, _, _, _⟩) rfl (fun K hK => ?_) AllReadyH.nil
        go_simp
        refine (HSeal.out _ g1 M (HB5.out.trans (HB9.out.mono HB5.out.size)) (HMa.out.below hb9) HMe.out).mono ?_
        rintro xs ws ⟨hv, rfl, hQ, hbs⟩
        have HBs := Lib.hid (p := Below w5.heap.size w5 ws) (HB9.out.trans (hbs.out.mono HB9.out.size))
        refine hK.out _ _ (HR5.out.kept HBs.out) (fun hH4 => ?_)
        clear hK K
        refine wpAnyH_take (i := 9) (oi := ⟨some 31, .move (.tmp 40), _, _, _, _⟩) (v := .tuple #[hv, .agg r.cs.toArray, .int .i64 E]) rfl (by kernel_rfl) (by kernel_rfl) (by kernel_rfl) (fun _ _ _ h => h) (.inl ⟨by rfl, fun w hSw => by go_simp⟩) (by assumption) ?_
        simp only [Act.put, List.setIfInBounds_toArray, List.set_cons_zero, List.set_cons_succ]
        refine wpAnyH_take (i := 10) (oi := ⟨some 41, .extract (.tmp 31) 0, _, _, _, _⟩) (v := hv) rfl (by kernel_rfl) (by kernel_rfl) (by kernel_rfl) (fun _ _ _ h => h) (.inl ⟨by rfl, fun w hSw => by go_simp⟩) (by assumption) ?_
        simp only [Act.put, List.setIfInBounds_toArray, List.set_cons_zero, List.set_cons_succ]
        refine wpAnyH_take (i := 11) (oi := ⟨some 42, .extract (.tmp 31) 1, _, _, _, _⟩) (v := .agg r.cs.toArray) rfl (by kernel_rfl) (by kernel_rfl) (by kernel_rfl) (fun _ _ _ h => h) (.inl ⟨by rfl, fun w hSw => by go_simp⟩) (by assumption) ?_
        simp only [Act.put, List.setIfInBounds_toArray, List.set_cons_zero, List.set_cons_succ]
        refine wpAnyH_take (i := 12) (oi := ⟨some 43, .extract (.tmp 31) 2, _, _, _, _⟩) (v := .int .i64 E) rfl (by kernel_rfl) (by kernel_rfl) (by kernel_rfl) (fun _ _ _ h => h) (.inl ⟨by rfl, fun w hSw => by go_simp⟩) (by assumption) ?_
        simp only [Act.put, List.setIfInBounds_toArray, List.set_cons_zero, List.set_cons_succ]
        refine wpAnyH_take (i := 14) (oi := ⟨some 8, .assign (.tmp 41), _, _, _, _⟩) (v := hv) rfl (by kernel_rfl) (by kernel_rfl) (by kernel_rfl) (fun _ _ _ h => h) (.inl ⟨by rfl, fun w hSw => by go_simp⟩) (by assumption) ?_
        simp only [Act.put, List.setIfInBounds_toArray, List.set_cons_zero, List.set_cons_succ]
        refine wpAnyH_ready (rs := [15]) (by kernel_rfl) (by simp) ?_
        refine AllReadyH.cons (o := ⟨none, .store 26 (.tmp 9) (.tmp 42), _, _, _, _⟩) rfl (fun K hK => ?_) AllReadyH.nil
        refine st_store (by rfl) 26 (.tmp 9) (.tmp 42) rfl g9 (by rfl) 26 rec0.cs r.cs (by rfl) (hr9.kept hbs.out) (by rw [RecV.cs_len, RecV.cs_len]) (i35.out _) (RecV.cs_one _) ?_
        intro wz hrz hgz
        have hn := N9.out
        have hR3 := (HR5.out.kept HBs.out).grown hgz (fun e => by injection e with e; have := HR5.out.lt; omega)
        have hPz := (HP5.out.kept HBs.out).grown hgz (fun e => by injection e with e; have := HP5.out.lt; omega)
        have hQz := HStab2.out hv _ _ _ _ (hr9.kept hbs.out) hgz hQ.out
        have hBz := (HB5.out.trans (HBs.out.mono HB5.out.size)).grown hgz (Nat.le_trans HB5.out.size HBs.out.size) (fun q hq => by injection hq with hq; have := HB5.out.size; omega)
        refine hK.out _ _ hR3 (fun hHz => ?_)
        clear hK K
        refine wpAnyH_take (i := 16) (oi := ⟨some 10, .assign (.tmp 43), _, _, _, _⟩) (v := .int .i64 E) rfl (by kernel_rfl) (by kernel_rfl) (by kernel_rfl) (fun _ _ _ h => h) (.inl ⟨by rfl, fun w hSw => by go_simp⟩) (by assumption) ?_
        simp only [Act.put, List.setIfInBounds_toArray, List.set_cons_zero, List.set_cons_succ]
        refine wpAnyH_done (by kernel_rfl) ?_ _
        go_wp2_with fail
        go_meet
        case rel => exact ⟨g9, rfl, rfl, hQz, hrz, hR3, hPz, hBz⟩
    · skip
      refine st_alloc (by rfl) 26 rfl rec0.cs hzr.out ?_
      intro g9 w9 hr9 hg9 hb9
      have HB9 := Lib.hid (p := Below w5.heap.size w5 w9) (Below.trans (below_draw w5) (hb9.mono (Below.size (below_draw w5))))
      have N9 := Lib.hid (p := w5.heap.size ≤ g9) (by have h2 := Below.size (below_draw w5); rw [hg9.out]; exact h2)
      refine hK.out _ _ (HR5.out.kept HB9.out) (fun hH2 => ?_)
      clear hK K
      refine wpAnyH_ready (rs := [1]) (by kernel_rfl) (by simp) ?_
      refine AllReadyH.cons (o := ⟨some 33, .call ⟨.value (.func 17), #[.tmp 32], _⟩, _, _, _, _⟩) rfl (fun K hK => ?_) AllReadyH.nil
      go_simp
      refine (HIdeal.out _ HB9.out).mono ?_
      rintro xa wa ⟨g1, M, rfl, hM1, hMe1, hba⟩
      have HBa := Lib.hid (p := Below w5.heap.size w5 wa) (Below.trans HB9.out (hba.mono (Below.size HB9.out)))
      have HMa := Lib.hid hM1
      have HMe := Lib.hid (p := M e s = padM l0) hMe1.out
      refine hK.out _ _ (HR5.out.kept HBa.out) (fun hH3 => ?_)
      clear hK K
      refine wpAnyH_ready (rs := [8]) (by kernel_rfl) (by simp) ?_
      refine AllReadyH.cons (o := ⟨some 40, .call ⟨.value (.func 16), #[.tmp 33, .tmp 34, .tmp 36, .tmp 38, .tmp 39], _⟩, _, _, _, _⟩) rfl (fun K hK => ?_) AllReadyH.nil
      go_simp
      refine (HSeal.out _ g1 M (HB5.out.trans (HBa.out.mono HB5.out.size)) HMa.out HMe.out).mono ?_
      rintro xs ws ⟨hv, rfl, hQ, hbs⟩
      have HBs := Lib.hid (p := Below w5.heap.size w5 ws) (HBa.out.trans (hbs.out.mono HBa.out.size))
      refine hK.out _ _ (HR5.out.kept HBs.out) (fun hH4 => ?_)
      clear hK K
      refine wpAnyH_take (i := 9) (oi := ⟨some 31, .move (.tmp 40), _, _, _, _⟩) (v := .tuple #[hv, .agg r.cs.toArray, .int .i64 E]) rfl (by kernel_rfl) (by kernel_rfl) (by kernel_rfl) (fun _ _ _ h => h) (.inl ⟨by rfl, fun w hSw => by go_simp⟩) (by assumption) ?_
      simp only [Act.put, List.setIfInBounds_toArray, List.set_cons_zero, List.set_cons_succ]
      refine wpAnyH_take (i := 10) (oi := ⟨some 41, .extract (.tmp 31) 0, _, _, _, _⟩) (v := hv) rfl (by kernel_rfl) (by kernel_rfl) (by kernel_rfl) (fun _ _ _ h => h) (.inl ⟨by rfl, fun w hSw => by go_simp⟩) (by assumption) ?_
      simp only [Act.put, List.setIfInBounds_toArray, List.set_cons_zero, List.set_cons_succ]
      refine wpAnyH_take (i := 11) (oi := ⟨some 42, .extract (.tmp 31) 1, _, _, _, _⟩) (v := .agg r.cs.toArray) rfl (by kernel_rfl) (by kernel_rfl) (by kernel_rfl) (fun _ _ _ h => h) (.inl ⟨by rfl, fun w hSw => by go_simp⟩) (by assumption) ?_
      simp only [Act.put, List.setIfInBounds_toArray, List.set_cons_zero, List.set_cons_succ]
      refine wpAnyH_take (i := 12) (oi := ⟨some 43, .extract (.tmp 31) 2, _, _, _, _⟩) (v := .int .i64 E) rfl (by kernel_rfl) (by kernel_rfl) (by kernel_rfl) (fun _ _ _ h => h) (.inl ⟨by rfl, fun w hSw => by go_simp⟩) (by assumption) ?_
      simp only [Act.put, List.setIfInBounds_toArray, List.set_cons_zero, List.set_cons_succ]
      refine wpAnyH_take (i := 14) (oi := ⟨some 8, .assign (.tmp 41), _, _, _, _⟩) (v := hv) rfl (by kernel_rfl) (by kernel_rfl) (by kernel_rfl) (fun _ _ _ h => h) (.inl ⟨by rfl, fun w hSw => by go_simp⟩) (by assumption) ?_
      simp only [Act.put, List.setIfInBounds_toArray, List.set_cons_zero, List.set_cons_succ]
      refine wpAnyH_ready (rs := [15]) (by kernel_rfl) (by simp) ?_
      refine AllReadyH.cons (o := ⟨none, .store 26 (.tmp 9) (.tmp 42), _, _, _, _⟩) rfl (fun K hK => ?_) AllReadyH.nil
      refine st_store (by rfl) 26 (.tmp 9) (.tmp 42) rfl g9 (by rfl) 26 rec0.cs r.cs (by rfl) ((hr9.kept hba).kept hbs.out) (by rw [RecV.cs_len, RecV.cs_len]) (i35.out _) (RecV.cs_one _) ?_
      intro wz hrz hgz
      have hn := N9.out
      have hR3 := (HR5.out.kept HBs.out).grown hgz (fun e => by injection e with e; have := HR5.out.lt; omega)
      have hPz := (HP5.out.kept HBs.out).grown hgz (fun e => by injection e with e; have := HP5.out.lt; omega)
      have hQz := HStab2.out hv _ _ _ _ ((hr9.kept hba).kept hbs.out) hgz hQ.out
      have hBz := (HB5.out.trans (HBs.out.mono HB5.out.size)).grown hgz (Nat.le_trans HB5.out.size HBs.out.size) (fun q hq => by injection hq with hq; have := HB5.out.size; omega)
      refine hK.out _ _ hR3 (fun hHz => ?_)
      clear hK K
      refine wpAnyH_take (i := 16) (oi := ⟨some 10, .assign (.tmp 43), _, _, _, _⟩) (v := .int .i64 E) rfl (by kernel_rfl) (by kernel_rfl) (by kernel_rfl) (fun _ _ _ h => h) (.inl ⟨by rfl, fun w hSw => by go_simp⟩) (by assumption) ?_
      simp only [Act.put, List.setIfInBounds_toArray, List.set_cons_zero, List.set_cons_succ]
      refine wpAnyH_done (by kernel_rfl) ?_ _
      go_wp2_with fail
      go_meet
      case rel => exact ⟨g9, rfl, rfl, hQz, hrz, hR3, hPz, hBz⟩
  case rest =>
    obtain ⟨g9, rfl, rfl, hQ, hr9, hr3, hrp, hbw⟩ := hcut
    rcases HCase.out with ⟨hbad, rfl, rfl, hH⟩ | ⟨a, rfl, ha, rfl, rfl, rfl, hH⟩
    · have hq0 := Lib.hid (p := ∀ w, (Op.equalIn 10000 26 (.agg rec0.cs.toArray) (.agg rec0.cs.toArray)).run Tryd.prog w = .ok true w) (fun w => by rw [eq_recw, RecV.eqb_refl])
      obtain rfl := hH _ _ hQ
      clear HCase hH hQ HSeal HStab HStab2 HIdeal hr3 hrp
      by_cases z0 : z < 0
      · clear hbad
        go_wp2_with (first
          | (refine step_load_g (by rfl) 59 rfl 26 (.tmp 9) rfl g9 rfl rec0.cs _ hr9.all Tryd.underlying26 rfl (i35.out _) ?_)
          | (refine step_build_g (by rfl) 26 #[] rfl [] ?hv _ rec0_cs ?_; case hv => (simp [Act.eval, Act.put]))
          | (refine step_eql (by rfl) 26 26 (.tmp 59) (.tmp 60) rfl rec0.cs.toArray rec0.cs.toArray rfl (by rfl) rec_guard true hq0.out ?_))
        go_ret
        exact ⟨rfl, hbw⟩
      by_cases z1 : (1023 : Int) < z
      · clear hbad
        go_wp2_with (first
          | (refine step_load_g (by rfl) 59 rfl 26 (.tmp 9) rfl g9 rfl rec0.cs _ hr9.all Tryd.underlying26 rfl (i35.out _) ?_)
          | (refine step_build_g (by rfl) 26 #[] rfl [] ?hv _ rec0_cs ?_; case hv => (simp [Act.eval, Act.put]))
          | (refine step_eql (by rfl) 26 26 (.tmp 59) (.tmp 60) rfl rec0.cs.toArray rec0.cs.toArray rfl (by rfl) rec_guard true hq0.out ?_))
        go_ret
        exact ⟨rfl, hbw⟩
      have hn' : ((n : Int) != 256) = true := by
        have h9 : n ≠ 256 := by rcases hbad with h | h | h <;> first | exact h | (exfalso; omega)
        simp
        omega
      clear hbad
      go_wp2_with (first
        | (refine step_load_g (by rfl) 59 rfl 26 (.tmp 9) rfl g9 rfl rec0.cs _ hr9.all Tryd.underlying26 rfl (i35.out _) ?_)
        | (refine step_build_g (by rfl) 26 #[] rfl [] ?hv _ rec0_cs ?_; case hv => (simp [Act.eval, Act.put]))
        | (refine step_eql (by rfl) 26 26 (.tmp 59) (.tmp 60) rfl rec0.cs.toArray rec0.cs.toArray rfl (by rfl) rec_guard true hq0.out ?_))
      go_ret
      exact ⟨rfl, hbw⟩
    · obtain ⟨gh, rfl, hrh⟩ := hH _ _ hQ
      clear HCase hH hQ HSeal HStab HStab2 HIdeal
      have a0 : ¬ (a : Int) < 0 := by omega
      have a1 : ¬ (1023 : Int) < (a : Int) := by omega
      have HRh := Lib.hid hrh
      have HR9 := Lib.hid hr9
      have HR3 := Lib.hid hr3
      have HRp := Lib.hid hrp
      have HBw := Lib.hid hbw
      have d0 := hr3.cell 0
      have d1 := hr3.cell 1
      simp at d0 d1
      have HAl := Lib.hid (p := a < 1024) ha
      clear hrh hr9 hr3 hrp hbw ha
      have HL2 := Lib.hid (p := 256 = l.length) HI.out.len_
      have HLn := Lib.hid (p := n0 = l0.length) HI0.out.len_
      go_wp2_with fail
      refine (rpads_any (some ⟨gp, 0, none⟩) 1 [⟨e, s, A0, c0, l0⟩] e s 256 (by omega) (by simp) wc (one_at (gb := 0) (HRp.out.cell 0) (HRp.out.cell 1) (by rw [← HLn.out]; exact HRp.out.cell 2) (HI0.out.hol.below HBw.out) (by have h1 := HLn.out; have h2 := HL0.out; omega))).mono ?_
      rintro x5 w5' ⟨gq, rfl, hr5, hq5, hb5⟩
      have HBq := Lib.hid (HBw.out.trans (hb5.mono HBw.out.size))
      have HHq := Lib.hid (hr5.hol)
      have HRh5 := Lib.hid (HRh.out.kept hb5)
      have HR95 := Lib.hid (HR9.out.kept hb5)
      have HR35 := Lib.hid (HR3.out.kept hb5)
      clear hr5 hq5 hb5 HRh HR9 HR3 HRp HBw d0 d1
      go_wp2_with fail
      refine (xor_call A (some ⟨gq, 0, none⟩) c 256 256 256 l (lst 256 (pm [⟨e, s, A0, c0, l0⟩] e s)) HL2.out (lst_len _ _).symm (by rw [lst_len, ← HL2.out]; exact Nat.le_refl _) (by rw [lst_len]; omega) w5' (HI.out.hol.below HBq.out) HHq.out).mono ?_
      rintro x6 w6 ⟨A6, c6, rfl, hH6, hc6, hb6⟩
      have hH6' := hH6.out
      rw [want_eq] at hH6'
      have HH6 := Lib.hid hH6'
      have HB6 := Lib.hid (HBq.out.trans (hb6.mono HBq.out.size))
      have HRh6 := Lib.hid (HRh5.out.kept hb6)
      have HR96 := Lib.hid (HR95.out.kept hb6)
      have HR36 := Lib.hid (HR35.out.kept hb6)
      clear hH6 hH6' hb6 HRh5 HR95 HR35 HBq HHq
      go_wp2_with fail
      have i35r : (Tryd.prog.info? 26).map (·.size) = some (sealR a e s (lst 256 (hid (padM l0) l))).cs.length := i35.out _
      have HEQ := Lib.hid (p := ∀ w, (Op.equalIn 10000 26 (.agg (sealR a e s (lst 256 (hid (padM l0) l))).cs.toArray) (.agg (sealR a e s (lst 256 (hid (padM l0) l))).cs.toArray)).run Tryd.prog w = .ok true w) (fun w => by rw [eq_recw, RecV.eqb_refl])
      have HEQ2 := Lib.hid (p := ∀ w, (Op.equalIn 10000 24 (.agg (brr 32 (shaF (nonB e s ++ l))).toArray) (.agg (brr 32 (shaF (nonB e s ++ l))).toArray)).run Tryd.prog w = .ok true w) (fun w => by rw [eq_sum 9998]; simp)
      have ew : IntKind.i64.wrap ((a : Int) + 1) = (a : Int) + 1 := by have := HAl.out; rw [IntKind.wrap_i64]; omega
      refine wp_region_held_drew (S := fun W => Row W g3 39 [.int .u32 (e : Int), .int .u32 (s : Int), .slice A0 n0 c0] ∧ Row W g9 26 (sealR a e s (lst 256 (hid (padM l0) l))).cs) (by kernel_rfl) ⟨HR36.out.drew, HR96.out.drew⟩ (fun hHeld => ?_)
      refine wpAnyH_take (i := 0) (oi := ⟨some 75, .move (.tmp 10), _, _, _, _⟩) (v := .int .i64 0) rfl (by kernel_rfl) (by kernel_rfl) (by kernel_rfl) (fun _ _ _ h => h) (.inl ⟨by rfl, fun w hSw => by go_simp⟩) (by assumption) ?_
      simp only [Act.put, List.setIfInBounds_toArray, List.set_cons_zero, List.set_cons_succ]
      refine wpAnyH_take (i := 1) (oi := ⟨some 76, .binOp .eql 30 (.tmp 75) (.const (.int .i64 0)) 30, _, _, _, _⟩) (v := .bool true) rfl (by kernel_rfl) (by kernel_rfl) (by kernel_rfl) (fun _ _ _ h => h) (.inl ⟨by rfl, fun w hSw => by go_simp⟩) (by assumption) ?_
      simp only [Act.put, List.setIfInBounds_toArray, List.set_cons_zero, List.set_cons_succ]
      refine wpAnyH_take (i := 2) (oi := ⟨some 77, .move (.tmp 76), _, _, _, _⟩) (v := .bool true) rfl (by kernel_rfl) (by kernel_rfl) (by kernel_rfl) (fun _ _ _ h => h) (.inl ⟨by rfl, fun w hSw => by go_simp⟩) (by assumption) ?_
      simp only [Act.put, List.setIfInBounds_toArray, List.set_cons_zero, List.set_cons_succ]
      refine wpAnyH_take (i := 3) (oi := ⟨some 78, .move (.tmp 8), _, _, _, _⟩) (v := .slice (some ⟨gh, 0, none⟩) 256 256) rfl (by kernel_rfl) (by kernel_rfl) (by kernel_rfl) (fun _ _ _ h => h) (.inl ⟨by rfl, fun w hSw => by go_simp⟩) (by assumption) ?_
      simp only [Act.put, List.setIfInBounds_toArray, List.set_cons_zero, List.set_cons_succ]
      refine wpAnyH_take (i := 4) (oi := ⟨some 79, .move (.tmp 11), _, _, _, _⟩) (v := .slice A6 256 c6) rfl (by kernel_rfl) (by kernel_rfl) (by kernel_rfl) (fun _ _ _ h => h) (.inl ⟨by rfl, fun w hSw => by go_simp⟩) (by assumption) ?_
      simp only [Act.put, List.setIfInBounds_toArray, List.set_cons_zero, List.set_cons_succ]
      refine wpAnyH_ready (rs := [5]) (by kernel_rfl) (by simp) ?_
      refine AllReadyH.cons (o := ⟨some 80, .call ⟨.value (.func 13), #[.tmp 78, .tmp 79], _⟩, _, _, _, _⟩) rfl (fun K hK => ?_) AllReadyH.nil
      go_simp
      refine (bytes_call (some ⟨gh, 0, none⟩) A6 256 c6 256 256 _ _ (lst_len _ _).symm (lst_len _ _).symm _ (HRh6.out.drew).hol (HH6.out.below (below_draw w6)) (by rw [lst_len]; omega) (by rw [lst_len]; omega)).mono ?_
      rintro x7 w7 ⟨rfl, hb7⟩
      rw [decide_eq_true rfl]
      have HB7 := Lib.hid (p := Below w6.heap.size w6 w7) (Below.trans (below_draw w6) (hb7.mono (Below.size (below_draw w6))))
      refine hK.out _ _ ⟨HR36.out.kept HB7.out, HR96.out.kept HB7.out⟩ (fun hS7 => ?_)
      clear hK K
      refine wpAnyH_take (i := 6) (oi := ⟨some 81, .pick (.tmp 77) (.tmp 80) (.const (.bool false)), _, _, _, _⟩) (v := .bool true) rfl (by kernel_rfl) (by kernel_rfl) (by kernel_rfl) (fun _ _ _ h => h) (.inl ⟨by rfl, fun w hSw => by go_simp⟩) (by assumption) ?_
      simp only [Act.put, List.setIfInBounds_toArray, List.set_cons_zero, List.set_cons_succ]
      refine wpAnyH_take (i := 7) (oi := ⟨some 82, .move (.tmp 81), _, _, _, _⟩) (v := .bool true) rfl (by kernel_rfl) (by kernel_rfl) (by kernel_rfl) (fun _ _ _ h => h) (.inl ⟨by rfl, fun w hSw => by go_simp⟩) (by assumption) ?_
      simp only [Act.put, List.setIfInBounds_toArray, List.set_cons_zero, List.set_cons_succ]
      refine wpAnyH_take (i := 8) (oi := ⟨some 83, .load 26 (.tmp 9), _, _, _, _⟩) (v := .agg (sealR a e s (lst 256 (hid (padM l0) l))).cs.toArray) rfl (by kernel_rfl) (by kernel_rfl) (by kernel_rfl) (fun _ _ _ h => h) (yieldsIf_load_mid (by rfl) 26 (.tmp 9) rfl g9 0 rfl (sealR a e s (lst 256 (hid (padM l0) l))).cs _ (fun w hSw => hSw.2.all) Tryd.underlying26 rfl i35r) (by assumption) ?_
      simp only [Act.put, List.setIfInBounds_toArray, List.set_cons_zero, List.set_cons_succ]
      refine wpAnyH_take (i := 9) (oi := ⟨some 84, .move (.tmp 1), _, _, _, _⟩) (v := .int .i64 (a : Int)) rfl (by kernel_rfl) (by kernel_rfl) (by kernel_rfl) (fun _ _ _ h => h) (.inl ⟨by rfl, fun w hSw => by go_simp⟩) (by assumption) ?_
      simp only [Act.put, List.setIfInBounds_toArray, List.set_cons_zero, List.set_cons_succ]
      refine wpAnyH_take (i := 10) (oi := ⟨some 85, .binOp .add 3 (.tmp 84) (.const (.int .i64 1)) 3, _, _, _, _⟩) (v := .int .i64 ((a : Int) + 1)) rfl (by kernel_rfl) (by kernel_rfl) (by kernel_rfl) (fun _ _ _ h => h) (.inl ⟨by rfl, fun w hSw => by go_simp⟩) (by assumption) ?_
      simp only [Act.put, List.setIfInBounds_toArray, List.set_cons_zero, List.set_cons_succ]
      refine wpAnyH_take (i := 11) (oi := ⟨some 86, .fieldAddr 39 (.tmp 3) 0, _, _, _, _⟩) (v := .pointer (some ⟨g3, 0, none⟩)) rfl (by kernel_rfl) (by kernel_rfl) (by kernel_rfl) (fun _ _ _ h => h) (.inl ⟨by rfl, fun w hSw => by go_simp⟩) (by assumption) ?_
      simp only [Act.put, List.setIfInBounds_toArray, List.set_cons_zero, List.set_cons_succ]
      refine wpAnyH_take (i := 12) (oi := ⟨some 87, .load 22 (.tmp 86), _, _, _, _⟩) (v := .int .u32 (e : Int)) rfl (by kernel_rfl) (by kernel_rfl) (by kernel_rfl) (fun _ _ _ h => h) (.inl ⟨by rfl, fun w hSw => by have z0 := Row.cell hSw.1 0; have z1 := Row.cell hSw.1 1; simp at z0 z1; go_simp⟩) (by assumption) ?_
      simp only [Act.put, List.setIfInBounds_toArray, List.set_cons_zero, List.set_cons_succ]
      refine wpAnyH_take (i := 13) (oi := ⟨some 88, .fieldAddr 39 (.tmp 3) 1, _, _, _, _⟩) (v := .pointer (some ⟨g3, 1, none⟩)) rfl (by kernel_rfl) (by kernel_rfl) (by kernel_rfl) (fun _ _ _ h => h) (.inl ⟨by rfl, fun w hSw => by go_simp⟩) (by assumption) ?_
      simp only [Act.put, List.setIfInBounds_toArray, List.set_cons_zero, List.set_cons_succ]
      refine wpAnyH_take (i := 14) (oi := ⟨some 89, .load 22 (.tmp 88), _, _, _, _⟩) (v := .int .u32 (s : Int)) rfl (by kernel_rfl) (by kernel_rfl) (by kernel_rfl) (fun _ _ _ h => h) (.inl ⟨by rfl, fun w hSw => by have z0 := Row.cell hSw.1 0; have z1 := Row.cell hSw.1 1; simp at z0 z1; go_simp⟩) (by assumption) ?_
      simp only [Act.put, List.setIfInBounds_toArray, List.set_cons_zero, List.set_cons_succ]
      refine wpAnyH_take (i := 15) (oi := ⟨some 90, .fieldAddr 39 (.tmp 3) 0, _, _, _, _⟩) (v := .pointer (some ⟨g3, 0, none⟩)) rfl (by kernel_rfl) (by kernel_rfl) (by kernel_rfl) (fun _ _ _ h => h) (.inl ⟨by rfl, fun w hSw => by go_simp⟩) (by assumption) ?_
      simp only [Act.put, List.setIfInBounds_toArray, List.set_cons_zero, List.set_cons_succ]
      refine wpAnyH_take (i := 16) (oi := ⟨some 91, .load 22 (.tmp 90), _, _, _, _⟩) (v := .int .u32 (e : Int)) rfl (by kernel_rfl) (by kernel_rfl) (by kernel_rfl) (fun _ _ _ h => h) (.inl ⟨by rfl, fun w hSw => by have z0 := Row.cell hSw.1 0; have z1 := Row.cell hSw.1 1; simp at z0 z1; go_simp⟩) (by assumption) ?_
      simp only [Act.put, List.setIfInBounds_toArray, List.set_cons_zero, List.set_cons_succ]
      refine wpAnyH_take (i := 17) (oi := ⟨some 92, .fieldAddr 39 (.tmp 3) 1, _, _, _, _⟩) (v := .pointer (some ⟨g3, 1, none⟩)) rfl (by kernel_rfl) (by kernel_rfl) (by kernel_rfl) (fun _ _ _ h => h) (.inl ⟨by rfl, fun w hSw => by go_simp⟩) (by assumption) ?_
      simp only [Act.put, List.setIfInBounds_toArray, List.set_cons_zero, List.set_cons_succ]
      refine wpAnyH_take (i := 18) (oi := ⟨some 93, .load 22 (.tmp 92), _, _, _, _⟩) (v := .int .u32 (s : Int)) rfl (by kernel_rfl) (by kernel_rfl) (by kernel_rfl) (fun _ _ _ h => h) (.inl ⟨by rfl, fun w hSw => by have z0 := Row.cell hSw.1 0; have z1 := Row.cell hSw.1 1; simp at z0 z1; go_simp⟩) (by assumption) ?_
      simp only [Act.put, List.setIfInBounds_toArray, List.set_cons_zero, List.set_cons_succ]
      refine wpAnyH_take (i := 19) (oi := ⟨some 94, .move (.tmp 11), _, _, _, _⟩) (v := .slice A6 256 c6) rfl (by kernel_rfl) (by kernel_rfl) (by kernel_rfl) (fun _ _ _ h => h) (.inl ⟨by rfl, fun w hSw => by go_simp⟩) (by assumption) ?_
      simp only [Act.put, List.setIfInBounds_toArray, List.set_cons_zero, List.set_cons_succ]
      refine wpAnyH_ready (rs := [20]) (by kernel_rfl) (by simp) ?_
      refine AllReadyH.cons (o := ⟨some 95, .call ⟨.value (.func 20), #[.tmp 91, .tmp 93, .tmp 94], _⟩, _, _, _, _⟩) rfl (fun K hK => ?_) AllReadyH.nil
      go_simp
      refine (rdigest_any e s A6 256 c6 _ (lst_len _ _).symm HE.out HS.out w7 (HH6.out.below HB7.out) (by rw [lst_len]; omega)).mono ?_
      rintro x8 w8 ⟨rfl, hb8⟩
      have HB8 := Lib.hid (p := Below w6.heap.size w6 w8) (Below.trans HB7.out (hb8.mono (Below.size HB7.out)))
      refine hK.out _ _ ⟨HR36.out.kept HB8.out, HR96.out.kept HB8.out⟩ (fun hS8 => ?_)
      clear hK K
      refine wpAnyH_take (i := 21) (oi := ⟨some 96, .build 26 #[(0, .tmp 85), (1, .tmp 87), (2, .tmp 89), (3, .tmp 95)], _, _, _, _⟩) (v := .agg (sealR a e s (lst 256 (hid (padM l0) l))).cs.toArray) rfl (by kernel_rfl) (by kernel_rfl) (by kernel_rfl) (fun _ _ _ h => h) (.inl ⟨by rfl, fun w hSw => run_build_op w _ 26 #[(0, .tmp 85), (1, .tmp 87), (2, .tmp 89), (3, .tmp 95)] rfl [(0, .int .i64 ((a : Int) + 1)), (1, .int .u32 (e : Int)), (2, .int .u32 (s : Int)), (3, .agg (brr 32 (shaF (nonB e s ++ lst 256 (hid (padM l0) l)))).toArray)] (by simp [Act.eval]) _ (built_rec _ e s _)⟩) (by assumption) ?_
      simp only [Act.put, List.setIfInBounds_toArray, List.set_cons_zero, List.set_cons_succ]
      refine wpAnyH_take (i := 22) (oi := ⟨some 97, .binOp .eql 26 (.tmp 83) (.tmp 96) 26, _, _, _, _⟩) (v := .bool true) rfl (by kernel_rfl) (by kernel_rfl) (by kernel_rfl) (fun _ _ _ h => h) (.inl ⟨by rfl, fun w hSw => run_eql_op w _ _ _ _ _ rfl _ _ rfl rfl rec_guard _ HEQ.out⟩) (by assumption) ?_
      simp only [Act.put, List.setIfInBounds_toArray, List.set_cons_zero, List.set_cons_succ]
      refine wpAnyH_take (i := 23) (oi := ⟨some 98, .pick (.tmp 82) (.tmp 97) (.const (.bool false)), _, _, _, _⟩) (v := .bool true) rfl (by kernel_rfl) (by kernel_rfl) (by kernel_rfl) (fun _ _ _ h => h) (.inl ⟨by rfl, fun w hSw => by go_simp⟩) (by assumption) ?_
      simp only [Act.put, List.setIfInBounds_toArray, List.set_cons_zero, List.set_cons_succ]
      refine wpAnyH_take (i := 24) (oi := ⟨some 99, .move (.tmp 98), _, _, _, _⟩) (v := .bool true) rfl (by kernel_rfl) (by kernel_rfl) (by kernel_rfl) (fun _ _ _ h => h) (.inl ⟨by rfl, fun w hSw => by go_simp⟩) (by assumption) ?_
      simp only [Act.put, List.setIfInBounds_toArray, List.set_cons_zero, List.set_cons_succ]
      refine wpAnyH_take (i := 25) (oi := ⟨some 100, .fieldAddr 39 (.tmp 3) 0, _, _, _, _⟩) (v := .pointer (some ⟨g3, 0, none⟩)) rfl (by kernel_rfl) (by kernel_rfl) (by kernel_rfl) (fun _ _ _ h => h) (.inl ⟨by rfl, fun w hSw => by go_simp⟩) (by assumption) ?_
      simp only [Act.put, List.setIfInBounds_toArray, List.set_cons_zero, List.set_cons_succ]
      refine wpAnyH_take (i := 26) (oi := ⟨some 101, .load 22 (.tmp 100), _, _, _, _⟩) (v := .int .u32 (e : Int)) rfl (by kernel_rfl) (by kernel_rfl) (by kernel_rfl) (fun _ _ _ h => h) (.inl ⟨by rfl, fun w hSw => by have z0 := Row.cell hSw.1 0; have z1 := Row.cell hSw.1 1; simp at z0 z1; go_simp⟩) (by assumption) ?_
      simp only [Act.put, List.setIfInBounds_toArray, List.set_cons_zero, List.set_cons_succ]
      refine wpAnyH_take (i := 27) (oi := ⟨some 102, .fieldAddr 39 (.tmp 3) 1, _, _, _, _⟩) (v := .pointer (some ⟨g3, 1, none⟩)) rfl (by kernel_rfl) (by kernel_rfl) (by kernel_rfl) (fun _ _ _ h => h) (.inl ⟨by rfl, fun w hSw => by go_simp⟩) (by assumption) ?_
      simp only [Act.put, List.setIfInBounds_toArray, List.set_cons_zero, List.set_cons_succ]
      refine wpAnyH_take (i := 28) (oi := ⟨some 103, .load 22 (.tmp 102), _, _, _, _⟩) (v := .int .u32 (s : Int)) rfl (by kernel_rfl) (by kernel_rfl) (by kernel_rfl) (fun _ _ _ h => h) (.inl ⟨by rfl, fun w hSw => by have z0 := Row.cell hSw.1 0; have z1 := Row.cell hSw.1 1; simp at z0 z1; go_simp⟩) (by assumption) ?_
      simp only [Act.put, List.setIfInBounds_toArray, List.set_cons_zero, List.set_cons_succ]
      refine wpAnyH_take (i := 29) (oi := ⟨some 104, .move (.tmp 2), _, _, _, _⟩) (v := .slice A 256 c) rfl (by kernel_rfl) (by kernel_rfl) (by kernel_rfl) (fun _ _ _ h => h) (.inl ⟨by rfl, fun w hSw => by go_simp⟩) (by assumption) ?_
      simp only [Act.put, List.setIfInBounds_toArray, List.set_cons_zero, List.set_cons_succ]
      refine wpAnyH_take (i := 31) (oi := ⟨some 106, .fieldAddr 39 (.tmp 3) 0, _, _, _, _⟩) (v := .pointer (some ⟨g3, 0, none⟩)) rfl (by kernel_rfl) (by kernel_rfl) (by kernel_rfl) (fun _ _ _ h => h) (.inl ⟨by rfl, fun w hSw => by go_simp⟩) (by assumption) ?_
      simp only [Act.put, List.setIfInBounds_toArray, List.set_cons_zero, List.set_cons_succ]
      refine wpAnyH_take (i := 32) (oi := ⟨some 107, .load 22 (.tmp 106), _, _, _, _⟩) (v := .int .u32 (e : Int)) rfl (by kernel_rfl) (by kernel_rfl) (by kernel_rfl) (fun _ _ _ h => h) (.inl ⟨by rfl, fun w hSw => by have z0 := Row.cell hSw.1 0; have z1 := Row.cell hSw.1 1; simp at z0 z1; go_simp⟩) (by assumption) ?_
      simp only [Act.put, List.setIfInBounds_toArray, List.set_cons_zero, List.set_cons_succ]
      refine wpAnyH_take (i := 33) (oi := ⟨some 108, .fieldAddr 39 (.tmp 3) 1, _, _, _, _⟩) (v := .pointer (some ⟨g3, 1, none⟩)) rfl (by kernel_rfl) (by kernel_rfl) (by kernel_rfl) (fun _ _ _ h => h) (.inl ⟨by rfl, fun w hSw => by go_simp⟩) (by assumption) ?_
      simp only [Act.put, List.setIfInBounds_toArray, List.set_cons_zero, List.set_cons_succ]
      refine wpAnyH_take (i := 34) (oi := ⟨some 109, .load 22 (.tmp 108), _, _, _, _⟩) (v := .int .u32 (s : Int)) rfl (by kernel_rfl) (by kernel_rfl) (by kernel_rfl) (fun _ _ _ h => h) (.inl ⟨by rfl, fun w hSw => by have z0 := Row.cell hSw.1 0; have z1 := Row.cell hSw.1 1; simp at z0 z1; go_simp⟩) (by assumption) ?_
      simp only [Act.put, List.setIfInBounds_toArray, List.set_cons_zero, List.set_cons_succ]
      refine wpAnyH_take (i := 35) (oi := ⟨some 110, .move (.tmp 2), _, _, _, _⟩) (v := .slice A 256 c) rfl (by kernel_rfl) (by kernel_rfl) (by kernel_rfl) (fun _ _ _ h => h) (.inl ⟨by rfl, fun w hSw => by go_simp⟩) (by assumption) ?_
      simp only [Act.put, List.setIfInBounds_toArray, List.set_cons_zero, List.set_cons_succ]
      refine wpAnyH_ready (rs := [30]) (by kernel_rfl) (by simp) ?_
      refine AllReadyH.cons (o := ⟨some 105, .call ⟨.value (.func 21), #[.tmp 101, .tmp 103, .tmp 104], _⟩, _, _, _, _⟩) rfl (fun K hK => ?_) AllReadyH.nil
      go_simp
      have hdg := digest_any e s A c l HE.out HS.out w8 (HI.out.hol.below (HB6.out.trans (HB8.out.mono HB6.out.size))) (by rw [← HL2.out]; exact HI.out.cap_) (fun ad hd => Nat.lt_of_lt_of_le (hol_lt HI.out.hol HL2.out ad hd) (HB6.out.trans (HB8.out.mono HB6.out.size)).size) (by rw [← HL2.out]; omega) (HT.out.below (HB6.out.trans (HB8.out.mono HB6.out.size)))
      rw [← HL2.out] at hdg
      refine hdg.mono ?_
      rintro x9 w9 ⟨rfl, hb9⟩
      have HB9 := Lib.hid (p := Below w6.heap.size w6 w9) (Below.trans HB8.out (hb9.mono (Below.size HB8.out)))
      refine hK.out _ _ ⟨HR36.out.kept HB9.out, HR96.out.kept HB9.out⟩ (fun hS9 => ?_)
      clear hK K
      refine wpAnyH_ready (rs := [36]) (by kernel_rfl) (by simp) ?_
      refine AllReadyH.cons (o := ⟨some 111, .call ⟨.value (.func 20), #[.tmp 107, .tmp 109, .tmp 110], _⟩, _, _, _, _⟩) rfl (fun K hK => ?_) AllReadyH.nil
      go_simp
      refine (rdigest_any e s A 256 c l HL2.out HE.out HS.out w9 (HI.out.hol.below (HB6.out.trans (HB9.out.mono HB6.out.size))) (by rw [← HL2.out]; omega)).mono ?_
      rintro x10 w10 ⟨rfl, hb10⟩
      have HB10 := Lib.hid (p := Below w6.heap.size w6 w10) (Below.trans HB9.out (hb10.mono (Below.size HB9.out)))
      refine hK.out _ _ ⟨HR36.out.kept HB10.out, HR96.out.kept HB10.out⟩ (fun hS10 => ?_)
      clear hK K
      refine wpAnyH_take (i := 37) (oi := ⟨some 112, .binOp .eql 24 (.tmp 105) (.tmp 111) 24, _, _, _, _⟩) (v := .bool true) rfl (by kernel_rfl) (by kernel_rfl) (by kernel_rfl) (fun _ _ _ h => h) (.inl ⟨by rfl, fun w hSw => run_eql_op w _ _ _ _ _ rfl _ _ rfl rfl sum_guard _ HEQ2.out⟩) (by assumption) ?_
      simp only [Act.put, List.setIfInBounds_toArray, List.set_cons_zero, List.set_cons_succ]
      refine wpAnyH_take (i := 38) (oi := ⟨some 113, .pick (.tmp 99) (.tmp 112) (.const (.bool false)), _, _, _, _⟩) (v := .bool true) rfl (by kernel_rfl) (by kernel_rfl) (by kernel_rfl) (fun _ _ _ h => h) (.inl ⟨by rfl, fun w hSw => by go_simp⟩) (by assumption) ?_
      simp only [Act.put, List.setIfInBounds_toArray, List.set_cons_zero, List.set_cons_succ]
      refine wpAnyH_take (i := 39) (oi := ⟨some 6, .assign (.tmp 113), _, _, _, _⟩) (v := .bool true) rfl (by kernel_rfl) (by kernel_rfl) (by kernel_rfl) (fun _ _ _ h => h) (.inl ⟨by rfl, fun w hSw => by go_simp⟩) (by assumption) ?_
      simp only [Act.put, List.setIfInBounds_toArray, List.set_cons_zero, List.set_cons_succ]
      refine wpAnyH_done (by kernel_rfl) ?_ _
      go_wp2_with fail
      go_ret
      exact ⟨rfl, HB6.out.trans (HB10.out.mono HB6.out.size)⟩
end Go.Proofs.YtibnmhaipogleaaDoor.nodeSeals
