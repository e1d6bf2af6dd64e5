/- A hidden block's digest, by the reference: what the call leaves, for all bytes up to 2^40. No conditions. -/
import Derived.Test.YtibnmhaipogleaaDoorRefOf
import Derived.Test.YtibnmhaipogleaaDoorRMay
import Derived.Test.YtibnmhaipogleaaDoorDig
import Derived.Test.YtibnmhaipogleaaDoorCopy
import Derived.Test.YtibnmhaipogleaaDoorCalls
import Derived.Test.YtibnmhaipogleaaDoorAesK
import Derived.BigQuiet
import Derived.Test.YtibnmhaipogleaaDoorRecE
import Derived.Deep.RegionHeld
import Derived.Test.YtibnmhaipogleaaDoorAwakeN
import Derived.Test.YtibnmhaipogleaaDoorOpen
import Derived.Test.YtibnmhaipogleaaDoorBin
import Derived.Deep.CutRange
set_option linter.unusedVariables false
set_option maxRecDepth 20000
namespace Go.Proofs.YtibnmhaipogleaaDoor
open Go.RowKit

theorem ref_of_call (A : Option Addr) (n c : Nat) (l : List UInt8) (hn : n = l.length) (w : World) (hA : Hol w A l) (hlen : l.length ≤ 1099511627776) :
    Calls Tryd.prog 38 #[.slice A n c] w fun e w' => e = .returned (.agg (brr 32 (shaF l)).toArray) ∧ Below w.heap.size w w' := by
  subst hn
  exact ref_of_any A c l w hA hlen
set_option maxHeartbeats 1000000 in
theorem rdigest_any (e s : Nat) (A : Option Addr) (n c : Nat) (l : List UInt8) (hn : n = l.length) (he : e < 4294967296) (hs : s < 4294967296) (w : World) (hA : Hol w A l) (hlen : l.length ≤ 549755813888) :
    Calls Tryd.prog 20 #[.int .u32 (e : Int), .int .u32 (s : Int), .slice A n c] w fun x w' => x = .returned (.agg (brr 32 (shaF (nonB e s ++ l))).toArray) ∧ Below w.heap.size w w' := by
  obtain ⟨i, U⟩ := u8_tab
  have i27 := Lib.hid (p := (Tryd.prog.info? 24).map (·.size) = some 32) (by kernel_rfl)
  have hz := Lib.hid zero_sum
  have we := wrap_u64n he
  have ws := wrap_u64n hs
  have HA := Lib.hid hA
  have HE := Lib.hid he
  have HS := Lib.hid hs
  have HN := Lib.hid hn
  have HL := Lib.hid hlen
  clear hA he hs hlen hn
  go_enter Tryd.func20, Tryd.ntmps20
  go_wp2_with (first
    | (refine step_alloc rfl 6 rfl 24 rfl _ hz ?_; intro g2 w2 hr2 hg2 hb2 hs2
       have HR2 := Lib.hid hr2
       have HB2 := Lib.hid hb2
       have Q2 := Lib.hid (p := w.heap.size ≤ g2) (by rw [hg2.out]; exact Nat.le_refl _)
       have L2 := Lib.hid (p := g2 < w2.heap.size) hr2.lt
       clear hr2 hb2 hg2 hs2)
    | (go_at_call_of 37 (Value.int IntKind.u64 (e : Int)); refine (rput4' none 0 0 [] e rfl _ .none_ HE.out (by simp)).mono ?_; rintro x3 w3 ⟨A3, c3, m3, rfl, hm3, hH3, hb3⟩
       have HR3 := Lib.hid (HR2.out.kept hb3.out)
       have HB3 := Lib.hid (HB2.out.trans (hb3.out.mono HB2.out.size))
       have S3 := Lib.hid (p := w2.heap.size ≤ w3.heap.size) hb3.out.size
       clear hb3)
    | (go_at_call_of 37 (Value.int IntKind.u64 (s : Int)); refine (rput4o A3 c3 m3 ([] ++ leb e 4) s (hm3.out.trans (by simp [leb_len])) _ hH3.out HS.out (by simp [leb_len])).mono ?_; rintro x4 w4 ⟨A4, m4, c4, rfl, hm4, ho4, hb4⟩
       have HR4 := Lib.hid (HR3.out.kept hb4.out)
       have HB4 := Lib.hid (HB3.out.trans (hb4.out.mono HB3.out.size))
       have HO4 := Lib.hid (World.ownsRow.mono ho4.out S3.out)
       have HL4 := Lib.hid (HA.out.below HB4.out)
       have S4 := Lib.hid (p := w2.heap.size ≤ w4.heap.size) (Nat.le_trans S3.out hb4.out.size)
       clear hb4 ho4)
    | (at_builtin; refine wpList_app _ rfl _ _ _ rfl 5 i U w2.heap.size _ m4 _ rfl HO4.out A n c l rfl HN.out HL4.out (by have := hm4.out; simp [leb_len] at this; have h1 := HL.out; have h2 := HN.out; omega) S4.out ?_; intro v5 w5 ho5 hg5 hat5; obtain ⟨A5, c5, rfl⟩ := own_sl ho5
       have HB5 := Lib.hid (p := Below w.heap.size w w5) (HB4.out.grown hg5 HB4.out.size (fun q hq => Nat.le_trans (Nat.le_trans Q2.out (Nat.le_of_lt L2.out)) (HO4.out.lt q hq).1))
       have HR5 := Lib.hid (p := Row w5 g2 24 (brr 32 (fun _ => 0))) (HR4.out.grown hg5 (fun e => by have := (HO4.out.lt g2 e.symm).1; have := L2.out; omega))
       rw [← bc_app] at ho5
       have HO5 := Lib.hid ho5
       have HH5 := Lib.hid (p := Hol w5 A5 (nonB e s ++ l)) (by have h9 := Hol.own ho5; have e9 : [] ++ leb e 4 ++ leb s 4 ++ l = nonB e s ++ l := (by simp [nonB]); rw [e9] at h9; exact h9)
       have HM5 := Lib.hid (p := m4 + n = (nonB e s ++ l).length) (by have h2 := hm4.out; rw [List.length_append, leb_len] at h2; rw [List.length_append, nonB_len, ← HN.out, h2]; rfl)
       clear hg5 hat5 ho5)
    | (go_at_call 38; refine (ref_of_call A5 _ c5 _ HM5.out _ HH5.out (by rw [List.length_append, nonB_len]; have := HL.out; omega)).mono ?_; rintro x6 w6 ⟨rfl, hb6⟩
       have HB6 := Lib.hid (HB5.out.trans (hb6.mono HB5.out.size))
       have HR6 := Lib.hid (HR5.out.kept hb6)
       clear hb6)
    | (refine step_store rfl 24 (.tmp 6) (.tmp 25) rfl g2 (by rfl) _ (brr 32 (fun _ => 0)) (brr 32 (shaF (nonB e s ++ l))) (by rfl) HR6.out (by rw [brr_len, brr_len]) (by rw [brr_len]; exact i27) (brr_one _ _) ?_; intro w8 hr8 hg8 hs8))
  refine bodyPost_ret (results_cell_row rfl _ _ g2 _ _ _ _ rfl hr8 Tryd.underlying24 rfl (by simpa [brr_len] using i27.out)) rfl ?_
  exact ⟨rfl, HB6.out.grown hg8 HB6.out.size (fun q hq => by injection hq with hq; subst hq; exact Q2.out)⟩
end Go.Proofs.YtibnmhaipogleaaDoor
/- Bytes as a block, by the law's own function: what the call leaves, for all bytes. No conditions but those named. -/
set_option linter.unusedVariables false
namespace Go.Proofs.YtibnmhaipogleaaDoor
open Go.RowKit

/-- A new row of bytes. -/
def Fresh (w : World) (n : Nat) (f : Nat → UInt8) (x : Ending) (w' : World) : Prop :=
  ∃ g, x = .returned (.slice (some ⟨g, 0, none⟩) n n) ∧ Row w' g 5 (brr n f) ∧ w.heap.size ≤ g ∧ Below w.heap.size w w'
/-- A block's bytes. -/
def wh (l : List UInt8) : Nat → UInt8 := fun j => l.getD j 0
set_option maxHeartbeats 1000000 in
theorem whl_any (A : Option Addr) (c : Nat) (l : List UInt8) (hl : l.length ≤ 9223372036854775807) (w : World) (hA : Hol w A l) :
    Calls Tryd.prog 22 #[.slice A l.length c] w (Fresh w 256 (wh l)) := by
  obtain ⟨i, U⟩ := u8_tab
  have HA := Lib.hid hA
  have HL := Lib.hid hl
  clear hA hl
  go_enter Tryd.func22, Tryd.ntmps22
  go_wp2_with (refine step_make rfl _ _ 29 5 i U rfl 256 rfl rfl (by omega) ?_; intro g w1 hr1 hg1 hb1 hs1)
  have q1 : w.heap.size ≤ g := by rw [hg1.out]; exact Nat.le_refl _
  have HB1 := Lib.hid hb1
  clear hb1 hg1 hs1
  go_loopw [4] (fun x wr => ∃ k : Nat, k ≤ l.length ∧ k ≤ 256 ∧ x = .int .i64 (k : Int) ∧ Row wr g 5 (brr 256 (upto k (wh l) fun _ => 0)) ∧ Below w.heap.size w wr) (fun x _ => 256 - (intOf x).toNat)
  case atStart => exact ⟨0, by omega, by omega, rfl, by rw [upto_zero]; exact hr1, HB1.out⟩
  case round =>
    clear hr1
    obtain ⟨k, hk, hk2, rfl, hR, hB⟩ := hrel
    by_cases h1 : k < l.length
    · have h1i : (k : Int) < (l.length : Int) := by omega
      by_cases h2 : k < 256
      · have h2i : (k : Int) < 256 := by omega
        obtain ⟨ga, oa, rfl, _, hc2⟩ := (HA.out.below hB).at_ h1
        obtain ⟨y, hy⟩ : ∃ y, l[k] = y := ⟨_, rfl⟩
        rw [hy] at hc2
        replace hc2 : wr.cell? ⟨ga, oa + k, none⟩ = some (B y) := hc2
        have HY : Hid (wh l k = y) := Lib.hid (by unfold wh; rw [List.getD_eq_getElem?_getD, List.getElem?_eq_getElem h1, hy]; rfl)
        have c1 : wr.cell? ⟨g, k, none⟩ = some (B 0) := by rw [hR.cell, brr_get _ h2, upto_self]
        have f1 := hR.free k
        have HR := Lib.hid hR
        have HB := Lib.hid hB
        clear hR hB hy
        go_wp2
        go_roundw
        case rel => exact ⟨k + 1, by omega, by omega, by go_num, by rw [← upto_step, ← brr_set, HY.out]; exact HR.out.put _ _, HB.out.setCell q1 _⟩
        case measure => simp [intOf]; omega
      · have h2i : ¬ (k : Int) < 256 := by omega
        have hfin : brr 256 (upto k (wh l) fun _ => 0) = brr 256 (wh l) := brr_congr fun j hj => upto_near _ _ (by omega)
        rw [hfin] at hR
        have HR := Lib.hid hR
        have HB := Lib.hid hB
        clear hR hB hfin
        go_wp2
        go_ret
        exact ⟨g, rfl, HR.out, q1, HB.out⟩
    · have h1i : ¬ (k : Int) < (l.length : Int) := by omega
      have hfin : brr 256 (upto k (wh l) fun _ => 0) = brr 256 (wh l) := brr_congr fun j hj => by
        by_cases h : j < k
        · exact upto_near _ _ h
        · rw [upto_far _ _ (by omega)]
          unfold wh
          rw [List.getD_eq_getElem?_getD, List.getElem?_eq_none (by omega)]
          rfl
      rw [hfin] at hR
      have HR := Lib.hid hR
      have HB := Lib.hid hB
      clear hR hB hfin
      go_wp2
      go_ret
      exact ⟨g, rfl, HR.out, q1, HB.out⟩
end Go.Proofs.YtibnmhaipogleaaDoor
/- Steps of a region that draws, one by one: a row made, a row stored. No conditions. -/
set_option linter.unusedVariables false
namespace Go.Proofs.YtibnmhaipogleaaDoor
open Go.RowKit

section
variable {P : Program} {ops : Array Oper} {o : Oper} {a : Act} {w : World} {Q : Exit → Act → World → Prop} {K : Act → World → Prop} {E : Prop}
theorem st_alloc (hw : Region.wanted o (yielded ops a.tmps) = true) (t : TypeId) (ho : o.op = .alloc t) (cs : List Value) (hz : ∀ w : World, (zeroValue t).run P w = .ok (.agg cs.toArray) w)
    (h : ∀ g w', Row w' g t cs → Hid (g = w.heap.size) → Below w.heap.size w w' → K (a.put o.dst (.pointer (some ⟨g, 0, none⟩))) w') : if Region.wanted o (yielded ops a.tmps) = true then Oper.wp P o a w K Q else E := by
  rw [if_pos hw]
  unfold Oper.wp execOp
  simp only [ho]
  simp [Instr.alloc, hz, newVar, go_sem]
  exact h _ _ (Row.made w t cs) (show _ = _ from rfl) ((Below.refl _ _).alloc (Nat.le_refl _) _)
theorem st_store (hw : Region.wanted o (yielded ops a.tmps) = true) (ty : TypeId) (x y : Operand) (ho : o.op = .store ty x y) (g : Nat) (hx : a.eval x = .pointer (some ⟨g, 0, none⟩)) (t : TypeId) (old cs : List Value) (hy : a.eval y = .agg cs.toArray)
    (hr : Row w g t old) (hl : old.length = cs.length) (hi : (P.info? ty).map (·.size) = some cs.length) (h1 : ∀ v ∈ cs, v.oneCell' = true)
    (h : ∀ w', Row w' g t cs → w.grownBy w' (some g) → K (a.put o.dst undef) w') : if Region.wanted o (yielded ops a.tmps) = true then Oper.wp P o a w K Q else E := by
  rw [if_pos hw]
  refine wp_store_row ty x y ho g cs.toArray hx hy t old.toArray hr (by simpa using hi) (by simpa using hl) (all_oneCell_toArray h1) ?_
  exact h _ (setRow_heap w g _ _ t _ hr) ⟨rfl, rfl, rfl, by simp, fun k hk hne => setRow_other w g k _ (fun e => hne (by rw [e]))⟩
theorem run_eql_op {P : Program} (w : World) {a : Act} (o : Oper) (t t' : TypeId) (x y : Operand) (ho : o.op = .binOp .eql t x y t') (xs ys : Array Value) (hx : a.eval x = .agg xs) (hy : a.eval y = .agg ys) (hg : P.eqGuardType P.depth t = false) (b : Bool)
    (he : ∀ w, (Op.equalIn 10000 t (.agg xs) (.agg ys)).run P w = .ok b w) : (execOp a.eval o).run P w = .ok (.value (.bool b)) w := by
  unfold execOp
  simp only [ho, hx, hy, Sem.run_bind, run_eqGuard_agg w _ t x y xs ys hg, run_eql_struct, he, Result.andThen_ok]
  rfl
theorem run_build_op {P : Program} (w : World) {a : Act} (o : Oper) (t : TypeId) (parts : Array (Nat × Operand)) (ho : o.op = .build t parts) (vs : List (Nat × Value)) (hv : (parts.map fun (i, x) => (i, a.eval x)).toList = vs) (cells : Array Value) (hb : P.built t vs = some cells) : (execOp a.eval o).run P w = .ok (.value (.agg cells)) w := by
  subst hv
  unfold execOp
  simp only [ho, Sem.run_bind, run_build w t _ cells hb, Result.andThen_ok]
  rfl
end
end Go.Proofs.YtibnmhaipogleaaDoor
/- A byte turned in a hidden block, or another nonce told, is IO, or two texts with one digest are at hand: the walk. Condition: the listed tables. -/
set_option linter.unusedVariables false
set_option maxRecDepth 20000
namespace Go.Proofs.YtibnmhaipogleaaDoor.nodeTurns
open Go.RowKit

/-- What the veil's pad makes of bytes. -/
def padM (l0 : List UInt8) : Nat → UInt8 := fun j => (l0.take 4096).getD j 0
/-- The block, hidden. -/
def hidF (l0 l : List UInt8) : Nat → UInt8 := hid (padM l0) (lst 256 (wh l))
theorem hid_twice (m : Nat → UInt8) (l : List UInt8) : lst 256 (hid m (lst 256 (hid m (lst 256 (wh l))))) = lst 256 (wh l) := by
  unfold lst
  refine List.map_congr_left fun j hj => ?_
  have hj' : j < 256 := by simpa using hj
  unfold hid
  have e1 : ((List.range 256).map fun j => m j ^^^ ((List.range 256).map (wh l)).getD j 0).getD j 0 = m j ^^^ ((List.range 256).map (wh l)).getD j 0 := lst_getD _ hj'
  have e2 : ((List.range 256).map (wh l)).getD j 0 = wh l j := lst_getD _ hj'
  rw [e1, e2, ← UInt8.xor_assoc, UInt8.xor_self, UInt8.zero_xor]
theorem RecV.set_s (r : RecV) (k : Nat) : r.cs.set 2 (.int .u32 (k : Int)) = ({ a := r.a, e := r.e, s := k, f := r.f } : RecV).cs := rfl
/-- Where the law stands behind Seal. -/
def Rel8 (w4 : World) (r : RecV) (F : Nat → UInt8) (h p q : Value) (wx : World) : Prop :=
  ∃ gh g9, h = .slice (some ⟨gh, 0, none⟩) 256 256 ∧ p = .pointer (some ⟨g9, 0, none⟩) ∧ q = .int .i64 0 ∧ Row wx gh 5 (brr 256 F) ∧ Row wx g9 26 r.cs ∧ w4.heap.size ≤ gh ∧ w4.heap.size ≤ g9 ∧ Below w4.heap.size w4 wx
set_option maxHeartbeats 4000000 in
theorem walk (w : World) (e s : Nat) (A0 : Option Addr) (n0 c0 : Nat) (l0 : List UInt8) (he : e < 4294967296) (hs : s < 4294967296) (hI0 : InB w A0 n0 c0 l0) (A : Option Addr) (n c : Nat) (l : List UInt8) (hI : InB w A n c l) (f : Nat → UInt8) (hT : Tabs w) :
    Calls Tryd.prog 7 #[.agg #[.int .u32 (e : Int), .int .u32 (s : Int), .slice A0 n0 c0], .slice A n c, .agg (brr 2 f).toArray] w fun x w' => x = .returned (.bool true) ∧ Below w.heap.size w w' := by
  have HE := Lib.hid he
  have HS := Lib.hid hs
  have HI0 := Lib.hid hI0
  have HI := Lib.hid hI
  have HT := Lib.hid hT
  obtain ⟨x0, hx0⟩ : ∃ x0, x0 = f 0 := ⟨_, rfl⟩
  obtain ⟨x1, hx1⟩ : ∃ x1, x1 = f 1 := ⟨_, rfl⟩
  have HX0 := Lib.hid hx0
  have HX1 := Lib.hid hx1
  obtain ⟨C2, hC2⟩ : ∃ C2, C2 = brr 2 f := ⟨_, rfl⟩
  have HC2 := Lib.hid hC2
  rw [← hC2]
  clear hI hI0 he hs hT hx0 hx1 hC2
  by_cases hlong : 5000 < n0
  · have h2 : (5000 : Int) < (n0 : Int) := by omega
    clear hlong
    go_enter Tryd.func7, Tryd.ntmps7
    go_wp2_with (first
      | (refine step_box rfl 3 rfl 39 _ rfl [.int .u32 (e : Int), .int .u32 (s : Int), .slice A0 n0 c0] rfl ?_; intro g3 w1 hr1 hg1 hb1 hs1)
      | (refine step_box rfl 5 rfl 57 _ rfl C2 rfl ?_; intro g5 w2 hr2 hg2 hb2 hs2)
      | (go_at_call 10; refine (awake_any _).mono ?_; rintro e3 w3 ⟨rfl, hb3⟩
         have HB3 := Lib.hid ((hb1.trans (hb2.mono hb1.size)).trans (hb3.mono (Nat.le_trans hb1.size hb2.size)))
         have k2 : w3.cell? ⟨g3, 2, none⟩ = some (.slice A0 n0 c0) := ((hr1.kept hb2).kept hb3).cell 2
         have j0 : w3.cell? ⟨g5, 0, none⟩ = some (B x0) := by rw [(hr2.kept hb3).cell, HC2.out, brr_get _ (by omega), HX0.out]
         have j1 : w3.cell? ⟨g5, 1, none⟩ = some (B x1) := by rw [(hr2.kept hb3).cell, HC2.out, brr_get _ (by omega), HX1.out]
         clear hr1 hb1 hg1 hs1 hr2 hb2 hg2 hs2 hb3))
    go_ret
    exact ⟨rfl, HB3.out⟩
  have h2 : ¬ (5000 : Int) < (n0 : Int) := by omega
  have HL0 := Lib.hid (p := n0 ≤ 5000) (by omega)
  have i35 := Lib.hid (p := ∀ r : RecV, (Tryd.prog.info? 26).map (·.size) = some r.cs.length) (fun r => by rw [r.cs_len]; exact info_rec)
  have hzr := Lib.hid zero_rec
  clear hlong
  go_enter Tryd.func7, Tryd.ntmps7
  go_wp2_with (first
    | (refine step_box rfl 3 rfl 39 _ rfl [.int .u32 (e : Int), .int .u32 (s : Int), .slice A0 n0 c0] rfl ?_; intro g3 w1 hr1 hg1 hb1 hs1)
    | (refine step_box rfl 5 rfl 57 _ rfl C2 rfl ?_; intro g5 w2 hr2 hg2 hb2 hs2)
    | (go_at_call 10; refine (awake_any _).mono ?_; rintro e3 w3 ⟨rfl, hb3⟩
       have HB3 := Lib.hid ((hb1.trans (hb2.mono hb1.size)).trans (hb3.mono (Nat.le_trans hb1.size hb2.size)))
       have HR3 := Lib.hid ((hr1.kept hb2).kept hb3)
       have k0 : w3.cell? ⟨g3, 0, none⟩ = some (.int .u32 (e : Int)) := ((hr1.kept hb2).kept hb3).cell 0
       have k1 : w3.cell? ⟨g3, 1, none⟩ = some (.int .u32 (s : Int)) := ((hr1.kept hb2).kept hb3).cell 1
       have k2 : w3.cell? ⟨g3, 2, none⟩ = some (.slice A0 n0 c0) := ((hr1.kept hb2).kept hb3).cell 2
       have j0 : w3.cell? ⟨g5, 0, none⟩ = some (B x0) := by rw [(hr2.kept hb3).cell, HC2.out, brr_get _ (by omega), HX0.out]
       have j1 : w3.cell? ⟨g5, 1, none⟩ = some (B x1) := by rw [(hr2.kept hb3).cell, HC2.out, brr_get _ (by omega), HX1.out]
       clear hr1 hb1 hg1 hs1 hr2 hb2 hg2 hs2 hb3)
    | (go_at_call 17
       have hba : Below w3.heap.size w3 (w3.alloc (.cells #[.int .u32 (e : Int), .int .u32 (s : Int), .slice A0 n0 c0] 41)) := (Below.refl _ _).alloc (Nat.le_refl _) _
       refine (ideal_call w3.heap.size e s A0 c0 n0 l0 HI0.out.len_ HE.out HS.out HI0.out.cap_ (by have := HL0.out; omega) _ (by simp) (by simp) (by simp) ((HI0.out.hol.below HB3.out).below hba)).mono ?_
       rintro x w4 ⟨g1, M, rfl, hM4, hME, hb4⟩
       have hb34 := below_next hb4 hba
       have HB4 := Lib.hid (below_next hb34 HB3.out)
       have HM4 := Lib.hid hM4
       have HME := Lib.hid (p := M e s = padM l0) hME.out
       have HR4 := Lib.hid (HR3.out.kept hb34)
       clear hba hb34 hb4 hM4 hME k0 k1 k2 j0 j1 HR3 HB3))
  have HWh := Lib.hid (p := ∀ W, Below w4.heap.size w4 W → Calls Tryd.prog 22 #[.slice A n c] W (Fresh W 256 (wh l))) (fun W hb => by
    have h9 := whl_any A c l (by have h1 := HI.out.len_; have h2 := HI.out.cap_; have h3 := HI.out.max_; unfold maxLen at h3; omega) W (HI.out.hol.below (HB4.out.trans (hb.mono HB4.out.size)))
    rwa [← HI.out.len_] at h9)
  have HSeal := Lib.hid (p := ∀ (gp : Nat) (W : World), Below w4.heap.size w4 W → Row W gp 5 (brr 256 (wh l)) → Calls Tryd.prog 16 #[.pointer (some ⟨g1, 0, none⟩), .int .i64 0, .int .u32 (e : Int), .int .u32 (s : Int), .slice (some ⟨gp, 0, none⟩) 256 256] W (SealPost 0 e s (hidF l0 l) W)) (fun gp W hb hr => by
    have h9 := seal_any g1 M 0 e s (by omega) (some ⟨gp, 0, none⟩) 256 (lst 256 (wh l)) HE.out HS.out (lst_len _ _) W (HM4.out.below hb) hr.hol (HT.out.below (HB4.out.trans (hb.mono HB4.out.size)))
    rw [HME.out] at h9
    exact h9)
  try go_frame
  go_cut [10, 11, 12] from 38 to 49 (fun h p q wx => Rel8 w4 (sealR 0 e s (lst 256 (hidF l0 l))) (hidF l0 l) h p q wx)
  case first =>
    refine wp_region_held_drew (S := fun W => Row W g3 39 [.int .u32 (e : Int), .int .u32 (s : Int), .slice A0 n0 c0]) (by kernel_rfl) HR4.out.drew (fun hHeld => ?_)
    refine wpAnyH_take (i := 0) (oi := ⟨some 39, .move (.tmp 9), _, _, _, _⟩) (v := .pointer (some ⟨g1, 0, none⟩)) rfl (by kernel_rfl) (by kernel_rfl) (by kernel_rfl) (fun _ _ _ h => h) (.inl ⟨by rfl, fun w hSw => by go_simp⟩) (by assumption) ?_
    simp only [Act.put, List.setIfInBounds_toArray, List.set_cons_zero, List.set_cons_succ]
    refine wpAnyH_take (i := 1) (oi := ⟨some 40, .fieldAddr 39 (.tmp 3) 0, _, _, _, _⟩) (v := .pointer (some ⟨g3, 0, none⟩)) rfl (by kernel_rfl) (by kernel_rfl) (by kernel_rfl) (fun _ _ _ h => h) (.inl ⟨by rfl, fun w hSw => by go_simp⟩) (by assumption) ?_
    simp only [Act.put, List.setIfInBounds_toArray, List.set_cons_zero, List.set_cons_succ]
    refine wpAnyH_take (i := 2) (oi := ⟨some 41, .load 22 (.tmp 40), _, _, _, _⟩) (v := .int .u32 (e : Int)) rfl (by kernel_rfl) (by kernel_rfl) (by kernel_rfl) (fun _ _ _ h => h) (.inl ⟨by rfl, fun w hSw => by have z0 := Row.cell hSw 0; have z1 := Row.cell hSw 1; simp at z0 z1; go_simp⟩) (by assumption) ?_
    simp only [Act.put, List.setIfInBounds_toArray, List.set_cons_zero, List.set_cons_succ]
    refine wpAnyH_take (i := 3) (oi := ⟨some 42, .fieldAddr 39 (.tmp 3) 1, _, _, _, _⟩) (v := .pointer (some ⟨g3, 1, none⟩)) rfl (by kernel_rfl) (by kernel_rfl) (by kernel_rfl) (fun _ _ _ h => h) (.inl ⟨by rfl, fun w hSw => by go_simp⟩) (by assumption) ?_
    simp only [Act.put, List.setIfInBounds_toArray, List.set_cons_zero, List.set_cons_succ]
    refine wpAnyH_take (i := 4) (oi := ⟨some 43, .load 22 (.tmp 42), _, _, _, _⟩) (v := .int .u32 (s : Int)) rfl (by kernel_rfl) (by kernel_rfl) (by kernel_rfl) (fun _ _ _ h => h) (.inl ⟨by rfl, fun w hSw => by have z0 := Row.cell hSw 0; have z1 := Row.cell hSw 1; simp at z0 z1; go_simp⟩) (by assumption) ?_
    simp only [Act.put, List.setIfInBounds_toArray, List.set_cons_zero, List.set_cons_succ]
    refine wpAnyH_take (i := 5) (oi := ⟨some 44, .move (.tmp 1), _, _, _, _⟩) (v := .slice A n c) rfl (by kernel_rfl) (by kernel_rfl) (by kernel_rfl) (fun _ _ _ h => h) (.inl ⟨by rfl, fun w hSw => by go_simp⟩) (by assumption) ?_
    simp only [Act.put, List.setIfInBounds_toArray, List.set_cons_zero, List.set_cons_succ]
    refine wpAnyH_ready (rs := [6, 12]) (by kernel_rfl) (by simp) ?_
    refine AllReadyH.cons (o := ⟨some 45, .call ⟨.value (.func 22), #[.tmp 44], _⟩, _, _, _, _⟩) rfl (fun K hK => ?_) (AllReadyH.cons (o := ⟨some 11, .alloc 26, _, _, _, _⟩) rfl (fun K hK => ?_) AllReadyH.nil)
    · skip
      go_simp
      refine (HWh.out _ (below_draw w4)).mono ?_
      rintro xa wa ⟨gp, rfl, hrp, hqp, hba⟩
      have HBa := Lib.hid (p := Below w4.heap.size w4 wa) (Below.trans (below_draw w4) (hba.mono (Below.size (below_draw w4))))
      have HRp := Lib.hid hrp
      clear hrp hqp
      refine hK.out _ _ (HR4.out.kept HBa.out) (fun hH => ?_)
      clear hK K
      refine wpAnyH_ready (rs := [7, 12]) (by kernel_rfl) (by simp) ?_
      refine AllReadyH.cons (o := ⟨some 46, .call ⟨.value (.func 16), #[.tmp 39, .const (.int .i64 0), .tmp 41, .tmp 43, .tmp 45], _⟩, _, _, _, _⟩) rfl (fun K hK => ?_) (AllReadyH.cons (o := ⟨some 11, .alloc 26, _, _, _, _⟩) rfl (fun K hK => ?_) AllReadyH.nil)
      · skip
        go_simp
        refine (HSeal.out gp _ HBa.out HRp.out).mono ?_
        rintro xs ws ⟨gh, rfl, hrh, hqh, hbs⟩
        have HBs := Lib.hid (p := Below w4.heap.size w4 ws) (HBa.out.trans (hbs.out.mono HBa.out.size))
        have HQh := Lib.hid (p := w4.heap.size ≤ gh) (Nat.le_trans HBa.out.size hqh.out)
        refine hK.out _ _ (HR4.out.kept HBs.out) (fun hH => ?_)
        clear hK K
        refine wpAnyH_take (i := 8) (oi := ⟨some 38, .move (.tmp 46), _, _, _, _⟩) (v := .tuple #[.slice (some ⟨gh, 0, none⟩) 256 256, .agg (sealR 0 e s (lst 256 (hidF l0 l))).cs.toArray, .int .i64 0]) rfl (by kernel_rfl) (by kernel_rfl) (by kernel_rfl) (fun _ _ _ h => h) (.inl ⟨by rfl, fun w hSw => by go_simp⟩) (by assumption) ?_
        simp only [Act.put, List.setIfInBounds_toArray, List.set_cons_zero, List.set_cons_succ]
        refine wpAnyH_take (i := 9) (oi := ⟨some 47, .extract (.tmp 38) 0, _, _, _, _⟩) (v := .slice (some ⟨gh, 0, none⟩) 256 256) rfl (by kernel_rfl) (by kernel_rfl) (by kernel_rfl) (fun _ _ _ h => h) (.inl ⟨by rfl, fun w hSw => by go_simp⟩) (by assumption) ?_
        simp only [Act.put, List.setIfInBounds_toArray, List.set_cons_zero, List.set_cons_succ]
        refine wpAnyH_take (i := 10) (oi := ⟨some 48, .extract (.tmp 38) 1, _, _, _, _⟩) (v := .agg (sealR 0 e s (lst 256 (hidF l0 l))).cs.toArray) rfl (by kernel_rfl) (by kernel_rfl) (by kernel_rfl) (fun _ _ _ h => h) (.inl ⟨by rfl, fun w hSw => by go_simp⟩) (by assumption) ?_
        simp only [Act.put, List.setIfInBounds_toArray, List.set_cons_zero, List.set_cons_succ]
        refine wpAnyH_take (i := 11) (oi := ⟨some 49, .extract (.tmp 38) 2, _, _, _, _⟩) (v := .int .i64 0) rfl (by kernel_rfl) (by kernel_rfl) (by kernel_rfl) (fun _ _ _ h => h) (.inl ⟨by rfl, fun w hSw => by go_simp⟩) (by assumption) ?_
        simp only [Act.put, List.setIfInBounds_toArray, List.set_cons_zero, List.set_cons_succ]
        refine wpAnyH_ready (rs := [12]) (by kernel_rfl) (by simp) ?_
        refine AllReadyH.cons (o := ⟨some 11, .alloc 26, _, _, _, _⟩) rfl (fun K hK => ?_) AllReadyH.nil
        refine st_alloc (by rfl) 26 rfl rec0.cs hzr.out ?_
        intro g9 w9 hr9 hg9 hb9
        have HB9 := Lib.hid (p := Below w4.heap.size w4 w9) (Below.trans HBs.out (hb9.mono (Below.size HBs.out)))
        have N9 := Lib.hid (p := w4.heap.size ≤ g9) (by have h2 := Below.size HBs.out; rw [hg9.out]; exact h2)
        refine hK.out _ _ (HR4.out.kept HB9.out) (fun hH => ?_)
        clear hK K
        refine wpAnyH_take (i := 13) (oi := ⟨some 10, .assign (.tmp 47), _, _, _, _⟩) (v := .slice (some ⟨gh, 0, none⟩) 256 256) rfl (by kernel_rfl) (by kernel_rfl) (by kernel_rfl) (fun _ _ _ h => h) (.inl ⟨by rfl, fun w hSw => by go_simp⟩) (by assumption) ?_
        simp only [Act.put, List.setIfInBounds_toArray, List.set_cons_zero, List.set_cons_succ]
        refine wpAnyH_ready (rs := [14]) (by kernel_rfl) (by simp) ?_
        refine AllReadyH.cons (o := ⟨none, .store 26 (.tmp 11) (.tmp 48), _, _, _, _⟩) rfl (fun K hK => ?_) AllReadyH.nil
        have hrh9 := (hrh.out.kept hb9)
        have hr99 := hr9
        refine st_store (by rfl) 26 (.tmp 11) (.tmp 48) rfl g9 (by rfl) 26 rec0.cs (sealR 0 e s (lst 256 (hidF l0 l))).cs (by rfl) hr99 (by rw [RecV.cs_len, RecV.cs_len]) (i35.out _) (RecV.cs_one _) ?_
        intro wz hrz hgz
        have hn := N9.out
        have hR3 := (HR4.out.kept HB9.out).grown hgz (fun e => by injection e with e; have := HR4.out.lt; omega)
        have hRh := hrh9.grown hgz (fun e => by injection e with e; exact hrh9.ne_ hr99 (by decide) e)
        have hBz := HB9.out.grown hgz HB9.out.size (fun q hq => by injection hq with hq; omega)
        refine hK.out _ _ hR3 (fun hHz => ?_)
        clear hK K
        refine wpAnyH_take (i := 15) (oi := ⟨some 12, .assign (.tmp 49), _, _, _, _⟩) (v := .int .i64 0) rfl (by kernel_rfl) (by kernel_rfl) (by kernel_rfl) (fun _ _ _ h => h) (.inl ⟨by rfl, fun w hSw => by go_simp⟩) (by assumption) ?_
        simp only [Act.put, List.setIfInBounds_toArray, List.set_cons_zero, List.set_cons_succ]
        refine wpAnyH_done (by kernel_rfl) ?_ _
        go_wp2_with fail
        go_meet
        case rel => exact ⟨gh, g9, rfl, rfl, rfl, hRh, hrz, HQh.out, N9.out, hBz⟩
      · skip
        refine st_alloc (by rfl) 26 rfl rec0.cs hzr.out ?_
        intro g9 w9 hr9 hg9 hb9
        have HB9 := Lib.hid (p := Below w4.heap.size w4 w9) (Below.trans HBa.out (hb9.mono (Below.size HBa.out)))
        have N9 := Lib.hid (p := w4.heap.size ≤ g9) (by have h2 := Below.size HBa.out; rw [hg9.out]; exact h2)
        refine hK.out _ _ (HR4.out.kept HB9.out) (fun hH => ?_)
        clear hK K
        refine wpAnyH_ready (rs := [7]) (by kernel_rfl) (by simp) ?_
        refine AllReadyH.cons (o := ⟨some 46, .call ⟨.value (.func 16), #[.tmp 39, .const (.int .i64 0), .tmp 41, .tmp 43, .tmp 45], _⟩, _, _, _, _⟩) rfl (fun K hK => ?_) AllReadyH.nil
        go_simp
        refine (HSeal.out gp _ HB9.out (HRp.out.kept hb9)).mono ?_
        rintro xs ws ⟨gh, rfl, hrh, hqh, hbs⟩
        have HBs := Lib.hid (p := Below w4.heap.size w4 ws) (HB9.out.trans (hbs.out.mono HB9.out.size))
        have HQh := Lib.hid (p := w4.heap.size ≤ gh) (Nat.le_trans HB9.out.size hqh.out)
        refine hK.out _ _ (HR4.out.kept HBs.out) (fun hH => ?_)
        clear hK K
        refine wpAnyH_take (i := 8) (oi := ⟨some 38, .move (.tmp 46), _, _, _, _⟩) (v := .tuple #[.slice (some ⟨gh, 0, none⟩) 256 256, .agg (sealR 0 e s (lst 256 (hidF l0 l))).cs.toArray, .int .i64 0]) rfl (by kernel_rfl) (by kernel_rfl) (by kernel_rfl) (fun _ _ _ h => h) (.inl ⟨by rfl, fun w hSw => by go_simp⟩) (by assumption) ?_
        simp only [Act.put, List.setIfInBounds_toArray, List.set_cons_zero, List.set_cons_succ]
        refine wpAnyH_take (i := 9) (oi := ⟨some 47, .extract (.tmp 38) 0, _, _, _, _⟩) (v := .slice (some ⟨gh, 0, none⟩) 256 256) rfl (by kernel_rfl) (by kernel_rfl) (by kernel_rfl) (fun _ _ _ h => h) (.inl ⟨by rfl, fun w hSw => by go_simp⟩) (by assumption) ?_
        simp only [Act.put, List.setIfInBounds_toArray, List.set_cons_zero, List.set_cons_succ]
        refine wpAnyH_take (i := 10) (oi := ⟨some 48, .extract (.tmp 38) 1, _, _, _, _⟩) (v := .agg (sealR 0 e s (lst 256 (hidF l0 l))).cs.toArray) rfl (by kernel_rfl) (by kernel_rfl) (by kernel_rfl) (fun _ _ _ h => h) (.inl ⟨by rfl, fun w hSw => by go_simp⟩) (by assumption) ?_
        simp only [Act.put, List.setIfInBounds_toArray, List.set_cons_zero, List.set_cons_succ]
        refine wpAnyH_take (i := 11) (oi := ⟨some 49, .extract (.tmp 38) 2, _, _, _, _⟩) (v := .int .i64 0) rfl (by kernel_rfl) (by kernel_rfl) (by kernel_rfl) (fun _ _ _ h => h) (.inl ⟨by rfl, fun w hSw => by go_simp⟩) (by assumption) ?_
        simp only [Act.put, List.setIfInBounds_toArray, List.set_cons_zero, List.set_cons_succ]
        refine wpAnyH_take (i := 13) (oi := ⟨some 10, .assign (.tmp 47), _, _, _, _⟩) (v := .slice (some ⟨gh, 0, none⟩) 256 256) rfl (by kernel_rfl) (by kernel_rfl) (by kernel_rfl) (fun _ _ _ h => h) (.inl ⟨by rfl, fun w hSw => by go_simp⟩) (by assumption) ?_
        simp only [Act.put, List.setIfInBounds_toArray, List.set_cons_zero, List.set_cons_succ]
        refine wpAnyH_ready (rs := [14]) (by kernel_rfl) (by simp) ?_
        refine AllReadyH.cons (o := ⟨none, .store 26 (.tmp 11) (.tmp 48), _, _, _, _⟩) rfl (fun K hK => ?_) AllReadyH.nil
        have hrh9 := hrh.out
        have hr99 := (hr9.kept hbs.out)
        refine st_store (by rfl) 26 (.tmp 11) (.tmp 48) rfl g9 (by rfl) 26 rec0.cs (sealR 0 e s (lst 256 (hidF l0 l))).cs (by rfl) hr99 (by rw [RecV.cs_len, RecV.cs_len]) (i35.out _) (RecV.cs_one _) ?_
        intro wz hrz hgz
        have hn := N9.out
        have hR3 := (HR4.out.kept HBs.out).grown hgz (fun e => by injection e with e; have := HR4.out.lt; omega)
        have hRh := hrh9.grown hgz (fun e => by injection e with e; exact hrh9.ne_ hr99 (by decide) e)
        have hBz := HBs.out.grown hgz HBs.out.size (fun q hq => by injection hq with hq; omega)
        refine hK.out _ _ hR3 (fun hHz => ?_)
        clear hK K
        refine wpAnyH_take (i := 15) (oi := ⟨some 12, .assign (.tmp 49), _, _, _, _⟩) (v := .int .i64 0) rfl (by kernel_rfl) (by kernel_rfl) (by kernel_rfl) (fun _ _ _ h => h) (.inl ⟨by rfl, fun w hSw => by go_simp⟩) (by assumption) ?_
        simp only [Act.put, List.setIfInBounds_toArray, List.set_cons_zero, List.set_cons_succ]
        refine wpAnyH_done (by kernel_rfl) ?_ _
        go_wp2_with fail
        go_meet
        case rel => exact ⟨gh, g9, rfl, rfl, rfl, hRh, hrz, HQh.out, N9.out, hBz⟩
    · skip
      refine st_alloc (by rfl) 26 rfl rec0.cs hzr.out ?_
      intro g9 w9 hr9 hg9 hb9
      have HB9 := Lib.hid (p := Below w4.heap.size w4 w9) (Below.trans (below_draw w4) (hb9.mono (Below.size (below_draw w4))))
      have N9 := Lib.hid (p := w4.heap.size ≤ g9) (by have h2 := Below.size (below_draw w4); rw [hg9.out]; exact h2)
      refine hK.out _ _ (HR4.out.kept HB9.out) (fun hH => ?_)
      clear hK K
      refine wpAnyH_ready (rs := [6]) (by kernel_rfl) (by simp) ?_
      refine AllReadyH.cons (o := ⟨some 45, .call ⟨.value (.func 22), #[.tmp 44], _⟩, _, _, _, _⟩) rfl (fun K hK => ?_) AllReadyH.nil
      go_simp
      refine (HWh.out _ HB9.out).mono ?_
      rintro xa wa ⟨gp, rfl, hrp, hqp, hba⟩
      have HBa := Lib.hid (p := Below w4.heap.size w4 wa) (Below.trans HB9.out (hba.mono (Below.size HB9.out)))
      have HRp := Lib.hid hrp
      clear hrp hqp
      refine hK.out _ _ (HR4.out.kept HBa.out) (fun hH => ?_)
      clear hK K
      refine wpAnyH_ready (rs := [7]) (by kernel_rfl) (by simp) ?_
      refine AllReadyH.cons (o := ⟨some 46, .call ⟨.value (.func 16), #[.tmp 39, .const (.int .i64 0), .tmp 41, .tmp 43, .tmp 45], _⟩, _, _, _, _⟩) rfl (fun K hK => ?_) AllReadyH.nil
      go_simp
      refine (HSeal.out gp _ HBa.out HRp.out).mono ?_
      rintro xs ws ⟨gh, rfl, hrh, hqh, hbs⟩
      have HBs := Lib.hid (p := Below w4.heap.size w4 ws) (HBa.out.trans (hbs.out.mono HBa.out.size))
      have HQh := Lib.hid (p := w4.heap.size ≤ gh) (Nat.le_trans HBa.out.size hqh.out)
      refine hK.out _ _ (HR4.out.kept HBs.out) (fun hH => ?_)
      clear hK K
      refine wpAnyH_take (i := 8) (oi := ⟨some 38, .move (.tmp 46), _, _, _, _⟩) (v := .tuple #[.slice (some ⟨gh, 0, none⟩) 256 256, .agg (sealR 0 e s (lst 256 (hidF l0 l))).cs.toArray, .int .i64 0]) rfl (by kernel_rfl) (by kernel_rfl) (by kernel_rfl) (fun _ _ _ h => h) (.inl ⟨by rfl, fun w hSw => by go_simp⟩) (by assumption) ?_
      simp only [Act.put, List.setIfInBounds_toArray, List.set_cons_zero, List.set_cons_succ]
      refine wpAnyH_take (i := 9) (oi := ⟨some 47, .extract (.tmp 38) 0, _, _, _, _⟩) (v := .slice (some ⟨gh, 0, none⟩) 256 256) rfl (by kernel_rfl) (by kernel_rfl) (by kernel_rfl) (fun _ _ _ h => h) (.inl ⟨by rfl, fun w hSw => by go_simp⟩) (by assumption) ?_
      simp only [Act.put, List.setIfInBounds_toArray, List.set_cons_zero, List.set_cons_succ]
      refine wpAnyH_take (i := 10) (oi := ⟨some 48, .extract (.tmp 38) 1, _, _, _, _⟩) (v := .agg (sealR 0 e s (lst 256 (hidF l0 l))).cs.toArray) rfl (by kernel_rfl) (by kernel_rfl) (by kernel_rfl) (fun _ _ _ h => h) (.inl ⟨by rfl, fun w hSw => by go_simp⟩) (by assumption) ?_
      simp only [Act.put, List.setIfInBounds_toArray, List.set_cons_zero, List.set_cons_succ]
      refine wpAnyH_take (i := 11) (oi := ⟨some 49, .extract (.tmp 38) 2, _, _, _, _⟩) (v := .int .i64 0) rfl (by kernel_rfl) (by kernel_rfl) (by kernel_rfl) (fun _ _ _ h => h) (.inl ⟨by rfl, fun w hSw => by go_simp⟩) (by assumption) ?_
      simp only [Act.put, List.setIfInBounds_toArray, List.set_cons_zero, List.set_cons_succ]
      refine wpAnyH_take (i := 13) (oi := ⟨some 10, .assign (.tmp 47), _, _, _, _⟩) (v := .slice (some ⟨gh, 0, none⟩) 256 256) rfl (by kernel_rfl) (by kernel_rfl) (by kernel_rfl) (fun _ _ _ h => h) (.inl ⟨by rfl, fun w hSw => by go_simp⟩) (by assumption) ?_
      simp only [Act.put, List.setIfInBounds_toArray, List.set_cons_zero, List.set_cons_succ]
      refine wpAnyH_ready (rs := [14]) (by kernel_rfl) (by simp) ?_
      refine AllReadyH.cons (o := ⟨none, .store 26 (.tmp 11) (.tmp 48), _, _, _, _⟩) rfl (fun K hK => ?_) AllReadyH.nil
      have hrh9 := hrh.out
      have hr99 := ((hr9.kept hba).kept hbs.out)
      refine st_store (by rfl) 26 (.tmp 11) (.tmp 48) rfl g9 (by rfl) 26 rec0.cs (sealR 0 e s (lst 256 (hidF l0 l))).cs (by rfl) hr99 (by rw [RecV.cs_len, RecV.cs_len]) (i35.out _) (RecV.cs_one _) ?_
      intro wz hrz hgz
      have hn := N9.out
      have hR3 := (HR4.out.kept HBs.out).grown hgz (fun e => by injection e with e; have := HR4.out.lt; omega)
      have hRh := hrh9.grown hgz (fun e => by injection e with e; exact hrh9.ne_ hr99 (by decide) e)
      have hBz := HBs.out.grown hgz HBs.out.size (fun q hq => by injection hq with hq; omega)
      refine hK.out _ _ hR3 (fun hHz => ?_)
      clear hK K
      refine wpAnyH_take (i := 15) (oi := ⟨some 12, .assign (.tmp 49), _, _, _, _⟩) (v := .int .i64 0) rfl (by kernel_rfl) (by kernel_rfl) (by kernel_rfl) (fun _ _ _ h => h) (.inl ⟨by rfl, fun w hSw => by go_simp⟩) (by assumption) ?_
      simp only [Act.put, List.setIfInBounds_toArray, List.set_cons_zero, List.set_cons_succ]
      refine wpAnyH_done (by kernel_rfl) ?_ _
      go_wp2_with fail
      go_meet
      case rel => exact ⟨gh, g9, rfl, rfl, rfl, hRh, hrz, HQh.out, N9.out, hBz⟩
  case rest =>
    obtain ⟨gh, g9, rfl, rfl, rfl, hrh, hr9, hqh, hq9, hbc⟩ := hcut
    obtain ⟨i, U⟩ := u8_tab
    obtain ⟨F, hF⟩ : ∃ F, F = hidF l0 l := ⟨_, rfl⟩
    rw [← hF] at hrh hr9
    have HF := Lib.hid hF
    have HRh := Lib.hid hrh
    have HR9 := Lib.hid hr9
    have HBc := Lib.hid hbc
    have HO := Lib.hid (p := ∀ W : World, (W.alloc (.cells #[] 5)).ownsRow W.heap.size 5 1 (.slice (some ⟨W.heap.size, 0, none⟩) 0 0) 0 []) (fun W => World.ownsRow_made W #[] 0 (Nat.le_refl _) (by decide) rfl)
    clear hF hrh hr9 hbc hqh hq9 HWh HSeal
    go_wp2_with (first
      | (at_builtin; refine wpList_app _ rfl (.tmp 57) (.tmp 58) _ rfl 5 i U wc.heap.size _ 0 [] rfl (HO.out wc) (some ⟨gh, 0, none⟩) 256 256 (lst 256 F) rfl (lst_len _ _).symm ((HRh.out.alloc _).hol) (by omega) (by simp) ?_
         intro v13 w13 ho13 hg13 hat13
         obtain ⟨A13, c13, rfl⟩ := own_sl ho13
         have HBc13 := Lib.hid (p := Below wc.heap.size wc w13) ((below_of_grown (World.grownBy_alloc wc _ none)).grown hg13 (by simp) (fun q hq => ((HO.out wc).lt q hq).1))
         have ho13' : w13.ownsRow wc.heap.size 5 1 (.slice A13 256 c13) 256 (brr 256 F) := by rw [lst_bc]; simpa using ho13
         obtain ⟨g13, hA13⟩ : ∃ g13, A13 = some ⟨g13, 0, none⟩ := by
           rcases ho13'.2 with ⟨h1, _⟩ | ⟨g, cap, cur, h1, _⟩
           · simp at h1
           · simp only [Value.slice.injEq] at h1
             exact ⟨g, h1.1⟩
         subst hA13
         have y13 : w13.cell? ⟨g13, x0.toNat, none⟩ = some (B (F x0.toNat)) := (own_range ho13' (u8_lt x0)).2
         have f13 := ho13'.frozenAt x0.toNat
         have HO13 := Lib.hid ho13'
         have HN13 := Lib.hid (p := wc.heap.size ≤ g13) (ho13'.lt g13 rfl).1
         have HR14 := Lib.hid (p := ∀ u, Row (w13.setCell ⟨g13, x0.toNat, none⟩ u) g9 26 (sealR 0 e s (lst 256 F)).cs) (fun u => (HR9.out.kept HBc13.out).far (by have h1 := HR9.out.lt; have h2 := HN13.out; show g9 ≠ g13; omega) u)
         clear ho13 hg13 hat13 ho13')
      | (refine step_load rfl 71 rfl 26 (.tmp 11) rfl g9 rfl (sealR 0 e s (lst 256 F)).cs _ (HR14.out _).all Tryd.underlying26 rfl (i35.out _) ?_))
    obtain ⟨G, hG⟩ : ∃ G, G = upd F x0.toNat (F x0.toNat ^^^ x1) := ⟨_, rfl⟩
    have HR14' := Lib.hid (HR14.out (.int .u8 (bv (F x0.toNat ^^^ x1))))
    have HG14 := Lib.hid (p := Hol (w13.setCell ⟨g13, x0.toNat, none⟩ (.int .u8 (bv (F x0.toNat ^^^ x1)))) (some ⟨g13, 0, none⟩) (lst 256 G)) (by
      refine .inr ⟨g13, 0, rfl, fun j x hx => ?_⟩
      have hj : j < 256 := by have h9 := (List.getElem?_eq_some_iff.1 hx).1; rwa [lst_len] at h9
      rw [lst_get _ hj] at hx
      injection hx with hx
      subst hx
      rw [Nat.zero_add, hG]
      by_cases hjx : j = x0.toNat
      · subst hjx
        rw [World.cell?_setCell_same _ _ _ y13]
        unfold upd
        rw [if_pos rfl]
        rfl
      · rw [World.cell?_setCell_other _ _ _ _ (fun e => hjx (congrArg Addr.off e).symm)]
        unfold upd
        rw [if_neg hjx]
        exact (own_range HO13.out hj).2)
    have HB14 := Lib.hid (p := Below wc.heap.size wc (w13.setCell ⟨g13, x0.toNat, none⟩ (.int .u8 (bv (F x0.toNat ^^^ x1))))) (HBc13.out.setCell HN13.out _)
    have HGd := Lib.hid hG
    have HC13 := Lib.hid (own_cp HO13.out)
    clear y13 f13 HR14 HO13 hG
    generalize w13.setCell ⟨g13, x0.toNat, none⟩ (.int .u8 (bv (F x0.toNat ^^^ x1))) = w14 at *
    have HB4n := Lib.hid (p := Below w4.heap.size w4 w14) (HBc.out.trans (HB14.out.mono HBc.out.size))
    have HBw := Lib.hid (p := Below w.heap.size w w14) (HB4.out.trans (HB4n.out.mono HB4.out.size))
    have HRh14 := Lib.hid (HRh.out.kept HB14.out)
    have HR3n := Lib.hid (HR4.out.kept HB4n.out)
    have HOkR := Lib.hid (p := (sealR 0 e s (lst 256 F)).Ok) ⟨HE.out, HS.out⟩
    have HLd := Lib.hid (p := (sealR 0 e s (lst 256 F)).leads = true) (by unfold sealR; exact RecV.leads_yes (by show (1 : Int) ≤ ((0 : Nat) : Int) + 1; omega) (by show ((0 : Nat) : Int) + 1 ≤ 1024; omega))
    have HLt := Lib.hid (p := g13 < w14.heap.size) (by have h := HG14.out; rcases h with h | ⟨g', o', e', hc⟩; (· have h2 := congrArg List.length h; rw [lst_len] at h2; simp at h2); (· injection e' with e'; injection e' with e1 _; subst e1; exact World.block_lt_of_cell? _ _ (hc 0 _ (lst_get _ (by omega)))))
    by_cases hx1 : x1 = 0
    · have hGF : G = F := by
        rw [HGd.out, hx1]
        funext j
        unfold upd
        split
        · rename_i hj
          rw [hj, UInt8.xor_zero]
        · rfl
      have hz : (bv x1 == 0) = true := by rw [hx1]; rfl
      have hq : (lst 32 (shaF (nonB e s ++ lst 256 G)) == lst 32 (sealR 0 e s (lst 256 F)).f) = true := by
        rw [hGF]
        show (lst 32 (shaF (nonB e s ++ lst 256 F)) == lst 32 (shaF (nonB e s ++ lst 256 F))) = true
        simp
      refine (open_any g1 M (sealR 0 e s (lst 256 F)) HOkR.out HLd.out (some ⟨g13, 0, none⟩) c13 (lst 256 G) (lst_len _ _) HC13.out w14 HG14.out (fun ad hd => by injection hd with hd; subst hd; exact HLt.out) (HT.out.below HBw.out) (HM4.out.below HB4n.out) hq).mono ?_
      rintro x15 w15 ⟨gb, rfl, hrb, _, hb15⟩
      have HB15 := Lib.hid (p := Below w4.heap.size w4 w15) (HB4n.out.trans (hb15.out.mono HB4n.out.size))
      have HWh := Lib.hid (p := ∀ W, Below w4.heap.size w4 W → Calls Tryd.prog 22 #[.slice A n c] W (Fresh W 256 (wh l))) (fun W hb => by
        have h9 := whl_any A c l (by have h1 := HI.out.len_; have h2 := HI.out.cap_; have h3 := HI.out.max_; unfold maxLen at h3; omega) W (HI.out.hol.below (HB4.out.trans (hb.mono HB4.out.size)))
        rwa [← HI.out.len_] at h9)
      have htw : lst 256 (hid (M (sealR 0 e s (lst 256 F)).e (sealR 0 e s (lst 256 F)).s) (lst 256 G)) = lst 256 (wh l) := by
        rw [hGF, HF.out]
        show lst 256 (hid (M e s) (lst 256 (hidF l0 l))) = _
        rw [HME.out]
        exact hid_twice _ _
      have HRb := Lib.hid hrb.out.hol
      rw [htw] at HRb
      clear hrb hb15 hq hGF htw
      go_wp2_with (first
        | (go_at_call 22; refine (HWh.out _ HB15.out).mono ?_; rintro x16 w16 ⟨gw, rfl, hrw, _, hb16⟩
           have HB16 := Lib.hid (HB15.out.trans (hb16.mono HB15.out.size))
           have HRb16 := Lib.hid (HRb.out.below hb16)
           have HRw := Lib.hid hrw.hol
           clear hrw hb16)
        | (go_at_call 13; refine (bytes_call _ _ 256 256 256 256 _ _ (lst_len _ _).symm (lst_len _ _).symm _ HRb16.out HRw.out (by rw [lst_len]; omega) (by rw [lst_len]; omega)).mono ?_; rintro x17 w17 ⟨rfl, hb17⟩; rw [decide_eq_true rfl]
           have HB17 := Lib.hid (HB16.out.trans (hb17.mono HB16.out.size))
           clear hb17))
      go_ret
      exact ⟨rfl, HB4.out.trans (HB17.out.mono HB4.out.size)⟩
    · have hz : (bv x1 == 0) = false := by
        have h9 : bv x1 ≠ 0 := fun h => hx1 (by
          have h2 : x1.toNat = 0 := by unfold bv at h; omega
          exact UInt8.toNat_inj.1 (by simpa using h2))
        simpa using h9
      cases hq : (lst 32 (shaF (nonB e s ++ lst 256 G)) == lst 32 (sealR 0 e s (lst 256 F)).f)
      case false =>
        refine (open_other (.pointer (some ⟨g1, 0, none⟩)) (sealR 0 e s (lst 256 F)) HOkR.out HLd.out (some ⟨g13, 0, none⟩) c13 (lst 256 G) (lst_len _ _) HC13.out w14 HG14.out (fun ad hd => by injection hd with hd; subst hd; exact HLt.out) (HT.out.below HBw.out) hq).mono ?_
        rintro x15 w15 ⟨rfl, hb15⟩
        have HB15 := Lib.hid hb15
        clear hb15
        go_wp2_with fail
        refine wp_region_held_drew (S := fun W => Row W g3 39 [.int .u32 (e : Int), .int .u32 (s : Int), .slice A0 n0 c0]) (by kernel_rfl) (HR3n.out.kept HB15.out).drew (fun hHeld => ?_)
        refine wpAnyH_take (i := 0) (oi := ⟨some 86, .move (.tmp 15), _, _, _, _⟩) (v := .int .i64 5) rfl (by kernel_rfl) (by kernel_rfl) (by kernel_rfl) (fun _ _ _ h => h) (.inl ⟨by rfl, fun w hSw => by go_simp⟩) (by assumption) ?_
        simp only [Act.put, List.setIfInBounds_toArray, List.set_cons_zero, List.set_cons_succ]
        refine wpAnyH_take (i := 1) (oi := ⟨some 87, .binOp .neq 30 (.tmp 86) (.const (.int .i64 5)) 30, _, _, _, _⟩) (v := .bool false) rfl (by kernel_rfl) (by kernel_rfl) (by kernel_rfl) (fun _ _ _ h => h) (.inl ⟨by rfl, fun w hSw => by go_simp⟩) (by assumption) ?_
        simp only [Act.put, List.setIfInBounds_toArray, List.set_cons_zero, List.set_cons_succ]
        refine wpAnyH_take (i := 2) (oi := ⟨some 88, .move (.tmp 87), _, _, _, _⟩) (v := .bool false) rfl (by kernel_rfl) (by kernel_rfl) (by kernel_rfl) (fun _ _ _ h => h) (.inl ⟨by rfl, fun w hSw => by go_simp⟩) (by assumption) ?_
        simp only [Act.put, List.setIfInBounds_toArray, List.set_cons_zero, List.set_cons_succ]
        refine wpAnyH_take (i := 3) (oi := ⟨some 89, .fieldAddr 39 (.tmp 3) 0, _, _, _, _⟩) (v := undef) rfl (by kernel_rfl) (by kernel_rfl) (by kernel_rfl) (fun _ _ _ h => h) (.inr ⟨by rfl, rfl⟩) (by assumption) ?_
        simp only [Act.put, List.setIfInBounds_toArray, List.set_cons_zero, List.set_cons_succ]
        refine wpAnyH_take (i := 4) (oi := ⟨some 90, .load 22 (.tmp 89), _, _, _, _⟩) (v := undef) rfl (by kernel_rfl) (by kernel_rfl) (by kernel_rfl) (fun _ _ _ h => h) (.inr ⟨by rfl, rfl⟩) (by assumption) ?_
        simp only [Act.put, List.setIfInBounds_toArray, List.set_cons_zero, List.set_cons_succ]
        refine wpAnyH_take (i := 5) (oi := ⟨some 91, .fieldAddr 39 (.tmp 3) 1, _, _, _, _⟩) (v := undef) rfl (by kernel_rfl) (by kernel_rfl) (by kernel_rfl) (fun _ _ _ h => h) (.inr ⟨by rfl, rfl⟩) (by assumption) ?_
        simp only [Act.put, List.setIfInBounds_toArray, List.set_cons_zero, List.set_cons_succ]
        refine wpAnyH_take (i := 6) (oi := ⟨some 92, .load 22 (.tmp 91), _, _, _, _⟩) (v := undef) rfl (by kernel_rfl) (by kernel_rfl) (by kernel_rfl) (fun _ _ _ h => h) (.inr ⟨by rfl, rfl⟩) (by assumption) ?_
        simp only [Act.put, List.setIfInBounds_toArray, List.set_cons_zero, List.set_cons_succ]
        refine wpAnyH_take (i := 7) (oi := ⟨some 93, .move (.tmp 13), _, _, _, _⟩) (v := undef) rfl (by kernel_rfl) (by kernel_rfl) (by kernel_rfl) (fun _ _ _ h => h) (.inr ⟨by rfl, rfl⟩) (by assumption) ?_
        simp only [Act.put, List.setIfInBounds_toArray, List.set_cons_zero, List.set_cons_succ]
        refine wpAnyH_take (i := 8) (oi := ⟨some 94, .call ⟨.value (.func 20), #[.tmp 90, .tmp 92, .tmp 93], _⟩, _, _, _, _⟩) (v := undef) rfl (by kernel_rfl) (by kernel_rfl) (by kernel_rfl) (fun _ _ _ h => h) (.inr ⟨by rfl, rfl⟩) (by assumption) ?_
        simp only [Act.put, List.setIfInBounds_toArray, List.set_cons_zero, List.set_cons_succ]
        refine wpAnyH_take (i := 9) (oi := ⟨some 95, .fieldAddr 39 (.tmp 3) 0, _, _, _, _⟩) (v := undef) rfl (by kernel_rfl) (by kernel_rfl) (by kernel_rfl) (fun _ _ _ h => h) (.inr ⟨by rfl, rfl⟩) (by assumption) ?_
        simp only [Act.put, List.setIfInBounds_toArray, List.set_cons_zero, List.set_cons_succ]
        refine wpAnyH_take (i := 10) (oi := ⟨some 96, .load 22 (.tmp 95), _, _, _, _⟩) (v := undef) rfl (by kernel_rfl) (by kernel_rfl) (by kernel_rfl) (fun _ _ _ h => h) (.inr ⟨by rfl, rfl⟩) (by assumption) ?_
        simp only [Act.put, List.setIfInBounds_toArray, List.set_cons_zero, List.set_cons_succ]
        refine wpAnyH_take (i := 11) (oi := ⟨some 97, .fieldAddr 39 (.tmp 3) 1, _, _, _, _⟩) (v := undef) rfl (by kernel_rfl) (by kernel_rfl) (by kernel_rfl) (fun _ _ _ h => h) (.inr ⟨by rfl, rfl⟩) (by assumption) ?_
        simp only [Act.put, List.setIfInBounds_toArray, List.set_cons_zero, List.set_cons_succ]
        refine wpAnyH_take (i := 12) (oi := ⟨some 98, .load 22 (.tmp 97), _, _, _, _⟩) (v := undef) rfl (by kernel_rfl) (by kernel_rfl) (by kernel_rfl) (fun _ _ _ h => h) (.inr ⟨by rfl, rfl⟩) (by assumption) ?_
        simp only [Act.put, List.setIfInBounds_toArray, List.set_cons_zero, List.set_cons_succ]
        refine wpAnyH_take (i := 13) (oi := ⟨some 99, .move (.tmp 10), _, _, _, _⟩) (v := undef) rfl (by kernel_rfl) (by kernel_rfl) (by kernel_rfl) (fun _ _ _ h => h) (.inr ⟨by rfl, rfl⟩) (by assumption) ?_
        simp only [Act.put, List.setIfInBounds_toArray, List.set_cons_zero, List.set_cons_succ]
        refine wpAnyH_take (i := 14) (oi := ⟨some 100, .call ⟨.value (.func 20), #[.tmp 96, .tmp 98, .tmp 99], _⟩, _, _, _, _⟩) (v := undef) rfl (by kernel_rfl) (by kernel_rfl) (by kernel_rfl) (fun _ _ _ h => h) (.inr ⟨by rfl, rfl⟩) (by assumption) ?_
        simp only [Act.put, List.setIfInBounds_toArray, List.set_cons_zero, List.set_cons_succ]
        refine wpAnyH_take (i := 15) (oi := ⟨some 101, .binOp .neq 24 (.tmp 94) (.tmp 100) 24, _, _, _, _⟩) (v := undef) rfl (by kernel_rfl) (by kernel_rfl) (by kernel_rfl) (fun _ _ _ h => h) (.inr ⟨by rfl, rfl⟩) (by assumption) ?_
        simp only [Act.put, List.setIfInBounds_toArray, List.set_cons_zero, List.set_cons_succ]
        refine wpAnyH_take (i := 16) (oi := ⟨some 102, .pick (.tmp 88) (.tmp 101) (.const (.bool false)), _, _, _, _⟩) (v := .bool false) rfl (by kernel_rfl) (by kernel_rfl) (by kernel_rfl) (fun _ _ _ h => h) (.inl ⟨by rfl, fun w hSw => by go_simp⟩) (by assumption) ?_
        simp only [Act.put, List.setIfInBounds_toArray, List.set_cons_zero, List.set_cons_succ]
        refine wpAnyH_done (by kernel_rfl) ?_ _
        try clear hH2
        try clear hHeld
        have HB15d := Lib.hid (p := Below w14.heap.size w14 w15.drew) (HB15.out.trans ((below_draw w15).mono HB15.out.size))
        have hwx : IntKind.u32.wrap (bv x1) = bv x1 := by rw [IntKind.wrap_u32]; have := u8_lt x1; unfold bv; omega
        have hxx : bits .xor .u32 (s : Int) (bv x1) = ((s ^^^ x1.toNat : Nat) : Int) := u32_xor_nat _ _ HS.out (Nat.lt_trans (u8_lt x1) (by decide))
        have HS2 := Lib.hid (p := s ^^^ x1.toNat < 4294967296) (Nat.xor_lt_two_pow (n := 32) HS.out (Nat.lt_trans (u8_lt x1) (by decide)))
        have HR9q := Lib.hid (HR14'.out.kept HB15d.out)
        have HRhq := Lib.hid (HRh14.out.kept HB15d.out)
        go_wp2_with (first
          | (refine step_load rfl 103 rfl 26 (.tmp 11) rfl g9 rfl (sealR 0 e s (lst 256 F)).cs _ HR9q.out.all Tryd.underlying26 rfl (i35.out _) ?_)
          | (refine step_alloc rfl 16 rfl 26 rfl rec0.cs hzr.out ?_; intro ga wa hra hga hba hsa)
          | (refine step_store rfl 26 (.tmp 16) (.tmp 103) rfl ga (by rfl) 26 rec0.cs (sealR 0 e s (lst 256 F)).cs (by rfl) hra (by rw [RecV.cs_len, RecV.cs_len]) (i35.out _) (RecV.cs_one _) ?_; intro wb hrb2 hgb hsb
             have HBwa := Lib.hid (p := Below w14.heap.size w14 wa) (HB15d.out.trans (hba.mono HB15d.out.size))
             have HNa := Lib.hid (p := w14.heap.size ≤ ga) (by have h2 := Below.size HB15d.out; rw [hga.out]; exact h2)
             have HBwb := Lib.hid (p := Below w14.heap.size w14 wb) (HBwa.out.grown hgb HBwa.out.size (fun q hq => by injection hq with hq; have := HNa.out; omega))
             have HBp := Lib.hid (p := Below w14.heap.size w14 (wb.setCell ⟨ga, 2, none⟩ (.int .u32 ((s ^^^ x1.toNat : Nat) : Int)))) (HBwb.out.setCell HNa.out _)
             have HRp := Lib.hid (p := Row (wb.setCell ⟨ga, 2, none⟩ (.int .u32 ((s ^^^ x1.toNat : Nat) : Int))) ga 26 ({ a := (sealR 0 e s (lst 256 F)).a, e := (sealR 0 e s (lst 256 F)).e, s := s ^^^ x1.toNat, f := (sealR 0 e s (lst 256 F)).f } : RecV).cs) (by have h := hrb2.put 2 (.int .u32 ((s ^^^ x1.toNat : Nat) : Int)); rw [RecV.set_s] at h; exact h)
             have fb2 := hrb2.free 2
             have eb2 : wb.cell? ⟨ga, 2, none⟩ = some (.int .u32 (s : Int)) := RecV.c2 hrb2
             clear hra hga hba hsa hrb2 hgb hsb HBwa HNa HBwb)
          | (refine step_load rfl 112 rfl 26 (.tmp 16) rfl ga rfl ({ a := (sealR 0 e s (lst 256 F)).a, e := (sealR 0 e s (lst 256 F)).e, s := s ^^^ x1.toNat, f := (sealR 0 e s (lst 256 F)).f } : RecV).cs _ HRp.out.all Tryd.underlying26 rfl (i35.out _) ?_))
        clear fb2 eb2 hxx hwx
        generalize wb.setCell ⟨ga, 2, none⟩ (.int .u32 ((s ^^^ x1.toNat : Nat) : Int)) = wp at *
        have HOk2 := Lib.hid (p := ({ a := (sealR 0 e s (lst 256 F)).a, e := (sealR 0 e s (lst 256 F)).e, s := s ^^^ x1.toNat, f := (sealR 0 e s (lst 256 F)).f } : RecV).Ok) ⟨HE.out, HS2.out⟩
        have HLd2 := Lib.hid (p := ({ a := (sealR 0 e s (lst 256 F)).a, e := (sealR 0 e s (lst 256 F)).e, s := s ^^^ x1.toNat, f := (sealR 0 e s (lst 256 F)).f } : RecV).leads = true) HLd.out
        obtain ⟨r9, h9⟩ : ∃ r9, r9 = (sealR 0 e s (lst 256 F)) := ⟨_, rfl⟩
        obtain ⟨r2, h2⟩ : ∃ r2, r2 = ({ a := (sealR 0 e s (lst 256 F)).a, e := (sealR 0 e s (lst 256 F)).e, s := s ^^^ x1.toNat, f := (sealR 0 e s (lst 256 F)).f } : RecV) := ⟨_, rfl⟩
        have hff := Lib.hid (p := r9.f = r2.f) (by rw [h9, h2])
        have HRga := Lib.hid (p := Row wp ga 26 r2.cs) (by rw [h2]; exact HRp.out)
        have HRg9 := Lib.hid (p := Row wp g9 26 r9.cs) (by rw [h9]; exact HR14'.out.kept HBp.out)
        have HRgh := Lib.hid (HRh14.out.kept HBp.out)
        have HBwp := Lib.hid (p := Below w.heap.size w wp) (HBw.out.trans (HBp.out.mono HBw.out.size))
        have HB4p := Lib.hid (p := Below w4.heap.size w4 wp) (HB4n.out.trans (HBp.out.mono HB4n.out.size))
        rw [← h2] at HOk2 HLd2 ⊢
        have i32 := Lib.hid (p := ∀ r : RecV, (Tryd.prog.info? 24).map (·.size) = some (brr 32 r.f).length) (fun r => by rw [brr_len]; exact info_sum)
        clear h2 h9
        cases hq2 : (lst 32 (shaF (nonB r2.e r2.s ++ lst 256 F)) == lst 32 r2.f)
        case false =>
          refine (open_other (.pointer (some ⟨g1, 0, none⟩)) r2 HOk2.out HLd2.out (some ⟨gh, 0, none⟩) 256 (lst 256 F) (lst_len _ _) (Nat.le_refl _) wp HRgh.out.hol (fun ad hd => by injection hd with hd; subst hd; exact HRgh.out.lt) (HT.out.below HBwp.out) hq2).mono ?_
          rintro x18 w18 ⟨rfl, hb18⟩
          have HB18 := Lib.hid (p := Below wp.heap.size wp w18) hb18
          clear hb18
          go_wp2_with fail
          refine wp_region_held_drew (S := fun W => Row W ga 26 r2.cs ∧ Row W g9 26 r9.cs) (by kernel_rfl) ⟨(HRga.out.kept HB18.out).drew, (HRg9.out.kept HB18.out).drew⟩ (fun hHeld => ?_)
          refine wpAnyH_take (i := 0) (oi := ⟨some 117, .move (.tmp 18), _, _, _, _⟩) (v := .int .i64 5) rfl (by kernel_rfl) (by kernel_rfl) (by kernel_rfl) (fun _ _ _ h => h) (.inl ⟨by rfl, fun w hSw => by go_simp⟩) (by assumption) ?_
          simp only [Act.put, List.setIfInBounds_toArray, List.set_cons_zero, List.set_cons_succ]
          refine wpAnyH_take (i := 1) (oi := ⟨some 118, .binOp .eql 30 (.tmp 117) (.const (.int .i64 5)) 30, _, _, _, _⟩) (v := .bool true) rfl (by kernel_rfl) (by kernel_rfl) (by kernel_rfl) (fun _ _ _ h => h) (.inl ⟨by rfl, fun w hSw => by go_simp⟩) (by assumption) ?_
          simp only [Act.put, List.setIfInBounds_toArray, List.set_cons_zero, List.set_cons_succ]
          refine wpAnyH_take (i := 2) (oi := ⟨some 119, .move (.tmp 118), _, _, _, _⟩) (v := .bool true) rfl (by kernel_rfl) (by kernel_rfl) (by kernel_rfl) (fun _ _ _ h => h) (.inl ⟨by rfl, fun w hSw => by go_simp⟩) (by assumption) ?_
          simp only [Act.put, List.setIfInBounds_toArray, List.set_cons_zero, List.set_cons_succ]
          refine wpAnyH_take (i := 3) (oi := ⟨some 120, .fieldAddr 26 (.tmp 16) 1, _, _, _, _⟩) (v := undef) rfl (by kernel_rfl) (by kernel_rfl) (by kernel_rfl) (fun _ _ _ h => h) (.inr ⟨by rfl, rfl⟩) (by assumption) ?_
          simp only [Act.put, List.setIfInBounds_toArray, List.set_cons_zero, List.set_cons_succ]
          refine wpAnyH_take (i := 4) (oi := ⟨some 121, .load 22 (.tmp 120), _, _, _, _⟩) (v := undef) rfl (by kernel_rfl) (by kernel_rfl) (by kernel_rfl) (fun _ _ _ h => h) (.inr ⟨by rfl, rfl⟩) (by assumption) ?_
          simp only [Act.put, List.setIfInBounds_toArray, List.set_cons_zero, List.set_cons_succ]
          refine wpAnyH_take (i := 5) (oi := ⟨some 122, .fieldAddr 26 (.tmp 16) 2, _, _, _, _⟩) (v := undef) rfl (by kernel_rfl) (by kernel_rfl) (by kernel_rfl) (fun _ _ _ h => h) (.inr ⟨by rfl, rfl⟩) (by assumption) ?_
          simp only [Act.put, List.setIfInBounds_toArray, List.set_cons_zero, List.set_cons_succ]
          refine wpAnyH_take (i := 6) (oi := ⟨some 123, .load 22 (.tmp 122), _, _, _, _⟩) (v := undef) rfl (by kernel_rfl) (by kernel_rfl) (by kernel_rfl) (fun _ _ _ h => h) (.inr ⟨by rfl, rfl⟩) (by assumption) ?_
          simp only [Act.put, List.setIfInBounds_toArray, List.set_cons_zero, List.set_cons_succ]
          refine wpAnyH_take (i := 7) (oi := ⟨some 124, .move (.tmp 10), _, _, _, _⟩) (v := undef) rfl (by kernel_rfl) (by kernel_rfl) (by kernel_rfl) (fun _ _ _ h => h) (.inr ⟨by rfl, rfl⟩) (by assumption) ?_
          simp only [Act.put, List.setIfInBounds_toArray, List.set_cons_zero, List.set_cons_succ]
          refine wpAnyH_take (i := 8) (oi := ⟨some 125, .call ⟨.value (.func 20), #[.tmp 121, .tmp 123, .tmp 124], _⟩, _, _, _, _⟩) (v := undef) rfl (by kernel_rfl) (by kernel_rfl) (by kernel_rfl) (fun _ _ _ h => h) (.inr ⟨by rfl, rfl⟩) (by assumption) ?_
          simp only [Act.put, List.setIfInBounds_toArray, List.set_cons_zero, List.set_cons_succ]
          refine wpAnyH_take (i := 9) (oi := ⟨some 126, .fieldAddr 26 (.tmp 11) 3, _, _, _, _⟩) (v := undef) rfl (by kernel_rfl) (by kernel_rfl) (by kernel_rfl) (fun _ _ _ h => h) (.inr ⟨by rfl, rfl⟩) (by assumption) ?_
          simp only [Act.put, List.setIfInBounds_toArray, List.set_cons_zero, List.set_cons_succ]
          refine wpAnyH_take (i := 10) (oi := ⟨some 127, .load 24 (.tmp 126), _, _, _, _⟩) (v := undef) rfl (by kernel_rfl) (by kernel_rfl) (by kernel_rfl) (fun _ _ _ h => h) (.inr ⟨by rfl, rfl⟩) (by assumption) ?_
          simp only [Act.put, List.setIfInBounds_toArray, List.set_cons_zero, List.set_cons_succ]
          refine wpAnyH_take (i := 11) (oi := ⟨some 128, .binOp .eql 24 (.tmp 125) (.tmp 127) 24, _, _, _, _⟩) (v := undef) rfl (by kernel_rfl) (by kernel_rfl) (by kernel_rfl) (fun _ _ _ h => h) (.inr ⟨by rfl, rfl⟩) (by assumption) ?_
          simp only [Act.put, List.setIfInBounds_toArray, List.set_cons_zero, List.set_cons_succ]
          refine wpAnyH_take (i := 12) (oi := ⟨some 129, .pick (.tmp 119) (.const (.bool true)) (.tmp 128), _, _, _, _⟩) (v := .bool true) rfl (by kernel_rfl) (by kernel_rfl) (by kernel_rfl) (fun _ _ _ h => h) (.inl ⟨by rfl, fun w hSw => by go_simp⟩) (by assumption) ?_
          simp only [Act.put, List.setIfInBounds_toArray, List.set_cons_zero, List.set_cons_succ]
          refine wpAnyH_take (i := 13) (oi := ⟨some 6, .assign (.tmp 129), _, _, _, _⟩) (v := .bool true) rfl (by kernel_rfl) (by kernel_rfl) (by kernel_rfl) (fun _ _ _ h => h) (.inl ⟨by rfl, fun w hSw => by go_simp⟩) (by assumption) ?_
          simp only [Act.put, List.setIfInBounds_toArray, List.set_cons_zero, List.set_cons_succ]
          refine wpAnyH_done (by kernel_rfl) ?_ _
          go_wp2_with fail
          go_ret
          exact ⟨rfl, HBwp.out.trans ((Below.trans HB18.out (Below.mono (below_draw w18) (Below.size HB18.out))).mono HBwp.out.size)⟩
        case true =>
          refine (open_any g1 M r2 HOk2.out HLd2.out (some ⟨gh, 0, none⟩) 256 (lst 256 F) (lst_len _ _) (Nat.le_refl _) wp HRgh.out.hol (fun ad hd => by injection hd with hd; subst hd; exact HRgh.out.lt) (HT.out.below HBwp.out) (HM4.out.below HB4p.out) hq2).mono ?_
          rintro x18 w18 ⟨gb2, rfl, _, _, HB18⟩
          have hqq2 : (lst 32 (shaF (nonB r2.e r2.s ++ lst 256 F)) == lst 32 r9.f) = true := by rw [hff.out]; exact hq2
          go_wp2_with fail
          refine wp_region_held_drew (S := fun W => Row W ga 26 r2.cs ∧ Row W g9 26 r9.cs) (by kernel_rfl) ⟨(HRga.out.kept HB18.out).drew, (HRg9.out.kept HB18.out).drew⟩ (fun hHeld => ?_)
          refine wpAnyH_take (i := 0) (oi := ⟨some 117, .move (.tmp 18), _, _, _, _⟩) (v := .int .i64 0) rfl (by kernel_rfl) (by kernel_rfl) (by kernel_rfl) (fun _ _ _ h => h) (.inl ⟨by rfl, fun w hSw => by go_simp⟩) (by assumption) ?_
          simp only [Act.put, List.setIfInBounds_toArray, List.set_cons_zero, List.set_cons_succ]
          refine wpAnyH_take (i := 1) (oi := ⟨some 118, .binOp .eql 30 (.tmp 117) (.const (.int .i64 5)) 30, _, _, _, _⟩) (v := .bool false) rfl (by kernel_rfl) (by kernel_rfl) (by kernel_rfl) (fun _ _ _ h => h) (.inl ⟨by rfl, fun w hSw => by go_simp⟩) (by assumption) ?_
          simp only [Act.put, List.setIfInBounds_toArray, List.set_cons_zero, List.set_cons_succ]
          refine wpAnyH_take (i := 2) (oi := ⟨some 119, .move (.tmp 118), _, _, _, _⟩) (v := .bool false) rfl (by kernel_rfl) (by kernel_rfl) (by kernel_rfl) (fun _ _ _ h => h) (.inl ⟨by rfl, fun w hSw => by go_simp⟩) (by assumption) ?_
          simp only [Act.put, List.setIfInBounds_toArray, List.set_cons_zero, List.set_cons_succ]
          refine wpAnyH_take (i := 3) (oi := ⟨some 120, .fieldAddr 26 (.tmp 16) 1, _, _, _, _⟩) (v := .pointer (some ⟨ga, 1, none⟩)) rfl (by kernel_rfl) (by kernel_rfl) (by kernel_rfl) (fun _ _ _ h => h) (.inl ⟨by rfl, fun w hSw => by go_simp⟩) (by assumption) ?_
          simp only [Act.put, List.setIfInBounds_toArray, List.set_cons_zero, List.set_cons_succ]
          refine wpAnyH_take (i := 4) (oi := ⟨some 121, .load 22 (.tmp 120), _, _, _, _⟩) (v := .int .u32 (r2.e : Int)) rfl (by kernel_rfl) (by kernel_rfl) (by kernel_rfl) (fun _ _ _ h => h) (.inl ⟨by rfl, fun w hSw => by have z1 := RecV.c1 hSw.1; have z2 := RecV.c2 hSw.1; go_simp⟩) (by assumption) ?_
          simp only [Act.put, List.setIfInBounds_toArray, List.set_cons_zero, List.set_cons_succ]
          refine wpAnyH_take (i := 5) (oi := ⟨some 122, .fieldAddr 26 (.tmp 16) 2, _, _, _, _⟩) (v := .pointer (some ⟨ga, 2, none⟩)) rfl (by kernel_rfl) (by kernel_rfl) (by kernel_rfl) (fun _ _ _ h => h) (.inl ⟨by rfl, fun w hSw => by go_simp⟩) (by assumption) ?_
          simp only [Act.put, List.setIfInBounds_toArray, List.set_cons_zero, List.set_cons_succ]
          refine wpAnyH_take (i := 6) (oi := ⟨some 123, .load 22 (.tmp 122), _, _, _, _⟩) (v := .int .u32 (r2.s : Int)) rfl (by kernel_rfl) (by kernel_rfl) (by kernel_rfl) (fun _ _ _ h => h) (.inl ⟨by rfl, fun w hSw => by have z1 := RecV.c1 hSw.1; have z2 := RecV.c2 hSw.1; go_simp⟩) (by assumption) ?_
          simp only [Act.put, List.setIfInBounds_toArray, List.set_cons_zero, List.set_cons_succ]
          refine wpAnyH_take (i := 7) (oi := ⟨some 124, .move (.tmp 10), _, _, _, _⟩) (v := .slice (some ⟨gh, 0, none⟩) 256 256) rfl (by kernel_rfl) (by kernel_rfl) (by kernel_rfl) (fun _ _ _ h => h) (.inl ⟨by rfl, fun w hSw => by go_simp⟩) (by assumption) ?_
          simp only [Act.put, List.setIfInBounds_toArray, List.set_cons_zero, List.set_cons_succ]
          refine wpAnyH_take (i := 9) (oi := ⟨some 126, .fieldAddr 26 (.tmp 11) 3, _, _, _, _⟩) (v := .pointer (some ⟨g9, 3, none⟩)) rfl (by kernel_rfl) (by kernel_rfl) (by kernel_rfl) (fun _ _ _ h => h) (.inl ⟨by rfl, fun w hSw => by go_simp⟩) (by assumption) ?_
          simp only [Act.put, List.setIfInBounds_toArray, List.set_cons_zero, List.set_cons_succ]
          refine wpAnyH_take (i := 10) (oi := ⟨some 127, .load 24 (.tmp 126), _, _, _, _⟩) (v := .agg (brr 32 r9.f).toArray) rfl (by kernel_rfl) (by kernel_rfl) (by kernel_rfl) (fun _ _ _ h => h) (yieldsIf_load_mid (by rfl) 24 (.tmp 126) rfl g9 3 rfl (brr 32 r9.f) _ (fun w hSw => RecV.sum_range hSw.2) Tryd.underlying24 rfl (i32.out r9)) (by assumption) ?_
          simp only [Act.put, List.setIfInBounds_toArray, List.set_cons_zero, List.set_cons_succ]
          refine wpAnyH_ready (rs := [8]) (by kernel_rfl) (by simp) ?_
          refine AllReadyH.cons (o := ⟨some 125, .call ⟨.value (.func 20), #[.tmp 121, .tmp 123, .tmp 124], _⟩, _, _, _, _⟩) rfl (fun K hK => ?_) AllReadyH.nil
          go_simp
          refine (rdigest_any r2.e r2.s _ 256 256 (lst 256 F) (lst_len _ _).symm HOk2.out.e HOk2.out.s _ ((HRgh.out.hol).below (Below.trans HB18.out (Below.mono (below_draw w18) (Below.size HB18.out)))) (by rw [lst_len]; omega)).mono ?_
          rintro x19 w19 ⟨rfl, hb19⟩
          have HB19 := Lib.hid (p := Below wp.heap.size wp w19) ((Below.trans HB18.out (Below.mono (below_draw w18) (Below.size HB18.out))).trans (hb19.mono (Below.size (Below.trans HB18.out (Below.mono (below_draw w18) (Below.size HB18.out))))))
          clear hb19
          refine hK.out _ _ ⟨HRga.out.kept HB19.out, HRg9.out.kept HB19.out⟩ (fun hH => ?_)
          clear hK K hHeld
          have HEQ := Lib.hid (fun w => eq_sum 9998 (shaF (nonB r2.e r2.s ++ lst 256 F)) r9.f w)
          refine wpAnyH_take (i := 11) (oi := ⟨some 128, .binOp .eql 24 (.tmp 125) (.tmp 127) 24, _, _, _, _⟩) (v := .bool (lst 32 (shaF (nonB r2.e r2.s ++ lst 256 F)) == lst 32 r9.f)) rfl (by kernel_rfl) (by kernel_rfl) (by kernel_rfl) (fun _ _ _ h => h) (.inl ⟨by rfl, fun w hSw => run_eql_op w _ _ _ _ _ rfl _ _ rfl rfl sum_guard _ HEQ.out⟩) (by assumption) ?_
          simp only [Act.put, List.setIfInBounds_toArray, List.set_cons_zero, List.set_cons_succ]
          rw [hqq2]
          clear HEQ
          refine wpAnyH_take (i := 12) (oi := ⟨some 129, .pick (.tmp 119) (.const (.bool true)) (.tmp 128), _, _, _, _⟩) (v := .bool true) rfl (by kernel_rfl) (by kernel_rfl) (by kernel_rfl) (fun _ _ _ h => h) (.inl ⟨by rfl, fun w hSw => by go_simp⟩) (by assumption) ?_
          simp only [Act.put, List.setIfInBounds_toArray, List.set_cons_zero, List.set_cons_succ]
          refine wpAnyH_take (i := 13) (oi := ⟨some 6, .assign (.tmp 129), _, _, _, _⟩) (v := .bool true) rfl (by kernel_rfl) (by kernel_rfl) (by kernel_rfl) (fun _ _ _ h => h) (.inl ⟨by rfl, fun w hSw => by go_simp⟩) (by assumption) ?_
          simp only [Act.put, List.setIfInBounds_toArray, List.set_cons_zero, List.set_cons_succ]
          refine wpAnyH_done (by kernel_rfl) ?_ _
          go_wp2_with fail
          go_ret
          exact ⟨rfl, HBwp.out.trans (HB19.out.mono HBwp.out.size)⟩
      case true =>
        refine (open_any g1 M (sealR 0 e s (lst 256 F)) HOkR.out HLd.out (some ⟨g13, 0, none⟩) c13 (lst 256 G) (lst_len _ _) HC13.out w14 HG14.out (fun ad hd => by injection hd with hd; subst hd; exact HLt.out) (HT.out.below HBw.out) (HM4.out.below HB4n.out) hq).mono ?_
        rintro x15 w15 ⟨gb, rfl, hrb, _, hb15⟩
        have HB15 := hb15
        clear hb15
        clear hrb
        have hqq : (lst 32 (shaF (nonB e s ++ lst 256 G)) == lst 32 (shaF (nonB e s ++ lst 256 F))) = true := hq
        go_wp2_with fail
        refine wp_region_held_drew (S := fun W => Row W g3 39 [.int .u32 (e : Int), .int .u32 (s : Int), .slice A0 n0 c0]) (by kernel_rfl) (HR3n.out.kept HB15.out).drew (fun hHeld => ?_)
        refine wpAnyH_take (i := 0) (oi := ⟨some 86, .move (.tmp 15), _, _, _, _⟩) (v := .int .i64 0) rfl (by kernel_rfl) (by kernel_rfl) (by kernel_rfl) (fun _ _ _ h => h) (.inl ⟨by rfl, fun w hSw => by go_simp⟩) (by assumption) ?_
        simp only [Act.put, List.setIfInBounds_toArray, List.set_cons_zero, List.set_cons_succ]
        refine wpAnyH_take (i := 1) (oi := ⟨some 87, .binOp .neq 30 (.tmp 86) (.const (.int .i64 5)) 30, _, _, _, _⟩) (v := .bool true) rfl (by kernel_rfl) (by kernel_rfl) (by kernel_rfl) (fun _ _ _ h => h) (.inl ⟨by rfl, fun w hSw => by go_simp⟩) (by assumption) ?_
        simp only [Act.put, List.setIfInBounds_toArray, List.set_cons_zero, List.set_cons_succ]
        refine wpAnyH_take (i := 2) (oi := ⟨some 88, .move (.tmp 87), _, _, _, _⟩) (v := .bool true) rfl (by kernel_rfl) (by kernel_rfl) (by kernel_rfl) (fun _ _ _ h => h) (.inl ⟨by rfl, fun w hSw => by go_simp⟩) (by assumption) ?_
        simp only [Act.put, List.setIfInBounds_toArray, List.set_cons_zero, List.set_cons_succ]
        refine wpAnyH_take (i := 3) (oi := ⟨some 89, .fieldAddr 39 (.tmp 3) 0, _, _, _, _⟩) (v := .pointer (some ⟨g3, 0, none⟩)) rfl (by kernel_rfl) (by kernel_rfl) (by kernel_rfl) (fun _ _ _ h => h) (.inl ⟨by rfl, fun w hSw => by go_simp⟩) (by assumption) ?_
        simp only [Act.put, List.setIfInBounds_toArray, List.set_cons_zero, List.set_cons_succ]
        refine wpAnyH_take (i := 4) (oi := ⟨some 90, .load 22 (.tmp 89), _, _, _, _⟩) (v := .int .u32 (e : Int)) rfl (by kernel_rfl) (by kernel_rfl) (by kernel_rfl) (fun _ _ _ h => h) (.inl ⟨by rfl, fun w hSw => by have z0 := Row.cell hSw 0; have z1 := Row.cell hSw 1; simp at z0 z1; go_simp⟩) (by assumption) ?_
        simp only [Act.put, List.setIfInBounds_toArray, List.set_cons_zero, List.set_cons_succ]
        refine wpAnyH_take (i := 5) (oi := ⟨some 91, .fieldAddr 39 (.tmp 3) 1, _, _, _, _⟩) (v := .pointer (some ⟨g3, 1, none⟩)) rfl (by kernel_rfl) (by kernel_rfl) (by kernel_rfl) (fun _ _ _ h => h) (.inl ⟨by rfl, fun w hSw => by go_simp⟩) (by assumption) ?_
        simp only [Act.put, List.setIfInBounds_toArray, List.set_cons_zero, List.set_cons_succ]
        refine wpAnyH_take (i := 6) (oi := ⟨some 92, .load 22 (.tmp 91), _, _, _, _⟩) (v := .int .u32 (s : Int)) rfl (by kernel_rfl) (by kernel_rfl) (by kernel_rfl) (fun _ _ _ h => h) (.inl ⟨by rfl, fun w hSw => by have z0 := Row.cell hSw 0; have z1 := Row.cell hSw 1; simp at z0 z1; go_simp⟩) (by assumption) ?_
        simp only [Act.put, List.setIfInBounds_toArray, List.set_cons_zero, List.set_cons_succ]
        refine wpAnyH_take (i := 7) (oi := ⟨some 93, .move (.tmp 13), _, _, _, _⟩) (v := .slice (some ⟨g13, 0, none⟩) 256 c13) rfl (by kernel_rfl) (by kernel_rfl) (by kernel_rfl) (fun _ _ _ h => h) (.inl ⟨by rfl, fun w hSw => by go_simp⟩) (by assumption) ?_
        simp only [Act.put, List.setIfInBounds_toArray, List.set_cons_zero, List.set_cons_succ]
        refine wpAnyH_take (i := 9) (oi := ⟨some 95, .fieldAddr 39 (.tmp 3) 0, _, _, _, _⟩) (v := .pointer (some ⟨g3, 0, none⟩)) rfl (by kernel_rfl) (by kernel_rfl) (by kernel_rfl) (fun _ _ _ h => h) (.inl ⟨by rfl, fun w hSw => by go_simp⟩) (by assumption) ?_
        simp only [Act.put, List.setIfInBounds_toArray, List.set_cons_zero, List.set_cons_succ]
        refine wpAnyH_take (i := 10) (oi := ⟨some 96, .load 22 (.tmp 95), _, _, _, _⟩) (v := .int .u32 (e : Int)) rfl (by kernel_rfl) (by kernel_rfl) (by kernel_rfl) (fun _ _ _ h => h) (.inl ⟨by rfl, fun w hSw => by have z0 := Row.cell hSw 0; have z1 := Row.cell hSw 1; simp at z0 z1; go_simp⟩) (by assumption) ?_
        simp only [Act.put, List.setIfInBounds_toArray, List.set_cons_zero, List.set_cons_succ]
        refine wpAnyH_take (i := 11) (oi := ⟨some 97, .fieldAddr 39 (.tmp 3) 1, _, _, _, _⟩) (v := .pointer (some ⟨g3, 1, none⟩)) rfl (by kernel_rfl) (by kernel_rfl) (by kernel_rfl) (fun _ _ _ h => h) (.inl ⟨by rfl, fun w hSw => by go_simp⟩) (by assumption) ?_
        simp only [Act.put, List.setIfInBounds_toArray, List.set_cons_zero, List.set_cons_succ]
        refine wpAnyH_take (i := 12) (oi := ⟨some 98, .load 22 (.tmp 97), _, _, _, _⟩) (v := .int .u32 (s : Int)) rfl (by kernel_rfl) (by kernel_rfl) (by kernel_rfl) (fun _ _ _ h => h) (.inl ⟨by rfl, fun w hSw => by have z0 := Row.cell hSw 0; have z1 := Row.cell hSw 1; simp at z0 z1; go_simp⟩) (by assumption) ?_
        simp only [Act.put, List.setIfInBounds_toArray, List.set_cons_zero, List.set_cons_succ]
        refine wpAnyH_take (i := 13) (oi := ⟨some 99, .move (.tmp 10), _, _, _, _⟩) (v := .slice (some ⟨gh, 0, none⟩) 256 256) rfl (by kernel_rfl) (by kernel_rfl) (by kernel_rfl) (fun _ _ _ h => h) (.inl ⟨by rfl, fun w hSw => by go_simp⟩) (by assumption) ?_
        simp only [Act.put, List.setIfInBounds_toArray, List.set_cons_zero, List.set_cons_succ]
        refine wpAnyH_ready (rs := [8]) (by kernel_rfl) (by simp) ?_
        refine AllReadyH.cons (o := ⟨some 94, .call ⟨.value (.func 20), #[.tmp 90, .tmp 92, .tmp 93], _⟩, _, _, _, _⟩) rfl (fun K hK => ?_) AllReadyH.nil
        go_simp
        refine (rdigest_any e s _ 256 c13 (lst 256 G) (lst_len _ _).symm HE.out HS.out _ (HG14.out.below (Below.trans HB15.out (Below.mono (below_draw w15) (Below.size HB15.out)))) (by rw [lst_len]; omega)).mono ?_
        rintro x16 w16 ⟨rfl, hb16⟩
        have HB16 := Lib.hid (p := Below w14.heap.size w14 w16) (Below.trans (Below.trans HB15.out (Below.mono (below_draw w15) (Below.size HB15.out))) (hb16.mono (Below.size (Below.trans HB15.out (Below.mono (below_draw w15) (Below.size HB15.out))))))
        clear hb16
        refine hK.out _ _ (HR3n.out.kept HB16.out) (fun hH => ?_)
        clear hK K hHeld
        refine wpAnyH_ready (rs := [14]) (by kernel_rfl) (by simp) ?_
        refine AllReadyH.cons (o := ⟨some 100, .call ⟨.value (.func 20), #[.tmp 96, .tmp 98, .tmp 99], _⟩, _, _, _, _⟩) rfl (fun K hK => ?_) AllReadyH.nil
        go_simp
        refine (rdigest_any e s _ 256 256 (lst 256 F) (lst_len _ _).symm HE.out HS.out _ ((HRh14.out.kept HB16.out).hol) (by rw [lst_len]; omega)).mono ?_
        rintro x17 w17 ⟨rfl, hb17⟩
        have HB17 := Lib.hid (p := Below w14.heap.size w14 w17) (HB16.out.trans (hb17.mono HB16.out.size))
        clear hb17
        refine hK.out _ _ (HR3n.out.kept HB17.out) (fun hH2 => ?_)
        clear hK K hH
        have HEQ := Lib.hid (fun w => eq_sum 9998 (shaF (nonB e s ++ lst 256 G)) (shaF (nonB e s ++ lst 256 F)) w)
        refine wpAnyH_take (i := 15) (oi := ⟨some 101, .binOp .neq 24 (.tmp 94) (.tmp 100) 24, _, _, _, _⟩) (v := .bool (!(lst 32 (shaF (nonB e s ++ lst 256 G)) == lst 32 (shaF (nonB e s ++ lst 256 F))))) rfl (by kernel_rfl) (by kernel_rfl) (by kernel_rfl) (fun _ _ _ h => h) (.inl ⟨by rfl, fun w hSw => run_neq_op w _ _ _ _ _ rfl _ _ rfl rfl sum_guard _ HEQ.out⟩) (by assumption) ?_
        simp only [Act.put, List.setIfInBounds_toArray, List.set_cons_zero, List.set_cons_succ]
        rw [hqq]
        clear HEQ
        refine wpAnyH_take (i := 16) (oi := ⟨some 102, .pick (.tmp 88) (.tmp 101) (.const (.bool false)), _, _, _, _⟩) (v := .bool false) rfl (by kernel_rfl) (by kernel_rfl) (by kernel_rfl) (fun _ _ _ h => h) (.inl ⟨by rfl, fun w hSw => by go_simp⟩) (by assumption) ?_
        simp only [Act.put, List.setIfInBounds_toArray, List.set_cons_zero, List.set_cons_succ]
        refine wpAnyH_done (by kernel_rfl) ?_ _
        try clear hH2
        try clear hHeld
        have hwx : IntKind.u32.wrap (bv x1) = bv x1 := by rw [IntKind.wrap_u32]; have := u8_lt x1; unfold bv; omega
        have hxx : bits .xor .u32 (s : Int) (bv x1) = ((s ^^^ x1.toNat : Nat) : Int) := u32_xor_nat _ _ HS.out (Nat.lt_trans (u8_lt x1) (by decide))
        have HS2 := Lib.hid (p := s ^^^ x1.toNat < 4294967296) (Nat.xor_lt_two_pow (n := 32) HS.out (Nat.lt_trans (u8_lt x1) (by decide)))
        have HR9q := Lib.hid (HR14'.out.kept HB17.out)
        have HRhq := Lib.hid (HRh14.out.kept HB17.out)
        go_wp2_with (first
          | (refine step_load rfl 103 rfl 26 (.tmp 11) rfl g9 rfl (sealR 0 e s (lst 256 F)).cs _ HR9q.out.all Tryd.underlying26 rfl (i35.out _) ?_)
          | (refine step_alloc rfl 16 rfl 26 rfl rec0.cs hzr.out ?_; intro ga wa hra hga hba hsa)
          | (refine step_store rfl 26 (.tmp 16) (.tmp 103) rfl ga (by rfl) 26 rec0.cs (sealR 0 e s (lst 256 F)).cs (by rfl) hra (by rw [RecV.cs_len, RecV.cs_len]) (i35.out _) (RecV.cs_one _) ?_; intro wb hrb2 hgb hsb
             have HBwa := Lib.hid (p := Below w14.heap.size w14 wa) (HB17.out.trans (hba.mono HB17.out.size))
             have HNa := Lib.hid (p := w14.heap.size ≤ ga) (by have h2 := Below.size HB17.out; rw [hga.out]; exact h2)
             have HBwb := Lib.hid (p := Below w14.heap.size w14 wb) (HBwa.out.grown hgb HBwa.out.size (fun q hq => by injection hq with hq; have := HNa.out; omega))
             have HBp := Lib.hid (p := Below w14.heap.size w14 (wb.setCell ⟨ga, 2, none⟩ (.int .u32 ((s ^^^ x1.toNat : Nat) : Int)))) (HBwb.out.setCell HNa.out _)
             have HRp := Lib.hid (p := Row (wb.setCell ⟨ga, 2, none⟩ (.int .u32 ((s ^^^ x1.toNat : Nat) : Int))) ga 26 ({ a := (sealR 0 e s (lst 256 F)).a, e := (sealR 0 e s (lst 256 F)).e, s := s ^^^ x1.toNat, f := (sealR 0 e s (lst 256 F)).f } : RecV).cs) (by have h := hrb2.put 2 (.int .u32 ((s ^^^ x1.toNat : Nat) : Int)); rw [RecV.set_s] at h; exact h)
             have fb2 := hrb2.free 2
             have eb2 : wb.cell? ⟨ga, 2, none⟩ = some (.int .u32 (s : Int)) := RecV.c2 hrb2
             clear hra hga hba hsa hrb2 hgb hsb HBwa HNa HBwb)
          | (refine step_load rfl 112 rfl 26 (.tmp 16) rfl ga rfl ({ a := (sealR 0 e s (lst 256 F)).a, e := (sealR 0 e s (lst 256 F)).e, s := s ^^^ x1.toNat, f := (sealR 0 e s (lst 256 F)).f } : RecV).cs _ HRp.out.all Tryd.underlying26 rfl (i35.out _) ?_))
        clear fb2 eb2 hxx hwx
        generalize wb.setCell ⟨ga, 2, none⟩ (.int .u32 ((s ^^^ x1.toNat : Nat) : Int)) = wp at *
        have HOk2 := Lib.hid (p := ({ a := (sealR 0 e s (lst 256 F)).a, e := (sealR 0 e s (lst 256 F)).e, s := s ^^^ x1.toNat, f := (sealR 0 e s (lst 256 F)).f } : RecV).Ok) ⟨HE.out, HS2.out⟩
        have HLd2 := Lib.hid (p := ({ a := (sealR 0 e s (lst 256 F)).a, e := (sealR 0 e s (lst 256 F)).e, s := s ^^^ x1.toNat, f := (sealR 0 e s (lst 256 F)).f } : RecV).leads = true) HLd.out
        obtain ⟨r9, h9⟩ : ∃ r9, r9 = (sealR 0 e s (lst 256 F)) := ⟨_, rfl⟩
        obtain ⟨r2, h2⟩ : ∃ r2, r2 = ({ a := (sealR 0 e s (lst 256 F)).a, e := (sealR 0 e s (lst 256 F)).e, s := s ^^^ x1.toNat, f := (sealR 0 e s (lst 256 F)).f } : RecV) := ⟨_, rfl⟩
        have hff := Lib.hid (p := r9.f = r2.f) (by rw [h9, h2])
        have HRga := Lib.hid (p := Row wp ga 26 r2.cs) (by rw [h2]; exact HRp.out)
        have HRg9 := Lib.hid (p := Row wp g9 26 r9.cs) (by rw [h9]; exact HR14'.out.kept HBp.out)
        have HRgh := Lib.hid (HRh14.out.kept HBp.out)
        have HBwp := Lib.hid (p := Below w.heap.size w wp) (HBw.out.trans (HBp.out.mono HBw.out.size))
        have HB4p := Lib.hid (p := Below w4.heap.size w4 wp) (HB4n.out.trans (HBp.out.mono HB4n.out.size))
        rw [← h2] at HOk2 HLd2 ⊢
        have i32 := Lib.hid (p := ∀ r : RecV, (Tryd.prog.info? 24).map (·.size) = some (brr 32 r.f).length) (fun r => by rw [brr_len]; exact info_sum)
        clear h2 h9
        cases hq2 : (lst 32 (shaF (nonB r2.e r2.s ++ lst 256 F)) == lst 32 r2.f)
        case false =>
          refine (open_other (.pointer (some ⟨g1, 0, none⟩)) r2 HOk2.out HLd2.out (some ⟨gh, 0, none⟩) 256 (lst 256 F) (lst_len _ _) (Nat.le_refl _) wp HRgh.out.hol (fun ad hd => by injection hd with hd; subst hd; exact HRgh.out.lt) (HT.out.below HBwp.out) hq2).mono ?_
          rintro x18 w18 ⟨rfl, hb18⟩
          have HB18 := Lib.hid (p := Below wp.heap.size wp w18) hb18
          clear hb18
          go_wp2_with fail
          refine wp_region_held_drew (S := fun W => Row W ga 26 r2.cs ∧ Row W g9 26 r9.cs) (by kernel_rfl) ⟨(HRga.out.kept HB18.out).drew, (HRg9.out.kept HB18.out).drew⟩ (fun hHeld => ?_)
          refine wpAnyH_take (i := 0) (oi := ⟨some 117, .move (.tmp 18), _, _, _, _⟩) (v := .int .i64 5) rfl (by kernel_rfl) (by kernel_rfl) (by kernel_rfl) (fun _ _ _ h => h) (.inl ⟨by rfl, fun w hSw => by go_simp⟩) (by assumption) ?_
          simp only [Act.put, List.setIfInBounds_toArray, List.set_cons_zero, List.set_cons_succ]
          refine wpAnyH_take (i := 1) (oi := ⟨some 118, .binOp .eql 30 (.tmp 117) (.const (.int .i64 5)) 30, _, _, _, _⟩) (v := .bool true) rfl (by kernel_rfl) (by kernel_rfl) (by kernel_rfl) (fun _ _ _ h => h) (.inl ⟨by rfl, fun w hSw => by go_simp⟩) (by assumption) ?_
          simp only [Act.put, List.setIfInBounds_toArray, List.set_cons_zero, List.set_cons_succ]
          refine wpAnyH_take (i := 2) (oi := ⟨some 119, .move (.tmp 118), _, _, _, _⟩) (v := .bool true) rfl (by kernel_rfl) (by kernel_rfl) (by kernel_rfl) (fun _ _ _ h => h) (.inl ⟨by rfl, fun w hSw => by go_simp⟩) (by assumption) ?_
          simp only [Act.put, List.setIfInBounds_toArray, List.set_cons_zero, List.set_cons_succ]
          refine wpAnyH_take (i := 3) (oi := ⟨some 120, .fieldAddr 26 (.tmp 16) 1, _, _, _, _⟩) (v := undef) rfl (by kernel_rfl) (by kernel_rfl) (by kernel_rfl) (fun _ _ _ h => h) (.inr ⟨by rfl, rfl⟩) (by assumption) ?_
          simp only [Act.put, List.setIfInBounds_toArray, List.set_cons_zero, List.set_cons_succ]
          refine wpAnyH_take (i := 4) (oi := ⟨some 121, .load 22 (.tmp 120), _, _, _, _⟩) (v := undef) rfl (by kernel_rfl) (by kernel_rfl) (by kernel_rfl) (fun _ _ _ h => h) (.inr ⟨by rfl, rfl⟩) (by assumption) ?_
          simp only [Act.put, List.setIfInBounds_toArray, List.set_cons_zero, List.set_cons_succ]
          refine wpAnyH_take (i := 5) (oi := ⟨some 122, .fieldAddr 26 (.tmp 16) 2, _, _, _, _⟩) (v := undef) rfl (by kernel_rfl) (by kernel_rfl) (by kernel_rfl) (fun _ _ _ h => h) (.inr ⟨by rfl, rfl⟩) (by assumption) ?_
          simp only [Act.put, List.setIfInBounds_toArray, List.set_cons_zero, List.set_cons_succ]
          refine wpAnyH_take (i := 6) (oi := ⟨some 123, .load 22 (.tmp 122), _, _, _, _⟩) (v := undef) rfl (by kernel_rfl) (by kernel_rfl) (by kernel_rfl) (fun _ _ _ h => h) (.inr ⟨by rfl, rfl⟩) (by assumption) ?_
          simp only [Act.put, List.setIfInBounds_toArray, List.set_cons_zero, List.set_cons_succ]
          refine wpAnyH_take (i := 7) (oi := ⟨some 124, .move (.tmp 10), _, _, _, _⟩) (v := undef) rfl (by kernel_rfl) (by kernel_rfl) (by kernel_rfl) (fun _ _ _ h => h) (.inr ⟨by rfl, rfl⟩) (by assumption) ?_
          simp only [Act.put, List.setIfInBounds_toArray, List.set_cons_zero, List.set_cons_succ]
          refine wpAnyH_take (i := 8) (oi := ⟨some 125, .call ⟨.value (.func 20), #[.tmp 121, .tmp 123, .tmp 124], _⟩, _, _, _, _⟩) (v := undef) rfl (by kernel_rfl) (by kernel_rfl) (by kernel_rfl) (fun _ _ _ h => h) (.inr ⟨by rfl, rfl⟩) (by assumption) ?_
          simp only [Act.put, List.setIfInBounds_toArray, List.set_cons_zero, List.set_cons_succ]
          refine wpAnyH_take (i := 9) (oi := ⟨some 126, .fieldAddr 26 (.tmp 11) 3, _, _, _, _⟩) (v := undef) rfl (by kernel_rfl) (by kernel_rfl) (by kernel_rfl) (fun _ _ _ h => h) (.inr ⟨by rfl, rfl⟩) (by assumption) ?_
          simp only [Act.put, List.setIfInBounds_toArray, List.set_cons_zero, List.set_cons_succ]
          refine wpAnyH_take (i := 10) (oi := ⟨some 127, .load 24 (.tmp 126), _, _, _, _⟩) (v := undef) rfl (by kernel_rfl) (by kernel_rfl) (by kernel_rfl) (fun _ _ _ h => h) (.inr ⟨by rfl, rfl⟩) (by assumption) ?_
          simp only [Act.put, List.setIfInBounds_toArray, List.set_cons_zero, List.set_cons_succ]
          refine wpAnyH_take (i := 11) (oi := ⟨some 128, .binOp .eql 24 (.tmp 125) (.tmp 127) 24, _, _, _, _⟩) (v := undef) rfl (by kernel_rfl) (by kernel_rfl) (by kernel_rfl) (fun _ _ _ h => h) (.inr ⟨by rfl, rfl⟩) (by assumption) ?_
          simp only [Act.put, List.setIfInBounds_toArray, List.set_cons_zero, List.set_cons_succ]
          refine wpAnyH_take (i := 12) (oi := ⟨some 129, .pick (.tmp 119) (.const (.bool true)) (.tmp 128), _, _, _, _⟩) (v := .bool true) rfl (by kernel_rfl) (by kernel_rfl) (by kernel_rfl) (fun _ _ _ h => h) (.inl ⟨by rfl, fun w hSw => by go_simp⟩) (by assumption) ?_
          simp only [Act.put, List.setIfInBounds_toArray, List.set_cons_zero, List.set_cons_succ]
          refine wpAnyH_take (i := 13) (oi := ⟨some 6, .assign (.tmp 129), _, _, _, _⟩) (v := .bool true) rfl (by kernel_rfl) (by kernel_rfl) (by kernel_rfl) (fun _ _ _ h => h) (.inl ⟨by rfl, fun w hSw => by go_simp⟩) (by assumption) ?_
          simp only [Act.put, List.setIfInBounds_toArray, List.set_cons_zero, List.set_cons_succ]
          refine wpAnyH_done (by kernel_rfl) ?_ _
          go_wp2_with fail
          go_ret
          exact ⟨rfl, HBwp.out.trans ((Below.trans HB18.out (Below.mono (below_draw w18) (Below.size HB18.out))).mono HBwp.out.size)⟩
        case true =>
          refine (open_any g1 M r2 HOk2.out HLd2.out (some ⟨gh, 0, none⟩) 256 (lst 256 F) (lst_len _ _) (Nat.le_refl _) wp HRgh.out.hol (fun ad hd => by injection hd with hd; subst hd; exact HRgh.out.lt) (HT.out.below HBwp.out) (HM4.out.below HB4p.out) hq2).mono ?_
          rintro x18 w18 ⟨gb2, rfl, _, _, HB18⟩
          have hqq2 : (lst 32 (shaF (nonB r2.e r2.s ++ lst 256 F)) == lst 32 r9.f) = true := by rw [hff.out]; exact hq2
          go_wp2_with fail
          refine wp_region_held_drew (S := fun W => Row W ga 26 r2.cs ∧ Row W g9 26 r9.cs) (by kernel_rfl) ⟨(HRga.out.kept HB18.out).drew, (HRg9.out.kept HB18.out).drew⟩ (fun hHeld => ?_)
          refine wpAnyH_take (i := 0) (oi := ⟨some 117, .move (.tmp 18), _, _, _, _⟩) (v := .int .i64 0) rfl (by kernel_rfl) (by kernel_rfl) (by kernel_rfl) (fun _ _ _ h => h) (.inl ⟨by rfl, fun w hSw => by go_simp⟩) (by assumption) ?_
          simp only [Act.put, List.setIfInBounds_toArray, List.set_cons_zero, List.set_cons_succ]
          refine wpAnyH_take (i := 1) (oi := ⟨some 118, .binOp .eql 30 (.tmp 117) (.const (.int .i64 5)) 30, _, _, _, _⟩) (v := .bool false) rfl (by kernel_rfl) (by kernel_rfl) (by kernel_rfl) (fun _ _ _ h => h) (.inl ⟨by rfl, fun w hSw => by go_simp⟩) (by assumption) ?_
          simp only [Act.put, List.setIfInBounds_toArray, List.set_cons_zero, List.set_cons_succ]
          refine wpAnyH_take (i := 2) (oi := ⟨some 119, .move (.tmp 118), _, _, _, _⟩) (v := .bool false) rfl (by kernel_rfl) (by kernel_rfl) (by kernel_rfl) (fun _ _ _ h => h) (.inl ⟨by rfl, fun w hSw => by go_simp⟩) (by assumption) ?_
          simp only [Act.put, List.setIfInBounds_toArray, List.set_cons_zero, List.set_cons_succ]
          refine wpAnyH_take (i := 3) (oi := ⟨some 120, .fieldAddr 26 (.tmp 16) 1, _, _, _, _⟩) (v := .pointer (some ⟨ga, 1, none⟩)) rfl (by kernel_rfl) (by kernel_rfl) (by kernel_rfl) (fun _ _ _ h => h) (.inl ⟨by rfl, fun w hSw => by go_simp⟩) (by assumption) ?_
          simp only [Act.put, List.setIfInBounds_toArray, List.set_cons_zero, List.set_cons_succ]
          refine wpAnyH_take (i := 4) (oi := ⟨some 121, .load 22 (.tmp 120), _, _, _, _⟩) (v := .int .u32 (r2.e : Int)) rfl (by kernel_rfl) (by kernel_rfl) (by kernel_rfl) (fun _ _ _ h => h) (.inl ⟨by rfl, fun w hSw => by have z1 := RecV.c1 hSw.1; have z2 := RecV.c2 hSw.1; go_simp⟩) (by assumption) ?_
          simp only [Act.put, List.setIfInBounds_toArray, List.set_cons_zero, List.set_cons_succ]
          refine wpAnyH_take (i := 5) (oi := ⟨some 122, .fieldAddr 26 (.tmp 16) 2, _, _, _, _⟩) (v := .pointer (some ⟨ga, 2, none⟩)) rfl (by kernel_rfl) (by kernel_rfl) (by kernel_rfl) (fun _ _ _ h => h) (.inl ⟨by rfl, fun w hSw => by go_simp⟩) (by assumption) ?_
          simp only [Act.put, List.setIfInBounds_toArray, List.set_cons_zero, List.set_cons_succ]
          refine wpAnyH_take (i := 6) (oi := ⟨some 123, .load 22 (.tmp 122), _, _, _, _⟩) (v := .int .u32 (r2.s : Int)) rfl (by kernel_rfl) (by kernel_rfl) (by kernel_rfl) (fun _ _ _ h => h) (.inl ⟨by rfl, fun w hSw => by have z1 := RecV.c1 hSw.1; have z2 := RecV.c2 hSw.1; go_simp⟩) (by assumption) ?_
          simp only [Act.put, List.setIfInBounds_toArray, List.set_cons_zero, List.set_cons_succ]
          refine wpAnyH_take (i := 7) (oi := ⟨some 124, .move (.tmp 10), _, _, _, _⟩) (v := .slice (some ⟨gh, 0, none⟩) 256 256) rfl (by kernel_rfl) (by kernel_rfl) (by kernel_rfl) (fun _ _ _ h => h) (.inl ⟨by rfl, fun w hSw => by go_simp⟩) (by assumption) ?_
          simp only [Act.put, List.setIfInBounds_toArray, List.set_cons_zero, List.set_cons_succ]
          refine wpAnyH_take (i := 9) (oi := ⟨some 126, .fieldAddr 26 (.tmp 11) 3, _, _, _, _⟩) (v := .pointer (some ⟨g9, 3, none⟩)) rfl (by kernel_rfl) (by kernel_rfl) (by kernel_rfl) (fun _ _ _ h => h) (.inl ⟨by rfl, fun w hSw => by go_simp⟩) (by assumption) ?_
          simp only [Act.put, List.setIfInBounds_toArray, List.set_cons_zero, List.set_cons_succ]
          refine wpAnyH_take (i := 10) (oi := ⟨some 127, .load 24 (.tmp 126), _, _, _, _⟩) (v := .agg (brr 32 r9.f).toArray) rfl (by kernel_rfl) (by kernel_rfl) (by kernel_rfl) (fun _ _ _ h => h) (yieldsIf_load_mid (by rfl) 24 (.tmp 126) rfl g9 3 rfl (brr 32 r9.f) _ (fun w hSw => RecV.sum_range hSw.2) Tryd.underlying24 rfl (i32.out r9)) (by assumption) ?_
          simp only [Act.put, List.setIfInBounds_toArray, List.set_cons_zero, List.set_cons_succ]
          refine wpAnyH_ready (rs := [8]) (by kernel_rfl) (by simp) ?_
          refine AllReadyH.cons (o := ⟨some 125, .call ⟨.value (.func 20), #[.tmp 121, .tmp 123, .tmp 124], _⟩, _, _, _, _⟩) rfl (fun K hK => ?_) AllReadyH.nil
          go_simp
          refine (rdigest_any r2.e r2.s _ 256 256 (lst 256 F) (lst_len _ _).symm HOk2.out.e HOk2.out.s _ ((HRgh.out.hol).below (Below.trans HB18.out (Below.mono (below_draw w18) (Below.size HB18.out)))) (by rw [lst_len]; omega)).mono ?_
          rintro x19 w19 ⟨rfl, hb19⟩
          have HB19 := Lib.hid (p := Below wp.heap.size wp w19) ((Below.trans HB18.out (Below.mono (below_draw w18) (Below.size HB18.out))).trans (hb19.mono (Below.size (Below.trans HB18.out (Below.mono (below_draw w18) (Below.size HB18.out))))))
          clear hb19
          refine hK.out _ _ ⟨HRga.out.kept HB19.out, HRg9.out.kept HB19.out⟩ (fun hH => ?_)
          clear hK K hHeld
          have HEQ := Lib.hid (fun w => eq_sum 9998 (shaF (nonB r2.e r2.s ++ lst 256 F)) r9.f w)
          refine wpAnyH_take (i := 11) (oi := ⟨some 128, .binOp .eql 24 (.tmp 125) (.tmp 127) 24, _, _, _, _⟩) (v := .bool (lst 32 (shaF (nonB r2.e r2.s ++ lst 256 F)) == lst 32 r9.f)) rfl (by kernel_rfl) (by kernel_rfl) (by kernel_rfl) (fun _ _ _ h => h) (.inl ⟨by rfl, fun w hSw => run_eql_op w _ _ _ _ _ rfl _ _ rfl rfl sum_guard _ HEQ.out⟩) (by assumption) ?_
          simp only [Act.put, List.setIfInBounds_toArray, List.set_cons_zero, List.set_cons_succ]
          rw [hqq2]
          clear HEQ
          refine wpAnyH_take (i := 12) (oi := ⟨some 129, .pick (.tmp 119) (.const (.bool true)) (.tmp 128), _, _, _, _⟩) (v := .bool true) rfl (by kernel_rfl) (by kernel_rfl) (by kernel_rfl) (fun _ _ _ h => h) (.inl ⟨by rfl, fun w hSw => by go_simp⟩) (by assumption) ?_
          simp only [Act.put, List.setIfInBounds_toArray, List.set_cons_zero, List.set_cons_succ]
          refine wpAnyH_take (i := 13) (oi := ⟨some 6, .assign (.tmp 129), _, _, _, _⟩) (v := .bool true) rfl (by kernel_rfl) (by kernel_rfl) (by kernel_rfl) (fun _ _ _ h => h) (.inl ⟨by rfl, fun w hSw => by go_simp⟩) (by assumption) ?_
          simp only [Act.put, List.setIfInBounds_toArray, List.set_cons_zero, List.set_cons_succ]
          refine wpAnyH_done (by kernel_rfl) ?_ _
          go_wp2_with fail
          go_ret
          exact ⟨rfl, HBwp.out.trans (HB19.out.mono HBwp.out.size)⟩
end Go.Proofs.YtibnmhaipogleaaDoor.nodeTurns
