/- The walk of PermLess. No conditions. -/
import Derived.Test.YtnmcnnfmjfbokaaPd
import Derived.Deep.Cut
set_option linter.unusedVariables false
set_option maxRecDepth 20000
namespace Go.Proofs.Ytnmcnnfmjfbokaa
open Go.RowKit
theorem nat_eqb {a b : Nat} (h : a = b) : (((a : Nat) : Int) == (b : Int)) = true := by rw [h]; exact beq_self_eq_true _
theorem nat_neb {a b : Nat} (h : a ≠ b) : (((a : Nat) : Int) == (b : Int)) = false := beq_false_of_ne (by omega)
theorem rem8_facts (z : Nat) : Int.tmod (z : Int) 8 = ((z % 8 : Nat) : Int) ∧ (z : Int) % 8 = ((z % 8 : Nat) : Int) := ⟨by rw [Int.tmod_eq_emod_of_nonneg (Int.natCast_nonneg z)]; omega, by omega⟩
theorem wp_rem8 {P : Program} {ops : Array Oper} {rest : List Oper} {o : Oper} {a : Act} {w : World} {Q : Exit → Act → World → Prop} (hgd : o.guard = none) (t t2 : TypeId) (x y : Operand) (ho : o.op = .binOp .rem t x y t2) (X r : Nat) (hx : a.eval x = .int .i64 (X : Int)) (hX : X < 256) (hy : a.eval y = .int .i64 8) (hr : X % 8 = r)
    (h : wpList P ops Q rest (a.put o.dst (.int .i64 (r : Int))) w) : wpList P ops Q (o :: rest) a w := by
  refine wpList_plain hgd fun K hK => ?_
  obtain ⟨h1, h2⟩ := rem8_facts X
  rw [hr] at h1 h2
  have h3 : IntKind.i64.wrap (r : Int) = (r : Int) := by rw [IntKind.wrap_i64]; omega
  have h4 : ((r : Int) + 9223372036854775808) % 18446744073709551616 - 9223372036854775808 = (r : Int) := by omega
  unfold Oper.wp execOp
  simp only [ho, hx, hy]
  clear hX hr
  simp [go_sem, h1]
  exact hK _ _ h
set_option maxHeartbeats 4000000 in
theorem lessW (v : Nat → Int) (u g : Int) (z : Nat) (hz : z < 256) (w : World) : Calls Try.prog 3 #[.agg (ncs v).toArray, .agg #[.int .u32 u, .int .u32 g], .int .u8 (z : Int)] w fun e w' => e = .returned (.bool true) ∧ Below w.heap.size w w' := by
  have i1 := Lib.hid (fun v => info_ncs v)
  obtain ⟨q, hq⟩ : ∃ q, z % 8 = q := ⟨_, rfl⟩
  have hq8 : q < 8 := by omega
  obtain ⟨b, hb⟩ : ∃ b, pB v u g = b := ⟨_, rfl⟩
  have hl : b < 8 := by rw [← hb]; exact pB_lt v u g
  have hmay : ∀ (l : Nat), l < 8 → ∀ w, Calls Try.prog 7 #[.agg (ncs v).toArray, .int .u32 u, .int .u32 g, .int .i64 (l : Int)] w fun e w' => e = .returned (.bool (mayB l b)) ∧ Below w.heap.size w w' := fun l hl w => by
    have h := may_any v u g (l : Int) w
    rwa [hb, show ((l : Int) % 8).toNat = l by omega] at h
  -- the last two calls
  obtain ⟨n1, hn1⟩ : ∃ n, v 1 % 64 = n := ⟨_, rfl⟩
  obtain ⟨v2, hv2⟩ : ∃ v', at1 v 2 5 = v' := ⟨_, rfl⟩
  obtain ⟨v3, hv3⟩ : ∃ v', at1 v2 1 n1 = v' := ⟨_, rfl⟩
  have k1 : v3 1 = n1 := by rw [← hv3]; exact at1_same _ _ _
  have k2 : v3 2 = 5 := by rw [← hv3, at1_other _ _ (by omega), ← hv2]; exact at1_same _ _ _
  have p0 : pB v3 0 g = 7 := by unfold pB; rw [if_pos rfl]
  have p5 : pB v3 5 g = 0 := by unfold pB; rw [if_neg (by omega), if_pos k2.symm, k1]; omega
  have HL1 := Lib.hid (p := ∀ w, Calls Try.prog 7 #[.agg (ncs v3).toArray, .int .u32 0, .int .u32 g, .int .i64 (q : Int)] w fun e w' => e = .returned (.bool true) ∧ Below w.heap.size w w') (fun w => by
    have h := may_any v3 0 g (q : Int) w
    rwa [p0, show ((q : Int) % 8).toNat = q by omega, show mayB q 7 = true from may_seven ⟨q, hq8⟩] at h)
  obtain ⟨t, ht⟩ : ∃ t, ((q : Int) == 0) = t := ⟨_, rfl⟩
  have ht2 : mayB q 0 = t := by
    rw [show mayB q 0 = (q == 0) from may_none ⟨q, hq8⟩, ← ht, Bool.eq_iff_iff]
    simp only [beq_iff_eq]
    omega
  have HL2 := Lib.hid (p := ∀ w, Calls Try.prog 7 #[.agg (ncs v3).toArray, .int .u32 5, .int .u32 g, .int .i64 (q : Int)] w fun e w' => e = .returned (.bool t) ∧ Below w.heap.size w w') (fun w => by
    have h := may_any v3 5 g (q : Int) w
    rwa [p5, show ((q : Int) % 8).toNat = q by omega, ht2] at h)
  have HS2 := Lib.hid (p := (ncs v).set 2 (.int .u32 5) = ncs v2) (by rw [ncs_set2, hv2])
  have HS1 := Lib.hid (p := (ncs v2).set 1 (.int .i64 n1) = ncs v3) (by rw [ncs_set1, hv3])
  have HC1 := Lib.hid (p := ∀ (w : World) (k : Nat), Row w k 26 (ncs v2) → w.cell? ⟨k, 1, none⟩ = some (.int .i64 (v 1))) (fun w k h => by rw [h.cell, ← hv2]; rfl)
  obtain ⟨n0, hn0⟩ : ∃ n, v 1 = n := ⟨_, rfl⟩
  rw [hn0] at HC1 hn1
  have H63 := Lib.hid ((i64_and63 n0).trans hn1)
  have HMAY := Lib.hid hmay
  have HQ := Lib.hid hq
  have HQ8 := Lib.hid hq8
  have HZ := Lib.hid hz
  have HL8 := Lib.hid hl
  have HT := Lib.hid ht
  have w1 : IntKind.i64.wrap (z : Int) = (z : Int) := by rw [IntKind.wrap_i64]; omega
  have W1 := Lib.hid w1
  clear hq hq8 hl hb hmay hv2 hv3 k1 k2 p0 p5 ht ht2 hn0 hn1 hz
  go_enter Try.func3, Try.ntmps3
  go_wp2_with (first
    | (refine step_box rfl 3 rfl 26 (.tmp 0) rfl (ncs v) rfl ?_; intro g2 w1 hr1 hg1 hb1 hs1
       have R1 := Lib.hid hr1
       have G2 := Lib.hid (p := w.heap.size ≤ g2) (by rw [hg1.out]; exact Nat.le_refl _)
       have B1 := Lib.hid hb1
       clear hr1 hg1 hb1 hs1)
    | (refine step_box rfl 4 rfl 27 (.tmp 1) rfl [.int .u32 u, .int .u32 g] rfl ?_; intro g3 w2 hr2 hg2 hb2 hs2
       have S2 := Lib.hid hr2
       have R2 := Lib.hid (R1.out.kept hb2)
       have B2 := Lib.hid (below_nxt hb2 B1.out)
       have N2 := Lib.hid (R2.out.ne_ S2.out (by decide))
       clear hr2 hg2 hb2 hs2)
    | (go_at_call 6; refine (awake_any _).mono ?_; rintro e w3 ⟨rfl, hb3⟩
       have S3 := Lib.hid (S2.out.kept hb3)
       have R3 := Lib.hid (R2.out.kept hb3)
       have B3 := Lib.hid (below_nxt hb3 B2.out)
       have w1 := W1.out
       clear hb3)
    | (refine wp_rem8 rfl _ _ _ _ rfl z q rfl HZ.out rfl HQ.out ?_))
  go_loopw [8] (fun l wr => ∃ k : Nat, Hid (k ≤ 8) ∧ l = .int .i64 (k : Int) ∧ Hid (Row wr g2 26 (ncs v)) ∧ Hid (Row wr g3 27 [.int .u32 u, .int .u32 g]) ∧ Hid (Below w.heap.size w wr)) (fun l _ => 8 - (intOf l).toNat)
  case atStart => exact ⟨0, Lib.hid (by omega), rfl, R3, S3, B3⟩
  case round =>
    clear w1 R1 R2 R3 S2 S3 B1 B2 B3
    obtain ⟨k, HK, rfl, HR, HS, HBW⟩ := hrel
    by_cases hk : k < 8
    · have hki : (k : Int) < 8 := by omega
      have hk0 : (0 : Int) ≤ (k : Int) := by omega
      have c0 : wr.cell? ⟨g3, 0, none⟩ = some (.int .u32 u) := by rw [HS.out.cell]; rfl
      have c1 : wr.cell? ⟨g3, 1, none⟩ = some (.int .u32 g) := by rw [HS.out.cell]; rfl
      have ha : bits .and .i64 (q : Int) (k : Int) = ((q &&& k : Nat) : Int) := and_nat HQ8.out hk
      by_cases he : q &&& k = k
      · have hx : bits .and .i64 (q : Int) (k : Int) = (k : Int) := by rw [ha, he]
        have HA := Lib.hid (fun w => HMAY.out q HQ8.out w)
        have HB := Lib.hid (fun w => HMAY.out k hk w)
        by_cases hm : mayB q b = true
        · have hn : mayB k b = true := less_nat HQ8.out hk HL8.out he hm
          rw [hm] at HA
          rw [hn] at HB
          clear ha he hm hn hk
          go_wp2_with (first
            | (refine step_load_g (by rfl) 24 rfl 26 (.tmp 3) rfl g2 rfl (ncs v) _ HR.out.all Try.underlying26 rfl (i1.out _) ?_)
            | (refine step_load_g (by rfl) 33 rfl 26 (.tmp 3) rfl g2 rfl (ncs v) _ R4.out.all Try.underlying26 rfl (i1.out _) ?_)
            | (go_at_call 7; refine (HA.out _).mono ?_; rintro e w4 ⟨rfl, hb4⟩
               have S4 := Lib.hid (HS.out.kept hb4)
               have R4 := Lib.hid (HR.out.kept hb4)
               have B4 := Lib.hid (below_nxt hb4 HBW.out)
               have c0 : w4.cell? ⟨g3, 0, none⟩ = some (.int .u32 u) := by rw [S4.out.cell]; rfl
               have c1 : w4.cell? ⟨g3, 1, none⟩ = some (.int .u32 g) := by rw [S4.out.cell]; rfl
               clear hb4 HA)
            | (go_at_call 7; refine (HB.out _).mono ?_; rintro e w5 ⟨rfl, hb5⟩
               have S5 := Lib.hid (S4.out.kept hb5)
               have R5 := Lib.hid (R4.out.kept hb5)
               have B5 := Lib.hid (below_nxt hb5 B4.out)
               clear hb5 HB))
          go_roundw
          case rel => exact ⟨k + 1, Lib.hid (by omega), by go_num, R5, S5, B5⟩
          case measure => simp [intOf]; omega
        · have hm2 : mayB q b = false := by simpa using hm
          rw [hm2] at HA
          clear ha he hm hm2 hk
          go_wp2_with (first
            | (refine step_load_g (by rfl) 24 rfl 26 (.tmp 3) rfl g2 rfl (ncs v) _ HR.out.all Try.underlying26 rfl (i1.out _) ?_)
            | (go_at_call 7; refine (HA.out _).mono ?_; rintro e w4 ⟨rfl, hb4⟩
               have S4 := Lib.hid (HS.out.kept hb4)
               have R4 := Lib.hid (HR.out.kept hb4)
               have B4 := Lib.hid (below_nxt hb4 HBW.out)
               clear hb4 HA))
          go_roundw
          case rel => exact ⟨k + 1, Lib.hid (by omega), by go_num, R4, S4, B4⟩
          case measure => simp [intOf]; omega
      · obtain ⟨y, hy⟩ : ∃ y : Nat, q &&& k = y := ⟨_, rfl⟩
        rw [hy] at ha he
        have hf : ((y : Int) == (k : Int)) = false := nat_neb he
        clear hy he hk
        go_wp2
        go_roundw
        case rel => exact ⟨k + 1, Lib.hid (by omega), by go_num, HR, HS, HBW⟩
        case measure => simp [intOf]; omega
    · obtain rfl : k = 8 := by have := HK.out; omega
      have h8 : ¬ ((8 : Nat) : Int) < 8 := by omega
      clear hk
      have c2 : wr.cell? ⟨g2, 2, none⟩ = some (.int .u32 (v 2)) := by rw [HR.out.cell]; rfl
      have f2 : wr.frozen? ⟨g2, 2, none⟩ = false := HR.out.free 2
      have HR2 := Lib.hid (p := Row (wr.setCell ⟨g2, 2, none⟩ (.int .u32 5)) g2 26 (ncs v2)) (by rw [← HS2.out]; exact HR.out.put 2 _)
      have HS2' := Lib.hid (HS.out.far (p := ⟨g2, 2, none⟩) (fun h => N2.out h.symm) (.int .u32 5))
      have HB2 := Lib.hid (p := Below w.heap.size w (wr.setCell ⟨g2, 2, none⟩ (.int .u32 5))) (HBW.out.setCell (by simpa using G2.out) _)
      go_upto_region 10 with (fail)
      generalize wr.setCell ⟨g2, 2, none⟩ (.int .u32 5) = wa at *
      clear c2 f2 HR HS HBW
      have c1 := HC1.out wa g2 HR2.out
      have f1 : wa.frozen? ⟨g2, 1, none⟩ = false := HR2.out.free 1
      have e63 := H63.out
      have HR3 := Lib.hid (p := Row (wa.setCell ⟨g2, 1, none⟩ (.int .i64 n1)) g2 26 (ncs v3)) (by rw [← HS1.out]; exact HR2.out.put 1 _)
      have HS3 := Lib.hid (HS2'.out.far (p := ⟨g2, 1, none⟩) (fun h => N2.out h.symm) (.int .i64 n1))
      have HB3 := Lib.hid (p := Below w.heap.size w (wa.setCell ⟨g2, 1, none⟩ (.int .i64 n1))) (HB2.out.setCell (by simpa using G2.out) _)
      go_upto_region 11 with (fail)
      generalize wa.setCell ⟨g2, 1, none⟩ (.int .i64 n1) = wb at *
      clear c1 f1 e63 HR2 HS2' HB2 h8
      have d1 : wb.cell? ⟨g3, 1, none⟩ = some (.int .u32 g) := by rw [HS3.out.cell]; rfl
      have e0 := HT.out
      go_wp2_with (first
        | (refine step_load rfl 47 rfl 26 (.tmp 3) rfl g2 rfl (ncs v3) _ HR3.out.all Try.underlying26 rfl (i1.out _) ?_)
        | (refine step_load_g (by rfl) 53 rfl 26 (.tmp 3) rfl g2 rfl (ncs v3) _ R4.out.all Try.underlying26 rfl (i1.out _) ?_)
        | (go_at_call 7; refine (HL1.out _).mono ?_; rintro e w4 ⟨rfl, hb4⟩
           have S4 := Lib.hid (HS3.out.kept hb4)
           have R4 := Lib.hid (HR3.out.kept hb4)
           have B4 := Lib.hid (below_nxt hb4 HB3.out)
           have d1 : w4.cell? ⟨g3, 1, none⟩ = some (.int .u32 g) := by rw [S4.out.cell]; rfl
           clear hb4 HL1)
        | (go_at_call 7; refine (HL2.out _).mono ?_; rintro e w5 ⟨rfl, hb5⟩
           have B5 := Lib.hid (below_nxt hb5 B4.out)
           clear hb5 HL2))
      go_ret
      exact ⟨rfl, B5.out⟩
end Go.Proofs.Ytnmcnnfmjfbokaa
