/- A block's four records, by the reference: the walk, for every block. No conditions. -/
import Derived.Test.YtibnmhaipogleaaDoorRUnp
import Derived.Deep.QuietTactic
set_option linter.unusedVariables false
set_option maxRecDepth 20000
namespace Go.Proofs.YtibnmhaipogleaaDoor
open Go.RowKit

/-- One round of the reading: a record's numbers and digest. -/
theorem unR_num (l : List UInt8) (k : Nat) : unR l k = ⟨(num ((l.drop (42 * k)).take 2) : Nat), num (((l.drop (42 * k)).drop 2).take 4), num (((l.drop (42 * k)).drop 6).take 4), fun i => (l.drop (42 * k)).getD (10 + i) 0⟩ := rfl
set_option maxHeartbeats 4000000 in
theorem runpack_any (ga oa c : Nat) (l : List UInt8) (hl : l.length = 256) (hc : 256 ≤ c) (hc2 : c ≤ 9223372036854775807) (w : World) (hA : Hol w (some ⟨ga, oa, none⟩) l) :
    Calls Tryd.prog 15 #[.slice (some ⟨ga, oa, none⟩) 256 c] w fun e w' => e = .returned (unV l) ∧ Below w.heap.size w w' := by
  have hz := Lib.hid zero_recs
  obtain ⟨C0, hC0⟩ : ∃ C0, C0 = recsC fun _ => rec0 := ⟨_, rfl⟩
  rw [← hC0] at hz
  have l0 := Lib.hid (p := C0.length = 140) (by rw [hC0, recsC_len])
  have one0 := Lib.hid (p := ∀ v ∈ C0, v.oneCell' = true) (by rw [hC0]; exact recsC_one _)
  have i0 := Lib.hid (p := (Tryd.prog.info? 27).map (·.size) = some C0.length) (by rw [l0.out]; exact info_recs)
  have i35 := Lib.hid (p := ∀ r : RecV, (Tryd.prog.info? 26).map (·.size) = some r.cs.length) (fun r => by rw [r.cs_len]; exact info_rec)
  have HA := Lib.hid hA
  have HL := Lib.hid hl
  have HC := Lib.hid hc
  have HC2 := Lib.hid hc2
  have HC0 := Lib.hid hC0
  clear hA hl hC0 hc hc2
  go_enter Tryd.func15, Tryd.ntmps15
  go_wp2_with (first
    | (refine step_alloc rfl 2 rfl 27 rfl _ hz ?_; intro g2 w2 hr2 hg2 hb2 hs2)
    | (refine step_alloc rfl 4 rfl 27 rfl _ hz ?_; intro g4 w4 hr4 hg4 hb4 hs4)
    | (refine step_alloc rfl 5 rfl 27 rfl _ hz ?_; intro g5 w5 hr5 hg5 hb5 hs5
       have RU5 := Lib.hid (p := RU w w5 g2 g4 g5 C0 C0) ⟨(hr2.kept hb4).kept hb5, hr4.kept hb5, hr5, ⟨by have := hr2.lt; have := hg4.out; omega, by have := hr4.lt; have := hg5.out; omega⟩, by rw [hg2.out]; exact Nat.le_refl _, (hb2.trans (hb4.mono hb2.size)).trans (hb5.mono (Nat.le_trans hb2.size hb4.size))⟩
       clear hr2 hg2 hb2 hs2 hr4 hg4 hb4 hs4 hr5 hg5 hb5 hs5))
  go_loopw [6] (fun x wr => ∃ k : Nat, 168 ≤ k ∧ k ≤ 256 ∧ x = .int .i64 (k : Int) ∧ Hid (∀ j, 168 ≤ j → j < k → l.getD j 0 = 0) ∧ Hid (RU w wr g2 g4 g5 C0 C0)) (fun x _ => 256 - (intOf x).toNat)
  case atStart => exact ⟨168, by omega, by omega, rfl, Lib.hid (fun j h1 h2 => by omega), RU5⟩
  case round =>
    clear RU5
    obtain ⟨k, hk1, hk2, rfl, HZ, HU⟩ := hrel
    by_cases h256 : k < 256
    · have hki : (k : Int) < 256 := by omega
      have hk0 : (0 : Int) ≤ (k : Int) := by omega
      obtain ⟨x, hx⟩ : ∃ x, x = l.getD k 0 := ⟨_, rfl⟩
      have ck : wr.cell? ⟨ga, oa + k, none⟩ = some (B x) := by
        obtain ⟨g', o', e, hcell⟩ := (HA.out.below HU.out.b).some_ (by rw [HL.out]; omega)
        obtain ⟨_, hcell⟩ := hcell
        injection e with e
        injection e with e1 e2
        subst e1 e2
        have hkl : k < l.length := by rw [HL.out]; exact h256
        have h9 := hcell k l[k] (List.getElem?_eq_getElem hkl)
        rw [hx, List.getD_eq_getElem?_getD, List.getElem?_eq_getElem hkl]
        exact h9
      have HX := Lib.hid hx
      have HK := Lib.hid h256
      have HK1 := Lib.hid hk1
      clear hx h256 hk1 hk2
      by_cases hx0 : x = 0
      · have hne : (bv x != 0) = false := by rw [hx0]; rfl
        have HX0 := Lib.hid hx0
        clear hx0
        go_wp2
        go_roundw
        case rel => exact ⟨k + 1, by have := HK1.out; omega, HK.out, by go_num, Lib.hid (fun j h1 h2 => by
          by_cases e : j = k
          · rw [e, ← HX.out, HX0.out]
          · exact HZ.out j h1 (by omega)), HU⟩
        case measure => have := HK.out; simp [intOf]; omega
      · have hne : (bv x != 0) = true := by
          have h9 : ¬ bv x = 0 := fun e => hx0 ((bv_eq x 0).1 e)
          simpa using h9
        have hbad : unOk l = false := by
          by_cases hm : ∀ k, k < 4 → (unR l k).may = true
          · rw [unOk_not hm]
            refine decide_eq_false fun h => hx0 ?_
            rw [HX.out]
            exact (pk_eq l HL.out).1 h k HK1.out HK.out
          · cases h' : unOk l
            · rfl
            · exact absurd (unOk_may h') hm
        have HBad := Lib.hid hbad
        clear hx0 hbad
        go_wp2_with (first
          | (refine step_load rfl 23 rfl 27 (.tmp 4) rfl g4 rfl C0 _ HU.out.r4.all Tryd.underlying27 rfl i0.out ?_)
          | (refine step_store rfl 27 (.tmp 2) (.tmp 23) rfl g2 (by rfl) _ C0 C0 (by rfl) HU.out.r2 rfl i0.out one0.out ?_; intro w9 hr9 hg9 hs9))
        refine bodyPost_ret (results_row_tmp rfl _ _ g2 _ _ _ _ rfl hr9 Tryd.underlying27 rfl (by simpa using i0.out)) rfl ?_
        refine ⟨?_, HU.out.b.grown hg9 HU.out.b.size (fun q hq => by injection hq with hq; subst hq; exact HU.out.q)⟩
        unfold unV
        rw [HBad.out, if_neg (by decide), if_neg (by decide), ← HC0.out]
        rfl
    · obtain rfl : k = 256 := by omega
      have HZ' := Lib.hid (p := lst 256 (pk (unR l)) = l) ((pk_eq l HL.out).2 (fun j h1 h2 => HZ.out j h1 h2))
      clear HZ
      have HU' := Lib.hid (p := RU w wr g2 g4 g5 C0 (recsC (upR (unR l) 0))) (by rw [upR_zero, ← HC0.out]; exact HU.out)
      clear HU
      go_wp2
      go_loopw [7] (fun x wr => ∃ k : Nat, k ≤ 4 ∧ x = .int .i64 (k : Int) ∧ Hid (∀ j, j < k → (unR l j).may = true) ∧ Hid (RU w wr g2 g4 g5 C0 (recsC (upR (unR l) k)))) (fun x _ => 4 - (intOf x).toNat)
      case atStart => exact ⟨0, by omega, rfl, Lib.hid (fun j h => by omega), HU'⟩
      case round =>
        clear HU'
        obtain ⟨k, hk4, rfl, HM, HU⟩ := hrel
        by_cases h4 : k < 4
        · have hki : (k : Int) < 4 := by omega
          have hk0 : (0 : Int) ≤ (k : Int) := by omega
          have e42 : IntKind.i64.wrap (42 * (k : Int)) = 42 * (k : Int) := by rw [IntKind.wrap_i64]; omega
          have e84 : IntKind.i64.wrap (42 * (k : Int) + 42) = 42 * (k : Int) + 42 := by rw [IntKind.wrap_i64]; omega
          have HK := Lib.hid h4
          clear h4 hk4
          obtain ⟨M, hM⟩ : ∃ M, M = l.drop (42 * k) := ⟨_, rfl⟩
          have HML := Lib.hid (p := 42 ≤ M.length) (by rw [hM, List.length_drop, HL.out]; have := HK.out; omega)
          have HMH := Lib.hid (p := ∀ W, Below w.heap.size w W → Hol W (some ⟨ga, oa + 42 * k, none⟩) M) (fun W hb => by
            have h9 := hol_sub (HA.out.below hb) (42 * k) 256
            rw [← hM, List.take_of_length_le (by rw [hM, List.length_drop, HL.out]; omega)] at h9
            exact h9)
          obtain ⟨a, ha⟩ : ∃ a, a = num (M.take 2) := ⟨_, rfl⟩
          obtain ⟨e, he⟩ : ∃ e, e = num ((M.drop 2).take 4) := ⟨_, rfl⟩
          obtain ⟨s, hs⟩ : ∃ s, s = num ((M.drop 6).take 4) := ⟨_, rfl⟩
          have ba : a < 65536 := by rw [ha]; exact num_take_lt M 2
          have be : e < 4294967296 := by rw [he]; exact num_take_lt (M.drop 2) 4
          have bs : s < 4294967296 := by rw [hs]; exact num_take_lt (M.drop 6) 4
          have wa : IntKind.i64.wrap (a : Int) = (a : Int) := by rw [IntKind.wrap_i64]; omega
          have we : IntKind.u32.wrap (e : Int) = (e : Int) := by rw [IntKind.wrap_u32']; omega
          have ws : IntKind.u32.wrap (s : Int) = (s : Int) := by rw [IntKind.wrap_u32']; omega
          have we' : (e : Int) % 4294967296 = (e : Int) := by omega
          have ws' : (s : Int) % 4294967296 = (s : Int) := by omega
          have HRk := Lib.hid (p := (unR l k).cs = RecV.cs ⟨(a : Int), e, s, fun i => M.getD (10 + i) 0⟩) (by rw [unR_num, ← hM, ha, he, hs])
          have HAn := Lib.hid ha
          have HEn := Lib.hid he
          have HSn := Lib.hid hs
          obtain ⟨cc, hcc⟩ : ∃ cc, c - 42 * k = cc := ⟨_, rfl⟩
          have HCC := Lib.hid hcc
          have HCB := Lib.hid (p := 42 ≤ cc ∧ (cc : Int) ≤ 9223372036854775807) (by have h1 := HC.out; have h2 := HK.out; have h3 := HC2.out; omega)
          have hup := Lib.hid (p := Tryd.prog.underlying 29 = some (.slice (Tryd.prog.elem 29))) (by kernel_rfl)
          have hsp := Lib.hid (p := (Tryd.prog.info? (Tryd.prog.elem 29)).map (·.size) = some 1) (by kernel_rfl)
          have HU0 := Lib.hid (p := RU w wr g2 g4 g5 C0 (recsC (stR (unR l) k rec0))) (by rw [← stR_start]; exact HU.out)
          clear ha he hs ba be bs hcc HU hM
          obtain ⟨po, hpo⟩ : ∃ po, po = oa + 42 * k := ⟨_, rfl⟩
          rw [← hpo] at HMH
          have HPO := Lib.hid hpo
          clear hpo
          have c0 : wr.cell? ⟨g5, k * 35, none⟩ = some (.int .i64 0) := stR_get HU0.out.r5 HK.out 0 _ rfl
          have f0 := HU0.out.r5.free (k * 35)
          have hcc2 : ¬ cc = 2 := by have := HCB.out.1; omega
          have hcc6 : ¬ cc = 6 := by have := HCB.out.1; omega
          go_wp2_with (first
            | (refine step_cut2 rfl 29 (.tmp 28) (.tmp 30) (.tmp 33) rfl ga oa 256 c (42 * k) (42 * k + 42) 42 cc _ _ rfl rfl rfl (by omega) (by omega) (by omega) (by have h1 := HC.out; have h2 := HK.out; omega) (by have h1 := HC.out; have h2 := HK.out; omega) (by omega) HCC.out hup.out hsp.out ?_; rw [← HPO.out])
            | (go_at_call_of 34 (Value.int IntKind.i64 2); refine (rnum_of (some ⟨ga, po, none⟩) 42 cc 2 (M.take 2) (by have := HML.out; simp; omega) (by omega) wr ((HMH.out wr HU0.out.b).take_ 2) (by omega)).mono ?_; rintro x3 w3 ⟨rfl, hw3⟩; obtain rfl := hw3; rw [← HAn.out]))
          have HU1 := Lib.hid (HU0.out.put (k * 35) (.int .i64 (a : Int)) (recsC (stR (unR l) k ⟨(a : Int), 0, 0, fun _ => 0⟩)) (stR_cell _ k 0 HK.out (by omega) _ rec0 ⟨(a : Int), 0, 0, fun _ => 0⟩ rfl))
          clear c0 f0 HU0
          generalize wr.setCell ⟨g5, k * 35, none⟩ (.int .i64 (a : Int)) = w1 at *
          refine (rnum_of (some ⟨ga, po + 2, none⟩) 40 (cc - 2) 4 ((M.drop 2).take 4) (by have := HML.out; simp; omega) (by omega) w1 (hol_sub (HMH.out w1 HU1.out.b) 2 4) (by omega)).mono ?_
          rintro x5 w5' ⟨rfl, hw5⟩
          obtain rfl := hw5
          rw [← HEn.out]
          have c1 : w1.cell? ⟨g5, k * 35 + 1, none⟩ = some (.int .u32 0) := stR_get HU1.out.r5 HK.out 1 _ rfl
          have f1 := HU1.out.r5.free (k * 35 + 1)
          go_wp2_with fail
          have HU2 := Lib.hid (HU1.out.put (k * 35 + 1) (.int .u32 (e : Int)) (recsC (stR (unR l) k ⟨(a : Int), e, 0, fun _ => 0⟩)) (stR_cell _ k 1 HK.out (by omega) _ ⟨(a : Int), 0, 0, fun _ => 0⟩ ⟨(a : Int), e, 0, fun _ => 0⟩ rfl))
          clear c1 f1 HU1
          generalize w1.setCell ⟨g5, k * 35 + 1, none⟩ (.int .u32 (e : Int)) = w2' at *
          refine (rnum_of (some ⟨ga, po + 6, none⟩) 36 (cc - 6) 4 ((M.drop 6).take 4) (by have := HML.out; simp; omega) (by omega) w2' (hol_sub (HMH.out w2' HU2.out.b) 6 4) (by omega)).mono ?_
          rintro x6 w6' ⟨rfl, hw6⟩
          obtain rfl := hw6
          rw [← HSn.out]
          have c2 : w2'.cell? ⟨g5, k * 35 + 2, none⟩ = some (.int .u32 0) := stR_get HU2.out.r5 HK.out 2 _ rfl
          have f2 := HU2.out.r5.free (k * 35 + 2)
          go_wp2_with fail
          have HU3 := Lib.hid (HU2.out.put (k * 35 + 2) (.int .u32 (s : Int)) (recsC (stR (unR l) k ⟨(a : Int), e, s, fun _ => 0⟩)) (stR_cell _ k 2 HK.out (by omega) _ ⟨(a : Int), e, 0, fun _ => 0⟩ ⟨(a : Int), e, s, fun _ => 0⟩ rfl))
          clear c2 f2 HU2
          generalize w2'.setCell ⟨g5, k * 35 + 2, none⟩ (.int .u32 (s : Int)) = w3' at *
          obtain ⟨D, hD⟩ : ∃ D : Nat → UInt8, D = fun i => M.getD (10 + i) 0 := ⟨_, rfl⟩
          rw [← hD] at HRk
          have HDD := Lib.hid hD
          clear hD
          go_loopw [9] (fun x wr2 => ∃ j : Nat, j ≤ 32 ∧ x = .int .i64 (j : Int) ∧ Hid (RU w wr2 g2 g4 g5 C0 (recsC (stR (unR l) k ⟨(a : Int), e, s, upto j D fun _ => 0⟩)))) (fun x _ => 32 - (intOf x).toNat)
          case atStart => exact ⟨0, by omega, rfl, Lib.hid (by rw [upto_zero]; exact HU3.out)⟩
          case round =>
            clear HU3
            obtain ⟨j, hj, rfl, HU⟩ := hrel
            by_cases h32 : j < 32
            · have hji : (j : Int) < 32 := by omega
              have hj0 : (0 : Int) ≤ (j : Int) := by omega
              have HJ := Lib.hid h32
              obtain ⟨m, hm⟩ : ∃ m, m = 10 + j := ⟨_, rfl⟩
              have hm1 : IntKind.i64.wrap (10 + (j : Int)) = (m : Int) := by rw [IntKind.wrap_i64, hm]; omega
              have hm2 : 10 + (j : Int) = (m : Int) := by rw [hm]; omega
              have hm3 : (m : Int) < 42 := by omega
              obtain ⟨x, hx⟩ : ∃ x, x = D j := ⟨_, rfl⟩
              have cs1 : wr.cell? ⟨ga, po + m, none⟩ = some (B x) := by
                obtain ⟨g', o', e', hcell⟩ := (HMH.out wr HU.out.b).some_ (by have := HML.out; omega)
                obtain ⟨_, hcell⟩ := hcell
                injection e' with e'
                injection e' with e1 e2
                subst e1 e2
                have hml : m < M.length := by have := HML.out; omega
                have h9 := hcell m M[m] (List.getElem?_eq_getElem hml)
                rw [hx, HDD.out]
                show _ = some (B (M.getD (10 + j) 0))
                rw [← hm, List.getD_eq_getElem?_getD, List.getElem?_eq_getElem hml]
                exact h9
              have cd1 : wr.cell? ⟨g5, k * 35 + 3 + j, none⟩ = some (B 0) := by
                have h9 := stR_get HU.out.r5 HK.out (3 + j) (B 0) (by
                  unfold RecV.cs
                  rw [List.getElem?_append_right (by simp), show 3 + j - [Value.int IntKind.i64 (a : Int), Value.int IntKind.u32 (e : Int), Value.int IntKind.u32 (s : Int)].length = j by simp, brr_get _ h32]
                  show some (B (upto j D (fun _ => 0) j)) = _
                  rw [upto_self])
                rwa [← Nat.add_assoc] at h9
              have fd1 := HU.out.r5.free (k * 35 + 3 + j)
              have HXD := Lib.hid hx
              have HMM := Lib.hid hm
              clear hx hm h32 hj
              go_wp2
              go_region
              go_wp2
              have HU9 := Lib.hid (p := RU w ((wr.setCell ⟨g5, k * 35 + 3 + j, none⟩ (B x))).drew g2 g4 g5 C0 (recsC (stR (unR l) k ⟨(a : Int), e, s, upto (j + 1) D fun _ => 0⟩))) ((HU.out.put (k * 35 + 3 + j) (B x) _ (by
                rw [Nat.add_assoc]
                exact stR_cell _ k (3 + j) HK.out (by have := HJ.out; omega) _ _ ⟨(a : Int), e, s, upto (j + 1) D fun _ => 0⟩ (by rw [RecV.set_sum, HXD.out, upto_step]))).drewN 1)
              go_roundw
              case rel => exact ⟨j + 1, HJ.out, by go_num, HU9⟩
              case measure => have := HJ.out; simp [intOf]; omega
            · obtain rfl : j = 32 := by omega
              have HU9 := Lib.hid (p := RU w wr g2 g4 g5 C0 (recsC (upR (unR l) (k + 1)))) (by
                have h9 := HU.out
                rw [stR_end (unR l) k (r := ⟨(a : Int), e, s, upto 32 D fun _ => 0⟩) (by
                  rw [HRk.out]
                  unfold RecV.cs
                  show _ ++ brr 32 (upto 32 D fun _ => 0) = _ ++ brr 32 D
                  rw [upto_all])] at h9
                exact h9)
              have HRg := Lib.hid (p := wr.rangeAt g5 (k * 35) (unR l k).cs) (by
                have h9 := recs_range HU9.out.r5 k HK.out
                have e9 : upR (unR l) (k + 1) k = unR l k := if_pos (by omega)
                rwa [e9] at h9)
              clear HU hj h32
              cases hmy : (unR l k).may
              · have HBad := Lib.hid (unOk_bad HK.out hmy)
                have HMy := Lib.hid hmy
                clear hmy
                go_wp2_with (first
                  | (refine wpList_load_mid rfl 26 (.tmp 70) rfl g5 (k * 35) (by rfl) (unR l k).cs _ HRg.out Tryd.underlying26 rfl (i35.out _) ?_)
                  | (go_at_call 27; refine (rmay_any (unR l k) _).mono ?_; rintro e8 w8 ⟨rfl, hb8⟩; rw [HMy.out]
                     have HU8 := Lib.hid (HU9.out.kept hb8)
                     clear hb8)
                  | (refine step_load rfl 74 rfl 27 (.tmp 4) rfl g4 rfl C0 _ HU8.out.r4.all Tryd.underlying27 rfl i0.out ?_)
                  | (refine step_store rfl 27 (.tmp 2) (.tmp 74) rfl g2 (by rfl) _ C0 C0 (by rfl) HU8.out.r2 rfl i0.out one0.out ?_; intro w9 hr9 hg9 hs9))
                refine bodyPost_ret (results_row_tmp rfl _ _ g2 _ _ _ _ rfl hr9 Tryd.underlying27 rfl (by simpa using i0.out)) rfl ?_
                refine ⟨?_, HU8.out.b.grown hg9 HU8.out.b.size (fun q hq => by injection hq with hq; subst hq; exact HU8.out.q)⟩
                unfold unV
                rw [HBad.out, if_neg (by decide), if_neg (by decide), ← HC0.out]
                rfl
              · have HMy := Lib.hid hmy
                clear hmy
                go_wp2_with (first
                  | (refine wpList_load_mid rfl 26 (.tmp 70) rfl g5 (k * 35) (by rfl) (unR l k).cs _ HRg.out Tryd.underlying26 rfl (i35.out _) ?_)
                  | (go_at_call 27; refine (rmay_any (unR l k) _).mono ?_; rintro e8 w8 ⟨rfl, hb8⟩; rw [HMy.out]
                     have HU8 := Lib.hid (HU9.out.kept hb8)
                     clear hb8))
                go_roundw
                case rel =>
                  have HM9 := Lib.hid (p := ∀ j, j < k + 1 → (unR l j).may = true) (fun j hj => by
                    by_cases e : j = k
                    · rw [e]; exact HMy.out
                    · exact HM.out j (by omega))
                  have hk9 : k + 1 ≤ 4 := HK.out
                  repeat apply Exists.intro
                  apply And.intro ?ra ?rb
                  case rb => exact rfl
                  case ra => exact ⟨k + 1, hk9, by go_num, HM9, HU8⟩
                case measure => have := HK.out; simp [intOf]; omega
        · obtain rfl : k = 4 := by omega
          obtain ⟨CR, hCR⟩ : ∃ CR, CR = recsC (unR l) := ⟨_, rfl⟩
          have HU4 := Lib.hid (p := RU w wr g2 g4 g5 C0 CR) (by have h9 := HU.out; rw [upR_all, ← hCR] at h9; exact h9)
          have iR := Lib.hid (p := (Tryd.prog.info? 27).map (·.size) = some CR.length) (by rw [hCR, recsC_len]; exact info_recs)
          have lR := Lib.hid (p := CR.length = 140) (by rw [hCR, recsC_len])
          have oneR := Lib.hid (p := ∀ v ∈ CR, v.oneCell' = true) (by rw [hCR]; exact recsC_one _)
          have HCR := Lib.hid hCR
          have HOk := Lib.hid (p := unOk l = true) (by rw [unOk_not (fun j hj => HM.out j hj)]; exact decide_eq_true HZ'.out)
          clear HU hCR h4 hk4
          go_wp2_with (first
            | (refine step_load rfl 75 rfl 27 (.tmp 5) rfl g5 rfl CR _ HU4.out.r5.all Tryd.underlying27 rfl iR.out ?_)
            | (refine step_store rfl 27 (.tmp 2) (.tmp 75) rfl g2 (by rfl) _ C0 CR (by rfl) HU4.out.r2 (by rw [l0.out, lR.out]) iR.out oneR.out ?_; intro w9 hr9 hg9 hs9))
          refine bodyPost_ret (results_row_tmp rfl _ _ g2 _ _ _ _ rfl hr9 Tryd.underlying27 rfl (by simpa using iR.out)) rfl ?_
          refine ⟨?_, HU4.out.b.grown hg9 HU4.out.b.size (fun q hq => by injection hq with hq; subst hq; exact HU4.out.q)⟩
          unfold unV
          rw [HOk.out, if_pos rfl, if_pos rfl, ← HCR.out]
          rfl
end Go.Proofs.YtibnmhaipogleaaDoor
