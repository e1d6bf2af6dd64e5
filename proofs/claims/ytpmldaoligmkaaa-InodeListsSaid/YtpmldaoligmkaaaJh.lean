/- The reference's list of a block. Conditions: those named. -/
import Derived.Test.YtpmldaoligmkaaaJg
set_option linter.unusedVariables false
set_option maxRecDepth 20000
namespace Go.Proofs.Ytpmldaoligmkaaa
open Go.RowKit

theorem upL_more (L : List UInt8) (k : Nat) (h : 112 ≤ k) : inl 112 (upL L (k + 1)) = inl 112 (upL L k) := inl_congr fun j hj => by
  unfold upL
  rw [if_pos (by omega), if_pos (by omega)]
theorem upL_128 (L : List UInt8) : inl 112 (upL L 128) = inl 112 (rd s2 L) := inl_congr fun j hj => by unfold upL; rw [if_pos (by omega)]
set_option maxHeartbeats 4000000 in
theorem runpacklist_any (A0 : Option Addr) (n cb : Nat) (L : List UInt8) (hn : L.length = n) (hcap : n ≤ cb) (hlen : cb < 9223372036854775808) (w : World) (hA : Hol w A0 L) :
    Calls Try.prog 18 #[.slice A0 n cb] w fun e w' => e = .returned (lV L) ∧ Below w.heap.size w w' := by
  have i1 := Lib.hid (fun f => info_inl f)
  have hz := Lib.hid zero_112
  by_cases h256 : n = 256
  · subst h256
    obtain ⟨ga, oa, rfl⟩ : ∃ ga oa, A0 = some ⟨ga, oa, none⟩ := by
      rcases hA with rfl | ⟨g, off, rfl, _⟩
      · simp at hn
      · exact ⟨g, off, rfl⟩
    have HA := Lib.hid hA
    have HL := Lib.hid hn
    have HCB := Lib.hid (p := 256 ≤ cb ∧ cb < 9223372036854775808) ⟨hcap, hlen⟩
    have hup := Lib.hid (p := Try.prog.underlying 28 = some (.slice (Try.prog.elem 28))) (by kernel_rfl)
    have hsp := Lib.hid (p := (Try.prog.info? (Try.prog.elem 28)).map (·.size) = some 1) (by kernel_rfl)
    have HIF := Lib.hid (lOk_iff L hn)
    clear hA hn hcap hlen
    go_enter Try.func18, Try.ntmps18
    go_wp2_with (first
      | (refine step_alloc rfl 2 rfl 37 rfl _ hz.out ?_; intro g2 w2 hr2 hg2 hb2 hs2
         have R2 := Lib.hid hr2
         have HB2 := Lib.hid hb2
         have Q2 := Lib.hid (p := w.heap.size ≤ g2) (by rw [hg2.out]; exact Nat.le_refl _)
         clear hr2 hb2 hg2 hs2)
      | (refine step_alloc rfl 4 rfl 37 rfl _ hz.out ?_; intro g4 w4 hr4 hg4 hb4 hs4
         have R4 := Lib.hid hr4
         have R24 := Lib.hid (R2.out.kept hb4)
         have HB4 := Lib.hid (below_nxt hb4 HB2.out)
         have N24 := Lib.hid (p := g2 < g4) (by rw [hg4.out]; exact R2.out.lt)
         clear hr4 hb4 hg4 hs4)
      | (refine step_alloc rfl 5 rfl 37 rfl _ hz.out ?_; intro g5 w5 hr5 hg5 hb5 hs5
         have R5 := Lib.hid hr5
         have R45 := Lib.hid (R4.out.kept hb5)
         have R25 := Lib.hid (R24.out.kept hb5)
         have HB5 := Lib.hid (below_nxt hb5 HB4.out)
         have N45 := Lib.hid (p := g4 < g5) (by rw [hg5.out]; exact R4.out.lt)
         clear hr5 hb5 hg5 hs5))
    have R5' := Lib.hid (p := Row w5 g5 37 (inl 112 (upL L 0))) (by rw [upL_zero]; exact R5.out)
    go_loopw [6] (fun x wr => ∃ k : Nat, Hid (k ≤ 128) ∧ x = .int .i64 (k : Int) ∧ Hid (∀ j, j < k → rdn s2 L j ≤ 255 ∧ (112 ≤ j → rdn s2 L j = 0)) ∧ Hid (Row wr g5 37 (inl 112 (upL L k))) ∧ Hid (Row wr g4 37 (inl 112 ino0)) ∧ Hid (Row wr g2 37 (inl 112 ino0)) ∧ Hid (Below w.heap.size w wr)) (fun x _ => 128 - (intOf x).toNat)
    case atStart => exact ⟨0, Lib.hid (by omega), rfl, Lib.hid (fun j h => by omega), R5', R45, R25, HB5⟩
    case round =>
      clear R5' R45 R25 HB5 R5 HB4 HB2 R2 R4 R24
      obtain ⟨k, HK, rfl, HG, R5, R4, R2, HB⟩ := hrel
      have hkw : IntKind.i64.wrap ((k : Int) + 1) = (k : Int) + 1 := by rw [IntKind.wrap_i64]; have := HK.out; omega
      by_cases hk : k < 128
      · have hki : (k : Int) < 128 := by omega
        have hk0 : (0 : Int) ≤ (k : Int) := by omega
        obtain ⟨p, hp⟩ : ∃ p, 2 * k = p := ⟨_, rfl⟩
        have hpw : IntKind.i64.wrap (2 * (k : Int)) = (p : Int) := by rw [IntKind.wrap_i64]; omega
        obtain ⟨m1, hm1⟩ : ∃ m1, 256 - p = m1 := ⟨_, rfl⟩
        obtain ⟨cc, hcc⟩ : ∃ cc, cb - p = cc := ⟨_, rfl⟩
        have HPC := Lib.hid (p := p ≤ 256 ∧ p < cb ∧ 256 - p = m1 ∧ cb - p = cc) ⟨by omega, by have := HCB.out; omega, hm1, hcc⟩
        have HPS := Lib.hid (p := p + 2 ≤ 256 ∧ 256 - p ≤ m1) ⟨by omega, by omega⟩
        obtain ⟨x, hx⟩ : ∃ x, rdn s2 L k = x := ⟨_, rfl⟩
        have HX := Lib.hid (p := num ((L.drop p).take 2) = x) (by rw [← hx, ← hp]; unfold rdn; rw [off_s2]; rfl)
        have bx : x < 65536 := by rw [← hx]; exact rdn_lt s2 L k
        have wx : IntKind.i64.wrap (x : Int) = (x : Int) := by rw [IntKind.wrap_i64]; omega
        have HKL := Lib.hid hk
        have HNUM : Hid (Calls Try.prog 32 #[.slice (some ⟨ga, oa + p, none⟩) m1 cc, .int .i64 2] wr fun e w' => e = .returned (.int .u64 (x : Int)) ∧ wr = w') := Lib.hid (by
          have h := rnum_cut ga oa m1 cc 0 2 L HL.out p HPS.out.1 (by omega) HPS.out.2 wr (HA.out.below HB.out)
          rwa [HX.out] at h)
        have HXK := Lib.hid hx
        clear hk hp hm1 hcc hx bx
        by_cases h255 : 255 < x
        · have hxi : (255 : Int) < (x : Int) := by omega
          have HU := Lib.hid (p := lOk L = false) (by
            cases h : lOk L
            · rfl
            · have := (HIF.out.1 h k HKL.out).1
              rw [HXK.out] at this
              omega)
          clear h255
          go_wp2_with (first
            | (refine step_cut1 rfl 28 (.tmp 16) (.tmp 18) rfl ga oa 256 cb p m1 cc _ rfl rfl rfl HPC.out.1 HPC.out.2.1 HPC.out.2.2.1 HPC.out.2.2.2 hup.out hsp.out ?_)
            | (go_at_call 32; refine HNUM.out.mono ?_; rintro e w' ⟨rfl, hww⟩; obtain rfl := hww)
            | (refine step_load rfl 32 rfl 37 (.tmp 4) rfl g4 rfl (inl 112 ino0) _ R4.out.all Try.underlying37 rfl (i1.out _) ?_)
            | (refine step_store rfl 37 (.tmp 2) (.tmp 32) rfl g2 (by rfl) _ (inl 112 ino0) (inl 112 ino0) (by rfl) R2.out rfl (i1.out _) (inl_one _ _) ?_; intro w9 hr9 hg9 hs9))
          refine bodyPost_ret (results_row_tmp rfl _ _ g2 _ _ _ _ rfl hr9 Try.underlying37 rfl (by simpa using i1.out ino0)) rfl ?_
          exact ⟨by rw [lV_bad HU.out]; rfl, HB.out.grown hg9 HB.out.size (fun q hq => by injection hq with hq; subst hq; exact Q2.out)⟩
        · have hxi : ¬ (255 : Int) < (x : Int) := by omega
          have hx255 : x ≤ 255 := by omega
          by_cases h112 : k < 112
          · have h1i : (k : Int) < 112 := by omega
            have h1g : ¬ (112 : Int) ≤ (k : Int) := by omega
            have c5 : wr.cell? ⟨g5, k, none⟩ = some (.int .i64 (upL L k k)) := by rw [R5.out.cell, inl_get _ h112]
            have f5 := R5.out.free k
            have R5b := Lib.hid (p := Row (wr.setCell ⟨g5, k, none⟩ (.int .i64 (x : Int))) g5 37 (inl 112 (upL L (k + 1)))) (by rw [← upL_step L k h112]; unfold rd; rw [HXK.out]; exact R5.out.put _ _)
            have HG2 := Lib.hid (p := ∀ j, j < k + 1 → rdn s2 L j ≤ 255 ∧ (112 ≤ j → rdn s2 L j = 0)) (fun j hj => by
              by_cases e : j = k
              · subst e
                rw [HXK.out]
                exact ⟨hx255, fun h => by omega⟩
              · exact HG.out j (by omega))
            clear h255 hx255 h112
            go_wp2_with (first
              | (refine step_cut1 rfl 28 (.tmp 16) (.tmp 18) rfl ga oa 256 cb p m1 cc _ rfl rfl rfl HPC.out.1 HPC.out.2.1 HPC.out.2.2.1 HPC.out.2.2.2 hup.out hsp.out ?_)
              | (go_at_call 32; refine HNUM.out.mono ?_; rintro e w' ⟨rfl, hww⟩; obtain rfl := hww))
            go_roundw
            case rel => exact ⟨k + 1, Lib.hid HKL.out, by go_num, HG2, R5b, Lib.hid (R4.out.far (p := ⟨g5, k, none⟩) (show g4 ≠ g5 by have := N45.out; omega) _), Lib.hid (R2.out.far (p := ⟨g5, k, none⟩) (show g2 ≠ g5 by have := N45.out; have := N24.out; omega) _), Lib.hid (HB.out.setCell (p := ⟨g5, k, none⟩) (show w.heap.size ≤ g5 by have := N45.out; have := N24.out; have := Q2.out; omega) _)⟩
            case measure => have := HKL.out; simp [intOf]; omega
          · have h1i : ¬ (k : Int) < 112 := by omega
            have h1g : (112 : Int) ≤ (k : Int) := by omega
            have H112 := Lib.hid (p := 112 ≤ k) (by omega)
            by_cases hx0 : x = 0
            · subst hx0
              have HG2 := Lib.hid (p := ∀ j, j < k + 1 → rdn s2 L j ≤ 255 ∧ (112 ≤ j → rdn s2 L j = 0)) (fun j hj => by
                by_cases e : j = k
                · subst e
                  rw [HXK.out]
                  exact ⟨by omega, fun h => rfl⟩
                · exact HG.out j (by omega))
              clear h255 hx255 h112 hxi wx
              go_wp2_with (first
                | (refine step_cut1 rfl 28 (.tmp 16) (.tmp 18) rfl ga oa 256 cb p m1 cc _ rfl rfl rfl HPC.out.1 HPC.out.2.1 HPC.out.2.2.1 HPC.out.2.2.2 hup.out hsp.out ?_)
                | (go_at_call 32; refine HNUM.out.mono ?_; rintro e w' ⟨rfl, hww⟩; obtain rfl := hww))
              go_roundw
              case rel => exact ⟨k + 1, Lib.hid HKL.out, by go_num, HG2, Lib.hid (by rw [upL_more L k H112.out]; exact R5.out), R4, R2, HB⟩
              case measure => have := HKL.out; simp [intOf]; omega
            · have hxp : (0 : Int) < (x : Int) := by omega
              have HU := Lib.hid (p := lOk L = false) (by
                cases h : lOk L
                · rfl
                · have := (HIF.out.1 h k HKL.out).2 H112.out
                  rw [HXK.out] at this
                  omega)
              clear h255 hx255 h112 hx0
              go_wp2_with (first
                | (refine step_cut1 rfl 28 (.tmp 16) (.tmp 18) rfl ga oa 256 cb p m1 cc _ rfl rfl rfl HPC.out.1 HPC.out.2.1 HPC.out.2.2.1 HPC.out.2.2.2 hup.out hsp.out ?_)
                | (go_at_call 32; refine HNUM.out.mono ?_; rintro e w' ⟨rfl, hww⟩; obtain rfl := hww)
                | (refine step_load rfl 32 rfl 37 (.tmp 4) rfl g4 rfl (inl 112 ino0) _ R4.out.all Try.underlying37 rfl (i1.out _) ?_)
                | (refine step_store rfl 37 (.tmp 2) (.tmp 32) rfl g2 (by rfl) _ (inl 112 ino0) (inl 112 ino0) (by rfl) R2.out rfl (i1.out _) (inl_one _ _) ?_; intro w9 hr9 hg9 hs9))
              refine bodyPost_ret (results_row_tmp rfl _ _ g2 _ _ _ _ rfl hr9 Try.underlying37 rfl (by simpa using i1.out ino0)) rfl ?_
              exact ⟨by rw [lV_bad HU.out]; rfl, HB.out.grown hg9 HB.out.size (fun q hq => by injection hq with hq; subst hq; exact Q2.out)⟩
      · obtain rfl : k = 128 := by have := HK.out; omega
        have hki : ¬ ((128 : Nat) : Int) < 128 := by omega
        rw [upL_128] at R5
        have HU := Lib.hid (HIF.out.2 HG.out)
        clear hk
        go_wp2_with (first
          | (refine step_load rfl 38 rfl 37 (.tmp 5) rfl g5 rfl (inl 112 (rd s2 L)) _ R5.out.all Try.underlying37 rfl (i1.out _) ?_)
          | (refine step_store rfl 37 (.tmp 2) (.tmp 38) rfl g2 (by rfl) _ (inl 112 ino0) (inl 112 (rd s2 L)) (by rfl) R2.out (by rw [inl_len, inl_len]) (i1.out _) (inl_one _ _) ?_; intro w9 hr9 hg9 hs9))
        refine bodyPost_ret (results_row_tmp rfl _ _ g2 _ _ _ _ rfl hr9 Try.underlying37 rfl (by simpa using i1.out (rd s2 L))) rfl ?_
        exact ⟨by rw [lV_ok HU.out]; rfl, HB.out.grown hg9 HB.out.size (fun q hq => by injection hq with hq; subst hq; exact Q2.out)⟩
  · have HU := Lib.hid (p := lOk L = false) (by unfold lOk; rw [decide_eq_false (by omega), Bool.false_and])
    have hne : ((n : Int) != 256) = true := by simp; omega
    have hlen' : (n : Int) ≤ 9223372036854775807 := by omega
    clear hA hn hlen hcap h256
    go_enter Try.func18, Try.ntmps18
    go_wp2_with (first
      | (refine step_alloc rfl 2 rfl 37 rfl _ hz.out ?_; intro g2 w2 hr2 hg2 hb2 hs2
         have R2 := Lib.hid hr2
         have HB2 := Lib.hid hb2
         have Q2 := Lib.hid (p := w.heap.size ≤ g2) (by rw [hg2.out]; exact Nat.le_refl _)
         clear hr2 hb2 hg2 hs2)
      | (refine step_alloc rfl 4 rfl 37 rfl _ hz.out ?_; intro g4 w4 hr4 hg4 hb4 hs4
         have R4 := Lib.hid hr4
         have R24 := Lib.hid (R2.out.kept hb4)
         have HB4 := Lib.hid (below_nxt hb4 HB2.out)
         have N24 := Lib.hid (p := g2 < g4) (by rw [hg4.out]; exact R2.out.lt)
         clear hr4 hb4 hg4 hs4)
      | (refine step_alloc rfl 5 rfl 37 rfl _ hz.out ?_; intro g5 w5 hr5 hg5 hb5 hs5
         have R5 := Lib.hid hr5
         have R45 := Lib.hid (R4.out.kept hb5)
         have R25 := Lib.hid (R24.out.kept hb5)
         have HB5 := Lib.hid (below_nxt hb5 HB4.out)
         have N45 := Lib.hid (p := g4 < g5) (by rw [hg5.out]; exact R4.out.lt)
         clear hr5 hb5 hg5 hs5)
      | (refine step_load rfl 11 rfl 37 (.tmp 4) rfl g4 rfl (inl 112 ino0) _ R45.out.all Try.underlying37 rfl (i1.out _) ?_)
      | (refine step_store rfl 37 (.tmp 2) (.tmp 11) rfl g2 (by rfl) _ (inl 112 ino0) (inl 112 ino0) (by rfl) R25.out rfl (i1.out _) (inl_one _ _) ?_; intro w9 hr9 hg9 hs9))
    refine bodyPost_ret (results_row_tmp rfl _ _ g2 _ _ _ _ rfl hr9 Try.underlying37 rfl (by simpa using i1.out ino0)) rfl ?_
    exact ⟨by rw [lV_bad HU.out]; rfl, HB5.out.grown hg9 HB5.out.size (fun q hq => by injection hq with hq; subst hq; exact Q2.out)⟩
end Go.Proofs.Ytpmldaoligmkaaa
