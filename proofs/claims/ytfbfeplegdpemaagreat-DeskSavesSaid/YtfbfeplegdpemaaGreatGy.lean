/- The reference's answer: whether a super may be, and its block. No conditions but those named. -/
import Derived.Test.YtfbfeplegdpemaaGreatMgGr
set_option linter.unusedVariables false
set_option maxRecDepth 20000
namespace Go.Proofs.YtfbfeplegdpemaaGreat
open Go.RowKit

theorem okA_zero {x : Sup} (h0 : x.i 0 = 0) : x.OkA 0 ↔ x.o 0 = false := by
  unfold Sup.OkA
  rw [if_pos h0]
set_option maxHeartbeats 8000000 in
theorem rmay_gen (x : Sup) (h0 : x.s ≠ 0 ∧ x.u 0 = true ∧ x.i 0 = 0 ∧ x.o 0 = false) (b : Bool) (n : Nat) (hn1 : 1 ≤ n) (hn : n ≤ 65) (hok : ∀ j, j < n → x.OkA j) (hb : (b = true ∧ n = 65) ∨ (b = false ∧ n < 65 ∧ ¬ x.OkA n)) (w : World) : Calls Tryz.prog 96 #[.agg x.cs.toArray] w fun e w' => e = .returned (.bool b) ∧ Below w.heap.size w w' := by
  have HN := Lib.hid (p := 1 ≤ n ∧ n ≤ 65) ⟨hn1, hn⟩
  have HOK := Lib.hid hok
  have HBB := Lib.hid hb
  have HI0 := Lib.hid h0.2.2.1
  obtain ⟨s, hs⟩ : ∃ s, x.s = s := ⟨_, rfl⟩
  have hs0 : ((s : Int) == 0) = false := by rw [← hs]; have := h0.1; simp; omega
  have C0 := Lib.hid (p := ∀ (w : World) (g : Nat), Row w g 59 x.cs → w.cell? ⟨g, 0, none⟩ = some (.int .u64 (s : Int)) ∧ w.cell? ⟨g, 1, none⟩ = some (.bool true) ∧ w.cell? ⟨g, 257, none⟩ = some (.int .i64 0) ∧ w.cell? ⟨g, 322, none⟩ = some (.bool false)) (fun w g h => ⟨by rw [h.cell, x.c_s, hs], by rw [h.cell, show 1 = 1 + 0 from rfl, x.c_u (by decide), h0.2.1], by rw [h.cell, show 257 = 257 + 0 from rfl, x.c_i (by decide), h0.2.2.1], by rw [h.cell, show 322 = 322 + 0 from rfl, x.c_o (by decide), h0.2.2.2]⟩)
  clear hn1 hn hok hb h0 hs
  go_enter Tryz.func96, Tryz.ntmps96
  go_wp2_with (refine step_box rfl 1 rfl 59 (.tmp 0) rfl x.cs rfl ?_; intro g2 w2 hr2 hg2 hb2 hs2
               obtain ⟨c0, c1, c2, c3⟩ := C0.out _ _ hr2
               have R2 := Lib.hid hr2
               have HB2 := Lib.hid hb2
               have Q2 := Lib.hid (p := w.heap.size ≤ g2) (by rw [hg2.out]; exact Nat.le_refl _)
               clear hr2 hb2 hg2 hs2)
  clear c0 c1 c2 c3
  go_loopw [3] (fun y wr => ∃ j : Nat, 1 ≤ j ∧ j ≤ n ∧ y = .int .i64 (j : Int) ∧ Hid (Row wr g2 59 x.cs) ∧ Hid (Below w.heap.size w wr)) (fun y _ => 65 - (intOf y).toNat)
  case atStart => exact ⟨1, by omega, HN.out.1, rfl, R2, HB2⟩
  case round =>
    clear R2 HB2
    obtain ⟨j, hj1, hj, rfl, HR, HB⟩ := hrel
    have HJ := Lib.hid (p := 1 ≤ j ∧ j ≤ n) ⟨hj1, hj⟩
    have hjw : IntKind.i64.wrap ((j : Int) + 1) = (j : Int) + 1 := by rw [IntKind.wrap_i64]; have := HN.out; omega
    by_cases hj65 : j < 65
    · have hji : (j : Int) ≤ 64 := by omega
      have hj0 : (0 : Int) ≤ (j : Int) := by omega
      have hji2 : (j : Int) < 65 := by omega
      obtain ⟨v, hv⟩ : ∃ v, x.i j = v := ⟨_, rfl⟩
      obtain ⟨ob, hob⟩ : ∃ ob, x.o j = ob := ⟨_, rfl⟩
      have c1 : wr.cell? ⟨g2, 257 + j, none⟩ = some (.int .i64 v) := by rw [HR.out.cell, x.c_i hj65, hv]
      have c3 : wr.cell? ⟨g2, 322 + j, none⟩ = some (.bool ob) := by rw [HR.out.cell, x.c_o hj65, hob]
      have HV := Lib.hid hv
      have HO := Lib.hid hob
      have H65 := Lib.hid hj65
      have hnext : Hid (x.OkA j → j + 1 ≤ n) := Lib.hid fun h => by
        rcases HBB.out with ⟨_, e⟩ | ⟨_, e, e2⟩
        · omega
        · rcases Nat.lt_or_ge j n with h' | h'
          · omega
          · obtain rfl : j = n := by omega
            exact absurd h e2
      have hbad : Hid (¬ x.OkA j → b = false) := Lib.hid fun h => by
        rcases HBB.out with ⟨_, e⟩ | ⟨e, _, _⟩
        · exact absurd (HOK.out j (by omega)) h
        · exact e
      clear hj hj1 hj65 hv hob
      by_cases hneg : v < 0
      · have hbf := hbad.out (by
          unfold Sup.OkA
          rw [HV.out, if_neg (by omega)]
          rintro ⟨h1, _⟩
          omega)
        subst hbf
        clear c3
        go_wp2_with (first
          | go_skip
          | go_big_skip)
        go_ret
        exact ⟨rfl, HB.out⟩
      · by_cases hbig : 255 < v
        · have hbf := hbad.out (by
            unfold Sup.OkA
            rw [HV.out, if_neg (by omega)]
            rintro ⟨_, h1, _⟩
            omega)
          subst hbf
          clear c3
          go_wp2_with (first
            | go_skip
            | go_big_skip)
          go_ret
          exact ⟨rfl, HB.out⟩
        · obtain ⟨m, rfl⟩ : ∃ m : Nat, v = (m : Int) := ⟨v.toNat, by omega⟩
          have hm : m < 256 := by omega
          have HM := Lib.hid hm
          by_cases hm0 : m = 0
          · subst hm0
            cases ob
            · have hnx := hnext.out (by unfold Sup.OkA; rw [if_pos (show x.i j = 0 from HV.out)]; exact HO.out)
              clear hneg hbig hm
              go_wp2_with (first
                | go_skip
                | go_big_skip)
              go_loopw [5] (fun y wr => ∃ k : Nat, 1 ≤ k ∧ k ≤ j ∧ y = .int .i64 (k : Int) ∧ Hid (Row wr g2 59 x.cs) ∧ Hid (Below w.heap.size w wr)) (fun y _ => j - (intOf y).toNat)
              case atStart => exact ⟨1, by omega, HJ.out.1, rfl, HR, HB⟩
              case round =>
                clear HR HB c1 c3
                obtain ⟨k, hk1, hk, rfl, HR, HB⟩ := hrel
                have hkw : IntKind.i64.wrap ((k : Int) + 1) = (k : Int) + 1 := by rw [IntKind.wrap_i64]; have := H65.out; omega
                by_cases hkj : k < j
                · have hki : (k : Int) < (j : Int) := by omega
                  have HK := Lib.hid (p := 1 ≤ k ∧ k < j) ⟨hk1, hkj⟩
                  clear hk1 hk hkj
                  go_wp2_with (first
                    | go_skip
                    | go_big_skip)
                  go_roundw
                  case rel => exact ⟨k + 1, by omega, by have := HK.out; omega, by go_num, HR, HB⟩
                  case measure => have := HK.out; simp [intOf]; omega
                · have hki : ¬ (k : Int) < (j : Int) := by omega
                  clear hk1 hk hkj
                  go_wp2
                  go_roundw
                  case rel => exact ⟨j + 1, by omega, hnx, by go_num, HR, HB⟩
                  case measure => have := H65.out; simp [intOf]; omega
            · have hbf := hbad.out (by unfold Sup.OkA; rw [if_pos (show x.i j = 0 from HV.out), HO.out]; decide)
              subst hbf
              clear hneg hbig hm
              go_wp2_with (first
                | go_skip
                | go_big_skip)
              go_ret
              exact ⟨rfl, HB.out⟩
          · have hmb : ((m : Int) == 0) = false := by simp; omega
            have hmn : ((m : Int) != 0) = true := by simp; omega
            have hmi : (m : Int) < 256 := by omega
            obtain ⟨um, hum⟩ : ∃ um, x.u m = um := ⟨_, rfl⟩
            have c2 : wr.cell? ⟨g2, 1 + m, none⟩ = some (.bool um) := by rw [HR.out.cell, x.c_u hm, hum]
            have HNZ := Lib.hid (p := x.i j ≠ 0) (by rw [HV.out]; omega)
            have HUM := Lib.hid hum
            cases um
            · have hbf := hbad.out (by
                unfold Sup.OkA
                rw [if_neg HNZ.out, HV.out]
                rintro ⟨_, _, h, _⟩
                rw [Int.toNat_natCast, HUM.out] at h
                cases h)
              subst hbf
              clear hum hm hm0 c3
              go_wp2_with (first
                | go_skip
                | go_big_skip)
              go_ret
              exact ⟨rfl, HB.out⟩
            · clear hum hm hm0 c3
              go_wp2_with (first
                | go_skip
                | go_big_skip)
              have HNC := Lib.hid (p := ∀ q, 1 ≤ q → q < 1 → x.i q ≠ (m : Int)) (fun q h1 h2 => by omega)
              go_loopw [5] (fun y wr => ∃ k : Nat, 1 ≤ k ∧ k ≤ j ∧ y = .int .i64 (k : Int) ∧ Hid (∀ q, 1 ≤ q → q < k → x.i q ≠ (m : Int)) ∧ Hid (Row wr g2 59 x.cs) ∧ Hid (Below w.heap.size w wr)) (fun y _ => j - (intOf y).toNat)
              case atStart => exact ⟨1, by omega, HJ.out.1, rfl, HNC, HR, HB⟩
              case round =>
                clear HR HB c1 c2 HNC
                obtain ⟨k, hk1, hk, rfl, HNC, HR, HB⟩ := hrel
                have hkw : IntKind.i64.wrap ((k : Int) + 1) = (k : Int) + 1 := by rw [IntKind.wrap_i64]; have := H65.out; omega
                by_cases hkj : k < j
                · have hki : (k : Int) < (j : Int) := by omega
                  have hk0 : (0 : Int) ≤ (k : Int) := by omega
                  have hk65 : (k : Int) < 65 := by have := H65.out; omega
                  have HK := Lib.hid (p := 1 ≤ k ∧ k < j) ⟨hk1, hkj⟩
                  obtain ⟨vk, hvk⟩ : ∃ vk, x.i k = vk := ⟨_, rfl⟩
                  have c4 : wr.cell? ⟨g2, 257 + k, none⟩ = some (.int .i64 vk) := by rw [HR.out.cell, x.c_i (by have := H65.out; omega), hvk]
                  by_cases hc : vk = (m : Int)
                  · subst hc
                    have hbf := hbad.out (by
                      unfold Sup.OkA
                      rw [if_neg HNZ.out, HV.out]
                      rintro ⟨_, _, _, h⟩
                      exact h k HK.out.2 hvk)
                    subst hbf
                    clear hk1 hk hkj hvk
                    go_wp2_with (first
                      | go_skip
                      | go_big_skip)
                    go_ret
                    exact ⟨rfl, HB.out⟩
                  · have hcb : (vk == (m : Int)) = false := by simpa using hc
                    have HNC2 := Lib.hid (p := ∀ q, 1 ≤ q → q < k + 1 → x.i q ≠ (m : Int)) (fun q h1 h2 => by
                      by_cases e : q = k
                      · subst e
                        rw [hvk]
                        exact hc
                      · exact HNC.out q h1 (by omega))
                    clear hk1 hk hkj hvk hc
                    go_wp2_with (first
                      | go_skip
                      | go_big_skip)
                    go_roundw
                    case rel => exact ⟨k + 1, by omega, by have := HK.out; omega, by go_num, HNC2, HR, HB⟩
                    case measure => have := HK.out; simp [intOf]; omega
                · have hki : ¬ (k : Int) < (j : Int) := by omega
                  have hnx := hnext.out (by
                    unfold Sup.OkA
                    rw [if_neg HNZ.out, HV.out]
                    refine ⟨by omega, hmi, by rw [Int.toNat_natCast]; exact HUM.out, fun q hq e => ?_⟩
                    by_cases q0 : q = 0
                    · subst q0
                      rw [HI0.out] at e
                      have := HNZ.out
                      rw [HV.out] at this
                      exact this e.symm
                    · exact HNC.out q (by omega) (by omega) e)
                  clear hk1 hk hkj
                  go_wp2
                  go_roundw
                  case rel => exact ⟨j + 1, by omega, hnx, by go_num, HR, HB⟩
                  case measure => have := H65.out; simp [intOf]; omega
    · have hj65' : j = 65 := by have := HN.out; omega
      have hbt : b = true := by
        rcases HBB.out with ⟨e, _⟩ | ⟨_, e, _⟩
        · exact e
        · omega
      subst hj65' hbt
      have hji : ¬ ((65 : Nat) : Int) ≤ 64 := by omega
      clear hj hj1 hj65
      go_wp2
      go_ret
      exact ⟨rfl, HB.out⟩
/-- One of the first conditions fails. -/
theorem rmay_head (x : Sup) (h0 : ¬ (x.s ≠ 0 ∧ x.u 0 = true ∧ x.i 0 = 0 ∧ x.o 0 = false)) (w : World) : Calls Tryz.prog 96 #[.agg x.cs.toArray] w fun e w' => e = .returned (.bool false) ∧ Below w.heap.size w w' := by
  obtain ⟨s, hs⟩ : ∃ s, x.s = s := ⟨_, rfl⟩
  obtain ⟨u, hu⟩ : ∃ u, x.u 0 = u := ⟨_, rfl⟩
  obtain ⟨v, hv⟩ : ∃ v, x.i 0 = v := ⟨_, rfl⟩
  obtain ⟨ob, hob⟩ : ∃ ob, x.o 0 = ob := ⟨_, rfl⟩
  have C0 := Lib.hid (p := ∀ (w : World) (g : Nat), Row w g 59 x.cs → w.cell? ⟨g, 0, none⟩ = some (.int .u64 (s : Int)) ∧ w.cell? ⟨g, 1, none⟩ = some (.bool u) ∧ w.cell? ⟨g, 257, none⟩ = some (.int .i64 v) ∧ w.cell? ⟨g, 322, none⟩ = some (.bool ob)) (fun w g h => ⟨by rw [h.cell, x.c_s, hs], by rw [h.cell, show 1 = 1 + 0 from rfl, x.c_u (by decide), hu], by rw [h.cell, show 257 = 257 + 0 from rfl, x.c_i (by decide), hv], by rw [h.cell, show 322 = 322 + 0 from rfl, x.c_o (by decide), hob]⟩)
  rw [hs, hu, hv, hob] at h0
  clear hs hu hv hob
  cases u
  · clear h0
    go_enter Tryz.func96, Tryz.ntmps96
    go_wp2_with (first
      | go_skip
      | go_big_skip
      | (refine step_box rfl 1 rfl 59 (.tmp 0) rfl x.cs rfl ?_; intro g2 w2 hr2 hg2 hb2 hs2
         obtain ⟨c0, c1, c2, c3⟩ := C0.out _ _ hr2
         have R2 := Lib.hid hr2
         have HB2 := Lib.hid hb2
         have Q2 := Lib.hid (p := w.heap.size ≤ g2) (by rw [hg2.out]; exact Nat.le_refl _)
         clear hr2 hb2 hg2 hs2))
    go_ret
    exact ⟨rfl, HB2.out⟩
  · by_cases hv0 : v = 0
    · subst hv0
      cases ob
      · obtain rfl : s = 0 := Classical.byContradiction fun h => h0 ⟨h, rfl, rfl, rfl⟩
        clear h0
        go_enter Tryz.func96, Tryz.ntmps96
        go_wp2_with (first
          | go_skip
          | go_big_skip
          | (refine step_box rfl 1 rfl 59 (.tmp 0) rfl x.cs rfl ?_; intro g2 w2 hr2 hg2 hb2 hs2
             obtain ⟨c0, c1, c2, c3⟩ := C0.out _ _ hr2
             have R2 := Lib.hid hr2
             have HB2 := Lib.hid hb2
             have Q2 := Lib.hid (p := w.heap.size ≤ g2) (by rw [hg2.out]; exact Nat.le_refl _)
             clear hr2 hb2 hg2 hs2))
        go_ret
        exact ⟨rfl, HB2.out⟩
      · clear h0
        go_enter Tryz.func96, Tryz.ntmps96
        go_wp2_with (first
          | go_skip
          | go_big_skip
          | (refine step_box rfl 1 rfl 59 (.tmp 0) rfl x.cs rfl ?_; intro g2 w2 hr2 hg2 hb2 hs2
             obtain ⟨c0, c1, c2, c3⟩ := C0.out _ _ hr2
             have R2 := Lib.hid hr2
             have HB2 := Lib.hid hb2
             have Q2 := Lib.hid (p := w.heap.size ≤ g2) (by rw [hg2.out]; exact Nat.le_refl _)
             clear hr2 hb2 hg2 hs2))
        go_ret
        exact ⟨rfl, HB2.out⟩
    · have hvb : (v != 0) = true := by simpa using hv0
      clear h0 hv0
      go_enter Tryz.func96, Tryz.ntmps96
      go_wp2_with (first
        | go_skip
        | go_big_skip
        | (refine step_box rfl 1 rfl 59 (.tmp 0) rfl x.cs rfl ?_; intro g2 w2 hr2 hg2 hb2 hs2
           obtain ⟨c0, c1, c2, c3⟩ := C0.out _ _ hr2
           have R2 := Lib.hid hr2
           have HB2 := Lib.hid hb2
           have Q2 := Lib.hid (p := w.heap.size ≤ g2) (by rw [hg2.out]; exact Nat.le_refl _)
           clear hr2 hb2 hg2 hs2))
      go_ret
      exact ⟨rfl, HB2.out⟩
theorem rmay_any (x : Sup) (b : Bool) (hb : b = true ↔ x.May) (w : World) : Calls Tryz.prog 96 #[.agg x.cs.toArray] w fun e w' => e = .returned (.bool b) ∧ Below w.heap.size w w' := by
  by_cases h0 : x.s ≠ 0 ∧ x.u 0 = true ∧ x.i 0 = 0 ∧ x.o 0 = false
  · rcases least_bad x.OkA 65 with h | ⟨n, h1, h2, h3⟩
    · obtain rfl : b = true := hb.2 ⟨h0.1, h0.2.1, h0.2.2.1, h⟩
      exact rmay_gen x h0 true 65 (by omega) (Nat.le_refl _) h (.inl ⟨rfl, rfl⟩) w
    · obtain rfl : b = false := by
        cases b
        · rfl
        · exact absurd ((hb.1 rfl).2.2.2 n h1) h2
      have hn1 : 1 ≤ n := by
        rcases Nat.lt_or_ge n 1 with h | h
        · obtain rfl : n = 0 := by omega
          exact absurd ((okA_zero h0.2.2.1).2 h0.2.2.2) h2
        · exact h
      exact rmay_gen x h0 false n hn1 (by omega) h3 (.inr ⟨rfl, h1, h2⟩) w
  · obtain rfl : b = false := by
      cases b
      · rfl
      · have h := hb.1 rfl
        exact absurd ⟨h.1, h.2.1, h.2.2.1, (okA_zero h.2.2.1).1 (h.2.2.2 0 (by omega))⟩ h0
    exact rmay_head x h0 w
end Go.Proofs.YtfbfeplegdpemaaGreat
