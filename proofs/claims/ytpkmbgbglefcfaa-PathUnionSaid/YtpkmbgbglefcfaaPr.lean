/- The reference's nodes above slots: what each call leaves. Conditions: those named. -/
import Derived.Test.YtpkmbgbglefcfaaPn
import Derived.Test.YtpkmbgbglefcfaaPa
import Derived.Test.YtpkmbgbglefcfaaPc
import Derived.StillTailTactics
set_option linter.unusedVariables false
namespace Go.Proofs.Ytpkmbgbglefcfaa
open Go.RowKit

set_option maxRecDepth 20000 in
set_option maxHeartbeats 1000000 in
theorem on_any (n l : Nat) (i z : Int) (h1 : 1 ≤ n) (h4 : n ≤ 4) (hl : l < n) (w : World) :
    Calls Try.prog 27 #[.int .i64 (n : Int), .agg #[.int .i64 (l : Int), .int .i64 i], .int .i64 z] w fun e w' => e = .returned (.bool (onB n ((l : Int), i) z)) ∧ Below w.heap.size w w' := by
  have HS := Lib.hid (sl_of h1 h4)
  have HSL : Hid (∀ w : World, Calls Try.prog 12 #[.int .i64 (n : Int)] w fun e w' => e = .returned (.int .i64 (pw n : Int)) ∧ w' = w) := Lib.hid fun w => (rslots_any (n : Int) w).mono (by rintro e w' ⟨rfl, rfl⟩; exact ⟨by rw [HS.out], rfl⟩)
  by_cases h0 : 0 ≤ z
  · obtain ⟨m, rfl⟩ := Int.eq_ofNat_of_zero_le h0
    by_cases hm : m < pw n
    · obtain ⟨r, hr⟩ : ∃ r, n - l = r := ⟨_, rfl⟩
      have hsub : (n : Int) - (l : Int) = (r : Int) := by omega
      have hr4 : r ≤ 4 := by omega
      obtain ⟨q, hq⟩ : ∃ q, m / pw r = q := ⟨_, rfl⟩
      have hdq : (m : Int) / (pw r : Int) = (q : Int) := by rw [← hq]; rfl
      have hON : onB n ((l : Int), i) (m : Int) = ((q : Int) == i) := by
        unfold onB
        have e1 : decide ((m : Int) < (pw n : Int)) = true := decide_eq_true (by omega)
        have e2 : decide ((0 : Int) ≤ (m : Int)) = true := decide_eq_true h0
        simp only [e1, e2, Bool.true_and, Int.toNat_natCast, hr, hdq]
        cases h : decide ((q : Int) = i) <;> simp at h <;> simp [h]
      rw [hON]
      have HPW : Hid (∀ w : World, Calls Try.prog 21 #[.int .i64 (r : Int)] w fun e w' => e = .returned (.int .i64 (pw r : Int)) ∧ w' = w) := Lib.hid fun w => (power_any r hr4 w).mono (by rintro e w' ⟨rfl, rfl⟩; exact ⟨rfl, rfl⟩)
      have hqx : q ≤ 256 := by rw [← hq]; have := pw_le h4; exact Nat.le_trans (Nat.div_le_self _ _) (by omega)
      have hq0 : (0 : Int) ≤ (q : Int) := by omega
      have hq1 : (q : Int) ≤ 256 := by omega
      have hpr := pw_pos r
      have hpr0 : (0 : Int) ≤ (pw r : Int) := by omega
      have hpr1 : (1 : Int) ≤ (pw r : Int) := by omega
      have hmx : (m : Int) ≤ 256 := by have := pw_le h4; omega
      have hm0 : (0 : Int) ≤ (m : Int) := by omega
      have hlt : (m : Int) < (pw n : Int) := by omega
      clear hr hq hON
      go_enter Try.func27, Try.ntmps27
      go_wp2_with fail
      go_quiet ((first
        | (go_at_call 12; exact Calls.quiet_of_same (HSL.out _))
        | (go_at_call 21; exact Calls.quiet_of_same (HPW.out _))))
      go_wp2
      go_ret
      exact ⟨rfl, below_drewN (below_al _ _) _⟩
    · have hON : onB n ((l : Int), i) (m : Int) = false := by
        unfold onB
        have e1 : decide ((m : Int) < (pw n : Int)) = false := decide_eq_false (by omega)
        rw [e1, Bool.and_false, Bool.false_and]
      rw [hON]
      have hm0 : (0 : Int) ≤ (m : Int) := by omega
      have hge : (pw n : Int) ≤ (m : Int) := by omega
      have hd1 : decide ((m : Int) < (pw n : Int)) = false := decide_eq_false (by omega)
      have hd2 : decide (m < pw n) = false := decide_eq_false (by omega)
      clear hON
      go_enter Try.func27, Try.ntmps27
      go_wp2_with fail
      go_quiet ((first
        | (go_at_call 12; exact Calls.quiet_of_same (HSL.out _))))
      go_wp2
      go_ret
      exact ⟨rfl, below_drewN (below_al _ _) _⟩
  · have hON : onB n ((l : Int), i) z = false := by
      unfold onB
      have e1 : decide (0 ≤ z) = false := decide_eq_false h0
      rw [e1, Bool.false_and, Bool.false_and]
    rw [hON]
    have hd1 : decide (0 ≤ z) = false := decide_eq_false h0
    clear hON
    go_enter Try.func27, Try.ntmps27
    go_wp2_with fail
    go_quiet (fail)
    go_wp2
    go_ret
    exact ⟨rfl, below_drewN (below_al _ _) _⟩

/-- The reference's nodes of the last so many levels. -/
def abr (n : Nat) (zs : List Int) (r : Nat) : List (Int × Int) := (List.range r).flatMap fun p => rowR n zs (n - 1 - p)
theorem abr_zero (n : Nat) (zs : List Int) : abr n zs 0 = [] := rfl
theorem abr_succ (n : Nat) (zs : List Int) (r : Nat) : abr n zs (r + 1) = abr n zs r ++ rowR n zs (n - 1 - r) := by
  unfold abr
  rw [List.range_succ, List.flatMap_append]
  simp
theorem abr_eq (n : Nat) (zs : List Int) : ∀ r, r ≤ n → abr n zs r = abv n zs r
  | 0, _ => rfl
  | r + 1, h => by rw [abr_succ, abv_succ, abr_eq n zs r (by omega), row_eq zs (by omega)]
theorem abr_len (n : Nat) (zs : List Int) (h4 : n ≤ 4) : ∀ r, r ≤ 4 → (abr n zs r).length ≤ 256 * r
  | 0, _ => by simp [abr_zero]
  | r + 1, hr => by
    rw [abr_succ, List.length_append]
    have h1 := abr_len n zs h4 r (by omega)
    have h2 : (rowR n zs (n - 1 - r)).length ≤ pw (n - 1 - r) := Nat.le_trans (List.length_filter_le _ _) (by rw [lev_len]; exact Nat.le_refl _)
    have h3 := pw_le (n := n - 1 - r) (by omega)
    omega
theorem al_mem : ∀ {n : Nat} {x : Int × Int}, x ∈ al n → ∃ l i : Nat, x = ((l : Int), (i : Int)) ∧ l < n
  | 0, x, h => by simp [al] at h
  | n + 1, x, h => by
    rcases List.mem_append.1 h with h | h
    · obtain ⟨l, i, e, hl⟩ := al_mem h
      exact ⟨l, i, e, by omega⟩
    · unfold lev at h
      obtain ⟨i, _, rfl⟩ := List.mem_map.1 h
      exact ⟨n, i, rfl, by omega⟩
theorem onA_snoc (n : Nat) (zs : List Int) (z : Int) (s : Int × Int) : onA n (zs ++ [z]) s = (onA n zs s || onB n s z) := by simp [onA]
set_option maxRecDepth 20000 in
set_option maxHeartbeats 2000000 in
theorem rabove_any (d : Int) (A : Option Addr) (c : Nat) (zs : List Int) (w : World) (hA : HolI w A zs) (hz : zs.length ≤ 1000) :
    Calls Try.prog 20 #[.int .i64 d, .slice A zs.length c] w (SpotsPost w (abr (lv d) zs (lv d))) := by
  by_cases hd : 1 ≤ d ∧ d ≤ 4
  · obtain ⟨n, rfl, hn1, hn4⟩ := lv_nat hd.1 hd.2
    rw [lv_of hn1 hn4]
    have HL := Lib.hid (lv_of hn1 hn4)
    have HS := Lib.hid (sl_of hn1 hn4)
    have HA := Lib.hid hA
    have hp := pw_pos n
    have hne : ((pw n : Int) == 0) = false := by simp; omega
    have HAL := Lib.hid (al_len n)
    have hnd := nd_le hn4
    clear hA hd
    go_enter Try.func20, Try.ntmps20
    go_wp2_with (first
      | (go_at_call 12; refine (rslots_any _ _).mono ?_; rintro e w' ⟨rfl, rfl⟩; rw [HS.out])
      | (go_at_call 10; refine (rall_any _ _).mono ?_; rintro e w1 ⟨B1, c1, rfl, hO1, hB1⟩
         rw [HL.out, HAL.out] at hO1
         rw [HL.out, HAL.out]
         have HO1 := Lib.hid hO1.hol
         have HB1 := Lib.hid hB1
         have HA1 := Lib.hid (HA.out.below hB1)
         clear hO1 hB1))
    go_loopw [5, 7] (fun v i wr => ∃ k : Nat, k ≤ n ∧ i = .int .i64 ((n : Int) - 1 - (k : Int)) ∧ (∃ B m b, v = .slice B m b ∧ Hid (OwnS w1.heap.size wr B m b (abr n zs k))) ∧ Hid (Below w1.heap.size w1 wr)) (fun _ i _ => (intOf i + 1).toNat)
    case atStart => exact ⟨0, Nat.zero_le _, by simp, ⟨none, 0, 0, rfl, Lib.hid (OwnS.nil _ _)⟩, Lib.hid (Below.refl _ _)⟩
    case round =>
      obtain ⟨k, hk, rfl, ⟨A2, m2, c2, rfl, HO⟩, HB⟩ := hrel
      by_cases hlt : k < n
      · obtain ⟨l, hl⟩ : ∃ l, n - 1 - k = l := ⟨_, rfl⟩
        have hll : (n : Int) - 1 - (k : Int) = (l : Int) := by omega
        rw [hll]
        have HK : Hid (k = n - 1 - l) := Lib.hid (by omega)
        have hln : l < n := by omega
        have HR : Hid (abr n zs (k + 1) = abr n zs k ++ (al n).filter (fun s => (s.1 == (l : Int)) && onA n zs s)) := Lib.hid (by rw [abr_succ, al_filter, if_pos hln, hl]; rfl)
        have hnext : (n : Int) - 1 - ((k + 1 : Nat) : Int) = (l : Int) - 1 := by omega
        have HNX := Lib.hid hnext
        have HM2 := Lib.hid (p := (abr n zs k).length ≤ 1024) (by have := abr_len n zs hn4 k (by omega); omega)
        clear hll hnext hl
        go_wp2
        go_loopw [5, 8] (fun v i wr => ∃ j : Nat, j ≤ nd n ∧ i = .int .i64 j ∧ ∃ B m b, v = .slice B m b ∧ Hid (OwnS w1.heap.size wr B m b (abr n zs k ++ ((al n).take j).filter (fun s => (s.1 == (l : Int)) && onA n zs s))) ∧ Hid (Below w1.heap.size w1 wr)) (fun _ i _ => nd n - (intOf i).toNat)
        case atStart => exact ⟨0, Nat.zero_le _, rfl, A2, m2, c2, rfl, Lib.hid (by rw [List.take_zero, List.filter_nil, List.append_nil]; exact HO.out), HB⟩
        case round =>
          clear HO HB
          obtain ⟨j, hj, rfl, A5, m5, c5, rfl, HO, HB⟩ := hrel
          by_cases hjl : j < nd n
          · have hja : j < (al n).length := by rw [HAL.out]; exact hjl
            obtain ⟨l2, i2, hx, hl2⟩ := al_mem (List.getElem_mem hja)
            obtain ⟨g, rfl, hgs, hc1, hc2⟩ := (HO1.out.below HB.out).at_ (List.getElem?_eq_getElem hja)
            have hts := List.take_succ_eq_append_getElem hja
            rw [hx] at hts hc1 hc2
            have HM := Lib.hid (p := m5 ≤ 100000) (by
              have h1 := HO.out.len
              rw [List.length_append] at h1
              have h3 := List.length_filter_le (fun s : Int × Int => (s.1 == (l : Int)) && onA n zs s) ((al n).take j)
              have h4 := List.length_take_le j (al n)
              have := HM2.out
              omega)
            clear hx
            by_cases hle : l2 = l
            · subst hle
              have hF : ∀ b, onA n zs ((l2 : Int), (i2 : Int)) = b → ((al n).take (j + 1)).filter (fun s => (s.1 == (l2 : Int)) && onA n zs s) = ((al n).take j).filter (fun s => (s.1 == (l2 : Int)) && onA n zs s) ++ (if b then [((l2 : Int), (i2 : Int))] else []) := by
                intro b hb
                rw [hts, List.filter_append]
                congr 1
                cases b <;> simp [hb]
              have HF := Lib.hid hF
              clear hF hts
              have hz1000 := hz
              rename World => wo
              go_wp2
              go_loopw [9, 10] (fun b i wq => ∃ q : Nat, q ≤ zs.length ∧ i = .int .i64 q ∧ b = .bool (onA n (zs.take q) ((l2 : Int), (i2 : Int))) ∧ Hid (Below wo.heap.size wo wq)) (fun _ i _ => zs.length - (intOf i).toNat)
              case atStart => exact ⟨0, Nat.zero_le _, rfl, rfl, Lib.hid (Below.refl _ _)⟩
              case round =>
                obtain ⟨q, hq, rfl, rfl, HBQ⟩ := hrel
                have HBW := Lib.hid (below_nxt HBQ.out HB.out)
                by_cases hql : q < zs.length
                · obtain ⟨gz, oz, rfl, hgz, hcz⟩ := (HA1.out.below HBW.out).at_ hql
                  obtain ⟨z, hzz⟩ : ∃ z, zs[q] = z := ⟨_, rfl⟩
                  rw [hzz] at hcz
                  have hqs := List.take_succ_eq_append_getElem hql
                  rw [hzz] at hqs
                  have HN : Hid (onA n (zs.take (q + 1)) ((l2 : Int), (i2 : Int)) = (onA n (zs.take q) ((l2 : Int), (i2 : Int)) || onB n ((l2 : Int), (i2 : Int)) z)) := Lib.hid (by rw [hqs, onA_snoc])
                  clear hzz hqs
                  cases hon : onA n (zs.take q) ((l2 : Int), (i2 : Int))
                  · rw [hon, Bool.false_or] at HN
                    clear hon
                    have hd1 : wr.cell? ⟨g, j * 2, none⟩ = some (.int .i64 (l2 : Int)) := (HBQ.out.cell (p := ⟨g, j * 2, none⟩) hgs).trans hc1
                    have hd2 : wr.cell? ⟨g, j * 2 + 1, none⟩ = some (.int .i64 (i2 : Int)) := (HBQ.out.cell (p := ⟨g, j * 2 + 1, none⟩) hgs).trans hc2
                    clear hc1 hc2
                    go_wp2_with fail
                    go_still_tail 11, (by kernel_rfl)
                    change wpList _ _ _ _ _ wr.drew
                    go_wp2_with (first
                      | (go_at_call 27; refine (on_any n l2 (i2 : Int) z hn1 hn4 hl2 _).mono ?_; rintro e w6 ⟨rfl, hB6⟩
                         have HB6 := Lib.hid (below_nxt hB6 (HBQ.out.drew))
                         clear hB6))
                    go_roundw
                    case rel => exact ⟨q + 1, by omega, by go_num, by rw [HN.out], HB6⟩
                    case measure => simp [intOf]; omega
                  · rw [hon, Bool.true_or] at HN
                    clear hon
                    go_wp2_with fail
                    go_quiet (fail)
                    go_wp2
                    go_roundw
                    case rel => exact ⟨q + 1, by omega, by go_num, by rw [HN.out], Lib.hid (below_drewN HBQ.out _)⟩
                    case measure => simp [intOf]; omega
                · obtain rfl : q = zs.length := by omega
                  rw [List.take_length]
                  have hd1 : wr.cell? ⟨g, j * 2, none⟩ = some (.int .i64 (l2 : Int)) := (HBQ.out.cell (p := ⟨g, j * 2, none⟩) hgs).trans hc1
                  have hd2 : wr.cell? ⟨g, j * 2 + 1, none⟩ = some (.int .i64 (i2 : Int)) := (HBQ.out.cell (p := ⟨g, j * 2 + 1, none⟩) hgs).trans hc2
                  clear hc1 hc2
                  cases hon : onA n zs ((l2 : Int), (i2 : Int))
                  · have HF2 := Lib.hid (HF.out false hon)
                    have HO7 := Lib.hid (HO.out.kept HBQ.out)
                    clear hon HF
                    go_wp2
                    go_roundw
                    case rel => exact ⟨j + 1, by omega, by go_num, A5, m5, c5, rfl, by rw [HF2.out]; simpa using HO7, HBW⟩
                    case measure => simp [intOf]; omega
                  · have HF2 := Lib.hid (HF.out true hon)
                    have HO7 := Lib.hid (HO.out.kept HBQ.out)
                    clear hon HF
                    go_wp2_with (first
                      | (at_builtin; refine wp_join rfl _ _ rfl rec_spot w1.heap.size (.slice A5 m5 c5) m5 ((abr n zs k ++ ((al n).take j).filter (fun s => (s.1 == (l2 : Int)) && onA n zs s)).flatMap sp) rfl (HO7.out.alloc _) (some ⟨wr.heap.size, 0, none⟩) 1 1 (sp ((l2 : Int), (i2 : Int))) rfl rfl (made_src wr (sp ((l2 : Int), (i2 : Int))) _) (sp_one _) (by have := HM.out; omega) (Nat.le_trans HBW.out.size (below_al wr _).size) ?_
                         intro v5 w8 hr2 hg2 hat2
                         obtain ⟨A6, c6, rfl, hO6, hB6⟩ := spot_more HBW.out HO7.out hr2 hg2
                         have HO6 := Lib.hid hO6
                         have HB6 := Lib.hid hB6
                         clear hr2 hg2 hat2 hO6 hB6))
                    go_roundw
                    case rel => exact ⟨j + 1, by omega, by go_num, A6, m5 + 1, c6, rfl, by rw [HF2.out, ← List.append_assoc]; exact HO6, HB6⟩
                    case measure => simp [intOf]; omega
            · have hF : ((al n).take (j + 1)).filter (fun s => (s.1 == (l : Int)) && onA n zs s) = ((al n).take j).filter (fun s => (s.1 == (l : Int)) && onA n zs s) := by
                rw [hts, List.filter_append]
                have : ((l2 : Int) == (l : Int)) = false := by simp; omega
                simp [this]
              have HF := Lib.hid hF
              have hneq : ((l2 : Int) != (l : Int)) = true := by simp; omega
              clear hF hts hle
              go_wp2
              go_roundw
              case rel => exact ⟨j + 1, by omega, by go_num, A5, m5, c5, rfl, by rw [HF.out]; exact HO, HB⟩
              case measure => simp [intOf]; omega
          · obtain rfl : j = nd n := by omega
            have HT : Hid ((al n).take (nd n) = al n) := Lib.hid (by rw [← HAL.out, List.take_length])
            rw [HT.out] at HO
            go_wp2
            go_roundw
            case rel => exact ⟨k + 1, by omega, by rw [HNX.out], ⟨A5, m5, c5, rfl, by rw [HR.out]; exact HO⟩, HB⟩
            case measure => simp [intOf]
      · obtain rfl : k = n := by omega
        go_wp2
        go_ret
        exact SpotsPost.mk (own_lower HO.out HB1.out.size) (below_nxt HB.out HB1.out) rfl
  · have HS := Lib.hid (sl_out hd)
    rw [lv_out hd]
    clear hd hA
    go_enter Try.func20, Try.ntmps20
    go_wp2_with (first
      | (go_at_call 12; refine (rslots_any _ _).mono ?_; rintro e w' ⟨rfl, rfl⟩; rw [HS.out]))
    go_ret
    exact SpotsPost.mk (OwnS.nil _ _) (Below.refl _ _) rfl
end Go.Proofs.Ytpkmbgbglefcfaa
