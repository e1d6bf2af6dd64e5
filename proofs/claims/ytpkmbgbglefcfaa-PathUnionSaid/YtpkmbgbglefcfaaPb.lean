/- The program's nodes above slots: what the call leaves. Conditions: those named. -/
import Derived.Test.YtpkmbgbglefcfaaPo
set_option linter.unusedVariables false
namespace Go.Proofs.Ytpkmbgbglefcfaa
open Go.RowKit

theorem own_parted {w : World} {b b' : Nat} {e e' : TypeId} {s s' n n' : Nat} {v v' : Value} {xs xs' : List Value} (h : w.ownsRow b e s v n xs) (h' : w.ownsRow b' e' s' v' n' xs') (hne : e ≠ e') : v.ownBlock = none ∨ v.ownBlock ≠ v'.ownBlock := by
  rcases h.2 with ⟨rfl, _⟩ | ⟨g, cap, cur, rfl, _, hg, _⟩
  · exact .inl rfl
  · refine .inr fun he => ?_
    rcases h'.2 with ⟨rfl, _⟩ | ⟨g', cap', cur', rfl, _, hg', _⟩
    · simp [Value.ownBlock] at he
    · simp [Value.ownBlock] at he
      subst he
      rw [hg] at hg'
      injection hg' with hg'
      injection hg' with _ ht
      exact hne ht
theorem OwnI.sl_hol {b : Nat} {w : World} {A : Option Addr} {n c : Nat} {xs : List Int} (h : OwnI b w A n c xs) : n = xs.length ∧ HolI w A xs := ⟨h.len, h.hol⟩
/-- The nodes above slots, for every depth. -/
def aboveL (d : Int) (zs : List Int) : List (Int × Int) := abv (lv d) zs (lv d)
theorem aboveL_out {d : Int} (h : ¬ (1 ≤ d ∧ d ≤ 4)) (zs : List Int) : aboveL d zs = [] := by unfold aboveL; rw [lv_out h]; rfl
theorem aboveL_in {n : Nat} (h1 : 1 ≤ n) (h4 : n ≤ 4) (zs : List Int) : aboveL n zs = abv n zs n := by unfold aboveL; rw [lv_of h1 h4]
theorem aboveL_len (d : Int) (zs : List Int) : (aboveL d zs).length ≤ 4 * zs.length :=
  Nat.le_trans (abv_len _ _ _) (Nat.mul_le_mul_right _ (lv_le d))
set_option maxRecDepth 20000 in
set_option maxHeartbeats 1000000 in
theorem above_any (d : Int) (A : Option Addr) (c : Nat) (zs : List Int) (w : World) (hA : HolI w A zs) (hz : zs.length ≤ 1000) :
    Calls Try.prog 19 #[.int .i64 d, .slice A zs.length c] w (SpotsPost w (aboveL d zs)) := by
  by_cases hd : 1 ≤ d ∧ d ≤ 4
  · obtain ⟨n, rfl, hn1, hn4⟩ := lv_nat hd.1 hd.2
    rw [aboveL_in hn1 hn4]
    have HL := Lib.hid (lv_of hn1 hn4)
    have HS := Lib.hid (sl_of hn1 hn4)
    have HA := Lib.hid hA
    have HZ := Lib.hid hz
    have HPW := Lib.hid (pw_le hn4)
    clear hA hz hd
    go_enter Try.func19, Try.ntmps19
    go_wp2_with (first
      | (go_at_call 25; refine (there_any _ A c zs _ HA.out (by have := HZ.out; omega)).mono ?_; rintro e w1 ⟨B1, k1, c1, rfl, hO1, hB1⟩
         rw [HS.out] at hO1
         have HO1 := Lib.hid hO1
         have HB1 := Lib.hid hB1
         clear hO1 hB1)
      | (go_at_call 22; refine (levels_any _ _).mono ?_; rintro e w' ⟨rfl, rfl⟩; rw [HL.out]))
    go_loopw [5, 6, 15] (fun v q i wr => ∃ k : Nat, k ≤ n ∧ i = .int .i64 k ∧ (∃ B m b, v = .slice B m b ∧ Hid (OwnS w.heap.size wr B m b (abv n zs k))) ∧ (∃ B m b, q = .slice B m b ∧ Hid (m = (pl (pw n) zs k).length) ∧ Hid (HolI wr B (pl (pw n) zs k))) ∧ Hid (Below w.heap.size w wr)) (fun _ _ i _ => n - (intOf i).toNat)
    case atStart => exact ⟨0, Nat.zero_le _, rfl, ⟨none, 0, 0, rfl, Lib.hid (OwnS.nil _ _)⟩, ⟨B1, k1, c1, rfl, Lib.hid HO1.out.len, Lib.hid HO1.out.hol⟩, HB1⟩
    case round =>
      clear HO1 HB1
      obtain ⟨k, hk, rfl, ⟨A2, m2, c2, rfl, HO⟩, ⟨B3, m3, c3, rfl, HM3, HI⟩, HB⟩ := hrel
      by_cases hlt : k < n
      · obtain rfl := HM3.out
        have hq := pl_len (pw n) zs (k + 1)
        obtain ⟨qs, hqs⟩ : ∃ qs, pl (pw n) zs (k + 1) = qs := ⟨_, rfl⟩
        have HQ := Lib.hid hqs
        have HQL : Hid (qs.length ≤ 1000) := Lib.hid (by rw [← hqs]; have := HZ.out; omega)
        have HQM : Hid (∀ z ∈ qs, 0 ≤ z ∧ z ≤ 1000000) := Lib.hid (fun z hz => by rw [← hqs] at hz; have := pl_pos hz; have := HPW.out; omega)
        have HPM : Hid (∀ z ∈ pl (pw n) zs k, 0 ≤ z ∧ z ≤ 1000000) := Lib.hid (fun z hz => by have := pl_pos hz; have := HPW.out; omega)
        have HPL := Lib.hid (pl_len (pw n) zs k)
        clear hqs hq
        have hsub : (n : Int) - 1 - (k : Int) = ((n - 1 - k : Nat) : Int) := by omega
        obtain ⟨r, hr⟩ : ∃ r, n - 1 - k = r := ⟨_, rfl⟩
        rw [hr] at hsub
        have HR := Lib.hid hr
        clear hr
        go_wp2_with (first
          | (go_at_call 26; refine (up_any B3 c3 (pl (pw n) zs k) _ HI.out (by have := HPL.out; have := HZ.out; omega) HPM.out).mono ?_; rintro e w4 ⟨B4, k4, c4, rfl, hO4, hB4⟩
             have hO4' : OwnI wr.heap.size w4 B4 k4 c4 qs := by rw [← HQ.out]; exact hO4
             obtain rfl := hO4'.len
             have HH4 := Lib.hid (own_lower hO4' HB.out.size)
             have HO4 := Lib.hid (HO.out.kept hB4)
             have HB4 := Lib.hid (below_nxt hB4 HB.out)
             clear hO4 hO4' hB4))
        clear HI HPM HPL HM3
        go_loopw [5, 22] (fun v i wr => ∃ j : Nat, j ≤ qs.length ∧ i = .int .i64 j ∧ ∃ B m b, v = .slice B m b ∧ Hid (OwnS w.heap.size wr B m b (abv n zs k ++ (qs.take j).map fun i => ((r : Int), i))) ∧ Hid (OwnI w.heap.size wr B4 qs.length c4 qs) ∧ Hid (Below w.heap.size w wr)) (fun _ i _ => qs.length - (intOf i).toNat)
        case atStart => exact ⟨0, Nat.zero_le _, rfl, A2, m2, c2, rfl, Lib.hid (by rw [List.take_zero, List.map_nil, List.append_nil]; exact HO4.out), HH4, HB4⟩
        case round =>
          clear HO4 HH4 HB4 HO HB
          obtain ⟨j, hj, rfl, A5, m5, c5, rfl, HO, HH, HB⟩ := hrel
          by_cases hjl : j < qs.length
          · obtain ⟨g, o, rfl, hgs, hc⟩ := HH.out.hol.at_ hjl
            have hq1000 := HQL.out
            obtain ⟨x, hx⟩ : ∃ x, qs[j] = x := ⟨_, rfl⟩
            rw [hx] at hc
            have hts := List.take_succ_eq_append_getElem hjl
            rw [hx] at hts
            have HM := Lib.hid (p := m5 ≤ 100000) (by
              have h1 := HO.out.len
              rw [List.length_append, List.length_map] at h1
              have h3 := List.length_take_le j qs
              have h4 := abv_len n zs k
              have h5 : k * zs.length ≤ 4 * zs.length := Nat.mul_le_mul_right _ (by omega)
              have := HQL.out
              have := HZ.out
              omega)
            have HN : Hid (((qs.take (j + 1)).map fun i => ((r : Int), i)) = ((qs.take j).map fun i => ((r : Int), i)) ++ [((r : Int), x)]) := Lib.hid (by rw [hts, List.map_append]; rfl)
            clear hx hts
            go_wp2_with (first
              | (at_builtin; refine wp_join rfl _ _ rfl rec_spot w.heap.size (.slice A5 m5 c5) m5 ((abv n zs k ++ (qs.take j).map fun i => ((r : Int), i)).flatMap sp) rfl (HO.out.alloc _) (some ⟨wr.heap.size, 0, none⟩) 1 1 (sp ((r : Int), x)) rfl rfl (made_src wr (sp ((r : Int), x)) _) (sp_one _) (by have := HM.out; omega) (Nat.le_trans HB.out.size (below_al wr _).size) ?_
                 intro v5 w2 hr2 hg2 hat2
                 obtain ⟨A6, c6, rfl, hO6, hB6⟩ := spot_more HB.out HO.out hr2 hg2
                 have HH6 : Hid (OwnI w.heap.size w2 (some ⟨g, o, none⟩) qs.length c4 qs) := Lib.hid (World.ownsRow.kept (HH.out.kept (below_al wr (.cells (sp ((r : Int), x)).toArray 35))) hg2 (own_parted HH.out HO.out (by decide)))
                 have HO6 := Lib.hid hO6
                 have HB6 := Lib.hid hB6
                 clear hr2 hg2 hat2 hO6 hB6))
            go_roundw
            case rel => exact ⟨j + 1, by omega, by go_num, A6, m5 + 1, c6, rfl, by rw [HN.out, ← List.append_assoc]; exact HO6, HH6, HB6⟩
            case measure => simp [intOf]; omega
          · obtain rfl : j = qs.length := by omega
            rw [List.take_length] at HO
            go_wp2
            go_roundw
            case rel => exact ⟨k + 1, by omega, by go_num, ⟨A5, m5, c5, rfl, by rw [abv_succ, HQ.out, HR.out]; exact HO⟩, ⟨B4, qs.length, c4, rfl, Lib.hid (by rw [HQ.out]), by rw [HQ.out]; exact Lib.hid HH.out.hol⟩, HB⟩
            case measure => simp [intOf]; omega
      · obtain rfl : k = n := by omega
        go_wp2
        go_ret
        exact SpotsPost.mk HO.out HB.out rfl
  · rw [aboveL_out hd]
    have HL := Lib.hid (lv_out hd)
    have HA := Lib.hid hA
    clear hA hd
    go_enter Try.func19, Try.ntmps19
    go_wp2_with (first
      | (go_at_call 25; refine (there_any _ A c zs _ HA.out (by omega)).mono ?_; rintro e w1 ⟨B1, k1, c1, rfl, hO1, hB1⟩
         have HB1 := Lib.hid hB1
         clear hO1 hB1)
      | (go_at_call 22; refine (levels_any _ _).mono ?_; rintro e w' ⟨rfl, rfl⟩; rw [HL.out]))
    go_loopw [5, 15] (fun v i wr => v = .slice none 0 0 ∧ i = .int .i64 0 ∧ Hid (Below w.heap.size w wr)) (fun _ _ _ => 0)
    case atStart => exact ⟨rfl, rfl, HB1⟩
    case round =>
      clear HB1
      obtain ⟨rfl, rfl, HB1⟩ := hrel
      go_wp2
      go_ret
      exact SpotsPost.mk (OwnS.nil _ _) HB1.out rfl
end Go.Proofs.Ytpkmbgbglefcfaa
