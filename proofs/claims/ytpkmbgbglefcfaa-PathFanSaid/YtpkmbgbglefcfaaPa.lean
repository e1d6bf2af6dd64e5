/- All nodes, of the program and of the reference: what each call leaves. No conditions. -/
import Derived.Test.YtpkmbgbglefcfaaPn
set_option linter.unusedVariables false
namespace Go.Proofs.Ytpkmbgbglefcfaa
open Go.RowKit

set_option maxHeartbeats 400000 in
theorem all_any (d : Int) (w : World) :
    Calls Try.prog 15 #[.int .i64 d] w (SpotsPost w (al (lv d))) := by
  have hl := lv_le d
  obtain ⟨n, hn⟩ : ∃ n, lv d = n := ⟨_, rfl⟩
  rw [hn] at hl ⊢
  have HN := Lib.hid hn
  clear hn
  go_enter Try.func15, Try.ntmps15
  go_wp2_with (first
    | (go_at_call 22; refine (levels_any _ _).mono ?_; rintro e w' ⟨rfl, rfl⟩; rw [HN.out]))
  go_loopw [3, 8] (fun v i wr => ∃ k : Nat, k ≤ n ∧ i = .int .i64 k ∧ ∃ A m c, v = .slice A m c ∧ Hid (OwnS w.heap.size wr A m c (al k)) ∧ Hid (Below w.heap.size w wr)) (fun _ i _ => n - (intOf i).toNat)
  case atStart => exact ⟨0, Nat.zero_le _, rfl, none, 0, 0, rfl, Lib.hid (OwnS.nil _ _), Lib.hid (Below.refl _ _)⟩
  case round =>
    obtain ⟨k, hk, rfl, A, m, c, rfl, HO, HB⟩ := hrel
    have hp := pw_le (n := k) (by omega)
    have hp0 : (0 : Int) ≤ (pw k : Int) := by omega
    have hp1 : (pw k : Int) ≤ 256 := by omega
    by_cases hlt : k < n
    · go_wp2_with (go_at_call 23; refine (width_any k (by omega) _).mono ?_; rintro e w' ⟨rfl, rfl⟩)
      go_loopw [3, 13] (fun v i wr => ∃ j : Nat, j ≤ pw k ∧ i = .int .i64 j ∧ ∃ A m c, v = .slice A m c ∧ Hid (OwnS w.heap.size wr A m c (al k ++ lev k j)) ∧ Hid (Below w.heap.size w wr)) (fun _ i _ => pw k - (intOf i).toNat)
      case atStart => exact ⟨0, Nat.zero_le _, rfl, A, m, c, rfl, Lib.hid (by rw [lev_zero, List.append_nil]; exact HO.out), HB⟩
      case round =>
        rename_i hO
        clear HO HB
        obtain ⟨j, hj, rfl, A, m, c, rfl, HO, HB⟩ := hrel
        by_cases hjl : j < pw k
        · have HM := Lib.hid (p := m ≤ 341) (by have h1 := HO.out.len; rw [List.length_append, al_len, lev_len] at h1; have := nd_le (n := k) (by omega); omega)
          go_wp2_with (first
            | (at_builtin; refine wp_join rfl _ _ rfl rec_spot w.heap.size (.slice A m c) m ((al k ++ lev k j).flatMap sp) rfl (HO.out.alloc _) (some ⟨wr.heap.size, 0, none⟩) 1 1 (sp ((k : Int), (j : Int))) rfl rfl (made_src wr (sp ((k : Int), (j : Int))) _) (sp_one _) (by have := HM.out; omega) (Nat.le_trans HB.out.size (below_al wr _).size) ?_
               intro v5 w2 hr2 hg2 hat2
               obtain ⟨A5, c5, rfl, hO5, hB5⟩ := spot_more HB.out HO.out hr2 hg2
               have HO5 := Lib.hid hO5
               have HB5 := Lib.hid hB5
               clear hr2 hg2 hat2 hO5 hB5))
          go_roundw
          case rel => exact ⟨j + 1, by omega, by go_num, A5, m + 1, c5, rfl, by rw [lev_succ, ← List.append_assoc]; exact HO5, HB5⟩
          case measure => simp [intOf]; omega
        · obtain rfl : j = pw k := by omega
          go_wp2
          go_roundw
          case rel => exact ⟨k + 1, by omega, by go_num, A, m, c, rfl, HO, HB⟩
          case measure => simp [intOf]; omega
    · obtain rfl : k = n := by omega
      go_wp2
      go_ret
      exact SpotsPost.mk HO.out HB.out rfl
set_option maxHeartbeats 400000 in
theorem rall_any (d : Int) (w : World) :
    Calls Try.prog 10 #[.int .i64 d] w (SpotsPost w (al (lv d))) := by
  by_cases hd : 1 ≤ d ∧ d ≤ 4
  · obtain ⟨n, rfl, hn1, hn4⟩ := lv_nat hd.1 hd.2
    have HL := Lib.hid (sl_of hn1 hn4)
    have hp := pw_pos n
    have hne : ((pw n : Int) == 0) = false := by simp; omega
    rw [lv_of hn1 hn4]
    clear hd
    go_enter Try.func10, Try.ntmps10
    go_wp2_with (first
      | (go_at_call 12; refine (rslots_any _ _).mono ?_; rintro e w' ⟨rfl, rfl⟩; rw [HL.out]))
    go_loopw [3, 4] (fun v i wr => ∃ k : Nat, k ≤ n ∧ i = .int .i64 k ∧ ∃ A m c, v = .slice A m c ∧ Hid (OwnS w.heap.size wr A m c (al k)) ∧ Hid (Below w.heap.size w wr)) (fun _ i _ => n - (intOf i).toNat)
    case atStart => exact ⟨0, Nat.zero_le _, rfl, none, 0, 0, rfl, Lib.hid (OwnS.nil _ _), Lib.hid (Below.refl _ _)⟩
    case round =>
      obtain ⟨k, hk, rfl, A, m, c, rfl, HO, HB⟩ := hrel
      have hp := pw_le (n := k) (by omega)
      have hp0 : (0 : Int) ≤ (pw k : Int) := by omega
      have hp1 : (pw k : Int) ≤ 256 := by omega
      by_cases hlt : k < n
      · go_wp2
        go_loopw [3, 5] (fun v i wr => ∃ j : Nat, j ≤ pw k ∧ i = .int .i64 j ∧ ∃ A m c, v = .slice A m c ∧ Hid (OwnS w.heap.size wr A m c (al k ++ lev k j)) ∧ Hid (Below w.heap.size w wr)) (fun _ i _ => pw k - (intOf i).toNat)
        case atStart => exact ⟨0, Nat.zero_le _, rfl, A, m, c, rfl, Lib.hid (by rw [lev_zero, List.append_nil]; exact HO.out), HB⟩
        case round =>
          rename_i hO
          clear HO HB
          obtain ⟨j, hj, rfl, A, m, c, rfl, HO, HB⟩ := hrel
          by_cases hjl : j < pw k
          · have HM := Lib.hid (p := m ≤ 341) (by have h1 := HO.out.len; rw [List.length_append, al_len, lev_len] at h1; have := nd_le (n := k) (by omega); omega)
            go_wp2_with (first
              | (go_at_call 21; refine (power_any k (by omega) _).mono ?_; rintro e w' ⟨rfl, rfl⟩)
              | (at_builtin; refine wp_join rfl _ _ rfl rec_spot w.heap.size (.slice A m c) m ((al k ++ lev k j).flatMap sp) rfl (HO.out.alloc _) (some ⟨wr.heap.size, 0, none⟩) 1 1 (sp ((k : Int), (j : Int))) rfl rfl (made_src wr (sp ((k : Int), (j : Int))) _) (sp_one _) (by have := HM.out; omega) (Nat.le_trans HB.out.size (below_al wr _).size) ?_
                 intro v5 w2 hr2 hg2 hat2
                 obtain ⟨A5, c5, rfl, hO5, hB5⟩ := spot_more HB.out HO.out hr2 hg2
                 have HO5 := Lib.hid hO5
                 have HB5 := Lib.hid hB5
                 clear hr2 hg2 hat2 hO5 hB5))
            go_roundw
            case rel => exact ⟨j + 1, by omega, by go_num, A5, m + 1, c5, rfl, by rw [lev_succ, ← List.append_assoc]; exact HO5, HB5⟩
            case measure => simp [intOf]; omega
          · obtain rfl : j = pw k := by omega
            go_wp2_with (go_at_call 21; refine (power_any k (by omega) _).mono ?_; rintro e w' ⟨rfl, rfl⟩)
            go_roundw
            case rel => exact ⟨k + 1, by omega, by go_num, A, m, c, rfl, HO, HB⟩
            case measure => simp [intOf]; omega
      · obtain rfl : k = n := by omega
        go_wp2
        go_ret
        exact SpotsPost.mk HO.out HB.out rfl
  · have HL := Lib.hid (sl_out hd)
    rw [lv_out hd]
    clear hd
    go_enter Try.func10, Try.ntmps10
    go_wp2_with (first
      | (go_at_call 12; refine (rslots_any _ _).mono ?_; rintro e w' ⟨rfl, rfl⟩; rw [HL.out]))
    go_ret
    exact SpotsPost.mk (OwnS.nil _ _) (Below.refl _ _) rfl
end Go.Proofs.Ytpkmbgbglefcfaa
