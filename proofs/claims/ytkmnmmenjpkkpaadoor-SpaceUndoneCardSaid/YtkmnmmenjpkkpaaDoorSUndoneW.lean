/- What is taken and undone, or given back and settled, leaves the space as it was: the walk. Condition: the library's table lies there. -/
import Derived.Test.YtkmnmmenjpkkpaaDoorSc
set_option linter.unusedVariables false
namespace Go.Proofs.YtkmnmmenjpkkpaaDoor.spaceUndone
open Go.RowKit

/-- The states, as a list. -/
def sl (N : Nat) (T : Nat → Nat) : List Int := (List.range N).map fun j => (T j : Int)
theorem sl_len (N : Nat) (T : Nat → Nat) : (sl N T).length = N := by simp [sl]
theorem sl_next (n : Nat) (T : Nat → Nat) : sl n T ++ [(T n : Int)] = sl (n + 1) T := by simp [sl, List.range_succ]
theorem sl_get {N j : Nat} (T : Nat → Nat) (h : j < N) : (sl N T)[j]? = some (T j : Int) := by simp [sl, h]
attribute [irreducible] sl

set_option maxRecDepth 20000 in
set_option maxHeartbeats 1000000 in
theorem walk (W : World) (z : Int) (hw : (Lit.int .u8 z).wf = true) (A : Option Addr) (len cap : Nat) (ds : List (Int × Int)) (hds : InP W A len cap ds) (sb : Bool) (hT : Tab W) :
    Calls Tryd.prog 7 #[.int .u8 z, .slice A len cap, .bool sb] W fun e w' => e = .returned (.bool true) ∧ Below W.heap.size W w' := by
  obtain ⟨b, rfl, hb⟩ := u8_num hw
  obtain ⟨N, hN⟩ : ∃ N, 1 + b = N := ⟨_, rfl⟩
  have hc : IntKind.i64.wrap (b : Int) = (b : Int) := by rw [IntKind.wrap_i64]; omega
  have hc2 : wrap64 (b : Int) = (b : Int) := by unfold wrap64; omega
  have hN1 : IntKind.i64.wrap (1 + (b : Int)) = (N : Int) := by rw [IntKind.wrap_i64]; omega
  have hN2 : wrap64 (1 + (b : Int)) = (N : Int) := by unfold wrap64; omega
  have H := Lib.hid (p := 1 ≤ N ∧ N ≤ 256) (by omega)
  have HT := Lib.hid hT
  have HDS := Lib.hid hds
  have hlen9 : (len : Int) ≤ 9223372036854775807 := by have h1 := hds.cap_; have h2 := hds.max_; unfold maxLen at h2; omega
  clear hT hw hb hN hds
  go_enter Tryd.func7, Tryd.ntmps7
  go_wp2_with (first
    | (go_at_call 8; refine (awake_any _ HT.out).mono ?_; rintro e w1 ⟨rfl, hb1⟩; have HB1 := Lib.hid hb1; clear hb1)
    | (go_at_call 9; refine (own_new H.out.1 (by have := H.out.2; omega) _ (HT.out.below HB1.out HT.out.lt)).mono ?_; rintro e w2 ⟨g, rfl, h2⟩; have H2 := Lib.hid (h2.base HB1.out); clear h2))
  go_loopw [10] (fun i wr => ∃ (k : Nat) (S : Nat → Nat), k ≤ 300 ∧ i = .int .i64 (k : Int) ∧ Hid (Own W wr g N S)) (fun i _ => 300 - (intOf i).toNat)
  case atStart => exact ⟨0, _, by omega, rfl, H2⟩
  case round =>
    clear H2 HB1
    obtain ⟨k, S, hk, rfl, HS⟩ := hrel
    by_cases hlt : k < len ∧ k < 300
    · obtain ⟨⟨kd, ka⟩, hd⟩ : ∃ d, ds[k]? = some d := ⟨_, List.getElem?_eq_getElem (by rw [← HDS.out.len_]; exact hlt.1)⟩
      obtain ⟨gs, os, rfl, c0, c1⟩ := HDS.out.at_ k _ hd
      have HC1 := Lib.hid c1
      have hgs := World.block_lt_of_cell? W _ c0
      have c0r : wr.cell? ⟨gs, os + k * 2, none⟩ = some (.int .i64 kd) := (HS.out.below.cell (p := ⟨gs, os + k * 2, none⟩) hgs).trans c0
      have c1r : wr.cell? ⟨gs, os + k * 2 + 1, none⟩ = some (.int .i64 ka) := (HS.out.below.cell (p := ⟨gs, os + k * 2 + 1, none⟩) hgs).trans c1
      have hk1 : (k : Int) < (len : Int) := by omega
      have hk2 : (k : Int) < 300 := by omega
      have hk0 : (0 : Int) ≤ (k : Int) := by omega
      have d1 : decide (k < len) = true := decide_eq_true hlt.1
      have d2 : decide (k < 300) = true := decide_eq_true hlt.2
      have HK := Lib.hid hlt
      clear c0 c1 hlt hd hk hgs HC1
      by_cases k0 : kd = 0
      · subst k0
        go_wp2_with (first
          | (go_at_call 11; refine (own_take HS.out).mono ?_; rintro e w5 ⟨rfl, h5, _⟩; have H5 := Lib.hid h5; clear h5))
        go_roundw
        case rel => exact ⟨k + 1, _, by have := HK.out; omega, by go_num, H5⟩
        case measure => simp [intOf]; have := HK.out; omega
      · have b0 : (kd == 0) = false := beq_false_of_ne k0
        by_cases k1 : kd = 1
        · subst k1
          go_wp2_with (first
            | (go_at_call 13; refine (own_mark HS.out ka).mono ?_; rintro e w5 ⟨rfl, h5, _⟩; have H5 := Lib.hid h5; clear h5))
          go_roundw
          case rel => exact ⟨k + 1, _, by have := HK.out; omega, by go_num, H5⟩
          case measure => simp [intOf]; have := HK.out; omega
        · have b1 : (kd == 1) = false := beq_false_of_ne k1
          by_cases k2 : kd = 2
          · subst k2
            go_wp2_with (first
              | (go_at_call 15; refine (own_give HS.out ka).mono ?_; rintro e w5 ⟨rfl, h5, _⟩; have H5 := Lib.hid h5; clear h5))
            go_roundw
            case rel => exact ⟨k + 1, _, by have := HK.out; omega, by go_num, H5⟩
            case measure => simp [intOf]; have := HK.out; omega
          · have b2 : (kd == 2) = false := beq_false_of_ne k2
            go_wp2_with (first
              | (go_at_call 16; refine (own_undo HS.out ka).mono ?_; rintro e w5 ⟨rfl, h5, _⟩; have H5 := Lib.hid h5; clear h5))
            go_roundw
            case rel => exact ⟨k + 1, _, by have := HK.out; omega, by go_num, H5⟩
            case measure => simp [intOf]; have := HK.out; omega
    · have hx : decide (k < len) = false ∨ (decide (k < len) = true ∧ (k : Int) < (len : Int) ∧ ¬ (k : Int) < 300 ∧ decide (k < 300) = false ∧ decide ((k : Int) < 300) = false) := by
        by_cases e : k < len
        · exact .inr ⟨decide_eq_true e, by omega, by omega, decide_eq_false (by omega), decide_eq_false (by omega)⟩
        · exact .inl (decide_eq_false e)
      clear hlt hk
      rcases hx with hx | ⟨hx, hx2, hx3, hy, hy2⟩
      all_goals
        go_wp2_with (first
          | (go_at_call 17; refine (own_settle HS.out).mono ?_; rintro e w5 ⟨rfl, h5, _⟩; have H5 := Lib.hid h5; clear h5))
        obtain ⟨T, hT0⟩ : ∃ T, seS S = T := ⟨_, rfl⟩
        have HT1 := Lib.hid (p := ∀ j, T j ≤ 1) (fun j => by rw [← hT0]; exact seS_ne HS.out.sp.st j)
        rw [hT0] at H5
        clear hT0 HS
        go_loopw [11, 12] (fun v i wr => ∃ k : Nat, k ≤ N ∧ i = .int .i64 (k : Int) ∧ ∃ A c, v = .slice A k c ∧ Hid (OwnI W.heap.size wr A k c (sl k T)) ∧ Hid (Own W wr g N T)) (fun _ i _ => N - (intOf i).toNat)
        case atStart => exact ⟨0, Nat.zero_le _, rfl, none, 0, rfl, Lib.hid (by have := OwnI.nil W.heap.size w5; unfold sl; exact this), H5⟩
        case round =>
          clear H5
          obtain ⟨k, hk, rfl, A1, c1, rfl, HO, HS⟩ := hrel
          by_cases hlt : k < N
          · have hw1 : wrap64 ((k : Int) + 1) = (k : Int) + 1 := by unfold wrap64; have := H.out.2; omega
            have hw2 : IntKind.i64.wrap ((k : Int) + 1) = (k : Int) + 1 := by rw [IntKind.wrap_i64]; have := H.out.2; omega
            have hkN : (k : Int) < (N : Int) := by omega
            have HK := Lib.hid hlt
            clear hlt hk
            go_wp2_with (first
              | (go_at_call 21; refine (own_state_in HS.out HK.out).mono ?_; rintro e w4 ⟨rfl, q, hq⟩
                 have hb4 : Below wr.heap.size wr w4 := by rw [hq]; exact below_dr q
                 have HO4 := Lib.hid (HO.out.kept hb4)
                 have HS4 := Lib.hid (HS.out.kept hb4)
                 clear hq hb4)
              | (at_builtin; (refine wp_join rfl _ _ rfl rec_int W.heap.size (.slice A1 k c1) k (ic (sl k T)) rfl (HO4.out.alloc _) (some ⟨w4.heap.size, 0, none⟩) 1 1 [.int .i64 (T k : Int)] rfl rfl (made_src w4 [.int .i64 (T k : Int)] _) (by intro u hu; simp at hu; subst hu; rfl) (by have := HK.out; have := H.out.2; omega) (Nat.le_trans HS4.out.below.size (below_al w4 _).size) ?_)
                 intro v5 w6 hr6 hg6 hat6
                 have ho4 := World.ownsRow.alloc HO4.out (.cells #[.int .i64 (T k : Int)] 3)
                 have hs4 := HS4.out.kept (below_al w4 (.cells #[.int .i64 (T k : Int)] 3))
                 have hs6 := hs4.far hg6 (own_ne ho4 hs4.sp.row (by decide)) HT.out.lt (fun r hr => (ho4.lt r hr).1)
                 obtain ⟨A5, c5, rfl, hO6, hB6⟩ := int_more HS4.out.below HO4.out hr6 hg6
                 have HO6 := Lib.hid hO6
                 have HS6 := Lib.hid hs6
                 clear hr6 hg6 hat6 hO6 hB6 hs6 hs4 ho4))
            go_roundw
            case rel => exact ⟨k + 1, HK.out, by go_num, A5, c5, rfl, by rw [← sl_next]; exact HO6, HS6⟩
            case measure => exact down HK.out
          · obtain rfl : k = N := by omega
            clear hlt hk
            cases ho : ft k T with
            | none =>
              have HF := Lib.hid ho
              clear ho
              go_wp2_with (first
                | (go_at_call 11; refine (own_full HS.out HF.out).mono ?_; rintro e w6 ⟨rfl, h6, _⟩; have H6 := Lib.hid h6; clear h6)
                | (go_at_call 19; refine (own_nofree H6.out HF.out).mono ?_; rintro e w7 ⟨rfl, rfl⟩))
              go_ret
              exact ⟨rfl, H6.out.below⟩
            | some m =>
              obtain ⟨hm1, hm2, hm3⟩ := ft_some ho
              have HM := Lib.hid (p := m < k ∧ T m = 0 ∧ ∀ j, j < m → T j ≠ 0) ⟨hm1, hm2, hm3⟩
              have HF := Lib.hid ho
              clear ho hm1 hm2 hm3
              cases sb with
              | false =>
                go_wp2_with (first
                  | (go_at_call 11; refine (own_some HS.out HF.out).mono ?_; rintro e w6 ⟨rfl, h6, g6⟩; have H6 := Lib.hid h6; have HO6 := Lib.hid (own_far HO.out HS.out.sp.row (by decide) g6); clear h6 g6)
                  | (go_at_call 16; refine (own_undone H6.out HM.out.1 HM.out.2.1).mono ?_; rintro e w9 ⟨rfl, h9, g9⟩; have H9 := Lib.hid h9; have HO9 := Lib.hid (own_far HO6.out H6.out.sp.row (by decide) g9); clear h9 g9))
                go_loopw [15] (fun i wr => ∃ j : Nat, j ≤ k ∧ i = .int .i64 (j : Int) ∧ Hid (OwnI W.heap.size wr A1 k c1 (sl k T)) ∧ Hid (Own W wr g k T)) (fun i _ => k - (intOf i).toNat)
                case atStart => exact ⟨0, Nat.zero_le _, rfl, HO9, H9⟩
                case round =>
                  clear HO9 H9
                  obtain ⟨j, hj, rfl, HOj, HSj⟩ := hrel
                  by_cases hlt : j < k
                  · obtain ⟨ga, oa, e1, hga, ca⟩ := (OwnI.hol HOj.out).at_ (j := j) (by rw [sl_len]; exact hlt)
                    have es : (sl k T)[j]'(by rw [sl_len]; exact hlt) = (T j : Int) := by
                      have := sl_get T hlt
                      rw [List.getElem?_eq_getElem (by rw [sl_len]; exact hlt)] at this
                      exact Option.some.inj this
                    rw [es] at ca
                    obtain ⟨t, ht⟩ : ∃ t, T j = t := ⟨_, rfl⟩
                    rw [ht] at ca
                    obtain ⟨hw1, hw2⟩ := wrap_next hlt (Nat.le_trans H.out.2 (by decide))
                    have hkN := ilt hlt
                    have hk0 := inn j
                    have hST : Hid (∀ q, Calls Tryd.prog 21 #[.pointer (some ⟨g, 0, none⟩), .int .i64 (j : Int)] (wr.drewN q) fun e w' => e = .returned (.int .i64 (t : Int)) ∧ ∃ q', w' = (wr.drewN q).drewN q') := Lib.hid (fun q => by
                      have := own_state_in (HSj.out.drewN q) hlt
                      rw [ht] at this
                      exact this)
                    have hb1 : ((t : Int) != (t : Int)) = false := by simp
                    have HK := Lib.hid hlt
                    have HTJ := Lib.hid ht
                    clear hlt hj es ht hga
                    by_cases hjm : j < m
                    · have e2 := dlt hjm
                      have e2n : decide (j < m) = true := decide_eq_true hjm
                      have e2z := ilt hjm
                      have e3 : ((t : Int) == 0) = false := nz_beq (HTJ.out ▸ HM.out.2.2 j hjm)
                      subst e1
                      clear hjm
                      go_wp2_with fail
                      go_quiet (first | (go_at_call 21; refine Calls.quiet_of (hST.out _)))
                      go_wp2
                      go_roundw
                      case rel => exact ⟨j + 1, HK.out, by go_num, Lib.hid (HOj.out.kept (below_dr _)), Lib.hid (HSj.out.drewN _)⟩
                      case measure => exact down HK.out
                    · have e2 := dnlt hjm
                      have e2n : decide (j < m) = false := decide_eq_false hjm
                      subst e1
                      clear hjm
                      go_wp2_with fail
                      go_quiet (first | (go_at_call 21; refine Calls.quiet_of (hST.out _)))
                      go_wp2
                      go_roundw
                      case rel => exact ⟨j + 1, HK.out, by go_num, Lib.hid (HOj.out.kept (below_dr _)), Lib.hid (HSj.out.drewN _)⟩
                      case measure => exact down HK.out
                  · obtain rfl : j = k := by omega
                    go_wp2
                    go_ret
                    exact ⟨rfl, HSj.out.below⟩
              | true =>
                go_wp2_with (first
                  | (go_at_call 11; refine (own_some HS.out HF.out).mono ?_; rintro e w6 ⟨rfl, h6, g6⟩; have H6 := Lib.hid h6; have HO6 := Lib.hid (own_far HO.out HS.out.sp.row (by decide) g6); clear h6 g6)
                  | (go_at_call 15; refine (own_giveback H6.out HM.out.1).mono ?_; rintro e w7 ⟨rfl, h7, g7⟩; have H7 := Lib.hid h7; have HO7 := Lib.hid (own_far HO6.out H6.out.sp.row (by decide) g7); clear h7 g7)
                  | (go_at_call 17; refine (own_settleback H7.out HT1.out HM.out.1 HM.out.2.1).mono ?_; rintro e w9 ⟨rfl, h9, g9⟩; have H9 := Lib.hid h9; have HO9 := Lib.hid (own_far HO7.out H7.out.sp.row (by decide) g9); clear h9 g9))
                go_loopw [15] (fun i wr => ∃ j : Nat, j ≤ k ∧ i = .int .i64 (j : Int) ∧ Hid (OwnI W.heap.size wr A1 k c1 (sl k T)) ∧ Hid (Own W wr g k T)) (fun i _ => k - (intOf i).toNat)
                case atStart => exact ⟨0, Nat.zero_le _, rfl, HO9, H9⟩
                case round =>
                  clear HO9 H9
                  obtain ⟨j, hj, rfl, HOj, HSj⟩ := hrel
                  by_cases hlt : j < k
                  · obtain ⟨ga, oa, e1, hga, ca⟩ := (OwnI.hol HOj.out).at_ (j := j) (by rw [sl_len]; exact hlt)
                    have es : (sl k T)[j]'(by rw [sl_len]; exact hlt) = (T j : Int) := by
                      have := sl_get T hlt
                      rw [List.getElem?_eq_getElem (by rw [sl_len]; exact hlt)] at this
                      exact Option.some.inj this
                    rw [es] at ca
                    obtain ⟨t, ht⟩ : ∃ t, T j = t := ⟨_, rfl⟩
                    rw [ht] at ca
                    obtain ⟨hw1, hw2⟩ := wrap_next hlt (Nat.le_trans H.out.2 (by decide))
                    have hkN := ilt hlt
                    have hk0 := inn j
                    have hST : Hid (∀ q, Calls Tryd.prog 21 #[.pointer (some ⟨g, 0, none⟩), .int .i64 (j : Int)] (wr.drewN q) fun e w' => e = .returned (.int .i64 (t : Int)) ∧ ∃ q', w' = (wr.drewN q).drewN q') := Lib.hid (fun q => by
                      have := own_state_in (HSj.out.drewN q) hlt
                      rw [ht] at this
                      exact this)
                    have hb1 : ((t : Int) != (t : Int)) = false := by simp
                    have HK := Lib.hid hlt
                    have HTJ := Lib.hid ht
                    clear hlt hj es ht hga
                    by_cases hjm : j < m
                    · have e2 := dlt hjm
                      have e2n : decide (j < m) = true := decide_eq_true hjm
                      have e2z := ilt hjm
                      have e3 : ((t : Int) == 0) = false := nz_beq (HTJ.out ▸ HM.out.2.2 j hjm)
                      subst e1
                      clear hjm
                      go_wp2_with fail
                      go_quiet (first | (go_at_call 21; refine Calls.quiet_of (hST.out _)))
                      go_wp2
                      go_roundw
                      case rel => exact ⟨j + 1, HK.out, by go_num, Lib.hid (HOj.out.kept (below_dr _)), Lib.hid (HSj.out.drewN _)⟩
                      case measure => exact down HK.out
                    · have e2 := dnlt hjm
                      have e2n : decide (j < m) = false := decide_eq_false hjm
                      subst e1
                      clear hjm
                      go_wp2_with fail
                      go_quiet (first | (go_at_call 21; refine Calls.quiet_of (hST.out _)))
                      go_wp2
                      go_roundw
                      case rel => exact ⟨j + 1, HK.out, by go_num, Lib.hid (HOj.out.kept (below_dr _)), Lib.hid (HSj.out.drewN _)⟩
                      case measure => exact down HK.out
                  · obtain rfl : j = k := by omega
                    go_wp2
                    go_ret
                    exact ⟨rfl, HSj.out.below⟩
end Go.Proofs.YtkmnmmenjpkkpaaDoor.spaceUndone
