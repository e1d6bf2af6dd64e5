/- The space's functions: what each call answers and leaves. Conditions: a space lies there, and the library's table. -/
import Derived.Test.YtkmnmmenjpkkpaaDoorSq
import Derived.Test.YtkmnmmenjpkkpaaDoorSt
import Derived.Deep.RegionWith
set_option linter.unusedVariables false
namespace Go.Proofs.YtkmnmmenjpkkpaaDoor
open Go.RowKit

/-- Block g is a space of N blocks, whose states are S. -/
structure Spc (w : World) (g N : Nat) (S : Nat → Nat) : Prop where
  row : SpAt w g N (fr N S) (bk N S)
  le : N ≤ 1024
  st : ∀ j, S j ≤ 2
  tab : Tab w
  ne : 0 ≠ g
theorem Spc.lt {w : World} {g N : Nat} {S : Nat → Nat} (h : Spc w g N S) : g < w.heap.size := h.row.lt
theorem Spc.kept {w w' : World} {g N : Nat} {S : Nat → Nat} (h : Spc w g N S) (k : Below w.heap.size w w') : Spc w' g N S := ⟨h.row.kept k, h.le, h.st, h.tab.below k h.tab.lt, h.ne⟩
theorem Spc.drewN {w : World} {g N : Nat} {S : Nat → Nat} (h : Spc w g N S) (q : Nat) : Spc (w.drewN q) g N S := ⟨h.row, h.le, h.st, h.tab, h.ne⟩
theorem Spc.far {w w' : World} {g N r : Nat} {S : Nat → Nat} (h : Spc w g N S) (k : w.grownBy w' (some r)) (hr : r ≠ g) (ht : 0 ≠ r) : Spc w' g N S :=
  ⟨h.row.grown k (fun e => hr (by injection e with e; exact e.symm)), h.le, h.st, h.tab.grown k ht, h.ne⟩
theorem below_dr {w : World} (q : Nat) : Below w.heap.size w (w.drewN q) := below_drewN (Below.refl _ _) q
theorem up_dr {w : World} (q g : Nat) : w.grownBy (w.drewN q) (some g) := grown_of_below (below_dr q)

section
variable {w : World} {g N : Nat} {S : Nat → Nat}
theorem has_at {off : Nat} {F : Nat → Bool} (h : SetAt w g off F) (hr : ∃ t cs, Row w g t cs) {a : Nat} (ha : a < 1024) :
    Calls Tryd.prog 29 #[.pointer (some ⟨g, off, none⟩), .int .i64 (a : Int)] w fun e w' => e = .returned (.bool (F a)) ∧ ∃ q, w' = w.drewN q := by
  obtain ⟨t, cs, hr⟩ := hr
  have hx := h (a / 64) (by omega)
  rw [hr.cell, wv_eq] at hx
  have := has_any hr ha hx
  rw [show 64 * (a / 64) + a % 64 = a by omega] at this
  exact this
/-- State. -/
theorem state_any (h : Spc w g N S) (z : Int) : Calls Tryd.prog 21 #[.pointer (some ⟨g, 0, none⟩), .int .i64 z] w fun e w' => e = .returned (.int .i64 (stv N S z)) ∧ ∃ q, w' = w.drewN q := by
  have c0 : w.cell? ⟨g, 0, none⟩ = some (.int .i64 (N : Int)) := (h.row.cell 0).trans (spc_num _ _ _)
  have H := Lib.hid h
  clear h
  by_cases hz0 : z < 0
  · rw [stv_out (by omega)]
    go_enter Tryd.func21, Tryd.ntmps21
    go_wp2
    go_ret
    exact ⟨rfl, 0, rfl⟩
  · by_cases hz1 : (N : Int) ≤ z
    · rw [stv_out (by omega)]
      have hz2 : ¬ z < 0 := hz0
      have d0 : decide (z < 0) = false := decide_eq_false hz0
      have d1 : decide ((N : Int) ≤ z) = true := decide_eq_true hz1
      go_enter Tryd.func21, Tryd.ntmps21
      go_wp2
      go_ret
      exact ⟨rfl, 0, rfl⟩
    · obtain ⟨a, rfl⟩ := Int.eq_ofNat_of_zero_le (by omega : 0 ≤ z)
      have ha : a < N := by omega
      rw [stv_in ha]
      have d0 : decide ((a : Int) < 0) = false := decide_eq_false hz0
      have d1 : decide ((N : Int) ≤ (a : Int)) = false := decide_eq_false hz1
      have d2 : decide (N ≤ a) = false := decide_eq_false (by omega)
      have HA := Lib.hid ha
      clear hz0 hz1 ha
      by_cases h0 : S a = 0
      · have hf : fr N S a = true := fr_lt.2 ⟨HA.out, h0⟩
        rw [h0]
        go_enter Tryd.func21, Tryd.ntmps21
        go_wp2_with (go_at_call 29; refine (has_at (spf_at H.out.row) ⟨_, _, H.out.row⟩ (Nat.lt_of_lt_of_le HA.out H.out.le)).mono ?_; rintro e w' ⟨rfl, q, rfl⟩; rw [hf])
        go_ret
        exact ⟨rfl, q, rfl⟩
      · have hf : fr N S a = false := by
          rw [← Bool.not_eq_true, fr_lt]
          exact fun e => h0 e.2
        by_cases h2 : S a = 2
        · have hb : bk N S a = true := bk_lt.2 ⟨HA.out, h2⟩
          rw [h2]
          go_enter Tryd.func21, Tryd.ntmps21
          go_wp2_with (first
            | (go_at_call_of 29 (Value.pointer (some ⟨g, 1, none⟩)); refine (has_at (spf_at H.out.row) ⟨_, _, H.out.row⟩ (Nat.lt_of_lt_of_le HA.out H.out.le)).mono ?_; rintro e w' ⟨rfl, q, rfl⟩; rw [hf])
            | (go_at_call_of 29 (Value.pointer (some ⟨g, 17, none⟩)); refine (has_at (spb_at (H.out.drewN q).row) ⟨_, _, (H.out.drewN q).row⟩ (Nat.lt_of_lt_of_le HA.out H.out.le)).mono ?_; rintro e w' ⟨rfl, q2, rfl⟩; rw [hb]))
          go_ret
          exact ⟨rfl, _, rfl⟩
        · have hb : bk N S a = false := by
            rw [← Bool.not_eq_true, bk_lt]
            exact fun e => h2 e.2
          have h1 : S a = 1 := by
            have := H.out.st a
            omega
          rw [h1]
          go_enter Tryd.func21, Tryd.ntmps21
          go_wp2_with (first
            | (go_at_call_of 29 (Value.pointer (some ⟨g, 1, none⟩)); refine (has_at (spf_at H.out.row) ⟨_, _, H.out.row⟩ (Nat.lt_of_lt_of_le HA.out H.out.le)).mono ?_; rintro e w' ⟨rfl, q, rfl⟩; rw [hf])
            | (go_at_call_of 29 (Value.pointer (some ⟨g, 17, none⟩)); refine (has_at (spb_at (H.out.drewN q).row) ⟨_, _, (H.out.drewN q).row⟩ (Nat.lt_of_lt_of_le HA.out H.out.le)).mono ?_; rintro e w' ⟨rfl, q2, rfl⟩; rw [hb]))
          go_ret
          exact ⟨rfl, _, rfl⟩
theorem state_nil (z : Int) : Calls Tryd.prog 21 #[.pointer none, .int .i64 z] w fun e w' => e = .returned (.int .i64 (-1)) ∧ w' = w := by
  go_enter Tryd.func21, Tryd.ntmps21
  go_wp2
  go_ret
  exact ⟨rfl, rfl⟩
/-- must. -/
theorem must_any (h : Spc w g N S) (z : Int) (k : Nat) : Calls Tryd.prog 26 #[.pointer (some ⟨g, 0, none⟩), .int .i64 z, .int .i64 (k : Int)] w fun e w' => e = .returned (.int .i64 (mv N S z k)) ∧ ∃ q, w' = w.drewN q := by
  have H := Lib.hid h
  clear h
  obtain ⟨x, hx⟩ : ∃ x, stv N S z = x := ⟨_, rfl⟩
  have hm : mv N S z k = if x = -1 then 201 else if x = (k : Int) then 0 else 205 := by unfold mv; rw [hx]
  have HX := Lib.hid hx
  clear hx
  by_cases h1 : x = -1
  · rw [if_pos h1] at hm
    rw [hm]
    subst h1
    go_enter Tryd.func26, Tryd.ntmps26
    go_wp2_with (go_at_call 21; refine (state_any H.out z).mono ?_; rintro e w' ⟨rfl, q, rfl⟩; rw [HX.out])
    go_ret
    exact ⟨rfl, _, rfl⟩
  · rw [if_neg h1] at hm
    have b1 : (x == -1) = false := beq_false_of_ne h1
    by_cases h2 : x = (k : Int)
    · rw [if_pos h2] at hm
      rw [hm]
      have b2 : (x == (k : Int)) = true := by rw [h2]; simp
      clear h1 h2
      go_enter Tryd.func26, Tryd.ntmps26
      go_wp2_with (go_at_call 21; refine (state_any H.out z).mono ?_; rintro e w' ⟨rfl, q, rfl⟩; rw [HX.out])
      go_ret
      exact ⟨rfl, _, rfl⟩
    · rw [if_neg h2] at hm
      rw [hm]
      have b2 : (x == (k : Int)) = false := beq_false_of_ne h2
      clear h1 h2
      go_enter Tryd.func26, Tryd.ntmps26
      go_wp2_with (go_at_call 21; refine (state_any H.out z).mono ?_; rintro e w' ⟨rfl, q, rfl⟩; rw [HX.out])
      go_ret
      exact ⟨rfl, _, rfl⟩
theorem must_nil (z k : Int) : Calls Tryd.prog 26 #[.pointer none, .int .i64 z, .int .i64 k] w fun e w' => e = .returned (.int .i64 201) ∧ w' = w := by
  go_enter Tryd.func26, Tryd.ntmps26
  go_wp2_with (go_at_call 21; refine (state_nil z).mono ?_; rintro e w' ⟨rfl, rfl⟩)
  go_ret
  exact ⟨rfl, rfl⟩
/-- The two sets' changes, in memory. -/
theorem add_free (h : Spc w g N S) {a : Nat} (ha : a < N) (h2 : S a ≠ 2) : Calls Tryd.prog 23 #[.pointer (some ⟨g, 1, none⟩), .int .i64 (a : Int)] w fun e w' => (∃ v, e = .returned v) ∧ Spc w' g N (putN S a 0) ∧ w.grownBy w' (some g) := by
  have hl := h.le
  refine (add_any (off := 1) (a := a) h.row (by omega) (by rw [spc_free _ _ _ (by omega), wv_eq])).mono ?_
  rintro e w' ⟨hv, hr, hg⟩
  rw [spc_setF _ _ _ true (by omega), fr_on ha, ← bk_same (v := 0) h2 (by omega)] at hr
  exact ⟨hv, ⟨hr, h.le, putN_le h.st (by omega), h.tab.grown hg h.ne, h.ne⟩, hg⟩
theorem sub_free (h : Spc w g N S) {a : Nat} (ha : a < N) (h2 : S a ≠ 2) : Calls Tryd.prog 25 #[.pointer (some ⟨g, 1, none⟩), .int .i64 (a : Int)] w fun e w' => (∃ v, e = .returned v) ∧ Spc w' g N (putN S a 1) ∧ w.grownBy w' (some g) := by
  have hl := h.le
  refine (remove_any (off := 1) (a := a) h.row (by omega) (by rw [spc_free _ _ _ (by omega), wv_eq])).mono ?_
  rintro e w' ⟨hv, hr, hg⟩
  rw [spc_setF _ _ _ false (by omega), fr_off 1 (by omega), ← bk_same (v := 1) h2 (by omega)] at hr
  exact ⟨hv, ⟨hr, h.le, putN_le h.st (by omega), h.tab.grown hg h.ne, h.ne⟩, hg⟩
theorem add_back (h : Spc w g N S) {a : Nat} (ha : a < N) (h2 : S a ≠ 0) : Calls Tryd.prog 23 #[.pointer (some ⟨g, 17, none⟩), .int .i64 (a : Int)] w fun e w' => (∃ v, e = .returned v) ∧ Spc w' g N (putN S a 2) ∧ w.grownBy w' (some g) := by
  have hl := h.le
  refine (add_any (off := 17) (a := a) h.row (by omega) (by rw [spc_back _ _ _ (by omega), wv_eq])).mono ?_
  rintro e w' ⟨hv, hr, hg⟩
  rw [spc_setB _ _ _ true (by omega), bk_on ha, ← fr_same (v := 2) h2 (by omega)] at hr
  exact ⟨hv, ⟨hr, h.le, putN_le h.st (by omega), h.tab.grown hg h.ne, h.ne⟩, hg⟩
/-- Mark. -/
theorem mark_any (h : Spc w g N S) (z : Int) : Calls Tryd.prog 13 #[.pointer (some ⟨g, 0, none⟩), .int .i64 z] w fun e w' => e = .returned (.int .i64 (mv N S z 0)) ∧ Spc w' g N (chS N S z 0 1) ∧ w.grownBy w' (some g) := by
  have H := Lib.hid h
  clear h
  obtain ⟨x, hx⟩ : ∃ x, mv N S z 0 = x := ⟨_, rfl⟩
  by_cases h0 : x = 0
  · subst h0
    obtain ⟨a, rfl, ha, hS⟩ := mv_zero hx
    rw [chS_do hx, hx]
    have HX := Lib.hid hx
    have HA := Lib.hid (p := a < N ∧ S a ≠ 2) ⟨ha, by omega⟩
    clear hx ha hS
    go_enter Tryd.func13, Tryd.ntmps13
    go_wp2_with (first
      | (go_at_call 26; refine (must_any H.out (a : Int) 0).mono ?_; rintro e w' ⟨rfl, q, rfl⟩; rw [HX.out])
      | (go_at_call 25; refine (sub_free (H.out.drewN q) HA.out.1 HA.out.2).mono ?_; rintro e w5 ⟨⟨v5, rfl⟩, h5, g5⟩; have H5 := Lib.hid h5; have G5 := Lib.hid (grown_trans (up_dr q g) g5); clear h5 g5))
    go_ret
    exact ⟨rfl, H5.out, G5.out⟩
  · rw [chS_keep (by rw [hx]; exact h0), hx]
    have HX := Lib.hid hx
    have b0 : (x != 0) = true := by rw [bne_iff_ne]; exact h0
    clear hx h0
    go_enter Tryd.func13, Tryd.ntmps13
    go_wp2_with (go_at_call 26; refine (must_any H.out z 0).mono ?_; rintro e w' ⟨rfl, q, rfl⟩; rw [HX.out])
    go_ret
    exact ⟨rfl, H.out.drewN q, up_dr q g⟩
theorem mark_nil (z : Int) : Calls Tryd.prog 13 #[.pointer none, .int .i64 z] w fun e w' => e = .returned (.int .i64 201) ∧ w' = w := by
  go_enter Tryd.func13, Tryd.ntmps13
  go_wp2_with (go_at_call 26; refine (must_nil z 0).mono ?_; rintro e w' ⟨rfl, rfl⟩)
  go_ret
  exact ⟨rfl, rfl⟩
/-- Give. -/
theorem give_any (h : Spc w g N S) (z : Int) : Calls Tryd.prog 15 #[.pointer (some ⟨g, 0, none⟩), .int .i64 z] w fun e w' => e = .returned (.int .i64 (mv N S z 1)) ∧ Spc w' g N (chS N S z 1 2) ∧ w.grownBy w' (some g) := by
  have H := Lib.hid h
  clear h
  obtain ⟨x, hx⟩ : ∃ x, mv N S z 1 = x := ⟨_, rfl⟩
  by_cases h0 : x = 0
  · subst h0
    obtain ⟨a, rfl, ha, hS⟩ := mv_zero hx
    rw [chS_do hx, hx]
    have HX := Lib.hid hx
    have HA := Lib.hid (p := a < N ∧ S a ≠ 0) ⟨ha, by omega⟩
    clear hx ha hS
    go_enter Tryd.func15, Tryd.ntmps15
    go_wp2_with (first
      | (go_at_call 26; refine (must_any H.out (a : Int) 1).mono ?_; rintro e w' ⟨rfl, q, rfl⟩; rw [HX.out])
      | (go_at_call 23; refine (add_back (H.out.drewN q) HA.out.1 HA.out.2).mono ?_; rintro e w5 ⟨⟨v5, rfl⟩, h5, g5⟩; have H5 := Lib.hid h5; have G5 := Lib.hid (grown_trans (up_dr q g) g5); clear h5 g5))
    go_ret
    exact ⟨rfl, H5.out, G5.out⟩
  · rw [chS_keep (by rw [hx]; exact h0), hx]
    have HX := Lib.hid hx
    have b0 : (x != 0) = true := by rw [bne_iff_ne]; exact h0
    clear hx h0
    go_enter Tryd.func15, Tryd.ntmps15
    go_wp2_with (go_at_call 26; refine (must_any H.out z 1).mono ?_; rintro e w' ⟨rfl, q, rfl⟩; rw [HX.out])
    go_ret
    exact ⟨rfl, H.out.drewN q, up_dr q g⟩
theorem give_nil (z : Int) : Calls Tryd.prog 15 #[.pointer none, .int .i64 z] w fun e w' => e = .returned (.int .i64 201) ∧ w' = w := by
  go_enter Tryd.func15, Tryd.ntmps15
  go_wp2_with (go_at_call 26; refine (must_nil z 1).mono ?_; rintro e w' ⟨rfl, rfl⟩)
  go_ret
  exact ⟨rfl, rfl⟩
/-- Undo. -/
theorem undo_any (h : Spc w g N S) (z : Int) : Calls Tryd.prog 16 #[.pointer (some ⟨g, 0, none⟩), .int .i64 z] w fun e w' => e = .returned (.int .i64 (mv N S z 1)) ∧ Spc w' g N (chS N S z 1 0) ∧ w.grownBy w' (some g) := by
  have H := Lib.hid h
  clear h
  obtain ⟨x, hx⟩ : ∃ x, mv N S z 1 = x := ⟨_, rfl⟩
  by_cases h0 : x = 0
  · subst h0
    obtain ⟨a, rfl, ha, hS⟩ := mv_zero hx
    rw [chS_do hx, hx]
    have HX := Lib.hid hx
    have HA := Lib.hid (p := a < N ∧ S a ≠ 2) ⟨ha, by omega⟩
    clear hx ha hS
    go_enter Tryd.func16, Tryd.ntmps16
    go_wp2_with (first
      | (go_at_call 26; refine (must_any H.out (a : Int) 1).mono ?_; rintro e w' ⟨rfl, q, rfl⟩; rw [HX.out])
      | (go_at_call 23; refine (add_free (H.out.drewN q) HA.out.1 HA.out.2).mono ?_; rintro e w5 ⟨⟨v5, rfl⟩, h5, g5⟩; have H5 := Lib.hid h5; have G5 := Lib.hid (grown_trans (up_dr q g) g5); clear h5 g5))
    go_ret
    exact ⟨rfl, H5.out, G5.out⟩
  · rw [chS_keep (by rw [hx]; exact h0), hx]
    have HX := Lib.hid hx
    have b0 : (x != 0) = true := by rw [bne_iff_ne]; exact h0
    clear hx h0
    go_enter Tryd.func16, Tryd.ntmps16
    go_wp2_with (go_at_call 26; refine (must_any H.out z 1).mono ?_; rintro e w' ⟨rfl, q, rfl⟩; rw [HX.out])
    go_ret
    exact ⟨rfl, H.out.drewN q, up_dr q g⟩
theorem undo_nil (z : Int) : Calls Tryd.prog 16 #[.pointer none, .int .i64 z] w fun e w' => e = .returned (.int .i64 201) ∧ w' = w := by
  go_enter Tryd.func16, Tryd.ntmps16
  go_wp2_with (go_at_call 26; refine (must_nil z 1).mono ?_; rintro e w' ⟨rfl, rfl⟩)
  go_ret
  exact ⟨rfl, rfl⟩
/-- Free. -/
theorem free_any (h : Spc w g N S) : Calls Tryd.prog 19 #[.pointer (some ⟨g, 0, none⟩)] w fun e w' => e = .returned (.int .i64 (nFree N S : Int)) ∧ w' = w := by
  have H := Lib.hid h
  clear h
  go_enter Tryd.func19, Tryd.ntmps19
  go_wp2_with (go_at_call 28; refine (count_any g 1 (fr N S) _ (spf_at H.out.row)).mono ?_; rintro e w' ⟨rfl, rfl⟩; rw [free_cnt H.out.le])
  go_ret
  exact ⟨rfl, rfl⟩
theorem free_nil : Calls Tryd.prog 19 #[.pointer none] w fun e w' => e = .returned (.int .i64 0) ∧ w' = w := by
  go_enter Tryd.func19, Tryd.ntmps19
  go_wp2
  go_ret
  exact ⟨rfl, rfl⟩
/-- Settle. -/
theorem settleS_any (h : Spc w g N S) : Calls Tryd.prog 17 #[.pointer (some ⟨g, 0, none⟩)] w fun e w' => e = .returned (.int .i64 (nBack N S : Int)) ∧ Spc w' g N (seS S) ∧ w.grownBy w' (some g) := by
  refine (settle_any g N (fr N S) (bk N S) w h.row h.tab h.ne).mono ?_
  rintro e w' ⟨rfl, hr, hg⟩
  rw [back_cnt h.le]
  have e1 : uF (fr N S) (bk N S) 1024 = fr N (seS S) := settle_fr h.le
  rw [e1, settle_bk (N := N) (S := S)] at hr
  exact ⟨rfl, ⟨hr, h.le, seS_le h.st, h.tab.grown hg h.ne, h.ne⟩, hg⟩
theorem settleS_nil : Calls Tryd.prog 17 #[.pointer none] w fun e w' => e = .returned (.int .i64 0) ∧ Below w.heap.size w w' := by
  go_enter Tryd.func17, Tryd.ntmps17
  go_wp2
  go_ret
  exact ⟨rfl, (Below.refl _ _).alloc (Nat.le_refl _) _⟩
/-- Take. -/
theorem take_any (h : Spc w g N S) : Calls Tryd.prog 11 #[.pointer (some ⟨g, 0, none⟩)] w fun e w' => e = .returned (.tuple #[.int .i64 (tkA (ft N S)), .int .i64 (tkE (ft N S))]) ∧ Spc w' g N (tkS S (ft N S)) ∧ w.grownBy w' (some g) := by
  have H := Lib.hid h
  clear h
  have hle := least_any g 1 (fr N S) w (spf_at H.out.row) H.out.tab H.out.lt
  cases ho : ft N S with
  | some m =>
    obtain ⟨h1, h2, h3⟩ := ft_some ho
    have HL : Hid (Calls Tryd.prog 24 #[.pointer (some ⟨g, 1, none⟩)] w fun e w' => e = .returned (.tuple #[.int .i64 (m : Int), .bool true]) ∧ Below w.heap.size w w') := Lib.hid (hle.mono fun e w' ⟨hb, hc⟩ => by
      refine ⟨?_, hb⟩
      rcases hc with ⟨k, k1, k2, k3, rfl⟩ | ⟨k1, _⟩
      · obtain ⟨k4, k5⟩ := fr_lt.1 k2
        have := ft_is k4 k5 (fun j hj e => by
          have := k3 j hj
          rw [fr_lt.2 ⟨by omega, e⟩] at this
          cases this)
        rw [ho] at this
        obtain rfl := Option.some.inj this
        rfl
      · have := k1 m (Nat.lt_of_lt_of_le h1 H.out.le)
        rw [fr_lt.2 ⟨h1, h2⟩] at this
        cases this)
    have HA := Lib.hid (p := m < N ∧ S m ≠ 2) ⟨h1, by omega⟩
    clear hle h1 h2 h3 ho
    simp only [tkA, tkE, tkS]
    go_enter Tryd.func11, Tryd.ntmps11
    go_wp2_with (first
      | (go_at_call 24; refine HL.out.mono ?_; rintro e w4 ⟨rfl, hb⟩; have HB := Lib.hid hb; clear hb)
      | (go_at_call 25; refine (sub_free (H.out.kept HB.out) HA.out.1 HA.out.2).mono ?_; rintro e w5 ⟨⟨v5, rfl⟩, h5, g5⟩; have H5 := Lib.hid h5; have G5 := Lib.hid (grown_trans (grown_of_below HB.out) g5); clear h5 g5))
    go_ret2
    exact ⟨rfl, H5.out, G5.out⟩
  | none =>
    have h1 := ft_none ho
    have HL : Hid (Calls Tryd.prog 24 #[.pointer (some ⟨g, 1, none⟩)] w fun e w' => e = .returned (.tuple #[.int .i64 0, .bool false]) ∧ Below w.heap.size w w') := Lib.hid (hle.mono fun e w' ⟨hb, hc⟩ => by
      refine ⟨?_, hb⟩
      rcases hc with ⟨k, k1, k2, k3, rfl⟩ | ⟨_, rfl⟩
      · obtain ⟨k4, k5⟩ := fr_lt.1 k2
        exact absurd k5 (h1 k k4)
      · rfl)
    clear hle h1 ho
    simp only [tkA, tkE, tkS]
    go_enter Tryd.func11, Tryd.ntmps11
    go_wp2_with (go_at_call 24; refine HL.out.mono ?_; rintro e w4 ⟨rfl, hb⟩; have HB := Lib.hid hb; clear hb)
    go_ret2
    exact ⟨rfl, H.out.kept HB.out, grown_of_below HB.out⟩
theorem take_nil : Calls Tryd.prog 11 #[.pointer none] w fun e w' => e = .returned (.tuple #[.int .i64 0, .int .i64 201]) ∧ w' = w := by
  go_enter Tryd.func11, Tryd.ntmps11
  go_wp2
  go_ret2
  exact ⟨rfl, rfl⟩
end
end Go.Proofs.YtkmnmmenjpkkpaaDoor
