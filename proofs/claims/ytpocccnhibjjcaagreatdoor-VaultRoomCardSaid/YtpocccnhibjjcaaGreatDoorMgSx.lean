/- The space's functions: what each call answers and leaves. Conditions: a space lies there, and the library's table. -/
import Derived.Test.YtpocccnhibjjcaaGreatDoorMgPSettle
import Derived.Test.YtpocccnhibjjcaaGreatDoorMgRb
import Derived.Deep.RegionWith
import Derived.Test.YtpocccnhibjjcaaGreatDoorMgSha
import Derived.Test.YtpocccnhibjjcaaGreatDoorMgSpread
import Derived.Laws.CopyRow
import Derived.Lib.AppendZeros
set_option linter.unusedVariables false
namespace Go.Proofs.YtpocccnhibjjcaaGreatDoor.S8
open Go.RowKit

structure Spc (w : World) (g N : Nat) (S : Nat → Nat) : Prop where
  row : SpAt w g N (fr N S) (bk N S)
  le : N ≤ 1024
  st : ∀ j, S j ≤ 2
  tab : Tab w
  ne : 2 ≠ g
theorem Spc.lt {w : World} {g N : Nat} {S : Nat → Nat} (h : Spc w g N S) : g < w.heap.size := h.row.lt
theorem Spc.kept {w w' : World} {g N : Nat} {S : Nat → Nat} (h : Spc w g N S) (k : Below w.heap.size w w') : Spc w' g N S := ⟨h.row.kept k, h.le, h.st, h.tab.below k h.tab.lt, h.ne⟩
theorem Spc.drewN {w : World} {g N : Nat} {S : Nat → Nat} (h : Spc w g N S) (q : Nat) : Spc (w.drewN q) g N S := ⟨h.row, h.le, h.st, h.tab, h.ne⟩
theorem Spc.far {w w' : World} {g N r : Nat} {S : Nat → Nat} (h : Spc w g N S) (k : w.grownBy w' (some r)) (hr : r ≠ g) (ht : 2 ≠ r) : Spc w' g N S :=
  ⟨h.row.grown k (fun e => hr (by injection e with e; exact e.symm)), h.le, h.st, h.tab.grown k ht, h.ne⟩
theorem below_dr {w : World} (q : Nat) : Below w.heap.size w (w.drewN q) := below_drewN (Below.refl _ _) q
theorem up_dr {w : World} (q g : Nat) : w.grownBy (w.drewN q) (some g) := grown_of_below (below_dr q)

section
variable {w : World} {g N : Nat} {S : Nat → Nat}
theorem has_at {off : Nat} {F : Nat → Bool} (h : SetAt w g off F) (hr : ∃ t cs, Row w g t cs) {a : Nat} (ha : a < 1024) :
    Calls Tryz.prog 168 #[.pointer (some ⟨g, off, none⟩), .int .i64 (a : Int)] w fun e w' => e = .returned (.bool (F a)) ∧ ∃ q, w' = w.drewN q := by
  obtain ⟨t, cs, hr⟩ := hr
  have hx := h (a / 64) (by omega)
  rw [hr.cell, wv_eq] at hx
  have := has_any hr ha hx
  rw [show 64 * (a / 64) + a % 64 = a by omega] at this
  exact this
theorem state_any (h : Spc w g N S) (z : Int) : Calls Tryz.prog 149 #[.pointer (some ⟨g, 0, none⟩), .int .i64 z] w fun e w' => e = .returned (.int .i64 (stv N S z)) ∧ ∃ q, w' = w.drewN q := by
  have c0 : w.cell? ⟨g, 0, none⟩ = some (.int .i64 (N : Int)) := (h.row.cell 0).trans (spc_num _ _ _)
  have H := Lib.hid h
  clear h
  by_cases hz0 : z < 0
  · rw [stv_out (by omega)]
    go_enter Tryz.func149, Tryz.ntmps149
    go_wp2
    go_ret
    exact ⟨rfl, 0, rfl⟩
  · by_cases hz1 : (N : Int) ≤ z
    · rw [stv_out (by omega)]
      have hz2 : ¬ z < 0 := hz0
      have d0 : decide (z < 0) = false := decide_eq_false hz0
      have d1 : decide ((N : Int) ≤ z) = true := decide_eq_true hz1
      go_enter Tryz.func149, Tryz.ntmps149
      go_wp2
      go_ret
      exact ⟨rfl, 0, rfl⟩
    · obtain ⟨a, rfl⟩ := Int.eq_ofNat_of_zero_le (by omega : 0 ≤ z)
      have ha : a < N := by omega
      rw [stv_in ha]
      have d0 : decide ((a : Int) < 0) = false := decide_eq_false hz0
      have d1 : decide ((N : Int) ≤ (a : Int)) = false := decide_eq_false hz1
      have d2 : decide (N ≤ a) = false := decide_eq_false (by omega)
      have HA := Lib.hid ha
      clear hz0 hz1 ha
      by_cases h0 : S a = 0
      · have hf : fr N S a = true := fr_lt.2 ⟨HA.out, h0⟩
        rw [h0]
        go_enter Tryz.func149, Tryz.ntmps149
        go_wp2_with (go_at_call 168; refine (has_at (spf_at H.out.row) ⟨_, _, H.out.row⟩ (Nat.lt_of_lt_of_le HA.out H.out.le)).mono ?_; rintro e w' ⟨rfl, q, rfl⟩; rw [hf])
        go_ret
        exact ⟨rfl, q, rfl⟩
      · have hf : fr N S a = false := by
          rw [← Bool.not_eq_true, fr_lt]
          exact fun e => h0 e.2
        by_cases h2 : S a = 2
        · have hb : bk N S a = true := bk_lt.2 ⟨HA.out, h2⟩
          rw [h2]
          go_enter Tryz.func149, Tryz.ntmps149
          go_wp2_with (first
            | (go_at_call_of 168 (Value.pointer (some ⟨g, 1, none⟩)); refine (has_at (spf_at H.out.row) ⟨_, _, H.out.row⟩ (Nat.lt_of_lt_of_le HA.out H.out.le)).mono ?_; rintro e w' ⟨rfl, q, rfl⟩; rw [hf])
            | (go_at_call_of 168 (Value.pointer (some ⟨g, 17, none⟩)); refine (has_at (spb_at (H.out.drewN q).row) ⟨_, _, (H.out.drewN q).row⟩ (Nat.lt_of_lt_of_le HA.out H.out.le)).mono ?_; rintro e w' ⟨rfl, q2, rfl⟩; rw [hb]))
          go_ret
          exact ⟨rfl, _, rfl⟩
        · have hb : bk N S a = false := by
            rw [← Bool.not_eq_true, bk_lt]
            exact fun e => h2 e.2
          have h1 : S a = 1 := by
            have := H.out.st a
            omega
          rw [h1]
          go_enter Tryz.func149, Tryz.ntmps149
          go_wp2_with (first
            | (go_at_call_of 168 (Value.pointer (some ⟨g, 1, none⟩)); refine (has_at (spf_at H.out.row) ⟨_, _, H.out.row⟩ (Nat.lt_of_lt_of_le HA.out H.out.le)).mono ?_; rintro e w' ⟨rfl, q, rfl⟩; rw [hf])
            | (go_at_call_of 168 (Value.pointer (some ⟨g, 17, none⟩)); refine (has_at (spb_at (H.out.drewN q).row) ⟨_, _, (H.out.drewN q).row⟩ (Nat.lt_of_lt_of_le HA.out H.out.le)).mono ?_; rintro e w' ⟨rfl, q2, rfl⟩; rw [hb]))
          go_ret
          exact ⟨rfl, _, rfl⟩
theorem must_any (h : Spc w g N S) (z : Int) (k : Nat) : Calls Tryz.prog 119 #[.pointer (some ⟨g, 0, none⟩), .int .i64 z, .int .i64 (k : Int)] w fun e w' => e = .returned (.int .i64 (mv N S z k)) ∧ ∃ q, w' = w.drewN q := by
  have H := Lib.hid h
  clear h
  obtain ⟨x, hx⟩ : ∃ x, stv N S z = x := ⟨_, rfl⟩
  have hm : mv N S z k = if x = -1 then 201 else if x = (k : Int) then 0 else 205 := by unfold mv; rw [hx]
  have HX := Lib.hid hx
  clear hx
  by_cases h1 : x = -1
  · rw [if_pos h1] at hm
    rw [hm]
    subst h1
    go_enter Tryz.func119, Tryz.ntmps119
    go_wp2_with (go_at_call 149; refine (state_any H.out z).mono ?_; rintro e w' ⟨rfl, q, rfl⟩; rw [HX.out])
    go_ret
    exact ⟨rfl, _, rfl⟩
  · rw [if_neg h1] at hm
    have b1 : (x == -1) = false := beq_false_of_ne h1
    by_cases h2 : x = (k : Int)
    · rw [if_pos h2] at hm
      rw [hm]
      have b2 : (x == (k : Int)) = true := by rw [h2]; simp
      clear h1 h2
      go_enter Tryz.func119, Tryz.ntmps119
      go_wp2_with (go_at_call 149; refine (state_any H.out z).mono ?_; rintro e w' ⟨rfl, q, rfl⟩; rw [HX.out])
      go_ret
      exact ⟨rfl, _, rfl⟩
    · rw [if_neg h2] at hm
      rw [hm]
      have b2 : (x == (k : Int)) = false := beq_false_of_ne h2
      clear h1 h2
      go_enter Tryz.func119, Tryz.ntmps119
      go_wp2_with (go_at_call 149; refine (state_any H.out z).mono ?_; rintro e w' ⟨rfl, q, rfl⟩; rw [HX.out])
      go_ret
      exact ⟨rfl, _, rfl⟩
theorem sub_free (h : Spc w g N S) {a : Nat} (ha : a < N) (h2 : S a ≠ 2) : Calls Tryz.prog 120 #[.pointer (some ⟨g, 1, none⟩), .int .i64 (a : Int)] w fun e w' => (∃ v, e = .returned v) ∧ Spc w' g N (putN S a 1) ∧ w.grownBy w' (some g) := by
  have hl := h.le
  refine (remove_any (off := 1) (a := a) h.row (by omega) (by rw [spc_free _ _ _ (by omega), wv_eq])).mono ?_
  rintro e w' ⟨hv, hr, hg⟩
  rw [spc_setF _ _ _ false (by omega), fr_off 1 (by omega), ← bk_same (v := 1) h2 (by omega)] at hr
  exact ⟨hv, ⟨hr, h.le, putN_le h.st (by omega), h.tab.grown hg h.ne, h.ne⟩, hg⟩
theorem add_back (h : Spc w g N S) {a : Nat} (ha : a < N) (h2 : S a ≠ 0) : Calls Tryz.prog 65 #[.pointer (some ⟨g, 17, none⟩), .int .i64 (a : Int)] w fun e w' => (∃ v, e = .returned v) ∧ Spc w' g N (putN S a 2) ∧ w.grownBy w' (some g) := by
  have hl := h.le
  refine (add_any (off := 17) (a := a) h.row (by omega) (by rw [spc_back _ _ _ (by omega), wv_eq])).mono ?_
  rintro e w' ⟨hv, hr, hg⟩
  rw [spc_setB _ _ _ true (by omega), bk_on ha, ← fr_same (v := 2) h2 (by omega)] at hr
  exact ⟨hv, ⟨hr, h.le, putN_le h.st (by omega), h.tab.grown hg h.ne, h.ne⟩, hg⟩
theorem mark_any (h : Spc w g N S) (z : Int) : Calls Tryz.prog 97 #[.pointer (some ⟨g, 0, none⟩), .int .i64 z] w fun e w' => e = .returned (.int .i64 (mv N S z 0)) ∧ Spc w' g N (chS N S z 0 1) ∧ w.grownBy w' (some g) := by
  have H := Lib.hid h
  clear h
  obtain ⟨x, hx⟩ : ∃ x, mv N S z 0 = x := ⟨_, rfl⟩
  by_cases h0 : x = 0
  · subst h0
    obtain ⟨a, rfl, ha, hS⟩ := mv_zero hx
    rw [chS_do hx, hx]
    have HX := Lib.hid hx
    have HA := Lib.hid (p := a < N ∧ S a ≠ 2) ⟨ha, by omega⟩
    clear hx ha hS
    go_enter Tryz.func97, Tryz.ntmps97
    go_wp2_with (first
      | (go_at_call 119; refine (must_any H.out (a : Int) 0).mono ?_; rintro e w' ⟨rfl, q, rfl⟩; rw [HX.out])
      | (go_at_call 120; refine (sub_free (H.out.drewN q) HA.out.1 HA.out.2).mono ?_; rintro e w5 ⟨⟨v5, rfl⟩, h5, g5⟩; have H5 := Lib.hid h5; have G5 := Lib.hid (grown_trans (up_dr q g) g5); clear h5 g5))
    go_ret
    exact ⟨rfl, H5.out, G5.out⟩
  · rw [chS_keep (by rw [hx]; exact h0), hx]
    have HX := Lib.hid hx
    have b0 : (x != 0) = true := by rw [bne_iff_ne]; exact h0
    clear hx h0
    go_enter Tryz.func97, Tryz.ntmps97
    go_wp2_with (go_at_call 119; refine (must_any H.out z 0).mono ?_; rintro e w' ⟨rfl, q, rfl⟩; rw [HX.out])
    go_ret
    exact ⟨rfl, H.out.drewN q, up_dr q g⟩
theorem give_any (h : Spc w g N S) (z : Int) : Calls Tryz.prog 111 #[.pointer (some ⟨g, 0, none⟩), .int .i64 z] w fun e w' => e = .returned (.int .i64 (mv N S z 1)) ∧ Spc w' g N (chS N S z 1 2) ∧ w.grownBy w' (some g) := by
  have H := Lib.hid h
  clear h
  obtain ⟨x, hx⟩ : ∃ x, mv N S z 1 = x := ⟨_, rfl⟩
  by_cases h0 : x = 0
  · subst h0
    obtain ⟨a, rfl, ha, hS⟩ := mv_zero hx
    rw [chS_do hx, hx]
    have HX := Lib.hid hx
    have HA := Lib.hid (p := a < N ∧ S a ≠ 0) ⟨ha, by omega⟩
    clear hx ha hS
    go_enter Tryz.func111, Tryz.ntmps111
    go_wp2_with (first
      | (go_at_call 119; refine (must_any H.out (a : Int) 1).mono ?_; rintro e w' ⟨rfl, q, rfl⟩; rw [HX.out])
      | (go_at_call 65; refine (add_back (H.out.drewN q) HA.out.1 HA.out.2).mono ?_; rintro e w5 ⟨⟨v5, rfl⟩, h5, g5⟩; have H5 := Lib.hid h5; have G5 := Lib.hid (grown_trans (up_dr q g) g5); clear h5 g5))
    go_ret
    exact ⟨rfl, H5.out, G5.out⟩
  · rw [chS_keep (by rw [hx]; exact h0), hx]
    have HX := Lib.hid hx
    have b0 : (x != 0) = true := by rw [bne_iff_ne]; exact h0
    clear hx h0
    go_enter Tryz.func111, Tryz.ntmps111
    go_wp2_with (go_at_call 119; refine (must_any H.out z 1).mono ?_; rintro e w' ⟨rfl, q, rfl⟩; rw [HX.out])
    go_ret
    exact ⟨rfl, H.out.drewN q, up_dr q g⟩
theorem free_any (h : Spc w g N S) : Calls Tryz.prog 57 #[.pointer (some ⟨g, 0, none⟩)] w fun e w' => e = .returned (.int .i64 (nFree N S : Int)) ∧ w' = w := by
  have H := Lib.hid h
  clear h
  go_enter Tryz.func57, Tryz.ntmps57
  go_wp2_with (go_at_call 89; refine (count_any g 1 (fr N S) _ (spf_at H.out.row)).mono ?_; rintro e w' ⟨rfl, rfl⟩; rw [free_cnt H.out.le])
  go_ret
  exact ⟨rfl, rfl⟩
theorem settleS_any (h : Spc w g N S) : Calls Tryz.prog 145 #[.pointer (some ⟨g, 0, none⟩)] w fun e w' => e = .returned (.int .i64 (nBack N S : Int)) ∧ Spc w' g N (seS S) ∧ w.grownBy w' (some g) := by
  refine (settle_any g N (fr N S) (bk N S) w h.row h.tab h.ne).mono ?_
  rintro e w' ⟨rfl, hr, hg⟩
  rw [back_cnt h.le]
  have e1 : uF (fr N S) (bk N S) 1024 = fr N (seS S) := settle_fr h.le
  rw [e1, settle_bk (N := N) (S := S)] at hr
  exact ⟨rfl, ⟨hr, h.le, seS_le h.st, h.tab.grown hg h.ne, h.ne⟩, hg⟩
theorem take_any (h : Spc w g N S) : Calls Tryz.prog 112 #[.pointer (some ⟨g, 0, none⟩)] w fun e w' => e = .returned (.tuple #[.int .i64 (tkA (ft N S)), .int .i64 (tkE (ft N S))]) ∧ Spc w' g N (tkS S (ft N S)) ∧ w.grownBy w' (some g) := by
  have H := Lib.hid h
  clear h
  have hle := least_any g 1 (fr N S) w (spf_at H.out.row) H.out.tab H.out.lt
  cases ho : ft N S with
  | some m =>
    obtain ⟨h1, h2, h3⟩ := ft_some ho
    have HL : Hid (Calls Tryz.prog 143 #[.pointer (some ⟨g, 1, none⟩)] w fun e w' => e = .returned (.tuple #[.int .i64 (m : Int), .bool true]) ∧ Below w.heap.size w w') := Lib.hid (hle.mono fun e w' ⟨hb, hc⟩ => by
      refine ⟨?_, hb⟩
      rcases hc with ⟨k, k1, k2, k3, rfl⟩ | ⟨k1, _⟩
      · obtain ⟨k4, k5⟩ := fr_lt.1 k2
        have := ft_is k4 k5 (fun j hj e => by
          have := k3 j hj
          rw [fr_lt.2 ⟨by omega, e⟩] at this
          cases this)
        rw [ho] at this
        obtain rfl := Option.some.inj this
        rfl
      · have := k1 m (Nat.lt_of_lt_of_le h1 H.out.le)
        rw [fr_lt.2 ⟨h1, h2⟩] at this
        cases this)
    have HA := Lib.hid (p := m < N ∧ S m ≠ 2) ⟨h1, by omega⟩
    clear hle h1 h2 h3 ho
    simp only [tkA, tkE, tkS]
    go_enter Tryz.func112, Tryz.ntmps112
    go_wp2_with (first
      | (go_at_call 143; refine HL.out.mono ?_; rintro e w4 ⟨rfl, hb⟩; have HB := Lib.hid hb; clear hb)
      | (go_at_call 120; refine (sub_free (H.out.kept HB.out) HA.out.1 HA.out.2).mono ?_; rintro e w5 ⟨⟨v5, rfl⟩, h5, g5⟩; have H5 := Lib.hid h5; have G5 := Lib.hid (grown_trans (grown_of_below HB.out) g5); clear h5 g5))
    go_ret2
    exact ⟨rfl, H5.out, G5.out⟩
  | none =>
    have h1 := ft_none ho
    have HL : Hid (Calls Tryz.prog 143 #[.pointer (some ⟨g, 1, none⟩)] w fun e w' => e = .returned (.tuple #[.int .i64 0, .bool false]) ∧ Below w.heap.size w w') := Lib.hid (hle.mono fun e w' ⟨hb, hc⟩ => by
      refine ⟨?_, hb⟩
      rcases hc with ⟨k, k1, k2, k3, rfl⟩ | ⟨_, rfl⟩
      · obtain ⟨k4, k5⟩ := fr_lt.1 k2
        exact absurd k5 (h1 k k4)
      · rfl)
    clear hle h1 ho
    simp only [tkA, tkE, tkS]
    go_enter Tryz.func112, Tryz.ntmps112
    go_wp2_with (go_at_call 143; refine HL.out.mono ?_; rintro e w4 ⟨rfl, hb⟩; have HB := Lib.hid hb; clear hb)
    go_ret2
    exact ⟨rfl, H.out.kept HB.out, grown_of_below HB.out⟩
end
end Go.Proofs.YtpocccnhibjjcaaGreatDoor.S8
/- Plain facts: a message eaten block by block, and a digest's bytes. No program is in sight here, and no conditions. -/
set_option linter.unusedVariables false
namespace Go.Proofs.YtpocccnhibjjcaaGreatDoor

theorem sch_congr {f g : Nat → UInt8} (h : ∀ j, j < 64 → f j = g j) (t : Nat) : sch f t = sch g t := by
  induction t using Nat.strongRecOn with
  | ind t ih =>
    by_cases ht : t < 16
    · rw [sch_lo _ _ ht, sch_lo _ _ ht]
      unfold wd
      rw [h _ (by omega), h _ (by omega), h _ (by omega), h _ (by omega)]
    · rw [sch_hi f t (by omega), sch_hi g t (by omega), ih (t - 2) (by omega), ih (t - 7) (by omega), ih (t - 15) (by omega), ih (t - 16) (by omega)]
theorem rnds_congr (s : S8) {u v : Nat → UInt32} (h : ∀ j, u j = v j) (n : Nat) : rnds s u n = rnds s v n := by
  induction n with
  | zero => rfl
  | succ n ih => rw [rnds, rnds, ih, h]
theorem cmp_congr (s : S8) {f g : Nat → UInt8} (h : ∀ j, j < 64 → f j = g j) : cmp s f = cmp s g := by
  unfold cmp
  rw [rnds_congr s (sch_congr h)]

def blk (l : List UInt8) (i j : Nat) : UInt8 := l.getD (64 * i + j) 0
def eat (s : S8) (l : List UInt8) : Nat → S8
  | 0 => s
  | n + 1 => cmp (eat s l n) (blk l n)
theorem blk_app (l x : List UInt8) (i j : Nat) (h : 64 * i + j < l.length) : blk (l ++ x) i j = blk l i j := by
  unfold blk
  rw [List.getD_eq_getElem?_getD, List.getD_eq_getElem?_getD, List.getElem?_append_left h]
theorem eat_app (s : S8) (l x : List UInt8) : ∀ n, 64 * n ≤ l.length → eat s (l ++ x) n = eat s l n
  | 0, _ => rfl
  | n + 1, h => by
    rw [eat, eat, eat_app s l x n (by omega)]
    exact cmp_congr _ fun j hj => blk_app l x n j (by omega)
def lay (f : Nat → UInt8) (r : Nat) (x : List UInt8) (j : Nat) : UInt8 := if r ≤ j ∧ j < r + x.length then x.getD (j - r) 0 else f j
theorem lay_cells (f : Nat → UInt8) (r : Nat) (x : List UInt8) (n : Nat) (h : r + x.length ≤ n) :
    (brr n f).take r ++ (x.map B ++ (brr n f).drop (r + x.length)) = brr n (lay f r x) := by
  have hl1 : ((brr n f).take r).length = r := by rw [List.length_take, brr_len]; omega
  apply List.ext_getElem?
  intro j
  by_cases hj : j < n
  · rw [brr_get _ hj]
    by_cases h1 : j < r
    · rw [List.getElem?_append_left (by omega), List.getElem?_take, if_pos h1, brr_get _ hj]
      unfold lay
      rw [if_neg (by omega)]
    · rw [List.getElem?_append_right (by omega), hl1]
      by_cases h2 : j < r + x.length
      · rw [List.getElem?_append_left (by simp; omega), List.getElem?_map]
        unfold lay
        rw [if_pos ⟨by omega, h2⟩, List.getD_eq_getElem?_getD, List.getElem?_eq_getElem (by omega)]
        rfl
      · rw [List.getElem?_append_right (by simp; omega), List.length_map, List.getElem?_drop]
        rw [show r + x.length + (j - r - x.length) = j by omega, brr_get _ hj]
        unfold lay
        rw [if_neg (by omega)]
  · rw [brr_none _ (by omega), List.getElem?_eq_none]
    simp only [List.length_append, hl1, List.length_map, List.length_drop, brr_len]
    omega
def RestOf (f : Nat → UInt8) (l : List UInt8) : Prop := ∀ j, j < l.length % 64 → f j = blk l (l.length / 64) j
theorem rest_nil (f : Nat → UInt8) : RestOf f [] := fun j hj => by simp at hj
theorem rest_lay {f : Nat → UInt8} {l x : List UInt8} (h : RestOf f l) (hx : l.length % 64 + x.length ≤ 64) (j : Nat) (hj : j < l.length % 64 + x.length) :
    lay f (l.length % 64) x j = blk (l ++ x) (l.length / 64) j := by
  have hd := Nat.div_add_mod l.length 64
  unfold lay
  by_cases h1 : j < l.length % 64
  · rw [if_neg (by omega), h j h1, blk_app _ _ _ _ (by omega)]
  · rw [if_pos (by omega)]
    unfold blk
    rw [List.getD_eq_getElem?_getD, List.getD_eq_getElem?_getD, List.getElem?_append_right (by omega)]
    congr 2
    omega
theorem rest_part {f : Nat → UInt8} {l x : List UInt8} (h : RestOf f l) (hx : l.length % 64 + x.length < 64) : RestOf (lay f (l.length % 64) x) (l ++ x) ∧ (l ++ x).length / 64 = l.length / 64 := by
  have e : (l ++ x).length / 64 = l.length / 64 := by rw [List.length_append]; omega
  refine ⟨fun j hj => ?_, e⟩
  rw [e]
  rw [List.length_append] at hj
  exact rest_lay h (by omega) j (by omega)
theorem rest_full {f : Nat → UInt8} {l x : List UInt8} (s : S8) (h : RestOf f l) (hx : l.length % 64 + x.length = 64) :
    RestOf (lay f (l.length % 64) x) (l ++ x) ∧ (l ++ x).length % 64 = 0 ∧ eat s (l ++ x) ((l ++ x).length / 64) = cmp (eat s l (l.length / 64)) (lay f (l.length % 64) x) := by
  have hm : (l ++ x).length % 64 = 0 := by rw [List.length_append]; omega
  have e : (l ++ x).length / 64 = l.length / 64 + 1 := by rw [List.length_append]; omega
  refine ⟨fun j hj => by omega, hm, ?_⟩
  rw [e, eat, eat_app s l x _ (by omega)]
  exact cmp_congr _ fun j hj => (rest_lay h (by omega) j (by omega)).symm
theorem eat_part (s : S8) (l x : List UInt8) (h : (l ++ x).length / 64 = l.length / 64) : eat s (l ++ x) ((l ++ x).length / 64) = eat s l (l.length / 64) := by
  rw [h, eat_app s l x _ (by omega)]
end Go.Proofs.YtpocccnhibjjcaaGreatDoor
/- A hash in memory: made new, how much of it no block has taken, and eight words as bytes. Condition: the listed tables. -/
set_option linter.unusedVariables false
namespace Go.Proofs.YtpocccnhibjjcaaGreatDoor
open Go.RowKit

def hcs (s : S8) (f : Nat → UInt8) (n : Nat) : List Value := arr 8 s.at ++ (brr 64 f ++ [.int .u64 (n : Int)])
theorem hcs_len (s : S8) (f : Nat → UInt8) (n : Nat) : (hcs s f n).length = 73 := by simp [hcs, arr_len, brr_len]
theorem hcs_one (s : S8) (f : Nat → UInt8) (n : Nat) : ∀ u ∈ hcs s f n, u.oneCell' = true := by
  intro u hu
  rcases List.mem_append.1 hu with h | h
  · exact arr_one _ _ u h
  · rcases List.mem_append.1 h with h | h
    · exact brr_one _ _ u h
    · rw [List.mem_singleton.1 h]
      rfl
theorem hcs_count (s : S8) (f : Nat → UInt8) (n : Nat) : (hcs s f n)[72]? = some (.int .u64 (n : Int)) := by
  unfold hcs
  rw [List.getElem?_append_right (by rw [arr_len]; omega), arr_len, List.getElem?_append_right (by rw [brr_len]; omega), brr_len]
  rfl
theorem hcs_words (s : S8) (f : Nat → UInt8) (n : Nat) : ((hcs s f n).drop 0).take 8 = arr 8 s.at := by
  unfold hcs
  rw [List.drop_zero, List.take_left' (arr_len _ _)]
theorem hcs_rest (s : S8) (f : Nat → UInt8) (n : Nat) : ((hcs s f n).drop 8).take 64 = brr 64 f := by
  unfold hcs
  rw [List.drop_left' (arr_len _ _), List.take_left' (brr_len _ _)]
theorem hcs_set (s : S8) (f : Nat → UInt8) (n m : Nat) : (hcs s f n).set 72 (.int .u64 (m : Int)) = hcs s f m := by
  unfold hcs
  rw [List.set_append_right _ _ (by rw [arr_len]; omega), arr_len, List.set_append_right _ _ (by rw [brr_len]; omega), brr_len]
  rfl
abbrev HashAt (w : World) (g : Nat) (s : S8) (f : Nat → UInt8) (n : Nat) : Prop := Row w g 206 (hcs s f n)
theorem HashAt.count {w : World} {g : Nat} {s : S8} {f : Nat → UInt8} {n : Nat} (h : HashAt w g s f n) : w.cell? ⟨g, 72, none⟩ = some (.int .u64 (n : Int)) := by rw [Row.cell h, hcs_count]
theorem HashAt.words {w : World} {g : Nat} {s : S8} {f : Nat → UInt8} {n : Nat} (h : HashAt w g s f n) : w.rangeAt g 0 (arr 8 s.at) := by
  have := Row.range h 0 8
  rwa [hcs_words] at this
theorem HashAt.rest {w : World} {g : Nat} {s : S8} {f : Nat → UInt8} {n : Nat} (h : HashAt w g s f n) : w.rangeAt g 8 (brr 64 f) := by
  have := Row.range h 8 64
  rwa [hcs_rest] at this

theorem held_any (g : Nat) (s : S8) (f : Nat → UInt8) (n : Nat) (w : World) (h : HashAt w g s f n) (hn : n ≤ 9223372036854775807) :
    Calls Tryz.prog 155 #[.pointer (some ⟨g, 0, none⟩)] w fun e w' => e = .returned (.int .i64 (n % 64 : Nat)) ∧ w' = w := by
  have hc := HashAt.count h
  go_enter Tryz.func155, Tryz.ntmps155
  go_wp2
  go_ret
  exact ⟨by simp, rfl⟩

theorem built_new : Tryz.prog.built 206 [(0, .agg (arr 8 h0.at).toArray)] = some (hcs h0 (fun _ => 0) 0).toArray := by
  rw [arr8]
  kernel_rfl

theorem new_any (w : World) (hT : Tabs w) : Calls Tryz.prog 122 #[] w fun e w' => ∃ g, e = .returned (.pointer (some ⟨g, 0, none⟩)) ∧ HashAt w' g h0 (fun _ => 0) 0 ∧ w.heap.size ≤ g ∧ Below w.heap.size w w' := by
  have i42 := Lib.hid (p := (Tryz.prog.info? 203).map (·.size) = some 8) (by kernel_rfl)
  go_enter Tryz.func122, Tryz.ntmps122
  go_wp2_with (first
    | (refine step_load rfl 1 rfl 203 (.global 0) rfl 0 (by rfl) (arr 8 h0.at) _ hT.h Tryz.underlying203 rfl (by rw [arr_len]; exact i42) ?_)
    | (refine step_build rfl 206 #[(0, .tmp 1)] rfl [(0, .agg (arr 8 h0.at).toArray)] ?hv _ built_new ?_; case hv => (simp [Act.eval, Act.put]))
    | (refine step_box rfl 3 rfl 206 (.tmp 2) rfl (hcs h0 (fun _ => 0) 0) (by rfl) ?_; intro g1 w1 hr1 hg1 hb1 hs1))
  go_ret
  exact ⟨g1, rfl, hr1, by rw [hg1.out]; exact Nat.le_refl _, hb1⟩
end Go.Proofs.YtpocccnhibjjcaaGreatDoor
/- A run of bytes 0 appended to a row of the call's own that has room for them. No conditions but those named. -/
set_option linter.unusedVariables false
namespace Go.Proofs.YtpocccnhibjjcaaGreatDoor
open Go.RowKit

theorem zero_list (m : Nat) : (Builtin.zeroCells #[Value.int .u8 0] m).toList = List.replicate m (Value.int .u8 0) := by
  apply List.ext_getElem
  · simp [Builtin.zeroCells]
  · intro i h1 h2
    simp [Builtin.zeroCells, Nat.mod_one]

theorem run_zeros {P : Program} (w : World) (t tn ty e : TypeId) (i : TypeInfo) (U : U8 P t e i) (htn : P.underlying tn = some (.int .i64)) (base g n m cap : Nat) (xs : List Value)
    (hown : w.ownsRow base e 1 (.slice (some ⟨g, 0, none⟩) n cap) n xs) (hfit : n + m ≤ cap) (hm : m ≤ 140737488355328) :
    ∃ w', (Builtin.append_ #[t, tn] ty #[.slice (some ⟨g, 0, none⟩) n cap, .int .i64 m]).run P w = .ok (.slice (some ⟨g, 0, none⟩) (n + m) cap) w' ∧
      w'.ownsRow base e 1 (.slice (some ⟨g, 0, none⟩) (n + m) cap) (n + m) (xs ++ List.replicate m (Value.int .u8 0)) ∧ w.grownBy w' (some g) := by
  obtain ⟨hl, h | ⟨g', cap', cur, hv, hb, hg, hn, hc, hs, ht⟩⟩ := hown
  · cases h.1
  simp only [Value.slice.injEq, Option.some.injEq, Addr.mk.injEq] at hv
  obtain ⟨⟨rfl, _⟩, _, rfl⟩ := hv
  have hst := run_storeCells_at P g n e (List.replicate m (Value.int .u8 0)) 0 cur w hg (by simp; omega) (fun v hv => by rw [List.eq_of_mem_replicate hv]; rfl)
  have hwr : IntKind.i64.wrap (m : Int) = m := by rw [IntKind.wrap_i64]; omega
  have hadd : (⟨g, 0, none⟩ : Addr).add n = ⟨g, n, none⟩ := by unfold Addr.add; split <;> simp_all
  simp only [Nat.add_zero, List.length_replicate] at hst
  obtain ⟨cur', hcur⟩ : ∃ cur' : Array Value, cur' = (cur.toList.take n ++ List.replicate m (Value.int .u8 0) ++ cur.toList.drop (n + m)).toArray := ⟨_, rfl⟩
  rw [← hcur] at hst
  have hx : xs.length = n := by omega
  refine ⟨w.setRow g cur', ?_, ⟨?_, .inr ⟨g, cap, cur', rfl, hb, setRow_heap w g _ _ e _ hg, hfit, hc, ?_, ?_⟩⟩, ⟨rfl, rfl, rfl, by simp, fun k hk hne => setRow_other w g k _ (fun e => hne (by rw [e]))⟩⟩
  · have hneg : ¬ ((m : Int) < 0) := by omega
    have h48 : ¬ ((281474976710656 : Int) < m) := by omega
    by_cases h0 : m = 0
    · subst h0
      have hw0 : IntKind.i64.wrap 0 = 0 := by decide
      have hf0 : n ≤ cap := by omega
      simp [Builtin.append_, run_underlying U.ht, run_underlying htn, sizeOf, typeInfo, zeroValue, U.hi, U.hz, U.h1, U.h2, asInt, asIntOf, hw0, hf0, hadd]
      simp at hst
      simp [hst]
    · have hc0 : (Value.int IntKind.u8 0).cells = #[Value.int IntKind.u8 0] := rfl
      simp [Builtin.append_, run_underlying U.ht, run_underlying htn, sizeOf, typeInfo, zeroValue, U.hi, U.hz, U.h1, U.h2, asInt, asIntOf, hwr, hfit, hneg, h48, hadd, h0, hc0, zero_list, hst]
  · simp only [List.length_append, List.length_replicate, hl]
    omega
  · rw [hcur]
    simp
    omega
  · rw [hcur]
    simp only [Nat.mul_one] at ht ⊢
    rw [← ht, List.take_left']
    simp
    omega

theorem step_zeros {P : Program} {w : World} {ops : Array Oper} {rest : List Oper} {o : Oper} {a : Act} {Q : Exit → Act → World → Prop} (hgd : o.guard = none) (s x : Operand) (t tn : TypeId)
    (ho : o.op = .call { callee := .builtin .append, args := #[s, x], argTypes := #[t, tn] }) (e : TypeId) (i : TypeInfo) (U : U8 P t e i) (htn : P.underlying tn = some (.int .i64)) (base g n m cap : Nat) (xs : List Value)
    (hs : a.eval s = .slice (some ⟨g, 0, none⟩) n cap) (hx : a.eval x = .int .i64 m) (hown : w.ownsRow base e 1 (.slice (some ⟨g, 0, none⟩) n cap) n xs) (hfit : n + m ≤ cap) (hm : m ≤ 140737488355328)
    (h : ∀ w', w'.ownsRow base e 1 (.slice (some ⟨g, 0, none⟩) (n + m) cap) (n + m) (xs ++ List.replicate m (Value.int .u8 0)) → w.grownBy w' (some g) → wpList P ops Q rest (a.put o.dst (.slice (some ⟨g, 0, none⟩) (n + m) cap)) w') : wpList P ops Q (o :: rest) a w := by
  obtain ⟨w', hr, h1, h2⟩ := run_zeros (P := P) w t tn o.type e i U htn base g n m cap xs hown hfit hm
  exact Lib.wpList_append_run w hgd s x t tn ho _ _ hs hx _ _ hr (h w' h1 h2)
end Go.Proofs.YtpocccnhibjjcaaGreatDoor
/- What stands behind a message: for every count of bytes up to 2^50. -/
set_option linter.unusedVariables false
namespace Go.Proofs.YtpocccnhibjjcaaGreatDoor
open Go.RowKit

def bez (v k : Nat) : List UInt8 := (List.range k).map fun j => UInt8.ofNat (v / 256 ^ (7 - j))
theorem bez_len (v k : Nat) : (bez v k).length = k := by simp [bez]
theorem bez_succ (v k : Nat) : bez v (k + 1) = bez v k ++ [UInt8.ofNat (v / 256 ^ (7 - k))] := by simp [bez, List.range_succ]
def zer (n : Nat) : Nat := (119 - n % 64) % 64
def padB (n : Nat) : List UInt8 := [128] ++ List.replicate (zer n) 0 ++ bez (8 * n) 8
theorem padB_len (n : Nat) : (padB n).length = 9 + zer n := by
  simp [padB, bez_len]
  omega
theorem zer_lt (n : Nat) : zer n < 64 := by unfold zer; omega
theorem bc_zeros (m : Nat) : bc (List.replicate m 0) = List.replicate m (Value.int .u8 0) := by simp [bc]

theorem info_u8 : (Tryz.prog.info? 5).map (fun i => (i.zero, i.size, i.bytes)) = some (some (.int .u8 0), 1, 1) := by kernel_rfl
theorem pd_table : ∃ i, U8 Tryz.prog 35 5 i := by
  obtain ⟨i, hi, hz, h1, h2⟩ := info_parts info_u8
  exact ⟨i, Tryz.underlying35, hi, hz, h1, h2⟩
theorem pd_one (w : World) (e : TypeId) (x : UInt8) (z : Int) (hz : z = (x.toNat : Int)) : Hol (w.alloc (.cells #[.int .u8 z] e)) (some ⟨w.heap.size, 0, none⟩) [x] := by
  subst hz
  refine .inr ⟨w.heap.size, 0, rfl, fun j y hy => ?_⟩
  match j, hy with
  | 0, hy =>
    simp at hy
    subst hy
    simp

theorem one_cell (w : World) (e : TypeId) (v : Value) : ∀ (j : Nat) (u : Value), [v][j]? = some u → (w.alloc (.cells #[v] e)).cell? ((⟨w.heap.size, 0, none⟩ : Addr).add j) = some u := by
  intro j u hu
  match j, hu with
  | 0, hu =>
    simp at hu
    subst hu
    simp [Addr.add]

theorem pd_shr (x k : Nat) : (x : Int) / 2 ^ (8 * k) % 256 = ((UInt8.ofNat (x / 256 ^ k)).toNat : Int) := by
  have e : (UInt8.ofNat (x / 256 ^ k)).toNat = x / 256 ^ k % 256 := UInt8.toNat_ofNat' ..
  have e2 : (2 : Int) ^ (8 * k) = ((256 ^ k : Nat) : Int) := by
    rw [Int.pow_mul]
    simp
  rw [e, e2]
  omega

set_option maxHeartbeats 400000 in
theorem padding_any (n : Nat) (hn : n ≤ 1125899906842624) (w : World) :
    Calls Tryz.prog 158 #[.int .u64 n] w fun e w' => ∃ v, e = .returned v ∧ w'.ownsRow w.heap.size 5 1 v (9 + zer n) (bc (padB n)) ∧ Below w.heap.size w w' := by
  obtain ⟨i, U⟩ := pd_table
  obtain ⟨z, hz⟩ : ∃ z, z = zer n := ⟨_, rfl⟩
  have hzI : (119 - (n : Int) % 64) % 64 = (z : Int) := by rw [hz]; unfold zer; omega
  have hz64 : z < 64 := hz ▸ zer_lt n
  have HZ := Lib.hid hz
  rw [← hz]
  clear hz
  go_enter Tryz.func158, Tryz.ntmps158
  go_wp2_with (first
    | (refine wpList_make_own _ rfl _ _ 35 rfl w.heap.size 5 i (.int .u8 0) 1 U.ht U.hi U.hz U.h1 .i64 .i64 _ (9 + z) rfl rfl (by omega) (by rw [U.h2]; omega) (by unfold maxLen; omega) (Nat.le_refl _) ?_
       intro w1 hown1 hg1)
    | (at_builtin; refine wpList_append_fits _ rfl _ _ 35 rfl w.heap.size 5 i 1 U.ht U.hi U.h1 w.heap.size 0 (9 + z) [] rfl (hown1.alloc _) ⟨w1.heap.size, 0, none⟩ 1 1 [.int .u8 128] rfl rfl (one_cell _ _ _) (by simp [Value.oneCell']) (by omega) ?_; intro w2 hown2 hg2)
    | (at_builtin; refine step_zeros rfl _ _ 35 3 rfl 5 i U Tryz.underlying3 w.heap.size w.heap.size 1 z (9 + z) _ rfl rfl hown2 (by omega) (by omega) ?_; intro w3 hown3 hg3))
  have hb1 := below_of_grown hg1
  have hb2 : Below w.heap.size w w2 := (hb1.alloc hb1.size _).grown hg2 (by have := hb1.size; simp; omega) (fun k hk => by injection hk with hk; omega)
  have hb3 : Below w.heap.size w w3 := hb2.grown hg3 hb2.size (fun k hk => by injection hk with hk; omega)
  have hown4 : w3.ownsRow w.heap.size 5 1 (.slice (some ⟨w.heap.size, 0, none⟩) (1 + z) (9 + z)) (1 + z) (bc ([128] ++ List.replicate z 0)) := by
    rw [bc_app, bc_zeros]
    exact hown3
  clear hown1 hown2 hown3 hg1 hg2 hg3 hb1 hb2
  go_loopw [4, 20] (fun v i wr => ∃ k : Nat, k ≤ 8 ∧ i = .int .i64 k ∧ wr.ownsRow w.heap.size 5 1 v (1 + z + k) (bc ([128] ++ List.replicate z 0 ++ bez (8 * n) k)) ∧ Below w.heap.size w wr) (fun _ i _ => 8 - (intOf i).toNat)
  case atStart => exact ⟨0, by omega, rfl, by simpa [bez] using hown4, hb3⟩
  case round =>
    obtain ⟨k, hk, rfl, hown, hbel⟩ := hrel
    clear hown4 hb3
    by_cases hlt : k < 8
    · obtain ⟨m, hm⟩ : ∃ m : Nat, m = 7 - k := ⟨_, rfl⟩
      have hmI : (7 - (k : Int)) = (m : Int) := by omega
      have hm7 : m ≤ 7 := by omega
      have hmin : min (8 * m) 64 = 8 * m := by omega
      have hby := pd_shr (8 * n) m
      have HM := Lib.hid hm
      clear hm
      obtain ⟨L, hL⟩ : ∃ L, L = [128] ++ List.replicate z 0 ++ bez (8 * n) k := ⟨_, rfl⟩
      rw [← hL] at hown
      have HL := Lib.hid hL
      clear hL
      go_wp2_with (at_builtin; refine wpList_app _ rfl _ _ _ rfl 5 i U w.heap.size _ (1 + z + k) _ rfl (hown.alloc _) (some ⟨wr.heap.size, 0, none⟩) 1 1 [UInt8.ofNat (8 * n / 256 ^ m)] rfl rfl (pd_one _ _ _ _ ?hz) (by omega) (by have := hbel.size; simp; omega) ?_)
      case hz =>
        rw [Int.natCast_mul] at hby
        exact hby
      intro v2 w2 hown2 hg2 hat2
      have hb2 : Below w.heap.size w w2 := (hbel.alloc hbel.size _).grown hg2 (by have := hbel.size; simp; omega) (fun k hk => (hown.lt k hk).1)
      have hown3 : w2.ownsRow w.heap.size 5 1 v2 (1 + z + (k + 1)) (bc ([128] ++ List.replicate z 0 ++ bez (8 * n) (k + 1))) := by
        rw [bez_succ, ← HM.out, ← List.append_assoc, ← HL.out, bc_app]
        exact hown2
      clear hown2 hg2 hat2 hown hbel
      go_wp2
      go_roundw
      case rel => exact ⟨k + 1, by omega, by go_num, hown3, hb2⟩
      case measure => simp [intOf]; omega
    · obtain rfl : k = 8 := by omega
      go_wp2
      go_ret
      have e := HZ.out
      subst e
      exact ⟨_, rfl, by rw [show 9 + zer n = 1 + zer n + 8 by omega]; exact hown, hbel⟩
end Go.Proofs.YtpocccnhibjjcaaGreatDoor
