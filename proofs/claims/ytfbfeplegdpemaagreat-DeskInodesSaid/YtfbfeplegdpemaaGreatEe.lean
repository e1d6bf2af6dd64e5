/- Files: slots taken for a file's holes, and the inode then. Conditions: those named. -/
import Derived.Test.YtfbfeplegdpemaaGreatEd
set_option linter.unusedVariables false
set_option maxRecDepth 20000
namespace Go.Proofs.YtfbfeplegdpemaaGreat
open Go.RowKit

theorem info_plan : (Tryz.prog.info? 101).map (·.size) = some 516 := by kernel_rfl
/-- A super whose used slots are the first m. -/
def supU (s : Nat) (i : Nat → Int) (o : Nat → Bool) (m : Nat) : Sup := ⟨s, fun j => decide (j < m), i, o⟩
theorem supU_next (s : Nat) (i : Nat → Int) (o : Nat → Bool) (m : Nat) : (supU s i o m).setU m true = supU s i o (m + 1) := by
  unfold Sup.setU supU
  congr 1
  funext j
  unfold at1
  by_cases h : j = m
  · rw [if_pos h]; simp; omega
  · rw [if_neg h]
    congr 1
    simp
    omega
section
variable {w w' : World} {gp : Nat} {S : Sup} {T : List Value} {N : Nat}
theorem ptake_have (i : Nat) (z : Int) (hr : Row w gp 101 (S.cs ++ T)) (hi : T[i]? = some (.int .i64 z)) (hz : z ≠ 0) (p : Nat) (hp : 387 + i = p) : Calls Tryz.prog 83 #[.pointer (some ⟨gp, 0, none⟩), .pointer (some ⟨gp, p, none⟩), .int .i64 (N : Int)] w fun e w' => e = .returned (.bool true) ∧ w = w' := by
  have c1 : w.cell? ⟨gp, p, none⟩ = some (.int .i64 z) := by rw [hr.cell, ← hp, List.getElem?_append_right (by rw [Sup.cs_len]; omega), Sup.cs_len, Nat.add_sub_cancel_left]; exact hi
  have h0 : (z == 0) = false := beq_false_of_ne hz
  have h1 : (z != 0) = true := by simpa using hz
  clear hr hi hz hp
  go_enter Tryz.func83, Tryz.ntmps83
  go_wp2
  go_ret
  exact ⟨rfl, rfl⟩
set_option maxHeartbeats 1000000 in
theorem ptake_new (i k : Nat) (hr : Row w gp 101 (S.cs ++ T)) (hi : T[i]? = some (.int .i64 0)) (hk : 0 < k ∧ k < 256 ∧ k < N) (hu : S.u k = false) (hb : ∀ j, j < k → S.u j = true) (p : Nat) (hp : 387 + i = p) : Calls Tryz.prog 83 #[.pointer (some ⟨gp, 0, none⟩), .pointer (some ⟨gp, p, none⟩), .int .i64 (N : Int)] w fun e w' => e = .returned (.bool true) ∧ Hid (Row w' gp 101 ((S.setU k true).cs ++ T.set i (.int .i64 (k : Int)))) ∧ Hid (Chg [gp] w w') := by
  have c1 : w.cell? ⟨gp, p, none⟩ = some (.int .i64 0) := by rw [hr.cell, ← hp, List.getElem?_append_right (by rw [Sup.cs_len]; omega), Sup.cs_len, Nat.add_sub_cancel_left]; exact hi
  have HTK := Lib.hid (take_ok S (N : Int) k hk.2.1 (by omega) hu hb)
  have i1 := Lib.hid (fun x : Sup => info_cs x)
  have HR := Lib.hid hr
  have HP := Lib.hid hp
  have hk0 : ((k : Int) != 0) = true := by simp; omega
  clear hr hi hk hu hb hp
  go_enter Tryz.func83, Tryz.ntmps83
  go_wp2_with (first
    | (refine step_load_at rfl 59 (.tmp 16) rfl gp 0 (by rfl) 101 [] S.cs T _ HR.out rfl Tryz.underlying59 rfl (i1.out _) ?_)
    | (go_at_call 72; refine (HTK.out _).mono ?_; rintro e w4 ⟨rfl, hb⟩
       have HB4 := Lib.hid hb
       have HR4 := Lib.hid (HR.out.kept hb)
       clear hb)
    | (refine step_store_at rfl 59 (.tmp 24) (.tmp 20) rfl gp 0 (by rfl) 101 [] S.cs (S.setU k true).cs T (by rfl) HR4.out rfl (by simp [Sup.cs_len]) (i1.out _) (Sup.cs_one _) ?_
       intro w5 hr5 hg5
       have HR5 := Lib.hid (p := Row w5 gp 101 ((S.setU k true).cs ++ T)) hr5
       have HC5 := Lib.hid (p := Chg [gp] w w5) ((Chg.of (F := [gp]) HB4.out).trans (Chg.one hg5) (fun x hx => .inl hx))
       have f5 := HR5.out.free p
       obtain ⟨u5, c5⟩ : ∃ u5, w5.cell? ⟨gp, p, none⟩ = some u5 := by
         rw [HR5.out.cell]
         have h1 := HR.out.cell p
         rw [c1] at h1
         have h2 : p < (S.cs ++ T).length := (List.getElem?_eq_some_iff.1 h1.symm).1
         exact ⟨_, List.getElem?_eq_getElem (by rw [List.length_append, Sup.cs_len] at h2 ⊢; exact h2)⟩
       clear hr5 hg5 c1)
    | fail)
  go_ret
  have h9 := HR5.out.put p (.int .i64 (k : Int))
  rw [← HP.out, List.set_append_right _ _ (by rw [Sup.cs_len]; omega), Sup.cs_len, Nat.add_sub_cancel_left, HP.out] at h9
  exact ⟨rfl, Lib.hid h9, Lib.hid (HC5.out.setCell (p := ⟨gp, p, none⟩) (.inl (by simp)) _)⟩
end
/-- How many holes there are among k blocks. -/
def zc (R : Nat → Int) (first : Nat) : Nat → Nat
  | 0 => 0
  | k + 1 => zc R first k + if R (first + k) = 0 then 1 else 0
theorem zc_succ (R : Nat → Int) (first k : Nat) : zc R first (k + 1) = zc R first k + if R (first + k) = 0 then 1 else 0 := rfl
theorem zc_le (R : Nat → Int) (first : Nat) : ∀ k, zc R first k ≤ k
  | 0 => Nat.le_refl _
  | k + 1 => by have := zc_le R first k; unfold zc; split <;> omega
theorem zc_mono (R : Nat → Int) (first : Nat) : ∀ k j, k ≤ j → zc R first k ≤ zc R first j
  | k, 0, h => by rw [Nat.le_zero.1 h]; exact Nat.le_refl _
  | k, j + 1, h => by
    by_cases e : k = j + 1
    · rw [e]; exact Nat.le_refl _
    · have h1 := zc_mono R first k j (by omega)
      have h2 : zc R first (j + 1) = zc R first j + if R (first + j) = 0 then 1 else 0 := rfl
      omega
/-- The row of slots when k blocks' holes have slots from m on. -/
def flR (R : Nat → Int) (m first k : Nat) (j : Nat) : Int := if first ≤ j ∧ j < first + k ∧ R j = 0 then ((m + zc R first (j - first) : Nat) : Int) else R j
theorem flR_zero (R : Nat → Int) (m first : Nat) : flR R m first 0 = R := by
  funext j
  unfold flR
  rw [if_neg (by omega)]
theorem flR_have {R : Nat → Int} {m first k : Nat} (h : R (first + k) ≠ 0) : flR R m first (k + 1) = flR R m first k := by
  funext j
  unfold flR
  by_cases hj : first ≤ j ∧ j < first + k ∧ R j = 0
  · rw [if_pos hj, if_pos ⟨hj.1, by omega, hj.2.2⟩]
  · rw [if_neg hj]
    by_cases e : j = first + k
    · subst e
      rw [if_neg (fun h' => h h'.2.2)]
    · rw [if_neg (fun h' => hj ⟨h'.1, by omega, h'.2.2⟩)]
theorem flR_new {R : Nat → Int} {m first k : Nat} (h : R (first + k) = 0) : flR R m first (k + 1) = at1 (flR R m first k) (first + k) ((m + zc R first k : Nat) : Int) := by
  funext j
  unfold at1
  by_cases e : j = first + k
  · rw [if_pos e]
    subst e
    unfold flR
    rw [if_pos ⟨by omega, by omega, h⟩, Nat.add_sub_cancel_left]
  · rw [if_neg e]
    unfold flR
    by_cases hj : first ≤ j ∧ j < first + k ∧ R j = 0
    · rw [if_pos hj, if_pos ⟨hj.1, by omega, hj.2.2⟩]
    · rw [if_neg hj, if_neg (fun h' => hj ⟨h'.1, by omega, h'.2.2⟩)]
theorem flR_at {R : Nat → Int} {m first k : Nat} : flR R m first k (first + k) = R (first + k) := by
  unfold flR
  rw [if_neg (by omega)]
def ptl (R : Nat → Int) (L : Int) : List Value := inl 128 R ++ [.int .i64 L]
theorem ptl_row (R : Nat → Int) (L : Int) {j : Nat} (h : j < 128) : (ptl R L)[j]? = some (.int .i64 (R j)) := by
  unfold ptl
  rw [List.getElem?_append_left (by rw [inl_len]; exact h), inl_get _ h]
theorem ptl_list (R : Nat → Int) (L : Int) : (ptl R L)[128]? = some (.int .i64 L) := by
  unfold ptl
  rw [List.getElem?_append_right (by rw [inl_len]; exact Nat.le_refl _), inl_len]
  rfl
theorem ptl_set (R : Nat → Int) (L z : Int) {j : Nat} (h : j < 128) : (ptl R L).set j (.int .i64 z) = ptl (at1 R j z) L := by
  unfold ptl
  rw [List.set_append_left _ _ (by rw [inl_len]; exact h), inl_set _ _ h]
theorem ptl_setL (R : Nat → Int) (L z : Int) : (ptl R L).set 128 (.int .i64 z) = ptl R z := by
  unfold ptl
  rw [List.set_append_right _ _ (by rw [inl_len]; exact Nat.le_refl _), inl_len]
  rfl
/-- The list's slot behind a fill. -/
def flL (e : Nat) (L : Int) (m : Nat) : Int := if e ≤ 16 ∨ L ≠ 0 then L else (m : Int)
def flM (e : Nat) (L : Int) (m : Nat) : Nat := if e ≤ 16 ∨ L ≠ 0 then m else m + 1
set_option maxHeartbeats 2000000 in
theorem pfill (w : World) (gp : Nat) (s : Nat) (i : Nat → Int) (oo : Nat → Bool) (m : Nat) (R : Nat → Int) (L : Int) (N first cnt e : Nat) (he : first + cnt = e) (he2 : e ≤ 128) (hm : 1 ≤ m) (hN : N ≤ 256) (hroom : m + zc R first cnt + 1 ≤ N)
    (hr : Row w gp 101 ((supU s i oo m).cs ++ ptl R L)) :
    Calls Tryz.prog 47 #[.pointer (some ⟨gp, 0, none⟩), .int .i64 (first : Int), .int .i64 (e : Int), .int .i64 (N : Int)] w fun ee w' => ee = .returned (.bool true) ∧
      Hid (Row w' gp 101 ((supU s i oo (flM e L (m + zc R first cnt))).cs ++ ptl (flR R m first cnt) (flL e L (m + zc R first cnt)))) ∧ Hid (Chg [gp] w w') := by
  have hsub : IntKind.i64.wrap ((e : Int) - (first : Int)) = (cnt : Int) := by rw [IntKind.wrap_i64]; omega
  have HR := Lib.hid hr
  have HF := Lib.hid (p := first + cnt = e ∧ e ≤ 128 ∧ 1 ≤ m ∧ N ≤ 256 ∧ m + zc R first cnt + 1 ≤ N) ⟨he, he2, hm, hN, hroom⟩
  have HTK := Lib.hid (p := ∀ (W : World) (k : Nat) (R' : Nat → Int) (j : Nat), Row W gp 101 ((supU s i oo k).cs ++ ptl R' L) → 0 < k ∧ k < 256 ∧ k < N → j < 128 → R' j = 0 → Calls Tryz.prog 83 #[.pointer (some ⟨gp, 0, none⟩), .pointer (some ⟨gp, 387 + j, none⟩), .int .i64 (N : Int)] W fun e w' => e = .returned (.bool true) ∧ Hid (Row w' gp 101 ((supU s i oo (k + 1)).cs ++ ptl (at1 R' j (k : Int)) L)) ∧ Hid (Chg [gp] W w')) (fun W k R' j hW hk hj h0 => by
    have h1 := ptake_new (N := N) j k hW (by rw [ptl_row _ _ hj, h0]) hk (by simp [supU]) (fun q hq => by simp [supU, hq]) (387 + j) rfl
    rw [supU_next, ptl_set _ _ _ hj] at h1
    exact h1)
  clear hr he he2 hm hN hroom
  go_enter Tryz.func47, Tryz.ntmps47
  go_wp2
  go_loopw [13] (fun x wr => ∃ k : Nat, Hid (k ≤ cnt) ∧ x = .int .i64 (k : Int) ∧ Hid (Row wr gp 101 ((supU s i oo (m + zc R first k)).cs ++ ptl (flR R m first k) L)) ∧ Hid (Chg [gp] w wr)) (fun x _ => cnt - (intOf x).toNat)
  case atStart => exact ⟨0, Lib.hid (Nat.zero_le _), rfl, Lib.hid (by rw [flR_zero]; exact HR.out), Lib.hid (Chg.refl _ _)⟩
  case round =>
    obtain ⟨k, HK, rfl, HRW, HCW⟩ := hrel
    by_cases hk : k < cnt
    · have hki : (k : Int) < (cnt : Int) := by omega
      have hf := HF.out
      have hzl := zc_le R first k
      have hzm := zc_mono R first (k + 1) cnt (by omega)
      obtain ⟨j, hj⟩ : ∃ j, first + k = j := ⟨_, rfl⟩
      have hjw : IntKind.i64.wrap ((first : Int) + (k : Int)) = (j : Int) := by rw [IntKind.wrap_i64]; omega
      have hj128 : (j : Int) < 128 := by omega
      have hkw : IntKind.i64.wrap ((k : Int) + 1) = (k : Int) + 1 := by rw [IntKind.wrap_i64]; omega
      by_cases h0 : R j = 0
      · have hzs : zc R first (k + 1) = zc R first k + 1 := by rw [zc_succ, hj, if_pos h0]
        have HT := Lib.hid (HTK.out wr (m + zc R first k) (flR R m first k) j HRW.out (by omega) (by omega) (by rw [← hj, flR_at, hj, h0]))
        have HX := Lib.hid (p := (supU s i oo (m + zc R first k + 1)).cs ++ ptl (at1 (flR R m first k) j ((m + zc R first k : Nat) : Int)) L = (supU s i oo (m + zc R first (k + 1))).cs ++ ptl (flR R m first (k + 1)) L) (by rw [flR_new (by rw [hj]; exact h0), hzs, hj]; rfl)
        have HKK := Lib.hid hk
        clear hk hf hzl hzm hj h0 hzs
        go_wp2_with (go_at_call 83; refine HT.out.mono ?_; rintro e w4 ⟨rfl, hr4, hc4⟩
                     have HR4 := Lib.hid (HX.out ▸ hr4.out)
                     have HC4 := Lib.hid (chg_same HCW.out hc4.out)
                     clear hr4 hc4)
        go_roundw
        case rel => exact ⟨k + 1, HKK, by go_num, HR4, HC4⟩
        case measure => have := HKK.out; simp [intOf]; omega
      · have hzs : zc R first (k + 1) = zc R first k := by rw [zc_succ, hj, if_neg h0, Nat.add_zero]
        have HT := Lib.hid (ptake_have (N := N) j (R j) HRW.out (by rw [ptl_row _ _ (by omega), ← hj, flR_at]) h0 (387 + j) rfl)
        have HX := Lib.hid (p := (supU s i oo (m + zc R first k)).cs ++ ptl (flR R m first k) L = (supU s i oo (m + zc R first (k + 1))).cs ++ ptl (flR R m first (k + 1)) L) (by rw [flR_have (by rw [hj]; exact h0), hzs])
        have HKK := Lib.hid hk
        clear hk hf hzl hzm hj h0 hzs
        go_wp2_with (go_at_call 83; refine HT.out.mono ?_; rintro e w4 ⟨rfl, rfl⟩)
        go_roundw
        case rel => exact ⟨k + 1, HKK, by go_num, Lib.hid (HX.out ▸ HRW.out), HCW⟩
        case measure => have := HKK.out; simp [intOf]; omega
    · have hkz : ¬ (k : Int) < (cnt : Int) := by omega
      have hke : k = cnt := by have := HK.out; omega
      subst hke
      have hf := HF.out
      by_cases h16 : e ≤ 16
      · have h16i : (e : Int) ≤ 16 := by omega
        have HX := Lib.hid (p := flM e L (m + zc R first k) = m + zc R first k ∧ flL e L (m + zc R first k) = L) ⟨if_pos (.inl h16), if_pos (.inl h16)⟩
        clear hk hf h16
        go_wp2
        go_ret
        exact ⟨rfl, Lib.hid (by rw [HX.out.1, HX.out.2]; exact HRW.out), HCW⟩
      · have h16i : ¬ (e : Int) ≤ 16 := by omega
        by_cases hL : L = 0
        · have HX := Lib.hid (p := flM e L (m + zc R first k) = m + zc R first k + 1 ∧ flL e L (m + zc R first k) = ((m + zc R first k : Nat) : Int)) ⟨if_neg (by simp [hL]; omega), if_neg (by simp [hL]; omega)⟩
          have HT := Lib.hid (ptake_new (N := N) 128 (m + zc R first k) HRW.out (by rw [ptl_list, hL]) (by omega) (by simp [supU]) (fun q hq => by simp [supU, hq]) 515 rfl)
          clear hk hf h16 hL
          go_wp2_with (go_at_call 83; refine HT.out.mono ?_; rintro e w4 ⟨rfl, hr4, hc4⟩
                       have HR4 := hr4
                       have HC4 := Lib.hid (chg_same HCW.out hc4.out)
                       clear hr4 hc4)
          go_ret
          refine ⟨rfl, Lib.hid ?_, HC4⟩
          have h9 := HR4.out
          rw [supU_next, ptl_setL] at h9
          rw [HX.out.1, HX.out.2]
          exact h9
        · have HX := Lib.hid (p := flM e L (m + zc R first k) = m + zc R first k ∧ flL e L (m + zc R first k) = L) ⟨if_pos (.inr hL), if_pos (.inr hL)⟩
          have HT := Lib.hid (ptake_have (N := N) 128 L HRW.out (ptl_list _ _) hL 515 rfl)
          clear hk hf h16 hL
          go_wp2_with (go_at_call 83; refine HT.out.mono ?_; rintro e w4 ⟨rfl, rfl⟩)
          go_ret
          exact ⟨rfl, Lib.hid (by rw [HX.out.1, HX.out.2]; exact HRW.out), HCW⟩
end Go.Proofs.YtfbfeplegdpemaaGreat
