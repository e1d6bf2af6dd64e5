/- Files: whether a list is needed, how many slots a file takes, and its slots in order. Conditions: those named. -/
import Derived.Test.YtfbfeplegdpemaaGreatMgDa
import Derived.Test.YtfbfeplegdpemaaGreatDe
set_option linter.unusedVariables false
set_option maxRecDepth 20000
namespace Go.Proofs.YtfbfeplegdpemaaGreat
open Go.RowKit

theorem app_congr {a b c d : List Value} (h : a = c) (k : b = d) : a ++ b = c ++ d := by rw [h, k]
/-- How many of the first k blocks have a slot. -/
def cnz (R : Nat → Int) : Nat → Nat
  | 0 => 0
  | k + 1 => cnz R k + if R k = 0 then 0 else 1
theorem cnz_le (R : Nat → Int) : ∀ k, cnz R k ≤ k
  | 0 => Nat.le_refl _
  | k + 1 => by have := cnz_le R k; unfold cnz; split <;> omega
/-- Whether a block that the list tells has a slot. -/
def lsd (R : Nat → Int) : Bool := !((List.range 112).all fun j => R (16 + j) == ino0 j)
def tks (R : Nat → Int) : Nat := cnz R 128 + if lsd R = true then 1 else 0
theorem listed_any (R : Nat → Int) (w : World) : Calls Tryz.prog 53 #[.agg (inl 128 R).toArray] w fun e w' => e = .returned (.bool (lsd R)) ∧ Below w.heap.size w w' := by
  have i1 := Lib.hid info_rows
  obtain ⟨z, hz⟩ : ∃ z, lsd R = z := ⟨_, rfl⟩
  have HEQ := Lib.hid (p := ∀ w, (Op.equalIn 10000 134 (.agg (inl 112 fun j => R (16 + j)).toArray) (.agg (inl 112 ino0).toArray)).run Tryz.prog w = .ok (!z) w) (fun w => by
    rw [← hz, lsd, Bool.not_not]
    exact eq_inl 9998 112 _ Tryz.underlying134 _ _ w)
  have HL := Lib.hid (list_any R)
  obtain ⟨L, hL⟩ : ∃ L : Nat → Int, (fun j => R (16 + j)) = L := ⟨_, rfl⟩
  rw [hL] at HEQ HL
  rw [hz]
  clear hL hz
  go_enter Tryz.func53, Tryz.ntmps53
  go_wp2_with (first
    | (refine step_box rfl 1 rfl 98 (.tmp 0) rfl (inl 128 R) rfl ?_; intro g1 w2 hr2 hg2 hb2 hs2
       have HR12 := Lib.hid hr2
       have HB2 := Lib.hid hb2
       clear hr2 hg2 hb2 hs2)
    | (refine step_load rfl 3 rfl 98 (.tmp 1) rfl g1 rfl (inl 128 R) _ HR12.out.all Tryz.underlying98 rfl (i1.out _) ?_)
    | (go_at_call 84; refine (HL.out _).mono ?_; rintro e w3 ⟨rfl, hb⟩
       have HB3 := Lib.hid (below_nxt hb HB2.out)
       clear hb)
    | (refine step_build rfl 134 _ rfl [] ?hv _ built_112 ?_; case hv => (simp [Act.eval]))
    | (refine step_neq (by rfl) 134 134 (.tmp 4) (.tmp 5) rfl _ _ rfl rfl l112_guard (!z) (fun w => HEQ.out w) ?_; rw [Bool.not_not]))
  go_ret
  exact ⟨rfl, HB3.out⟩
set_option maxHeartbeats 1000000 in
theorem takes_any (R : Nat → Int) (w : World) : Calls Tryz.prog 56 #[.agg (inl 128 R).toArray] w fun e w' => e = .returned (.int .i64 (tks R : Int)) ∧ Below w.heap.size w w' := by
  have i1 := Lib.hid info_rows
  have HLS := Lib.hid (listed_any R)
  have HTK := Lib.hid (p := (lsd R = true → tks R = cnz R 128 + 1) ∧ (lsd R = false → tks R = cnz R 128)) ⟨fun h => by unfold tks; rw [if_pos h], fun h => by unfold tks; rw [h]; rfl⟩
  go_enter Tryz.func56, Tryz.ntmps56
  go_wp2_with (first
    | (refine step_box rfl 1 rfl 98 (.tmp 0) rfl (inl 128 R) rfl ?_; intro g1 w2 hr2 hg2 hb2 hs2
       have HR12 := Lib.hid hr2
       have HB2 := Lib.hid hb2
       clear hr2 hg2 hb2 hs2))
  go_loopw [3, 5] (fun x y wr => ∃ k : Nat, k ≤ 128 ∧ x = .int .i64 (cnz R k : Int) ∧ y = .int .i64 (k : Int) ∧ wr = w2) (fun _ y _ => 128 - (intOf y).toNat)
  case atStart => exact ⟨0, by omega, rfl, rfl, rfl⟩
  case round =>
    obtain ⟨k, hk, rfl, rfl, rfl⟩ := hrel
    by_cases hk2 : k < 128
    · have hki : (k : Int) < 128 := by omega
      obtain ⟨z, hz⟩ : ∃ z, R k = z := ⟨_, rfl⟩
      have ck : wr.cell? ⟨g1, k, none⟩ = some (.int .i64 z) := by rw [HR12.out.cell, inl_get _ hk2, hz]
      have hkw : IntKind.i64.wrap ((k : Int) + 1) = (k : Int) + 1 := by rw [IntKind.wrap_i64]; omega
      have hle := cnz_le R k
      obtain ⟨c, hc⟩ : ∃ c, cnz R k = c := ⟨_, rfl⟩
      rw [hc] at hle ⊢
      have hcw : IntKind.i64.wrap ((c : Int) + 1) = (c : Int) + 1 := by rw [IntKind.wrap_i64]; omega
      by_cases h0 : z = 0
      · have hz0 : (z != 0) = false := by simp [h0]
        have HN := Lib.hid (p := cnz R (k + 1) = c) (by unfold cnz; rw [hz, if_pos h0, hc]; rfl)
        have HK := Lib.hid hk2
        clear h0 hz hc hle hk hk2
        go_wp2
        go_roundw
        case rel => exact ⟨k + 1, HK.out, by rw [HN.out], by go_num, trivial⟩
        case measure => have := HK.out; simp [intOf]; omega
      · have hz0 : (z != 0) = true := by simpa using h0
        have HN := Lib.hid (p := cnz R (k + 1) = c + 1) (by unfold cnz; rw [hz, if_neg h0, hc])
        have HK := Lib.hid hk2
        clear h0 hz hc hle hk hk2
        go_wp2
        go_roundw
        case rel => exact ⟨k + 1, HK.out, by rw [HN.out]; go_num, by go_num, trivial⟩
        case measure => have := HK.out; simp [intOf]; omega
    · have e : k = 128 := by omega
      subst e
      have hle := cnz_le R 128
      obtain ⟨c, hc⟩ : ∃ c, cnz R 128 = c := ⟨_, rfl⟩
      rw [hc] at hle HTK ⊢
      have hcw : IntKind.i64.wrap ((c : Int) + 1) = (c : Int) + 1 := by rw [IntKind.wrap_i64]; omega
      obtain ⟨z, hz⟩ : ∃ z, lsd R = z := ⟨_, rfl⟩
      rw [hz] at HTK HLS
      clear hc hle hk hk2
      go_wp2_with (first
        | (refine step_load rfl 15 rfl 98 (.tmp 1) rfl g1 rfl (inl 128 R) _ HR12.out.all Tryz.underlying98 rfl (i1.out _) ?_)
        | (go_at_call 53; refine (HLS.out _).mono ?_; rintro e w3 ⟨rfl, hb⟩
           have HB3 := Lib.hid (below_nxt hb HB2.out)
           clear hb
           cases z))
      · go_ret
        exact ⟨by rw [HTK.out.2 trivial]; rfl, HB3.out⟩
      · go_ret
        exact ⟨by rw [HTK.out.1 trivial]; rfl, HB3.out⟩
/-- The slots of a file's blocks. -/
def rowD (v : Nat → Int) : Nat → Int := fun j => if j < 16 then v (10 + j) else 0
theorem rowD_split (v : Nat → Int) : inl 128 (rowD v) = inl 16 (fun j => v (10 + j)) ++ inl 112 ino0 := by
  rw [inl_split]
  exact app_congr (inl_congr fun j hj => by unfold rowD; rw [if_pos hj]) (inl_congr fun j hj => by unfold rowD; rw [if_neg (by omega)]; rfl)
/-- The slots of a file's blocks, its list read. -/
def rowL (v L : Nat → Int) : Nat → Int := fun j => if j < 16 then v (10 + j) else L (j - 16)
theorem rowL_split (v L : Nat → Int) : inl 128 (rowL v L) = inl 16 (fun j => v (10 + j)) ++ inl 112 L := by
  rw [inl_split]
  exact app_congr (inl_congr fun j hj => by unfold rowL; rw [if_pos hj]) (inl_congr fun j hj => by unfold rowL; rw [if_neg (by omega)]; rw [Nat.add_sub_cancel_left])
section
variable {b : Nat} {w w' : World} {gd gv gm gs r : Nat} {Bs : List BV} {N n : Nat} {X X' : DX}
set_option maxHeartbeats 2000000 in
theorem drow_direct (v : Nat → Int) (e : Nat) (h : DK b w gd gv gm gs r Bs N n X) (he : e ≤ 16 ∨ v 26 = 0) : Calls Tryz.prog 46 #[.pointer (some ⟨gd, 0, none⟩), .agg (ncs v).toArray, .int .i64 (e : Int)] w (DOne b w gd gv gm gs r Bs N n X (.agg (inl 128 (rowD v)).toArray)) := by
  have i1 := Lib.hid info_rows
  have i2 := Lib.hid info_inl
  have i3 := Lib.hid info_int
  have hz0 := Lib.hid zero_row
  have hz2 := Lib.hid zero_112
  have H := Lib.hid h
  obtain ⟨RR, hRR⟩ : ∃ RR, (rowD v) = RR := ⟨_, rfl⟩
  have HRR := Lib.hid (p := inl 128 RR = inl 16 (fun j => v (10 + j)) ++ inl 112 ino0) (by rw [← hRR]; exact rowD_split v)
  have HNC := Lib.hid (p := ncs v = [.int .i64 (v 0), .int .i64 (v 1), .int .u32 (v 2), .int .u32 (v 3), .int .i64 (v 4), .int .i64 (v 5), .int .u64 (v 6), .int .u32 (v 7), .int .i64 (v 8), .int .u32 (v 9)] ++ (inl 16 (fun j => v (10 + j)) ++ [.int .i64 (v 26)])) rfl
  rw [hRR]
  clear hRR
  obtain ⟨v26, hv26⟩ : ∃ v26, v 26 = v26 := ⟨_, rfl⟩
  have hdec : (16 : Int) < (e : Int) ∧ (v26 != 0) = false ∨ ¬ (16 : Int) < (e : Int) := by
    rcases he with h1 | h1
    · exact .inr (by omega)
    · by_cases h2 : (16 : Int) < (e : Int)
      · exact .inl ⟨h2, by rw [← hv26, h1]; rfl⟩
      · exact .inr h2
  have HV := Lib.hid hv26
  clear h he hv26
  rcases hdec with ⟨he1, he2⟩ | he1
  · go_enter Tryz.func46, Tryz.ntmps46
    go_wp2_with (first
      | (refine step_box rfl 4 rfl 44 (.tmp 1) rfl (ncs v) rfl ?_; intro g4 w2 hr2 hg2 hb2 hs2
         have HR42 := Lib.hid hr2
         have HB2 := Lib.hid hb2
         have HG4 := Lib.hid (p := w.heap.size ≤ g4) (Nat.le_of_eq hg2.out.symm)
         clear hr2 hg2 hb2 hs2)
      | (refine step_alloc rfl 6 rfl 98 rfl _ hz0.out ?_; intro g6 w3 hr2 hg2 hb2 hs2
         have HR63 := Lib.hid hr2
         have HR43 := Lib.hid (HR42.out.kept hb2)
         have HB3 := Lib.hid (below_nxt hb2 HB2.out)
         have HG6 := Lib.hid (p := w.heap.size ≤ g6 ∧ g4 < g6) (by rw [hg2.out]; exact ⟨HB2.out.size, HR42.out.lt⟩)
         clear hr2 hg2 hb2 hs2; have MK := trivial)
      | (clear MK; refine step_alloc rfl 7 rfl 98 rfl _ hz0.out ?_; intro g7 w4 hr2 hg2 hb2 hs2
         have HR74 := Lib.hid hr2
         have HR44 := Lib.hid (HR43.out.kept hb2)
         have HR64 := Lib.hid (HR63.out.kept hb2)
         have HB4 := Lib.hid (below_nxt hb2 HB3.out)
         have HG7 := Lib.hid (p := w.heap.size ≤ g7 ∧ g4 < g7 ∧ g6 < g7) (by rw [hg2.out]; exact ⟨HB3.out.size, HR43.out.lt, HR63.out.lt⟩)
         clear hr2 hg2 hb2 hs2))
    refine wp_region_held_drew (S := fun _ => True) (by kernel_rfl) trivial (fun hHeld => ?_)
    refine wpAnyH_take (i := 0) (oi := ⟨some 10, .slice 98 (.tmp 7) none none none, _, _, _, _⟩) (v := .slice (some ⟨g7, 0, none⟩) 128 128) rfl (by kernel_rfl) (by kernel_rfl) (by kernel_rfl) (fun _ _ _ h => h) (.inl ⟨by rfl, fun w hSw => by go_simp⟩) (by assumption) ?_
    simp only [Act.put, List.setIfInBounds_toArray, List.set_cons_zero, List.set_cons_succ]
    refine wpAnyH_take (i := 1) (oi := ⟨some 11, .fieldAddr 44 (.tmp 4) 10, _, _, _, _⟩) (v := .pointer (some ⟨g4, 10, none⟩)) rfl (by kernel_rfl) (by kernel_rfl) (by kernel_rfl) (fun _ _ _ h => h) (.inl ⟨by rfl, fun w hSw => by go_simp⟩) (by assumption) ?_
    simp only [Act.put, List.setIfInBounds_toArray, List.set_cons_zero, List.set_cons_succ]
    refine wpAnyH_take (i := 2) (oi := ⟨some 12, .slice 42 (.tmp 11) none none none, _, _, _, _⟩) (v := .slice (some ⟨g4, 10, none⟩) 16 16) rfl (by kernel_rfl) (by kernel_rfl) (by kernel_rfl) (fun _ _ _ h => h) (.inl ⟨by rfl, fun w hSw => by go_simp⟩) (by assumption) ?_
    simp only [Act.put, List.setIfInBounds_toArray, List.set_cons_zero, List.set_cons_succ]
    refine wpAnyH_ready (rs := [3]) (by kernel_rfl) (by simp) ?_
    refine AllReadyH.cons (o := ⟨some 13, .call ⟨.builtin .copy, #[.tmp 10, .tmp 12], #[110, 110]⟩, _, _, _, _⟩) rfl (fun K hK => ?_) AllReadyH.nil
    refine k_copy_part (.tmp 10) (.tmp 12) 110 110 rfl 3 Tryz.underlying110 i3.out g7 0 128 128 (by rfl) 98 [] (inl 16 ino0) (inl 16 (fun j => v (10 + j))) (inl 112 ino0) (by have h := HR74.out.drew; rw [inl_split] at h; exact h) rfl (by rw [inl_len, inl_len]) ⟨g4, 10, none⟩ 16 16 (by rfl) (by rw [inl_len]; rfl) (row_src_at (by have h := HR44.out.drew; rw [HNC.out] at h; exact h) rfl) (inl_one _ _) ?_
    intro w5 hr5 hg5
    have HR75 := Lib.hid (p := Row w5 g7 98 (inl 16 (fun j => v (10 + j)) ++ inl 112 ino0)) (by simpa using hr5)
    have HB5 := Lib.hid (p := Below w.heap.size w w5) (below_own (Below.trans HB4.out (below_drw w4 |>.mono HB4.out.size)) hg5 HG7.out.1)
    have HR65 := Lib.hid (HR64.out.drew.grown hg5 (fun e => by have := HG7.out; injection e; omega))
    have HR45 := Lib.hid (HR44.out.drew.grown hg5 (fun e => by have := HG7.out; injection e; omega))
    clear hr5 hg5
    refine hK.out _ _ trivial (fun _hH => ?_)
    clear hK K
    refine wpAnyH_done (by kernel_rfl) ?_ _
    have c26 : w5.cell? ⟨g4, 26, none⟩ = some (.int .i64 v26) := by rw [← HV.out]; exact (HR45.out.cell 26).trans rfl
    have HRX := Lib.hid (p := Row w5 g7 98 (inl 128 RR)) (by rw [HRR.out]; exact HR75.out)
    go_wp2_with (first
      | (refine step_load rfl 32 rfl 98 (.tmp 7) rfl g7 rfl (inl 128 RR) _ HRX.out.all Tryz.underlying98 rfl (i1.out _) ?_)
      | (refine step_store rfl 98 (.tmp 6) (.tmp 32) rfl g6 (by rfl) _ _ (inl 128 RR) (by rfl) HR65.out (by rw [inl_len, inl_len]) (i1.out _) (inl_one _ _) ?_; intro w9 hr9 hg9 hs9))
    refine bodyPost_ret (results_cell_row rfl _ _ g6 _ _ _ _ rfl hr9 Tryz.underlying98 rfl (by simpa using i1.out RR)) rfl ?_
    have hb9 := below_own HB5.out hg9 HG6.out.1
    exact ⟨rfl, Lib.hid (H.out.below hb9), Lib.hid (Chg.of hb9)⟩
  · go_enter Tryz.func46, Tryz.ntmps46
    go_wp2_with (first
      | (refine step_box rfl 4 rfl 44 (.tmp 1) rfl (ncs v) rfl ?_; intro g4 w2 hr2 hg2 hb2 hs2
         have HR42 := Lib.hid hr2
         have HB2 := Lib.hid hb2
         have HG4 := Lib.hid (p := w.heap.size ≤ g4) (Nat.le_of_eq hg2.out.symm)
         clear hr2 hg2 hb2 hs2)
      | (refine step_alloc rfl 6 rfl 98 rfl _ hz0.out ?_; intro g6 w3 hr2 hg2 hb2 hs2
         have HR63 := Lib.hid hr2
         have HR43 := Lib.hid (HR42.out.kept hb2)
         have HB3 := Lib.hid (below_nxt hb2 HB2.out)
         have HG6 := Lib.hid (p := w.heap.size ≤ g6 ∧ g4 < g6) (by rw [hg2.out]; exact ⟨HB2.out.size, HR42.out.lt⟩)
         clear hr2 hg2 hb2 hs2; have MK := trivial)
      | (clear MK; refine step_alloc rfl 7 rfl 98 rfl _ hz0.out ?_; intro g7 w4 hr2 hg2 hb2 hs2
         have HR74 := Lib.hid hr2
         have HR44 := Lib.hid (HR43.out.kept hb2)
         have HR64 := Lib.hid (HR63.out.kept hb2)
         have HB4 := Lib.hid (below_nxt hb2 HB3.out)
         have HG7 := Lib.hid (p := w.heap.size ≤ g7 ∧ g4 < g7 ∧ g6 < g7) (by rw [hg2.out]; exact ⟨HB3.out.size, HR43.out.lt, HR63.out.lt⟩)
         clear hr2 hg2 hb2 hs2))
    refine wp_region_held_drew (S := fun _ => True) (by kernel_rfl) trivial (fun hHeld => ?_)
    refine wpAnyH_take (i := 0) (oi := ⟨some 10, .slice 98 (.tmp 7) none none none, _, _, _, _⟩) (v := .slice (some ⟨g7, 0, none⟩) 128 128) rfl (by kernel_rfl) (by kernel_rfl) (by kernel_rfl) (fun _ _ _ h => h) (.inl ⟨by rfl, fun w hSw => by go_simp⟩) (by assumption) ?_
    simp only [Act.put, List.setIfInBounds_toArray, List.set_cons_zero, List.set_cons_succ]
    refine wpAnyH_take (i := 1) (oi := ⟨some 11, .fieldAddr 44 (.tmp 4) 10, _, _, _, _⟩) (v := .pointer (some ⟨g4, 10, none⟩)) rfl (by kernel_rfl) (by kernel_rfl) (by kernel_rfl) (fun _ _ _ h => h) (.inl ⟨by rfl, fun w hSw => by go_simp⟩) (by assumption) ?_
    simp only [Act.put, List.setIfInBounds_toArray, List.set_cons_zero, List.set_cons_succ]
    refine wpAnyH_take (i := 2) (oi := ⟨some 12, .slice 42 (.tmp 11) none none none, _, _, _, _⟩) (v := .slice (some ⟨g4, 10, none⟩) 16 16) rfl (by kernel_rfl) (by kernel_rfl) (by kernel_rfl) (fun _ _ _ h => h) (.inl ⟨by rfl, fun w hSw => by go_simp⟩) (by assumption) ?_
    simp only [Act.put, List.setIfInBounds_toArray, List.set_cons_zero, List.set_cons_succ]
    refine wpAnyH_ready (rs := [3]) (by kernel_rfl) (by simp) ?_
    refine AllReadyH.cons (o := ⟨some 13, .call ⟨.builtin .copy, #[.tmp 10, .tmp 12], #[110, 110]⟩, _, _, _, _⟩) rfl (fun K hK => ?_) AllReadyH.nil
    refine k_copy_part (.tmp 10) (.tmp 12) 110 110 rfl 3 Tryz.underlying110 i3.out g7 0 128 128 (by rfl) 98 [] (inl 16 ino0) (inl 16 (fun j => v (10 + j))) (inl 112 ino0) (by have h := HR74.out.drew; rw [inl_split] at h; exact h) rfl (by rw [inl_len, inl_len]) ⟨g4, 10, none⟩ 16 16 (by rfl) (by rw [inl_len]; rfl) (row_src_at (by have h := HR44.out.drew; rw [HNC.out] at h; exact h) rfl) (inl_one _ _) ?_
    intro w5 hr5 hg5
    have HR75 := Lib.hid (p := Row w5 g7 98 (inl 16 (fun j => v (10 + j)) ++ inl 112 ino0)) (by simpa using hr5)
    have HB5 := Lib.hid (p := Below w.heap.size w w5) (below_own (Below.trans HB4.out (below_drw w4 |>.mono HB4.out.size)) hg5 HG7.out.1)
    have HR65 := Lib.hid (HR64.out.drew.grown hg5 (fun e => by have := HG7.out; injection e; omega))
    have HR45 := Lib.hid (HR44.out.drew.grown hg5 (fun e => by have := HG7.out; injection e; omega))
    clear hr5 hg5
    refine hK.out _ _ trivial (fun _hH => ?_)
    clear hK K
    refine wpAnyH_done (by kernel_rfl) ?_ _
    have c26 : w5.cell? ⟨g4, 26, none⟩ = some (.int .i64 v26) := by rw [← HV.out]; exact (HR45.out.cell 26).trans rfl
    have HRX := Lib.hid (p := Row w5 g7 98 (inl 128 RR)) (by rw [HRR.out]; exact HR75.out)
    go_wp2_with (first
      | (refine step_load rfl 32 rfl 98 (.tmp 7) rfl g7 rfl (inl 128 RR) _ HRX.out.all Tryz.underlying98 rfl (i1.out _) ?_)
      | (refine step_store rfl 98 (.tmp 6) (.tmp 32) rfl g6 (by rfl) _ _ (inl 128 RR) (by rfl) HR65.out (by rw [inl_len, inl_len]) (i1.out _) (inl_one _ _) ?_; intro w9 hr9 hg9 hs9))
    refine bodyPost_ret (results_cell_row rfl _ _ g6 _ _ _ _ rfl hr9 Tryz.underlying98 rfl (by simpa using i1.out RR)) rfl ?_
    have hb9 := below_own HB5.out hg9 HG6.out.1
    exact ⟨rfl, Lib.hid (H.out.below hb9), Lib.hid (Chg.of hb9)⟩
set_option maxHeartbeats 2000000 in
theorem drow_listed (v L : Nat → Int) (e : Nat) (h : DK b w gd gv gm gs r Bs N n X) (z : Nat) (hz : v 26 = (z : Int)) (hz0 : 0 < z ∧ z < 256) (l : L8) (hl : seeX X Bs z = some l) (hlen : l.length ≤ 1000) (er : Int) (hU : lV (norm l) = .tuple #[.agg (inl 112 L).toArray, .int .i64 er]) (he : 16 < e) : Calls Tryz.prog 46 #[.pointer (some ⟨gd, 0, none⟩), .agg (ncs v).toArray, .int .i64 (e : Int)] w (DOne b w gd gv gm gs r Bs N n X (.agg (inl 128 (rowL v L)).toArray)) := by
  have i1 := Lib.hid info_rows
  have i2 := Lib.hid info_inl
  have i3 := Lib.hid info_int
  have hz0 := Lib.hid zero_row
  have hz2 := Lib.hid zero_112
  have H := Lib.hid h
  obtain ⟨RR, hRR⟩ : ∃ RR, (rowL v L) = RR := ⟨_, rfl⟩
  have HRR := Lib.hid (p := inl 128 RR = inl 16 (fun j => v (10 + j)) ++ inl 112 L) (by rw [← hRR]; exact rowL_split v L)
  have HNC := Lib.hid (p := ncs v = [.int .i64 (v 0), .int .i64 (v 1), .int .u32 (v 2), .int .u32 (v 3), .int .i64 (v 4), .int .i64 (v 5), .int .u64 (v 6), .int .u32 (v 7), .int .i64 (v 8), .int .u32 (v 9)] ++ (inl 16 (fun j => v (10 + j)) ++ [.int .i64 (v 26)])) rfl
  rw [hRR]
  clear hRR
  have hee : (16 : Int) < (e : Int) := by omega
  have hzn : ((z : Int) != 0) = true := by simp; omega
  have HZ := Lib.hid hz
  have HSEE := Lib.hid (p := I64 (z : Int) ∧ seeX X Bs z = some l ∧ l.length ≤ 1000) ⟨by unfold I64; omega, hl, hlen⟩
  have HU := Lib.hid hU
  clear h hz hl hlen hU he
  go_enter Tryz.func46, Tryz.ntmps46
  go_wp2_with (first
    | (refine step_box rfl 4 rfl 44 (.tmp 1) rfl (ncs v) rfl ?_; intro g4 w2 hr2 hg2 hb2 hs2
       have HR42 := Lib.hid hr2
       have HB2 := Lib.hid hb2
       have HG4 := Lib.hid (p := w.heap.size ≤ g4) (Nat.le_of_eq hg2.out.symm)
       clear hr2 hg2 hb2 hs2)
    | (refine step_alloc rfl 6 rfl 98 rfl _ hz0.out ?_; intro g6 w3 hr2 hg2 hb2 hs2
       have HR63 := Lib.hid hr2
       have HR43 := Lib.hid (HR42.out.kept hb2)
       have HB3 := Lib.hid (below_nxt hb2 HB2.out)
       have HG6 := Lib.hid (p := w.heap.size ≤ g6 ∧ g4 < g6) (by rw [hg2.out]; exact ⟨HB2.out.size, HR42.out.lt⟩)
       clear hr2 hg2 hb2 hs2; have MK := trivial)
    | (clear MK; refine step_alloc rfl 7 rfl 98 rfl _ hz0.out ?_; intro g7 w4 hr2 hg2 hb2 hs2
       have HR74 := Lib.hid hr2
       have HR44 := Lib.hid (HR43.out.kept hb2)
       have HR64 := Lib.hid (HR63.out.kept hb2)
       have HB4 := Lib.hid (below_nxt hb2 HB3.out)
       have HG7 := Lib.hid (p := w.heap.size ≤ g7 ∧ g4 < g7 ∧ g6 < g7) (by rw [hg2.out]; exact ⟨HB3.out.size, HR43.out.lt, HR63.out.lt⟩)
       clear hr2 hg2 hb2 hs2))
  refine wp_region_held_drew (S := fun _ => True) (by kernel_rfl) trivial (fun hHeld => ?_)
  refine wpAnyH_take (i := 0) (oi := ⟨some 10, .slice 98 (.tmp 7) none none none, _, _, _, _⟩) (v := .slice (some ⟨g7, 0, none⟩) 128 128) rfl (by kernel_rfl) (by kernel_rfl) (by kernel_rfl) (fun _ _ _ h => h) (.inl ⟨by rfl, fun w hSw => by go_simp⟩) (by assumption) ?_
  simp only [Act.put, List.setIfInBounds_toArray, List.set_cons_zero, List.set_cons_succ]
  refine wpAnyH_take (i := 1) (oi := ⟨some 11, .fieldAddr 44 (.tmp 4) 10, _, _, _, _⟩) (v := .pointer (some ⟨g4, 10, none⟩)) rfl (by kernel_rfl) (by kernel_rfl) (by kernel_rfl) (fun _ _ _ h => h) (.inl ⟨by rfl, fun w hSw => by go_simp⟩) (by assumption) ?_
  simp only [Act.put, List.setIfInBounds_toArray, List.set_cons_zero, List.set_cons_succ]
  refine wpAnyH_take (i := 2) (oi := ⟨some 12, .slice 42 (.tmp 11) none none none, _, _, _, _⟩) (v := .slice (some ⟨g4, 10, none⟩) 16 16) rfl (by kernel_rfl) (by kernel_rfl) (by kernel_rfl) (fun _ _ _ h => h) (.inl ⟨by rfl, fun w hSw => by go_simp⟩) (by assumption) ?_
  simp only [Act.put, List.setIfInBounds_toArray, List.set_cons_zero, List.set_cons_succ]
  refine wpAnyH_ready (rs := [3]) (by kernel_rfl) (by simp) ?_
  refine AllReadyH.cons (o := ⟨some 13, .call ⟨.builtin .copy, #[.tmp 10, .tmp 12], #[110, 110]⟩, _, _, _, _⟩) rfl (fun K hK => ?_) AllReadyH.nil
  refine k_copy_part (.tmp 10) (.tmp 12) 110 110 rfl 3 Tryz.underlying110 i3.out g7 0 128 128 (by rfl) 98 [] (inl 16 ino0) (inl 16 (fun j => v (10 + j))) (inl 112 ino0) (by have h := HR74.out.drew; rw [inl_split] at h; exact h) rfl (by rw [inl_len, inl_len]) ⟨g4, 10, none⟩ 16 16 (by rfl) (by rw [inl_len]; rfl) (row_src_at (by have h := HR44.out.drew; rw [HNC.out] at h; exact h) rfl) (inl_one _ _) ?_
  intro w5 hr5 hg5
  have HR75 := Lib.hid (p := Row w5 g7 98 (inl 16 (fun j => v (10 + j)) ++ inl 112 ino0)) (by simpa using hr5)
  have HB5 := Lib.hid (p := Below w.heap.size w w5) (below_own (Below.trans HB4.out (below_drw w4 |>.mono HB4.out.size)) hg5 HG7.out.1)
  have HR65 := Lib.hid (HR64.out.drew.grown hg5 (fun e => by have := HG7.out; injection e; omega))
  have HR45 := Lib.hid (HR44.out.drew.grown hg5 (fun e => by have := HG7.out; injection e; omega))
  clear hr5 hg5
  refine hK.out _ _ trivial (fun _hH => ?_)
  clear hK K
  refine wpAnyH_done (by kernel_rfl) ?_ _
  have c26 : w5.cell? ⟨g4, 26, none⟩ = some (.int .i64 (z : Int)) := by rw [← HZ.out]; exact (HR45.out.cell 26).trans rfl
  have HK5 := Lib.hid (H.out.below HB5.out)
  have HLT := Lib.hid H.out.lt
  have HLO := Lib.hid H.out.lo
  go_wp2_with (first
    | (go_at_call 43; refine (dsee HK5.out (z : Int) HSEE.out.1 l HSEE.out.2.1 HSEE.out.2.2).mono ?_; rintro e w6 ⟨y, rfl, hy, ho, hk, hc⟩
       have HK6 := hk
       have HC6 := Lib.hid (p := Chg [gd] w w6) ((Chg.of (F := [gd]) HB5.out).trans hc.out (fun x hx => .inl hx))
       have HR66 := Lib.hid (hc.out.row HR65.out (by have h1 := HLT.out; have h2 := HG6.out; simp; omega))
       have HR76 := Lib.hid (hc.out.row HR75.out (by have h1 := HLT.out; have h2 := HG7.out; simp; omega))
       have HY := hy
       have HO := ho
       clear hy ho hk hc c26)
    | (go_at_call 82; refine (unpacklist_any y.A _ y.c y.l rfl (by rw [HY.out]; have := norm_len HSEE.out.2.2; omega) _ HO.out.hol).mono ?_; rintro e w7 ⟨rfl, hb⟩
       rw [HY.out, HU.out]
       have HK7 := Lib.hid (HK6.out.below hb)
       have HC7 := Lib.hid (chg_nxt HC6.out hb)
       have HR67 := Lib.hid (HR66.out.kept hb)
       have HR77 := Lib.hid (HR76.out.kept hb)
       clear hb)
    | (refine step_alloc rfl 8 rfl 134 rfl _ hz2.out ?_; intro g8 w8 hr8 hg8 hb8 hs8
       have HR88 := Lib.hid hr8
       have HK8 := Lib.hid (HK7.out.below hb8)
       have HC8 := Lib.hid (chg_nxt HC7.out hb8)
       have HR68 := Lib.hid (HR67.out.kept hb8)
       have HR78 := Lib.hid (HR77.out.kept hb8)
       have HG8 := Lib.hid (p := w.heap.size ≤ g8 ∧ g6 < g8 ∧ g7 < g8) (by rw [hg8.out]; exact ⟨HC7.out.size, HR67.out.lt, HR77.out.lt⟩)
       clear hr8 hg8 hb8 hs8)
    | (refine step_store rfl 134 (.tmp 8) (.tmp 27) rfl g8 rfl _ _ (inl 112 L) rfl HR88.out (by rw [inl_len, inl_len]) (i2.out _) (inl_one _ _) ?_; intro w9 hr9 hg9 hs9
       have HR89 := Lib.hid hr9
       have HK9 := Lib.hid (HK8.out.other HR88.out (by decide) (by have := HLO.out; have := HG8.out; omega) (Chg.one hg9))
       have HC9 := Lib.hid (chg_own HC8.out HG8.out.1 (Chg.one hg9))
       have HR69 := Lib.hid (HR68.out.grown hg9 (fun e => by have := HG8.out; injection e; omega))
       have HR79 := Lib.hid (HR78.out.grown hg9 (fun e => by have := HG8.out; injection e; omega))
       clear hr9 hg9 hs9))
  refine wp_region_held_drew (S := fun _ => True) (by kernel_rfl) trivial (fun hHeld => ?_)
  refine wpAnyH_take (i := 0) (oi := ⟨some 29, .slice 98 (.tmp 7) (some (Operand.const (Value.int IntKind.i64 16))) none none, _, _, _, _⟩) (v := .slice (some ⟨g7, 16, none⟩) 112 112) rfl (by kernel_rfl) (by kernel_rfl) (by kernel_rfl) (fun _ _ _ h => h) (.inl ⟨by rfl, fun w hSw => by go_simp⟩) (by assumption) ?_
  simp only [Act.put, List.setIfInBounds_toArray, List.set_cons_zero, List.set_cons_succ]
  refine wpAnyH_take (i := 1) (oi := ⟨some 30, .slice 134 (.tmp 8) none none none, _, _, _, _⟩) (v := .slice (some ⟨g8, 0, none⟩) 112 112) rfl (by kernel_rfl) (by kernel_rfl) (by kernel_rfl) (fun _ _ _ h => h) (.inl ⟨by rfl, fun w hSw => by go_simp⟩) (by assumption) ?_
  simp only [Act.put, List.setIfInBounds_toArray, List.set_cons_zero, List.set_cons_succ]
  refine wpAnyH_ready (rs := [2]) (by kernel_rfl) (by simp) ?_
  refine AllReadyH.cons (o := ⟨some 31, .call ⟨.builtin .copy, #[.tmp 29, .tmp 30], #[110, 110]⟩, _, _, _, _⟩) rfl (fun K hK => ?_) AllReadyH.nil
  refine k_copy_part (.tmp 29) (.tmp 30) 110 110 rfl 3 Tryz.underlying110 i3.out g7 16 112 112 (by rfl) 98 (inl 16 (fun j => v (10 + j))) (inl 112 ino0) (inl 112 L) [] (by have h := HR79.out.drew; simpa using h) (by rw [inl_len]) (by rw [inl_len, inl_len]) ⟨g8, 0, none⟩ 112 112 (by rfl) (by rw [inl_len]; rfl) (row_src_at (A := []) (B := []) (by have h := HR89.out.drew; simpa using h) rfl) (inl_one _ _) ?_
  intro w10 hr5 hg5
  have HRX := Lib.hid (p := Row w10 g7 98 (inl 128 RR)) (by rw [HRR.out]; simpa using hr5)
  have HK10 := Lib.hid ((HK9.out.below (below_drw w9)).other HR79.out.drew (by decide) (by have := HLO.out; have := HG7.out; omega) (Chg.one hg5))
  have HC10 := Lib.hid (p := Chg [gd] w w10) (chg_own (chg_nxt HC9.out (below_drw w9)) HG7.out.1 (Chg.one hg5))
  have HR610 := Lib.hid (HR69.out.drew.grown hg5 (fun e => by have := HG7.out; injection e; omega))
  clear hr5 hg5
  refine hK.out _ _ trivial (fun _hH => ?_)
  clear hK K
  refine wpAnyH_done (by kernel_rfl) ?_ _
  go_wp2_with (first
    | (refine step_load rfl 32 rfl 98 (.tmp 7) rfl g7 rfl (inl 128 RR) _ HRX.out.all Tryz.underlying98 rfl (i1.out _) ?_)
    | (refine step_store rfl 98 (.tmp 6) (.tmp 32) rfl g6 (by rfl) _ _ (inl 128 RR) (by rfl) HR610.out (by rw [inl_len, inl_len]) (i1.out _) (inl_one _ _) ?_; intro w11 hr9 hg9 hs9))
  refine bodyPost_ret (results_cell_row rfl _ _ g6 _ _ _ _ rfl hr9 Tryz.underlying98 rfl (by simpa using i1.out RR)) rfl ?_
  exact ⟨rfl, Lib.hid (HK10.out.other HR610.out (by decide) (by have := HLO.out; have := HG6.out; omega) (Chg.one hg9)), Lib.hid (chg_own HC10.out HG6.out.1 (Chg.one hg9))⟩
end
end Go.Proofs.YtfbfeplegdpemaaGreat
