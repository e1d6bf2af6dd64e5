/- The laws' first test. Conditions: the tables lie there. -/
import Derived.Test.YtpocccnhibjjcaaGreatDoorVsv
import Derived.Test.YtpocccnhibjjcaaGreatDoorMgUnsh
set_option linter.unusedVariables false
set_option maxRecDepth 20000
namespace Go.Proofs.YtpocccnhibjjcaaGreatDoor
open Go.RowKit

def At0 (w0 w : World) (G : List Nat) : Prop := Below w0.heap.size w0 w ∧ ∀ j ∈ G, w0.heap.size ≤ j
theorem At0.step {w0 w w' : World} {G G' : List Nat} (h : At0 w0 w G) (hC : Chg G w w') (hW : Wider w G G') : At0 w0 w' G' := by
  have hs := h.1.size
  refine ⟨h.1.trans (hC.below hs h.2), fun j hj => ?_⟩
  rcases hW j hj with e | e
  · exact h.2 j e
  · omega
theorem At0.below {w0 w w' : World} {G : List Nat} (h : At0 w0 w G) (hb : Below w.heap.size w w') : At0 w0 w' G := ⟨below_nxt hb h.1, h.2⟩
theorem hol_made (w : World) (x : UInt8) : Hol (w.alloc (.cells #[.int .u8 (x.toNat : Int)] 5)) (some ⟨w.heap.size, 0, none⟩) [x] := by
  refine .inr ⟨_, _, rfl, fun j y hj => ?_⟩
  have hr := Row.made w 5 [.int .u8 (x.toNat : Int)]
  cases j with
  | zero =>
    have e : x = y := by simpa using hj
    subst e
    exact (hr.cell 0).trans rfl
  | succ j => simp at hj
theorem hol_nil (w : World) : Hol w none [] := .inl rfl
theorem holV_nil (w : World) : HolV w none ([].map Value.bool) := .inl rfl
set_option maxHeartbeats 8000000 in
theorem awake9_any (w : World) (hT : Tabs w ∧ S8.Tab w) : Calls Tryz.prog 7 #[] w fun e w' => e = .returned (.bool true) ∧ Below w.heap.size w w' := by
  have HT := Lib.hid hT
  clear hT
  go_enter Tryz.func7, Tryz.ntmps7
  go_wp2_with (go_at_call 28
               refine (mv_start 1 (by decide) (by decide) none 0 [] (by decide) w (hol_nil w) HT.out).mono ?_
               rintro e w1 ⟨gH, g, G1, L, rfl, HM1, HG1, HB1⟩
               have HA1 := Lib.hid (p := At0 w w1 G1) ⟨HB1.out, HG1.out⟩)
  refine wp_region_held_drew (S := fun _ => True) (by kernel_rfl) trivial (fun hHeld => ?_)
  have HM0 := Lib.hid (HM1.out.below (below_drw w1))
  have HA0 := Lib.hid (HA1.out.below (below_drw w1))
  refine wpAnyH_take (i := 0) (oi := ⟨some 5, .move (.tmp 1), _, _, _, _⟩) (v := .pointer (some ⟨gH, 0, none⟩)) rfl (by kernel_rfl) (by kernel_rfl) (by kernel_rfl) (fun _ _ _ h => h) (.inl ⟨by rfl, fun w hSw => by go_simp⟩) (by assumption) ?_
  simp only [Act.put, List.setIfInBounds_toArray, List.set_cons_zero, List.set_cons_succ]
  refine wpAnyH_take (i := 1) (oi := ⟨some 6, .binOp .eql 54 (.tmp 5) (.const (.pointer none)) 54, _, _, _, _⟩) (v := .bool false) rfl (by kernel_rfl) (by kernel_rfl) (by kernel_rfl) (fun _ _ _ h => h) (.inl ⟨by rfl, fun w hSw => by go_simp⟩) (by assumption) ?_
  simp only [Act.put, List.setIfInBounds_toArray, List.set_cons_zero, List.set_cons_succ]
  refine wpAnyH_take (i := 2) (oi := ⟨some 7, .move (.tmp 6), _, _, _, _⟩) (v := .bool false) rfl (by kernel_rfl) (by kernel_rfl) (by kernel_rfl) (fun _ _ _ h => h) (.inl ⟨by rfl, fun w hSw => by go_simp⟩) (by assumption) ?_
  simp only [Act.put, List.setIfInBounds_toArray, List.set_cons_zero, List.set_cons_succ]
  refine wpAnyH_take (i := 3) (oi := ⟨some 8, .move (.tmp 1), _, _, _, _⟩) (v := .pointer (some ⟨gH, 0, none⟩)) rfl (by kernel_rfl) (by kernel_rfl) (by kernel_rfl) (fun _ _ _ h => h) (.inl ⟨by rfl, fun w hSw => by go_simp⟩) (by assumption) ?_
  simp only [Act.put, List.setIfInBounds_toArray, List.set_cons_zero, List.set_cons_succ]
  refine wpAnyH_ready (rs := [4]) (by kernel_rfl) (by simp) ?_
  refine AllReadyH.cons (o := ⟨some 9, .call ⟨.value (.func 29), #[.tmp 8], _⟩, _, _, _, _⟩) rfl (fun K hK => ?_) AllReadyH.nil
  go_simp
  refine (mv_mount HM0.out (by decide) (by decide)).mono ?_
  rintro e2 w2 ⟨rfl, G2, HS2, HC2, HW2⟩
  have HA2 := Lib.hid (HA0.out.step HC2.out HW2.out)
  refine hK.out _ _ trivial (fun _hH2 => ?_)
  clear hK K
  refine wpAnyH_take (i := 5) (oi := ⟨some 10, .unOp .not 4 (.tmp 9), _, _, _, _⟩) (v := .bool false) rfl (by kernel_rfl) (by kernel_rfl) (by kernel_rfl) (fun _ _ _ h => h) (.inl ⟨by rfl, fun w hSw => by go_simp⟩) (by assumption) ?_
  simp only [Act.put, List.setIfInBounds_toArray, List.set_cons_zero, List.set_cons_succ]
  refine wpAnyH_take (i := 6) (oi := ⟨some 11, .pick (.tmp 7) (.const (.bool true)) (.tmp 10), _, _, _, _⟩) (v := .bool false) rfl (by kernel_rfl) (by kernel_rfl) (by kernel_rfl) (fun _ _ _ h => h) (.inl ⟨by rfl, fun w hSw => by go_simp⟩) (by assumption) ?_
  simp only [Act.put, List.setIfInBounds_toArray, List.set_cons_zero, List.set_cons_succ]
  refine wpAnyH_take (i := 7) (oi := ⟨some 12, .move (.tmp 11), _, _, _, _⟩) (v := .bool false) rfl (by kernel_rfl) (by kernel_rfl) (by kernel_rfl) (fun _ _ _ h => h) (.inl ⟨by rfl, fun w hSw => by go_simp⟩) (by assumption) ?_
  simp only [Act.put, List.setIfInBounds_toArray, List.set_cons_zero, List.set_cons_succ]
  refine wpAnyH_take (i := 8) (oi := ⟨some 13, .move (.tmp 1), _, _, _, _⟩) (v := .pointer (some ⟨gH, 0, none⟩)) rfl (by kernel_rfl) (by kernel_rfl) (by kernel_rfl) (fun _ _ _ h => h) (.inl ⟨by rfl, fun w hSw => by go_simp⟩) (by assumption) ?_
  simp only [Act.put, List.setIfInBounds_toArray, List.set_cons_zero, List.set_cons_succ]
  refine wpAnyH_take (i := 9) (oi := ⟨some 14, .nilCheck (.tmp 13), _, _, _, _⟩) (v := .pointer (some ⟨gH, 0, none⟩)) rfl (by kernel_rfl) (by kernel_rfl) (by kernel_rfl) (fun _ _ _ h => h) (.inl ⟨by rfl, fun w hSw => by go_simp⟩) (by assumption) ?_
  simp only [Act.put, List.setIfInBounds_toArray, List.set_cons_zero, List.set_cons_succ]
  refine wpAnyH_take (i := 10) (oi := ⟨some 15, .fieldAddr 64 (.tmp 14) 4, _, _, _, _⟩) (v := .pointer (some ⟨gH, 4, none⟩)) rfl (by kernel_rfl) (by kernel_rfl) (by kernel_rfl) (fun _ _ _ h => h) (.inl ⟨by rfl, fun w hSw => by go_simp⟩) (by assumption) ?_
  simp only [Act.put, List.setIfInBounds_toArray, List.set_cons_zero, List.set_cons_succ]
  refine wpAnyH_ready (rs := [11, 12]) (by kernel_rfl) (by simp) ?_
  refine AllReadyH.cons (o := ⟨some 16, .load 27 (.tmp 15), _, _, _, _⟩) rfl (fun K hK => ?_) (AllReadyH.cons (o := ⟨some 17, .buildSlice 35 1 #[(0, .const (.int .u8 7))], _, _, _, _⟩) rfl (fun K hK => ?_) AllReadyH.nil)
  · skip
    have cv3 := SV.cell HS2.out
    go_simp

    refine hK.out _ _ trivial (fun _hH3 => ?_)
    clear hK K
    clear cv3
    refine wpAnyH_ready (rs := [12]) (by kernel_rfl) (by simp) ?_
    refine AllReadyH.cons (o := ⟨some 17, .buildSlice 35 1 #[(0, .const (.int .u8 7))], _, _, _, _⟩) rfl (fun K hK => ?_) AllReadyH.nil
    go_simp
    have HL4 := Lib.hid (hol_made w2 7)
    have HBB4 := Lib.hid (p := Below w2.heap.size w2 (w2.alloc (.cells #[.int .u8 7] 5))) ((Below.refl _ _).alloc (Nat.le_refl _) _)
    change K _ (w2.alloc (.cells #[.int .u8 7] 5))
    change Hid (Hol (w2.alloc (.cells #[.int .u8 7] 5)) _ _) at HL4
    obtain ⟨g4, hg4⟩ : ∃ g4, w2.heap.size = g4 := ⟨_, rfl⟩
    obtain ⟨w4, hw4⟩ : ∃ w4, w2.alloc (.cells #[.int .u8 7] 5) = w4 := ⟨_, rfl⟩
    rw [hw4] at HBB4 HL4 ⊢
    rw [hg4] at HL4
    have HS4 := Lib.hid (SV.below HS2.out HBB4.out)
    have HA4 := Lib.hid (HA2.out.below HBB4.out)
    clear hw4
    rw [hg4]
    refine hK.out _ _ trivial (fun _hH4 => ?_)
    clear hK K
    clear hg4
    refine wpAnyH_ready (rs := [13]) (by kernel_rfl) (by simp) ?_
    refine AllReadyH.cons (o := ⟨some 18, .call ⟨.value (.func 30), #[.tmp 17], _⟩, _, _, _, _⟩) rfl (fun K hK => ?_) AllReadyH.nil
    go_simp
    refine (whole_any (some ⟨g4, 0, none⟩) 1 [7] (by decide) _ HL4.out).mono ?_
    rintro e5 w5 ⟨gw, rfl, hrw, hgw, hbw⟩
    have HRW := Lib.hid hrw
    have HS5 := Lib.hid (SV.below HS4.out hbw)
    have HA5 := Lib.hid (HA4.out.below hbw)
    clear hrw hgw hbw
    refine hK.out _ _ trivial (fun _hH5 => ?_)
    clear hK K
    refine wpAnyH_ready (rs := [14]) (by kernel_rfl) (by simp) ?_
    refine AllReadyH.cons (o := ⟨some 19, .call ⟨.value (.func 18), #[.tmp 16, .const (.int .i64 2), .tmp 18], _⟩, _, _, _, _⟩) rfl (fun K hK => ?_) AllReadyH.nil
    go_simp
    obtain ⟨x, hxA, hxc, hxl, hxO⟩ : ∃ x : BV, x.A = some ⟨gw, 0, none⟩ ∧ x.c = 256 ∧ x.l = lst 256 (wh [7]) ∧ Own8 0 w5 x := ⟨⟨some ⟨gw, 0, none⟩, 256, lst 256 (wh [7])⟩, rfl, rfl, rfl, own_brr HRW.out (Nat.zero_le _)⟩
    have hput := sv_put HS5.out 2 (by decide) x 0 hxO (.inl (by rw [hxl]; exact lst_len _ _)) (by decide)
    rw [hxA, hxc, hxl, lst_len] at hput
    refine hput.mono ?_
    rintro e6 w6 ⟨rfl, G6, HS6, HC6, HW6⟩
    have HA6 := Lib.hid (HA5.out.step HC6.out HW6.out)
    clear hput hxA hxc hxl hxO
    refine hK.out _ _ trivial (fun _hH6 => ?_)
    clear hK K
    refine wpAnyH_take (i := 15) (oi := ⟨some 20, .binOp .neq 24 (.tmp 19) (.const (.int .i64 0)) 24, _, _, _, _⟩) (v := .bool false) rfl (by kernel_rfl) (by kernel_rfl) (by kernel_rfl) (fun _ _ _ h => h) (.inl ⟨by rfl, fun w hSw => by go_simp⟩) (by assumption) ?_
    simp only [Act.put, List.setIfInBounds_toArray, List.set_cons_zero, List.set_cons_succ]
    refine wpAnyH_take (i := 16) (oi := ⟨some 21, .pick (.tmp 12) (.const (.bool true)) (.tmp 20), _, _, _, _⟩) (v := .bool false) rfl (by kernel_rfl) (by kernel_rfl) (by kernel_rfl) (fun _ _ _ h => h) (.inl ⟨by rfl, fun w hSw => by go_simp⟩) (by assumption) ?_
    simp only [Act.put, List.setIfInBounds_toArray, List.set_cons_zero, List.set_cons_succ]
    refine wpAnyH_take (i := 17) (oi := ⟨some 22, .move (.tmp 21), _, _, _, _⟩) (v := .bool false) rfl (by kernel_rfl) (by kernel_rfl) (by kernel_rfl) (fun _ _ _ h => h) (.inl ⟨by rfl, fun w hSw => by go_simp⟩) (by assumption) ?_
    simp only [Act.put, List.setIfInBounds_toArray, List.set_cons_zero, List.set_cons_succ]
    refine wpAnyH_take (i := 18) (oi := ⟨some 23, .move (.tmp 1), _, _, _, _⟩) (v := .pointer (some ⟨gH, 0, none⟩)) rfl (by kernel_rfl) (by kernel_rfl) (by kernel_rfl) (fun _ _ _ h => h) (.inl ⟨by rfl, fun w hSw => by go_simp⟩) (by assumption) ?_
    simp only [Act.put, List.setIfInBounds_toArray, List.set_cons_zero, List.set_cons_succ]
    refine wpAnyH_ready (rs := [19]) (by kernel_rfl) (by simp) ?_
    refine AllReadyH.cons (o := ⟨some 24, .call ⟨.value (.func 31), #[.tmp 23], _⟩, _, _, _, _⟩) rfl (fun K hK => ?_) AllReadyH.nil
    go_simp
    refine (sv_commit HS6.out (setL (fun _ => []) 2 (lst 256 (wh [7]))) (by
      rintro X ⟨X0, hX0, h1, _⟩
      rw [h1, show X0.C = fun _ => none from hX0.2]
      rfl) (by decide) (by decide)).mono ?_
    rintro e7 w7 ⟨rfl, G7, HS7, HC7, HW7⟩
    have HA7 := Lib.hid (HA6.out.step HC7.out HW7.out)
    obtain ⟨E', hE'⟩ := HS7.out
    have hE2 : E' = 2 := by
      obtain ⟨_, _, _, _, _, _, _, _, _, _, _, _, _, _, _, X, ⟨_, _, _, h3, _⟩, _, _, h4⟩ := hE'
      rcases h4 with h4 | ⟨_, h4⟩
      · exact h4
      · rw [h4] at h3
        cases h3
    subst hE2
    have HE7 := Lib.hid hE'
    clear hE' 
    refine hK.out _ _ trivial (fun _hH7 => ?_)
    clear hK K
    refine wpAnyH_take (i := 20) (oi := ⟨some 25, .unOp .not 4 (.tmp 24), _, _, _, _⟩) (v := .bool false) rfl (by kernel_rfl) (by kernel_rfl) (by kernel_rfl) (fun _ _ _ h => h) (.inl ⟨by rfl, fun w hSw => by go_simp⟩) (by assumption) ?_
    simp only [Act.put, List.setIfInBounds_toArray, List.set_cons_zero, List.set_cons_succ]
    refine wpAnyH_take (i := 21) (oi := ⟨some 26, .pick (.tmp 22) (.const (.bool true)) (.tmp 25), _, _, _, _⟩) (v := .bool false) rfl (by kernel_rfl) (by kernel_rfl) (by kernel_rfl) (fun _ _ _ h => h) (.inl ⟨by rfl, fun w hSw => by go_simp⟩) (by assumption) ?_
    simp only [Act.put, List.setIfInBounds_toArray, List.set_cons_zero, List.set_cons_succ]
    refine wpAnyH_take (i := 22) (oi := ⟨some 27, .move (.tmp 26), _, _, _, _⟩) (v := .bool false) rfl (by kernel_rfl) (by kernel_rfl) (by kernel_rfl) (fun _ _ _ h => h) (.inl ⟨by rfl, fun w hSw => by go_simp⟩) (by assumption) ?_
    simp only [Act.put, List.setIfInBounds_toArray, List.set_cons_zero, List.set_cons_succ]
    refine wpAnyH_take (i := 23) (oi := ⟨some 28, .move (.tmp 1), _, _, _, _⟩) (v := .pointer (some ⟨gH, 0, none⟩)) rfl (by kernel_rfl) (by kernel_rfl) (by kernel_rfl) (fun _ _ _ h => h) (.inl ⟨by rfl, fun w hSw => by go_simp⟩) (by assumption) ?_
    simp only [Act.put, List.setIfInBounds_toArray, List.set_cons_zero, List.set_cons_succ]
    refine wpAnyH_take (i := 24) (oi := ⟨some 29, .nilCheck (.tmp 28), _, _, _, _⟩) (v := .pointer (some ⟨gH, 0, none⟩)) rfl (by kernel_rfl) (by kernel_rfl) (by kernel_rfl) (fun _ _ _ h => h) (.inl ⟨by rfl, fun w hSw => by go_simp⟩) (by assumption) ?_
    simp only [Act.put, List.setIfInBounds_toArray, List.set_cons_zero, List.set_cons_succ]
    refine wpAnyH_take (i := 25) (oi := ⟨some 30, .fieldAddr 64 (.tmp 29) 4, _, _, _, _⟩) (v := .pointer (some ⟨gH, 4, none⟩)) rfl (by kernel_rfl) (by kernel_rfl) (by kernel_rfl) (fun _ _ _ h => h) (.inl ⟨by rfl, fun w hSw => by go_simp⟩) (by assumption) ?_
    simp only [Act.put, List.setIfInBounds_toArray, List.set_cons_zero, List.set_cons_succ]
    refine wpAnyH_ready (rs := [26]) (by kernel_rfl) (by simp) ?_
    refine AllReadyH.cons (o := ⟨some 31, .load 27 (.tmp 30), _, _, _, _⟩) rfl (fun K hK => ?_) AllReadyH.nil
    have cv8 := SV.cell HE7.out
    go_simp

    refine hK.out _ _ trivial (fun _hH8 => ?_)
    clear hK K
    clear cv8
    refine wpAnyH_ready (rs := [27]) (by kernel_rfl) (by simp) ?_
    refine AllReadyH.cons (o := ⟨some 32, .call ⟨.value (.func 24), #[.tmp 31], _⟩, _, _, _, _⟩) rfl (fun K hK => ?_) AllReadyH.nil
    go_simp
    refine (sv_epoch HE7.out).mono ?_
    rintro e9 w9 ⟨rfl, rfl⟩
    refine hK.out _ _ trivial (fun _hH9 => ?_)
    clear hK K
    refine wpAnyH_take (i := 28) (oi := ⟨some 33, .binOp .neq 44 (.tmp 32) (.const (.int .u32 2)) 44, _, _, _, _⟩) (v := .bool false) rfl (by kernel_rfl) (by kernel_rfl) (by kernel_rfl) (fun _ _ _ h => h) (.inl ⟨by rfl, fun w hSw => by go_simp⟩) (by assumption) ?_
    simp only [Act.put, List.setIfInBounds_toArray, List.set_cons_zero, List.set_cons_succ]
    refine wpAnyH_take (i := 29) (oi := ⟨some 34, .pick (.tmp 27) (.const (.bool true)) (.tmp 33), _, _, _, _⟩) (v := .bool false) rfl (by kernel_rfl) (by kernel_rfl) (by kernel_rfl) (fun _ _ _ h => h) (.inl ⟨by rfl, fun w hSw => by go_simp⟩) (by assumption) ?_
    simp only [Act.put, List.setIfInBounds_toArray, List.set_cons_zero, List.set_cons_succ]
    refine wpAnyH_take (i := 30) (oi := ⟨some 35, .move (.tmp 34), _, _, _, _⟩) (v := .bool false) rfl (by kernel_rfl) (by kernel_rfl) (by kernel_rfl) (fun _ _ _ h => h) (.inl ⟨by rfl, fun w hSw => by go_simp⟩) (by assumption) ?_
    simp only [Act.put, List.setIfInBounds_toArray, List.set_cons_zero, List.set_cons_succ]
    refine wpAnyH_take (i := 31) (oi := ⟨some 36, .move (.tmp 1), _, _, _, _⟩) (v := .pointer (some ⟨gH, 0, none⟩)) rfl (by kernel_rfl) (by kernel_rfl) (by kernel_rfl) (fun _ _ _ h => h) (.inl ⟨by rfl, fun w hSw => by go_simp⟩) (by assumption) ?_
    simp only [Act.put, List.setIfInBounds_toArray, List.set_cons_zero, List.set_cons_succ]
    refine wpAnyH_ready (rs := [32]) (by kernel_rfl) (by simp) ?_
    refine AllReadyH.cons (o := ⟨some 37, .call ⟨.value (.func 32), #[.tmp 36, .const (.slice none 0 0)], _⟩, _, _, _, _⟩) rfl (fun K hK => ?_) AllReadyH.nil
    go_simp
    refine (sv_crash HE7.out (by decide) none 0 [] (holV_nil _) (fun g0 o e => by cases e)).mono ?_
    rintro e10 w10 ⟨rfl, g2, G10, HS10, HC10, HW10⟩
    have HA10 := Lib.hid (HA7.out.step HC10.out HW10.out)
    refine hK.out _ _ trivial (fun _hH10 => ?_)
    clear hK K
    refine wpAnyH_take (i := 33) (oi := ⟨some 38, .unOp .not 4 (.tmp 37), _, _, _, _⟩) (v := .bool false) rfl (by kernel_rfl) (by kernel_rfl) (by kernel_rfl) (fun _ _ _ h => h) (.inl ⟨by rfl, fun w hSw => by go_simp⟩) (by assumption) ?_
    simp only [Act.put, List.setIfInBounds_toArray, List.set_cons_zero, List.set_cons_succ]
    refine wpAnyH_take (i := 34) (oi := ⟨some 39, .pick (.tmp 35) (.const (.bool true)) (.tmp 38), _, _, _, _⟩) (v := .bool false) rfl (by kernel_rfl) (by kernel_rfl) (by kernel_rfl) (fun _ _ _ h => h) (.inl ⟨by rfl, fun w hSw => by go_simp⟩) (by assumption) ?_
    simp only [Act.put, List.setIfInBounds_toArray, List.set_cons_zero, List.set_cons_succ]
    refine wpAnyH_take (i := 35) (oi := ⟨some 40, .move (.tmp 39), _, _, _, _⟩) (v := .bool false) rfl (by kernel_rfl) (by kernel_rfl) (by kernel_rfl) (fun _ _ _ h => h) (.inl ⟨by rfl, fun w hSw => by go_simp⟩) (by assumption) ?_
    simp only [Act.put, List.setIfInBounds_toArray, List.set_cons_zero, List.set_cons_succ]
    refine wpAnyH_take (i := 36) (oi := ⟨some 41, .move (.tmp 1), _, _, _, _⟩) (v := .pointer (some ⟨gH, 0, none⟩)) rfl (by kernel_rfl) (by kernel_rfl) (by kernel_rfl) (fun _ _ _ h => h) (.inl ⟨by rfl, fun w hSw => by go_simp⟩) (by assumption) ?_
    simp only [Act.put, List.setIfInBounds_toArray, List.set_cons_zero, List.set_cons_succ]
    refine wpAnyH_ready (rs := [37]) (by kernel_rfl) (by simp) ?_
    refine AllReadyH.cons (o := ⟨some 42, .call ⟨.value (.func 29), #[.tmp 41], _⟩, _, _, _, _⟩) rfl (fun K hK => ?_) AllReadyH.nil
    go_simp
    refine (mv_mount HS10.out (by decide) (by decide)).mono ?_
    rintro e11 w11 ⟨rfl, G11, HS11, HC11, HW11⟩
    have HA11 := Lib.hid (HA10.out.step HC11.out HW11.out)
    refine hK.out _ _ trivial (fun _hH11 => ?_)
    clear hK K
    refine wpAnyH_take (i := 38) (oi := ⟨some 43, .unOp .not 4 (.tmp 42), _, _, _, _⟩) (v := .bool false) rfl (by kernel_rfl) (by kernel_rfl) (by kernel_rfl) (fun _ _ _ h => h) (.inl ⟨by rfl, fun w hSw => by go_simp⟩) (by assumption) ?_
    simp only [Act.put, List.setIfInBounds_toArray, List.set_cons_zero, List.set_cons_succ]
    refine wpAnyH_take (i := 39) (oi := ⟨some 44, .pick (.tmp 40) (.const (.bool true)) (.tmp 43), _, _, _, _⟩) (v := .bool false) rfl (by kernel_rfl) (by kernel_rfl) (by kernel_rfl) (fun _ _ _ h => h) (.inl ⟨by rfl, fun w hSw => by go_simp⟩) (by assumption) ?_
    simp only [Act.put, List.setIfInBounds_toArray, List.set_cons_zero, List.set_cons_succ]
    refine wpAnyH_take (i := 40) (oi := ⟨some 45, .move (.tmp 44), _, _, _, _⟩) (v := .bool false) rfl (by kernel_rfl) (by kernel_rfl) (by kernel_rfl) (fun _ _ _ h => h) (.inl ⟨by rfl, fun w hSw => by go_simp⟩) (by assumption) ?_
    simp only [Act.put, List.setIfInBounds_toArray, List.set_cons_zero, List.set_cons_succ]
    refine wpAnyH_take (i := 41) (oi := ⟨some 46, .move (.tmp 1), _, _, _, _⟩) (v := .pointer (some ⟨gH, 0, none⟩)) rfl (by kernel_rfl) (by kernel_rfl) (by kernel_rfl) (fun _ _ _ h => h) (.inl ⟨by rfl, fun w hSw => by go_simp⟩) (by assumption) ?_
    simp only [Act.put, List.setIfInBounds_toArray, List.set_cons_zero, List.set_cons_succ]
    refine wpAnyH_take (i := 42) (oi := ⟨some 47, .nilCheck (.tmp 46), _, _, _, _⟩) (v := .pointer (some ⟨gH, 0, none⟩)) rfl (by kernel_rfl) (by kernel_rfl) (by kernel_rfl) (fun _ _ _ h => h) (.inl ⟨by rfl, fun w hSw => by go_simp⟩) (by assumption) ?_
    simp only [Act.put, List.setIfInBounds_toArray, List.set_cons_zero, List.set_cons_succ]
    refine wpAnyH_take (i := 43) (oi := ⟨some 48, .fieldAddr 64 (.tmp 47) 4, _, _, _, _⟩) (v := .pointer (some ⟨gH, 4, none⟩)) rfl (by kernel_rfl) (by kernel_rfl) (by kernel_rfl) (fun _ _ _ h => h) (.inl ⟨by rfl, fun w hSw => by go_simp⟩) (by assumption) ?_
    simp only [Act.put, List.setIfInBounds_toArray, List.set_cons_zero, List.set_cons_succ]
    refine wpAnyH_ready (rs := [44]) (by kernel_rfl) (by simp) ?_
    refine AllReadyH.cons (o := ⟨some 49, .load 27 (.tmp 48), _, _, _, _⟩) rfl (fun K hK => ?_) AllReadyH.nil
    have cv12 := SV.cell HS11.out
    go_simp

    refine hK.out _ _ trivial (fun _hH12 => ?_)
    clear hK K
    clear cv12
    refine wpAnyH_ready (rs := [45]) (by kernel_rfl) (by simp) ?_
    refine AllReadyH.cons (o := ⟨some 50, .call ⟨.value (.func 20), #[.tmp 49, .const (.int .i64 2)], _⟩, _, _, _, _⟩) rfl (fun K hK => ?_) AllReadyH.nil
    go_simp
    refine (sv_known HS11.out 2 (by decide) false (fun X hX => by unfold isK; rw [hX.1]; decide)).mono ?_
    rintro e13 w13 ⟨rfl, hb13⟩
    have HS13 := Lib.hid (HS11.out.below hb13)
    have HA13 := Lib.hid (HA11.out.below hb13)
    clear hb13
    refine hK.out _ _ trivial (fun _hH13 => ?_)
    clear hK K
    refine wpAnyH_take (i := 46) (oi := ⟨some 51, .pick (.tmp 45) (.const (.bool true)) (.tmp 50), _, _, _, _⟩) (v := .bool false) rfl (by kernel_rfl) (by kernel_rfl) (by kernel_rfl) (fun _ _ _ h => h) (.inl ⟨by rfl, fun w hSw => by go_simp⟩) (by assumption) ?_
    simp only [Act.put, List.setIfInBounds_toArray, List.set_cons_zero, List.set_cons_succ]
    refine wpAnyH_take (i := 47) (oi := ⟨some 52, .move (.tmp 51), _, _, _, _⟩) (v := .bool false) rfl (by kernel_rfl) (by kernel_rfl) (by kernel_rfl) (fun _ _ _ h => h) (.inl ⟨by rfl, fun w hSw => by go_simp⟩) (by assumption) ?_
    simp only [Act.put, List.setIfInBounds_toArray, List.set_cons_zero, List.set_cons_succ]
    refine wpAnyH_take (i := 48) (oi := ⟨some 53, .move (.tmp 1), _, _, _, _⟩) (v := .pointer (some ⟨gH, 0, none⟩)) rfl (by kernel_rfl) (by kernel_rfl) (by kernel_rfl) (fun _ _ _ h => h) (.inl ⟨by rfl, fun w hSw => by go_simp⟩) (by assumption) ?_
    simp only [Act.put, List.setIfInBounds_toArray, List.set_cons_zero, List.set_cons_succ]
    refine wpAnyH_take (i := 49) (oi := ⟨some 54, .nilCheck (.tmp 53), _, _, _, _⟩) (v := .pointer (some ⟨gH, 0, none⟩)) rfl (by kernel_rfl) (by kernel_rfl) (by kernel_rfl) (fun _ _ _ h => h) (.inl ⟨by rfl, fun w hSw => by go_simp⟩) (by assumption) ?_
    simp only [Act.put, List.setIfInBounds_toArray, List.set_cons_zero, List.set_cons_succ]
    refine wpAnyH_take (i := 50) (oi := ⟨some 55, .fieldAddr 64 (.tmp 54) 4, _, _, _, _⟩) (v := .pointer (some ⟨gH, 4, none⟩)) rfl (by kernel_rfl) (by kernel_rfl) (by kernel_rfl) (fun _ _ _ h => h) (.inl ⟨by rfl, fun w hSw => by go_simp⟩) (by assumption) ?_
    simp only [Act.put, List.setIfInBounds_toArray, List.set_cons_zero, List.set_cons_succ]
    refine wpAnyH_ready (rs := [51]) (by kernel_rfl) (by simp) ?_
    refine AllReadyH.cons (o := ⟨some 56, .load 27 (.tmp 55), _, _, _, _⟩) rfl (fun K hK => ?_) AllReadyH.nil
    have cv14 := SV.cell HS13.out
    go_simp

    refine hK.out _ _ trivial (fun _hH14 => ?_)
    clear hK K
    clear cv14
    refine wpAnyH_ready (rs := [52]) (by kernel_rfl) (by simp) ?_
    refine AllReadyH.cons (o := ⟨some 57, .call ⟨.value (.func 17), #[.tmp 56, .const (.int .i64 2)], _⟩, _, _, _, _⟩) rfl (fun K hK => ?_) AllReadyH.nil
    go_simp
    refine (sv_fetch HS13.out 2 (by decide) (by decide)).mono ?_
    rintro e15 w15 ⟨rfl, G15, HS15, HC15, HW15⟩
    have HA15 := Lib.hid (HA13.out.step HC15.out HW15.out)
    refine hK.out _ _ trivial (fun _hH15 => ?_)
    clear hK K
    refine wpAnyH_take (i := 53) (oi := ⟨some 58, .binOp .neq 24 (.tmp 57) (.const (.int .i64 0)) 24, _, _, _, _⟩) (v := .bool false) rfl (by kernel_rfl) (by kernel_rfl) (by kernel_rfl) (fun _ _ _ h => h) (.inl ⟨by rfl, fun w hSw => by go_simp⟩) (by assumption) ?_
    simp only [Act.put, List.setIfInBounds_toArray, List.set_cons_zero, List.set_cons_succ]
    refine wpAnyH_take (i := 54) (oi := ⟨some 59, .pick (.tmp 52) (.const (.bool true)) (.tmp 58), _, _, _, _⟩) (v := .bool false) rfl (by kernel_rfl) (by kernel_rfl) (by kernel_rfl) (fun _ _ _ h => h) (.inl ⟨by rfl, fun w hSw => by go_simp⟩) (by assumption) ?_
    simp only [Act.put, List.setIfInBounds_toArray, List.set_cons_zero, List.set_cons_succ]
    refine wpAnyH_done (by kernel_rfl) ?_ _
    have cvT := SV.cell HS15.out
    have HGET := Lib.hid (sv_get HS15.out 2 (by decide) (lst 256 (wh [7])) (by
      rintro X ⟨X0, hX0, h1, h2⟩
      refine ⟨h2, ?_⟩
      rw [h1, show X0.C = fun _ => none from hX0.2]
      rfl))
    clear HT
    go_wp2_with (first
      | (go_at_call 15; refine HGET.out.mono ?_; rintro eg wg ⟨gg, rfl, hrow, hgg, hbg⟩
         have cg0 : wg.cell? ⟨gg, 0, none⟩ = some (.int .u8 7) := (hrow.out.cell 0).trans ((brr_get _ (by decide)).trans (by kernel_rfl))
         have HSG := Lib.hid (SV.below HS15.out hbg.out)
         have HAG := Lib.hid (At0.below HA15.out hbg.out)
         have cvg := SV.cell HSG.out
         clear hrow hgg hbg)
      | (go_at_call 24; refine (sv_epoch HSG.out).mono ?_; rintro eh wh2 ⟨rfl, rfl⟩))
    go_ret
    exact ⟨rfl, HAG.out.1⟩
  · skip
    go_simp
    have HL16 := Lib.hid (hol_made w2 7)
    have HBB16 := Lib.hid (p := Below w2.heap.size w2 (w2.alloc (.cells #[.int .u8 7] 5))) ((Below.refl _ _).alloc (Nat.le_refl _) _)
    change K _ (w2.alloc (.cells #[.int .u8 7] 5))
    change Hid (Hol (w2.alloc (.cells #[.int .u8 7] 5)) _ _) at HL16
    obtain ⟨g16, hg16⟩ : ∃ g16, w2.heap.size = g16 := ⟨_, rfl⟩
    obtain ⟨w16, hw16⟩ : ∃ w16, w2.alloc (.cells #[.int .u8 7] 5) = w16 := ⟨_, rfl⟩
    rw [hw16] at HBB16 HL16 ⊢
    rw [hg16] at HL16
    have HS16 := Lib.hid (SV.below HS2.out HBB16.out)
    have HA16 := Lib.hid (HA2.out.below HBB16.out)
    clear hw16
    rw [hg16]
    refine hK.out _ _ trivial (fun _hH16 => ?_)
    clear hK K
    clear hg16
    refine wpAnyH_ready (rs := [11, 13]) (by kernel_rfl) (by simp) ?_
    refine AllReadyH.cons (o := ⟨some 16, .load 27 (.tmp 15), _, _, _, _⟩) rfl (fun K hK => ?_) (AllReadyH.cons (o := ⟨some 18, .call ⟨.value (.func 30), #[.tmp 17], _⟩, _, _, _, _⟩) rfl (fun K hK => ?_) AllReadyH.nil)
    · skip
      have cv17 := SV.cell HS16.out
      go_simp

      refine hK.out _ _ trivial (fun _hH17 => ?_)
      clear hK K
      clear cv17
      refine wpAnyH_ready (rs := [13]) (by kernel_rfl) (by simp) ?_
      refine AllReadyH.cons (o := ⟨some 18, .call ⟨.value (.func 30), #[.tmp 17], _⟩, _, _, _, _⟩) rfl (fun K hK => ?_) AllReadyH.nil
      go_simp
      refine (whole_any (some ⟨g16, 0, none⟩) 1 [7] (by decide) _ HL16.out).mono ?_
      rintro e18 w18 ⟨gw, rfl, hrw, hgw, hbw⟩
      have HRW := Lib.hid hrw
      have HS18 := Lib.hid (SV.below HS16.out hbw)
      have HA18 := Lib.hid (HA16.out.below hbw)
      clear hrw hgw hbw
      refine hK.out _ _ trivial (fun _hH18 => ?_)
      clear hK K
      refine wpAnyH_ready (rs := [14]) (by kernel_rfl) (by simp) ?_
      refine AllReadyH.cons (o := ⟨some 19, .call ⟨.value (.func 18), #[.tmp 16, .const (.int .i64 2), .tmp 18], _⟩, _, _, _, _⟩) rfl (fun K hK => ?_) AllReadyH.nil
      go_simp
      obtain ⟨x, hxA, hxc, hxl, hxO⟩ : ∃ x : BV, x.A = some ⟨gw, 0, none⟩ ∧ x.c = 256 ∧ x.l = lst 256 (wh [7]) ∧ Own8 0 w18 x := ⟨⟨some ⟨gw, 0, none⟩, 256, lst 256 (wh [7])⟩, rfl, rfl, rfl, own_brr HRW.out (Nat.zero_le _)⟩
      have hput := sv_put HS18.out 2 (by decide) x 0 hxO (.inl (by rw [hxl]; exact lst_len _ _)) (by decide)
      rw [hxA, hxc, hxl, lst_len] at hput
      refine hput.mono ?_
      rintro e19 w19 ⟨rfl, G19, HS19, HC19, HW19⟩
      have HA19 := Lib.hid (HA18.out.step HC19.out HW19.out)
      clear hput hxA hxc hxl hxO
      refine hK.out _ _ trivial (fun _hH19 => ?_)
      clear hK K
      refine wpAnyH_take (i := 15) (oi := ⟨some 20, .binOp .neq 24 (.tmp 19) (.const (.int .i64 0)) 24, _, _, _, _⟩) (v := .bool false) rfl (by kernel_rfl) (by kernel_rfl) (by kernel_rfl) (fun _ _ _ h => h) (.inl ⟨by rfl, fun w hSw => by go_simp⟩) (by assumption) ?_
      simp only [Act.put, List.setIfInBounds_toArray, List.set_cons_zero, List.set_cons_succ]
      refine wpAnyH_take (i := 16) (oi := ⟨some 21, .pick (.tmp 12) (.const (.bool true)) (.tmp 20), _, _, _, _⟩) (v := .bool false) rfl (by kernel_rfl) (by kernel_rfl) (by kernel_rfl) (fun _ _ _ h => h) (.inl ⟨by rfl, fun w hSw => by go_simp⟩) (by assumption) ?_
      simp only [Act.put, List.setIfInBounds_toArray, List.set_cons_zero, List.set_cons_succ]
      refine wpAnyH_take (i := 17) (oi := ⟨some 22, .move (.tmp 21), _, _, _, _⟩) (v := .bool false) rfl (by kernel_rfl) (by kernel_rfl) (by kernel_rfl) (fun _ _ _ h => h) (.inl ⟨by rfl, fun w hSw => by go_simp⟩) (by assumption) ?_
      simp only [Act.put, List.setIfInBounds_toArray, List.set_cons_zero, List.set_cons_succ]
      refine wpAnyH_take (i := 18) (oi := ⟨some 23, .move (.tmp 1), _, _, _, _⟩) (v := .pointer (some ⟨gH, 0, none⟩)) rfl (by kernel_rfl) (by kernel_rfl) (by kernel_rfl) (fun _ _ _ h => h) (.inl ⟨by rfl, fun w hSw => by go_simp⟩) (by assumption) ?_
      simp only [Act.put, List.setIfInBounds_toArray, List.set_cons_zero, List.set_cons_succ]
      refine wpAnyH_ready (rs := [19]) (by kernel_rfl) (by simp) ?_
      refine AllReadyH.cons (o := ⟨some 24, .call ⟨.value (.func 31), #[.tmp 23], _⟩, _, _, _, _⟩) rfl (fun K hK => ?_) AllReadyH.nil
      go_simp
      refine (sv_commit HS19.out (setL (fun _ => []) 2 (lst 256 (wh [7]))) (by
        rintro X ⟨X0, hX0, h1, _⟩
        rw [h1, show X0.C = fun _ => none from hX0.2]
        rfl) (by decide) (by decide)).mono ?_
      rintro e20 w20 ⟨rfl, G20, HS20, HC20, HW20⟩
      have HA20 := Lib.hid (HA19.out.step HC20.out HW20.out)
      obtain ⟨E', hE'⟩ := HS20.out
      have hE2 : E' = 2 := by
        obtain ⟨_, _, _, _, _, _, _, _, _, _, _, _, _, _, _, X, ⟨_, _, _, h3, _⟩, _, _, h4⟩ := hE'
        rcases h4 with h4 | ⟨_, h4⟩
        · exact h4
        · rw [h4] at h3
          cases h3
      subst hE2
      have HE20 := Lib.hid hE'
      clear hE' 
      refine hK.out _ _ trivial (fun _hH20 => ?_)
      clear hK K
      refine wpAnyH_take (i := 20) (oi := ⟨some 25, .unOp .not 4 (.tmp 24), _, _, _, _⟩) (v := .bool false) rfl (by kernel_rfl) (by kernel_rfl) (by kernel_rfl) (fun _ _ _ h => h) (.inl ⟨by rfl, fun w hSw => by go_simp⟩) (by assumption) ?_
      simp only [Act.put, List.setIfInBounds_toArray, List.set_cons_zero, List.set_cons_succ]
      refine wpAnyH_take (i := 21) (oi := ⟨some 26, .pick (.tmp 22) (.const (.bool true)) (.tmp 25), _, _, _, _⟩) (v := .bool false) rfl (by kernel_rfl) (by kernel_rfl) (by kernel_rfl) (fun _ _ _ h => h) (.inl ⟨by rfl, fun w hSw => by go_simp⟩) (by assumption) ?_
      simp only [Act.put, List.setIfInBounds_toArray, List.set_cons_zero, List.set_cons_succ]
      refine wpAnyH_take (i := 22) (oi := ⟨some 27, .move (.tmp 26), _, _, _, _⟩) (v := .bool false) rfl (by kernel_rfl) (by kernel_rfl) (by kernel_rfl) (fun _ _ _ h => h) (.inl ⟨by rfl, fun w hSw => by go_simp⟩) (by assumption) ?_
      simp only [Act.put, List.setIfInBounds_toArray, List.set_cons_zero, List.set_cons_succ]
      refine wpAnyH_take (i := 23) (oi := ⟨some 28, .move (.tmp 1), _, _, _, _⟩) (v := .pointer (some ⟨gH, 0, none⟩)) rfl (by kernel_rfl) (by kernel_rfl) (by kernel_rfl) (fun _ _ _ h => h) (.inl ⟨by rfl, fun w hSw => by go_simp⟩) (by assumption) ?_
      simp only [Act.put, List.setIfInBounds_toArray, List.set_cons_zero, List.set_cons_succ]
      refine wpAnyH_take (i := 24) (oi := ⟨some 29, .nilCheck (.tmp 28), _, _, _, _⟩) (v := .pointer (some ⟨gH, 0, none⟩)) rfl (by kernel_rfl) (by kernel_rfl) (by kernel_rfl) (fun _ _ _ h => h) (.inl ⟨by rfl, fun w hSw => by go_simp⟩) (by assumption) ?_
      simp only [Act.put, List.setIfInBounds_toArray, List.set_cons_zero, List.set_cons_succ]
      refine wpAnyH_take (i := 25) (oi := ⟨some 30, .fieldAddr 64 (.tmp 29) 4, _, _, _, _⟩) (v := .pointer (some ⟨gH, 4, none⟩)) rfl (by kernel_rfl) (by kernel_rfl) (by kernel_rfl) (fun _ _ _ h => h) (.inl ⟨by rfl, fun w hSw => by go_simp⟩) (by assumption) ?_
      simp only [Act.put, List.setIfInBounds_toArray, List.set_cons_zero, List.set_cons_succ]
      refine wpAnyH_ready (rs := [26]) (by kernel_rfl) (by simp) ?_
      refine AllReadyH.cons (o := ⟨some 31, .load 27 (.tmp 30), _, _, _, _⟩) rfl (fun K hK => ?_) AllReadyH.nil
      have cv21 := SV.cell HE20.out
      go_simp

      refine hK.out _ _ trivial (fun _hH21 => ?_)
      clear hK K
      clear cv21
      refine wpAnyH_ready (rs := [27]) (by kernel_rfl) (by simp) ?_
      refine AllReadyH.cons (o := ⟨some 32, .call ⟨.value (.func 24), #[.tmp 31], _⟩, _, _, _, _⟩) rfl (fun K hK => ?_) AllReadyH.nil
      go_simp
      refine (sv_epoch HE20.out).mono ?_
      rintro e22 w22 ⟨rfl, rfl⟩
      refine hK.out _ _ trivial (fun _hH22 => ?_)
      clear hK K
      refine wpAnyH_take (i := 28) (oi := ⟨some 33, .binOp .neq 44 (.tmp 32) (.const (.int .u32 2)) 44, _, _, _, _⟩) (v := .bool false) rfl (by kernel_rfl) (by kernel_rfl) (by kernel_rfl) (fun _ _ _ h => h) (.inl ⟨by rfl, fun w hSw => by go_simp⟩) (by assumption) ?_
      simp only [Act.put, List.setIfInBounds_toArray, List.set_cons_zero, List.set_cons_succ]
      refine wpAnyH_take (i := 29) (oi := ⟨some 34, .pick (.tmp 27) (.const (.bool true)) (.tmp 33), _, _, _, _⟩) (v := .bool false) rfl (by kernel_rfl) (by kernel_rfl) (by kernel_rfl) (fun _ _ _ h => h) (.inl ⟨by rfl, fun w hSw => by go_simp⟩) (by assumption) ?_
      simp only [Act.put, List.setIfInBounds_toArray, List.set_cons_zero, List.set_cons_succ]
      refine wpAnyH_take (i := 30) (oi := ⟨some 35, .move (.tmp 34), _, _, _, _⟩) (v := .bool false) rfl (by kernel_rfl) (by kernel_rfl) (by kernel_rfl) (fun _ _ _ h => h) (.inl ⟨by rfl, fun w hSw => by go_simp⟩) (by assumption) ?_
      simp only [Act.put, List.setIfInBounds_toArray, List.set_cons_zero, List.set_cons_succ]
      refine wpAnyH_take (i := 31) (oi := ⟨some 36, .move (.tmp 1), _, _, _, _⟩) (v := .pointer (some ⟨gH, 0, none⟩)) rfl (by kernel_rfl) (by kernel_rfl) (by kernel_rfl) (fun _ _ _ h => h) (.inl ⟨by rfl, fun w hSw => by go_simp⟩) (by assumption) ?_
      simp only [Act.put, List.setIfInBounds_toArray, List.set_cons_zero, List.set_cons_succ]
      refine wpAnyH_ready (rs := [32]) (by kernel_rfl) (by simp) ?_
      refine AllReadyH.cons (o := ⟨some 37, .call ⟨.value (.func 32), #[.tmp 36, .const (.slice none 0 0)], _⟩, _, _, _, _⟩) rfl (fun K hK => ?_) AllReadyH.nil
      go_simp
      refine (sv_crash HE20.out (by decide) none 0 [] (holV_nil _) (fun g0 o e => by cases e)).mono ?_
      rintro e23 w23 ⟨rfl, g2, G23, HS23, HC23, HW23⟩
      have HA23 := Lib.hid (HA20.out.step HC23.out HW23.out)
      refine hK.out _ _ trivial (fun _hH23 => ?_)
      clear hK K
      refine wpAnyH_take (i := 33) (oi := ⟨some 38, .unOp .not 4 (.tmp 37), _, _, _, _⟩) (v := .bool false) rfl (by kernel_rfl) (by kernel_rfl) (by kernel_rfl) (fun _ _ _ h => h) (.inl ⟨by rfl, fun w hSw => by go_simp⟩) (by assumption) ?_
      simp only [Act.put, List.setIfInBounds_toArray, List.set_cons_zero, List.set_cons_succ]
      refine wpAnyH_take (i := 34) (oi := ⟨some 39, .pick (.tmp 35) (.const (.bool true)) (.tmp 38), _, _, _, _⟩) (v := .bool false) rfl (by kernel_rfl) (by kernel_rfl) (by kernel_rfl) (fun _ _ _ h => h) (.inl ⟨by rfl, fun w hSw => by go_simp⟩) (by assumption) ?_
      simp only [Act.put, List.setIfInBounds_toArray, List.set_cons_zero, List.set_cons_succ]
      refine wpAnyH_take (i := 35) (oi := ⟨some 40, .move (.tmp 39), _, _, _, _⟩) (v := .bool false) rfl (by kernel_rfl) (by kernel_rfl) (by kernel_rfl) (fun _ _ _ h => h) (.inl ⟨by rfl, fun w hSw => by go_simp⟩) (by assumption) ?_
      simp only [Act.put, List.setIfInBounds_toArray, List.set_cons_zero, List.set_cons_succ]
      refine wpAnyH_take (i := 36) (oi := ⟨some 41, .move (.tmp 1), _, _, _, _⟩) (v := .pointer (some ⟨gH, 0, none⟩)) rfl (by kernel_rfl) (by kernel_rfl) (by kernel_rfl) (fun _ _ _ h => h) (.inl ⟨by rfl, fun w hSw => by go_simp⟩) (by assumption) ?_
      simp only [Act.put, List.setIfInBounds_toArray, List.set_cons_zero, List.set_cons_succ]
      refine wpAnyH_ready (rs := [37]) (by kernel_rfl) (by simp) ?_
      refine AllReadyH.cons (o := ⟨some 42, .call ⟨.value (.func 29), #[.tmp 41], _⟩, _, _, _, _⟩) rfl (fun K hK => ?_) AllReadyH.nil
      go_simp
      refine (mv_mount HS23.out (by decide) (by decide)).mono ?_
      rintro e24 w24 ⟨rfl, G24, HS24, HC24, HW24⟩
      have HA24 := Lib.hid (HA23.out.step HC24.out HW24.out)
      refine hK.out _ _ trivial (fun _hH24 => ?_)
      clear hK K
      refine wpAnyH_take (i := 38) (oi := ⟨some 43, .unOp .not 4 (.tmp 42), _, _, _, _⟩) (v := .bool false) rfl (by kernel_rfl) (by kernel_rfl) (by kernel_rfl) (fun _ _ _ h => h) (.inl ⟨by rfl, fun w hSw => by go_simp⟩) (by assumption) ?_
      simp only [Act.put, List.setIfInBounds_toArray, List.set_cons_zero, List.set_cons_succ]
      refine wpAnyH_take (i := 39) (oi := ⟨some 44, .pick (.tmp 40) (.const (.bool true)) (.tmp 43), _, _, _, _⟩) (v := .bool false) rfl (by kernel_rfl) (by kernel_rfl) (by kernel_rfl) (fun _ _ _ h => h) (.inl ⟨by rfl, fun w hSw => by go_simp⟩) (by assumption) ?_
      simp only [Act.put, List.setIfInBounds_toArray, List.set_cons_zero, List.set_cons_succ]
      refine wpAnyH_take (i := 40) (oi := ⟨some 45, .move (.tmp 44), _, _, _, _⟩) (v := .bool false) rfl (by kernel_rfl) (by kernel_rfl) (by kernel_rfl) (fun _ _ _ h => h) (.inl ⟨by rfl, fun w hSw => by go_simp⟩) (by assumption) ?_
      simp only [Act.put, List.setIfInBounds_toArray, List.set_cons_zero, List.set_cons_succ]
      refine wpAnyH_take (i := 41) (oi := ⟨some 46, .move (.tmp 1), _, _, _, _⟩) (v := .pointer (some ⟨gH, 0, none⟩)) rfl (by kernel_rfl) (by kernel_rfl) (by kernel_rfl) (fun _ _ _ h => h) (.inl ⟨by rfl, fun w hSw => by go_simp⟩) (by assumption) ?_
      simp only [Act.put, List.setIfInBounds_toArray, List.set_cons_zero, List.set_cons_succ]
      refine wpAnyH_take (i := 42) (oi := ⟨some 47, .nilCheck (.tmp 46), _, _, _, _⟩) (v := .pointer (some ⟨gH, 0, none⟩)) rfl (by kernel_rfl) (by kernel_rfl) (by kernel_rfl) (fun _ _ _ h => h) (.inl ⟨by rfl, fun w hSw => by go_simp⟩) (by assumption) ?_
      simp only [Act.put, List.setIfInBounds_toArray, List.set_cons_zero, List.set_cons_succ]
      refine wpAnyH_take (i := 43) (oi := ⟨some 48, .fieldAddr 64 (.tmp 47) 4, _, _, _, _⟩) (v := .pointer (some ⟨gH, 4, none⟩)) rfl (by kernel_rfl) (by kernel_rfl) (by kernel_rfl) (fun _ _ _ h => h) (.inl ⟨by rfl, fun w hSw => by go_simp⟩) (by assumption) ?_
      simp only [Act.put, List.setIfInBounds_toArray, List.set_cons_zero, List.set_cons_succ]
      refine wpAnyH_ready (rs := [44]) (by kernel_rfl) (by simp) ?_
      refine AllReadyH.cons (o := ⟨some 49, .load 27 (.tmp 48), _, _, _, _⟩) rfl (fun K hK => ?_) AllReadyH.nil
      have cv25 := SV.cell HS24.out
      go_simp

      refine hK.out _ _ trivial (fun _hH25 => ?_)
      clear hK K
      clear cv25
      refine wpAnyH_ready (rs := [45]) (by kernel_rfl) (by simp) ?_
      refine AllReadyH.cons (o := ⟨some 50, .call ⟨.value (.func 20), #[.tmp 49, .const (.int .i64 2)], _⟩, _, _, _, _⟩) rfl (fun K hK => ?_) AllReadyH.nil
      go_simp
      refine (sv_known HS24.out 2 (by decide) false (fun X hX => by unfold isK; rw [hX.1]; decide)).mono ?_
      rintro e26 w26 ⟨rfl, hb26⟩
      have HS26 := Lib.hid (HS24.out.below hb26)
      have HA26 := Lib.hid (HA24.out.below hb26)
      clear hb26
      refine hK.out _ _ trivial (fun _hH26 => ?_)
      clear hK K
      refine wpAnyH_take (i := 46) (oi := ⟨some 51, .pick (.tmp 45) (.const (.bool true)) (.tmp 50), _, _, _, _⟩) (v := .bool false) rfl (by kernel_rfl) (by kernel_rfl) (by kernel_rfl) (fun _ _ _ h => h) (.inl ⟨by rfl, fun w hSw => by go_simp⟩) (by assumption) ?_
      simp only [Act.put, List.setIfInBounds_toArray, List.set_cons_zero, List.set_cons_succ]
      refine wpAnyH_take (i := 47) (oi := ⟨some 52, .move (.tmp 51), _, _, _, _⟩) (v := .bool false) rfl (by kernel_rfl) (by kernel_rfl) (by kernel_rfl) (fun _ _ _ h => h) (.inl ⟨by rfl, fun w hSw => by go_simp⟩) (by assumption) ?_
      simp only [Act.put, List.setIfInBounds_toArray, List.set_cons_zero, List.set_cons_succ]
      refine wpAnyH_take (i := 48) (oi := ⟨some 53, .move (.tmp 1), _, _, _, _⟩) (v := .pointer (some ⟨gH, 0, none⟩)) rfl (by kernel_rfl) (by kernel_rfl) (by kernel_rfl) (fun _ _ _ h => h) (.inl ⟨by rfl, fun w hSw => by go_simp⟩) (by assumption) ?_
      simp only [Act.put, List.setIfInBounds_toArray, List.set_cons_zero, List.set_cons_succ]
      refine wpAnyH_take (i := 49) (oi := ⟨some 54, .nilCheck (.tmp 53), _, _, _, _⟩) (v := .pointer (some ⟨gH, 0, none⟩)) rfl (by kernel_rfl) (by kernel_rfl) (by kernel_rfl) (fun _ _ _ h => h) (.inl ⟨by rfl, fun w hSw => by go_simp⟩) (by assumption) ?_
      simp only [Act.put, List.setIfInBounds_toArray, List.set_cons_zero, List.set_cons_succ]
      refine wpAnyH_take (i := 50) (oi := ⟨some 55, .fieldAddr 64 (.tmp 54) 4, _, _, _, _⟩) (v := .pointer (some ⟨gH, 4, none⟩)) rfl (by kernel_rfl) (by kernel_rfl) (by kernel_rfl) (fun _ _ _ h => h) (.inl ⟨by rfl, fun w hSw => by go_simp⟩) (by assumption) ?_
      simp only [Act.put, List.setIfInBounds_toArray, List.set_cons_zero, List.set_cons_succ]
      refine wpAnyH_ready (rs := [51]) (by kernel_rfl) (by simp) ?_
      refine AllReadyH.cons (o := ⟨some 56, .load 27 (.tmp 55), _, _, _, _⟩) rfl (fun K hK => ?_) AllReadyH.nil
      have cv27 := SV.cell HS26.out
      go_simp

      refine hK.out _ _ trivial (fun _hH27 => ?_)
      clear hK K
      clear cv27
      refine wpAnyH_ready (rs := [52]) (by kernel_rfl) (by simp) ?_
      refine AllReadyH.cons (o := ⟨some 57, .call ⟨.value (.func 17), #[.tmp 56, .const (.int .i64 2)], _⟩, _, _, _, _⟩) rfl (fun K hK => ?_) AllReadyH.nil
      go_simp
      refine (sv_fetch HS26.out 2 (by decide) (by decide)).mono ?_
      rintro e28 w28 ⟨rfl, G28, HS28, HC28, HW28⟩
      have HA28 := Lib.hid (HA26.out.step HC28.out HW28.out)
      refine hK.out _ _ trivial (fun _hH28 => ?_)
      clear hK K
      refine wpAnyH_take (i := 53) (oi := ⟨some 58, .binOp .neq 24 (.tmp 57) (.const (.int .i64 0)) 24, _, _, _, _⟩) (v := .bool false) rfl (by kernel_rfl) (by kernel_rfl) (by kernel_rfl) (fun _ _ _ h => h) (.inl ⟨by rfl, fun w hSw => by go_simp⟩) (by assumption) ?_
      simp only [Act.put, List.setIfInBounds_toArray, List.set_cons_zero, List.set_cons_succ]
      refine wpAnyH_take (i := 54) (oi := ⟨some 59, .pick (.tmp 52) (.const (.bool true)) (.tmp 58), _, _, _, _⟩) (v := .bool false) rfl (by kernel_rfl) (by kernel_rfl) (by kernel_rfl) (fun _ _ _ h => h) (.inl ⟨by rfl, fun w hSw => by go_simp⟩) (by assumption) ?_
      simp only [Act.put, List.setIfInBounds_toArray, List.set_cons_zero, List.set_cons_succ]
      refine wpAnyH_done (by kernel_rfl) ?_ _
      have cvT := SV.cell HS28.out
      have HGET := Lib.hid (sv_get HS28.out 2 (by decide) (lst 256 (wh [7])) (by
        rintro X ⟨X0, hX0, h1, h2⟩
        refine ⟨h2, ?_⟩
        rw [h1, show X0.C = fun _ => none from hX0.2]
        rfl))
      clear HT
      go_wp2_with (first
        | (go_at_call 15; refine HGET.out.mono ?_; rintro eg wg ⟨gg, rfl, hrow, hgg, hbg⟩
           have cg0 : wg.cell? ⟨gg, 0, none⟩ = some (.int .u8 7) := (hrow.out.cell 0).trans ((brr_get _ (by decide)).trans (by kernel_rfl))
           have HSG := Lib.hid (SV.below HS28.out hbg.out)
           have HAG := Lib.hid (At0.below HA28.out hbg.out)
           have cvg := SV.cell HSG.out
           clear hrow hgg hbg)
        | (go_at_call 24; refine (sv_epoch HSG.out).mono ?_; rintro eh wh2 ⟨rfl, rfl⟩))
      go_ret
      exact ⟨rfl, HAG.out.1⟩
    · skip
      go_simp
      refine (whole_any (some ⟨g16, 0, none⟩) 1 [7] (by decide) _ HL16.out).mono ?_
      rintro e29 w29 ⟨gw, rfl, hrw, hgw, hbw⟩
      have HRW := Lib.hid hrw
      have HS29 := Lib.hid (SV.below HS16.out hbw)
      have HA29 := Lib.hid (HA16.out.below hbw)
      clear hrw hgw hbw
      refine hK.out _ _ trivial (fun _hH29 => ?_)
      clear hK K
      refine wpAnyH_ready (rs := [11]) (by kernel_rfl) (by simp) ?_
      refine AllReadyH.cons (o := ⟨some 16, .load 27 (.tmp 15), _, _, _, _⟩) rfl (fun K hK => ?_) AllReadyH.nil
      have cv30 := SV.cell HS29.out
      go_simp

      refine hK.out _ _ trivial (fun _hH30 => ?_)
      clear hK K
      clear cv30
      refine wpAnyH_ready (rs := [14]) (by kernel_rfl) (by simp) ?_
      refine AllReadyH.cons (o := ⟨some 19, .call ⟨.value (.func 18), #[.tmp 16, .const (.int .i64 2), .tmp 18], _⟩, _, _, _, _⟩) rfl (fun K hK => ?_) AllReadyH.nil
      go_simp
      obtain ⟨x, hxA, hxc, hxl, hxO⟩ : ∃ x : BV, x.A = some ⟨gw, 0, none⟩ ∧ x.c = 256 ∧ x.l = lst 256 (wh [7]) ∧ Own8 0 w29 x := ⟨⟨some ⟨gw, 0, none⟩, 256, lst 256 (wh [7])⟩, rfl, rfl, rfl, own_brr HRW.out (Nat.zero_le _)⟩
      have hput := sv_put HS29.out 2 (by decide) x 0 hxO (.inl (by rw [hxl]; exact lst_len _ _)) (by decide)
      rw [hxA, hxc, hxl, lst_len] at hput
      refine hput.mono ?_
      rintro e31 w31 ⟨rfl, G31, HS31, HC31, HW31⟩
      have HA31 := Lib.hid (HA29.out.step HC31.out HW31.out)
      clear hput hxA hxc hxl hxO
      refine hK.out _ _ trivial (fun _hH31 => ?_)
      clear hK K
      refine wpAnyH_take (i := 15) (oi := ⟨some 20, .binOp .neq 24 (.tmp 19) (.const (.int .i64 0)) 24, _, _, _, _⟩) (v := .bool false) rfl (by kernel_rfl) (by kernel_rfl) (by kernel_rfl) (fun _ _ _ h => h) (.inl ⟨by rfl, fun w hSw => by go_simp⟩) (by assumption) ?_
      simp only [Act.put, List.setIfInBounds_toArray, List.set_cons_zero, List.set_cons_succ]
      refine wpAnyH_take (i := 16) (oi := ⟨some 21, .pick (.tmp 12) (.const (.bool true)) (.tmp 20), _, _, _, _⟩) (v := .bool false) rfl (by kernel_rfl) (by kernel_rfl) (by kernel_rfl) (fun _ _ _ h => h) (.inl ⟨by rfl, fun w hSw => by go_simp⟩) (by assumption) ?_
      simp only [Act.put, List.setIfInBounds_toArray, List.set_cons_zero, List.set_cons_succ]
      refine wpAnyH_take (i := 17) (oi := ⟨some 22, .move (.tmp 21), _, _, _, _⟩) (v := .bool false) rfl (by kernel_rfl) (by kernel_rfl) (by kernel_rfl) (fun _ _ _ h => h) (.inl ⟨by rfl, fun w hSw => by go_simp⟩) (by assumption) ?_
      simp only [Act.put, List.setIfInBounds_toArray, List.set_cons_zero, List.set_cons_succ]
      refine wpAnyH_take (i := 18) (oi := ⟨some 23, .move (.tmp 1), _, _, _, _⟩) (v := .pointer (some ⟨gH, 0, none⟩)) rfl (by kernel_rfl) (by kernel_rfl) (by kernel_rfl) (fun _ _ _ h => h) (.inl ⟨by rfl, fun w hSw => by go_simp⟩) (by assumption) ?_
      simp only [Act.put, List.setIfInBounds_toArray, List.set_cons_zero, List.set_cons_succ]
      refine wpAnyH_ready (rs := [19]) (by kernel_rfl) (by simp) ?_
      refine AllReadyH.cons (o := ⟨some 24, .call ⟨.value (.func 31), #[.tmp 23], _⟩, _, _, _, _⟩) rfl (fun K hK => ?_) AllReadyH.nil
      go_simp
      refine (sv_commit HS31.out (setL (fun _ => []) 2 (lst 256 (wh [7]))) (by
        rintro X ⟨X0, hX0, h1, _⟩
        rw [h1, show X0.C = fun _ => none from hX0.2]
        rfl) (by decide) (by decide)).mono ?_
      rintro e32 w32 ⟨rfl, G32, HS32, HC32, HW32⟩
      have HA32 := Lib.hid (HA31.out.step HC32.out HW32.out)
      obtain ⟨E', hE'⟩ := HS32.out
      have hE2 : E' = 2 := by
        obtain ⟨_, _, _, _, _, _, _, _, _, _, _, _, _, _, _, X, ⟨_, _, _, h3, _⟩, _, _, h4⟩ := hE'
        rcases h4 with h4 | ⟨_, h4⟩
        · exact h4
        · rw [h4] at h3
          cases h3
      subst hE2
      have HE32 := Lib.hid hE'
      clear hE' 
      refine hK.out _ _ trivial (fun _hH32 => ?_)
      clear hK K
      refine wpAnyH_take (i := 20) (oi := ⟨some 25, .unOp .not 4 (.tmp 24), _, _, _, _⟩) (v := .bool false) rfl (by kernel_rfl) (by kernel_rfl) (by kernel_rfl) (fun _ _ _ h => h) (.inl ⟨by rfl, fun w hSw => by go_simp⟩) (by assumption) ?_
      simp only [Act.put, List.setIfInBounds_toArray, List.set_cons_zero, List.set_cons_succ]
      refine wpAnyH_take (i := 21) (oi := ⟨some 26, .pick (.tmp 22) (.const (.bool true)) (.tmp 25), _, _, _, _⟩) (v := .bool false) rfl (by kernel_rfl) (by kernel_rfl) (by kernel_rfl) (fun _ _ _ h => h) (.inl ⟨by rfl, fun w hSw => by go_simp⟩) (by assumption) ?_
      simp only [Act.put, List.setIfInBounds_toArray, List.set_cons_zero, List.set_cons_succ]
      refine wpAnyH_take (i := 22) (oi := ⟨some 27, .move (.tmp 26), _, _, _, _⟩) (v := .bool false) rfl (by kernel_rfl) (by kernel_rfl) (by kernel_rfl) (fun _ _ _ h => h) (.inl ⟨by rfl, fun w hSw => by go_simp⟩) (by assumption) ?_
      simp only [Act.put, List.setIfInBounds_toArray, List.set_cons_zero, List.set_cons_succ]
      refine wpAnyH_take (i := 23) (oi := ⟨some 28, .move (.tmp 1), _, _, _, _⟩) (v := .pointer (some ⟨gH, 0, none⟩)) rfl (by kernel_rfl) (by kernel_rfl) (by kernel_rfl) (fun _ _ _ h => h) (.inl ⟨by rfl, fun w hSw => by go_simp⟩) (by assumption) ?_
      simp only [Act.put, List.setIfInBounds_toArray, List.set_cons_zero, List.set_cons_succ]
      refine wpAnyH_take (i := 24) (oi := ⟨some 29, .nilCheck (.tmp 28), _, _, _, _⟩) (v := .pointer (some ⟨gH, 0, none⟩)) rfl (by kernel_rfl) (by kernel_rfl) (by kernel_rfl) (fun _ _ _ h => h) (.inl ⟨by rfl, fun w hSw => by go_simp⟩) (by assumption) ?_
      simp only [Act.put, List.setIfInBounds_toArray, List.set_cons_zero, List.set_cons_succ]
      refine wpAnyH_take (i := 25) (oi := ⟨some 30, .fieldAddr 64 (.tmp 29) 4, _, _, _, _⟩) (v := .pointer (some ⟨gH, 4, none⟩)) rfl (by kernel_rfl) (by kernel_rfl) (by kernel_rfl) (fun _ _ _ h => h) (.inl ⟨by rfl, fun w hSw => by go_simp⟩) (by assumption) ?_
      simp only [Act.put, List.setIfInBounds_toArray, List.set_cons_zero, List.set_cons_succ]
      refine wpAnyH_ready (rs := [26]) (by kernel_rfl) (by simp) ?_
      refine AllReadyH.cons (o := ⟨some 31, .load 27 (.tmp 30), _, _, _, _⟩) rfl (fun K hK => ?_) AllReadyH.nil
      have cv33 := SV.cell HE32.out
      go_simp

      refine hK.out _ _ trivial (fun _hH33 => ?_)
      clear hK K
      clear cv33
      refine wpAnyH_ready (rs := [27]) (by kernel_rfl) (by simp) ?_
      refine AllReadyH.cons (o := ⟨some 32, .call ⟨.value (.func 24), #[.tmp 31], _⟩, _, _, _, _⟩) rfl (fun K hK => ?_) AllReadyH.nil
      go_simp
      refine (sv_epoch HE32.out).mono ?_
      rintro e34 w34 ⟨rfl, rfl⟩
      refine hK.out _ _ trivial (fun _hH34 => ?_)
      clear hK K
      refine wpAnyH_take (i := 28) (oi := ⟨some 33, .binOp .neq 44 (.tmp 32) (.const (.int .u32 2)) 44, _, _, _, _⟩) (v := .bool false) rfl (by kernel_rfl) (by kernel_rfl) (by kernel_rfl) (fun _ _ _ h => h) (.inl ⟨by rfl, fun w hSw => by go_simp⟩) (by assumption) ?_
      simp only [Act.put, List.setIfInBounds_toArray, List.set_cons_zero, List.set_cons_succ]
      refine wpAnyH_take (i := 29) (oi := ⟨some 34, .pick (.tmp 27) (.const (.bool true)) (.tmp 33), _, _, _, _⟩) (v := .bool false) rfl (by kernel_rfl) (by kernel_rfl) (by kernel_rfl) (fun _ _ _ h => h) (.inl ⟨by rfl, fun w hSw => by go_simp⟩) (by assumption) ?_
      simp only [Act.put, List.setIfInBounds_toArray, List.set_cons_zero, List.set_cons_succ]
      refine wpAnyH_take (i := 30) (oi := ⟨some 35, .move (.tmp 34), _, _, _, _⟩) (v := .bool false) rfl (by kernel_rfl) (by kernel_rfl) (by kernel_rfl) (fun _ _ _ h => h) (.inl ⟨by rfl, fun w hSw => by go_simp⟩) (by assumption) ?_
      simp only [Act.put, List.setIfInBounds_toArray, List.set_cons_zero, List.set_cons_succ]
      refine wpAnyH_take (i := 31) (oi := ⟨some 36, .move (.tmp 1), _, _, _, _⟩) (v := .pointer (some ⟨gH, 0, none⟩)) rfl (by kernel_rfl) (by kernel_rfl) (by kernel_rfl) (fun _ _ _ h => h) (.inl ⟨by rfl, fun w hSw => by go_simp⟩) (by assumption) ?_
      simp only [Act.put, List.setIfInBounds_toArray, List.set_cons_zero, List.set_cons_succ]
      refine wpAnyH_ready (rs := [32]) (by kernel_rfl) (by simp) ?_
      refine AllReadyH.cons (o := ⟨some 37, .call ⟨.value (.func 32), #[.tmp 36, .const (.slice none 0 0)], _⟩, _, _, _, _⟩) rfl (fun K hK => ?_) AllReadyH.nil
      go_simp
      refine (sv_crash HE32.out (by decide) none 0 [] (holV_nil _) (fun g0 o e => by cases e)).mono ?_
      rintro e35 w35 ⟨rfl, g2, G35, HS35, HC35, HW35⟩
      have HA35 := Lib.hid (HA32.out.step HC35.out HW35.out)
      refine hK.out _ _ trivial (fun _hH35 => ?_)
      clear hK K
      refine wpAnyH_take (i := 33) (oi := ⟨some 38, .unOp .not 4 (.tmp 37), _, _, _, _⟩) (v := .bool false) rfl (by kernel_rfl) (by kernel_rfl) (by kernel_rfl) (fun _ _ _ h => h) (.inl ⟨by rfl, fun w hSw => by go_simp⟩) (by assumption) ?_
      simp only [Act.put, List.setIfInBounds_toArray, List.set_cons_zero, List.set_cons_succ]
      refine wpAnyH_take (i := 34) (oi := ⟨some 39, .pick (.tmp 35) (.const (.bool true)) (.tmp 38), _, _, _, _⟩) (v := .bool false) rfl (by kernel_rfl) (by kernel_rfl) (by kernel_rfl) (fun _ _ _ h => h) (.inl ⟨by rfl, fun w hSw => by go_simp⟩) (by assumption) ?_
      simp only [Act.put, List.setIfInBounds_toArray, List.set_cons_zero, List.set_cons_succ]
      refine wpAnyH_take (i := 35) (oi := ⟨some 40, .move (.tmp 39), _, _, _, _⟩) (v := .bool false) rfl (by kernel_rfl) (by kernel_rfl) (by kernel_rfl) (fun _ _ _ h => h) (.inl ⟨by rfl, fun w hSw => by go_simp⟩) (by assumption) ?_
      simp only [Act.put, List.setIfInBounds_toArray, List.set_cons_zero, List.set_cons_succ]
      refine wpAnyH_take (i := 36) (oi := ⟨some 41, .move (.tmp 1), _, _, _, _⟩) (v := .pointer (some ⟨gH, 0, none⟩)) rfl (by kernel_rfl) (by kernel_rfl) (by kernel_rfl) (fun _ _ _ h => h) (.inl ⟨by rfl, fun w hSw => by go_simp⟩) (by assumption) ?_
      simp only [Act.put, List.setIfInBounds_toArray, List.set_cons_zero, List.set_cons_succ]
      refine wpAnyH_ready (rs := [37]) (by kernel_rfl) (by simp) ?_
      refine AllReadyH.cons (o := ⟨some 42, .call ⟨.value (.func 29), #[.tmp 41], _⟩, _, _, _, _⟩) rfl (fun K hK => ?_) AllReadyH.nil
      go_simp
      refine (mv_mount HS35.out (by decide) (by decide)).mono ?_
      rintro e36 w36 ⟨rfl, G36, HS36, HC36, HW36⟩
      have HA36 := Lib.hid (HA35.out.step HC36.out HW36.out)
      refine hK.out _ _ trivial (fun _hH36 => ?_)
      clear hK K
      refine wpAnyH_take (i := 38) (oi := ⟨some 43, .unOp .not 4 (.tmp 42), _, _, _, _⟩) (v := .bool false) rfl (by kernel_rfl) (by kernel_rfl) (by kernel_rfl) (fun _ _ _ h => h) (.inl ⟨by rfl, fun w hSw => by go_simp⟩) (by assumption) ?_
      simp only [Act.put, List.setIfInBounds_toArray, List.set_cons_zero, List.set_cons_succ]
      refine wpAnyH_take (i := 39) (oi := ⟨some 44, .pick (.tmp 40) (.const (.bool true)) (.tmp 43), _, _, _, _⟩) (v := .bool false) rfl (by kernel_rfl) (by kernel_rfl) (by kernel_rfl) (fun _ _ _ h => h) (.inl ⟨by rfl, fun w hSw => by go_simp⟩) (by assumption) ?_
      simp only [Act.put, List.setIfInBounds_toArray, List.set_cons_zero, List.set_cons_succ]
      refine wpAnyH_take (i := 40) (oi := ⟨some 45, .move (.tmp 44), _, _, _, _⟩) (v := .bool false) rfl (by kernel_rfl) (by kernel_rfl) (by kernel_rfl) (fun _ _ _ h => h) (.inl ⟨by rfl, fun w hSw => by go_simp⟩) (by assumption) ?_
      simp only [Act.put, List.setIfInBounds_toArray, List.set_cons_zero, List.set_cons_succ]
      refine wpAnyH_take (i := 41) (oi := ⟨some 46, .move (.tmp 1), _, _, _, _⟩) (v := .pointer (some ⟨gH, 0, none⟩)) rfl (by kernel_rfl) (by kernel_rfl) (by kernel_rfl) (fun _ _ _ h => h) (.inl ⟨by rfl, fun w hSw => by go_simp⟩) (by assumption) ?_
      simp only [Act.put, List.setIfInBounds_toArray, List.set_cons_zero, List.set_cons_succ]
      refine wpAnyH_take (i := 42) (oi := ⟨some 47, .nilCheck (.tmp 46), _, _, _, _⟩) (v := .pointer (some ⟨gH, 0, none⟩)) rfl (by kernel_rfl) (by kernel_rfl) (by kernel_rfl) (fun _ _ _ h => h) (.inl ⟨by rfl, fun w hSw => by go_simp⟩) (by assumption) ?_
      simp only [Act.put, List.setIfInBounds_toArray, List.set_cons_zero, List.set_cons_succ]
      refine wpAnyH_take (i := 43) (oi := ⟨some 48, .fieldAddr 64 (.tmp 47) 4, _, _, _, _⟩) (v := .pointer (some ⟨gH, 4, none⟩)) rfl (by kernel_rfl) (by kernel_rfl) (by kernel_rfl) (fun _ _ _ h => h) (.inl ⟨by rfl, fun w hSw => by go_simp⟩) (by assumption) ?_
      simp only [Act.put, List.setIfInBounds_toArray, List.set_cons_zero, List.set_cons_succ]
      refine wpAnyH_ready (rs := [44]) (by kernel_rfl) (by simp) ?_
      refine AllReadyH.cons (o := ⟨some 49, .load 27 (.tmp 48), _, _, _, _⟩) rfl (fun K hK => ?_) AllReadyH.nil
      have cv37 := SV.cell HS36.out
      go_simp

      refine hK.out _ _ trivial (fun _hH37 => ?_)
      clear hK K
      clear cv37
      refine wpAnyH_ready (rs := [45]) (by kernel_rfl) (by simp) ?_
      refine AllReadyH.cons (o := ⟨some 50, .call ⟨.value (.func 20), #[.tmp 49, .const (.int .i64 2)], _⟩, _, _, _, _⟩) rfl (fun K hK => ?_) AllReadyH.nil
      go_simp
      refine (sv_known HS36.out 2 (by decide) false (fun X hX => by unfold isK; rw [hX.1]; decide)).mono ?_
      rintro e38 w38 ⟨rfl, hb38⟩
      have HS38 := Lib.hid (HS36.out.below hb38)
      have HA38 := Lib.hid (HA36.out.below hb38)
      clear hb38
      refine hK.out _ _ trivial (fun _hH38 => ?_)
      clear hK K
      refine wpAnyH_take (i := 46) (oi := ⟨some 51, .pick (.tmp 45) (.const (.bool true)) (.tmp 50), _, _, _, _⟩) (v := .bool false) rfl (by kernel_rfl) (by kernel_rfl) (by kernel_rfl) (fun _ _ _ h => h) (.inl ⟨by rfl, fun w hSw => by go_simp⟩) (by assumption) ?_
      simp only [Act.put, List.setIfInBounds_toArray, List.set_cons_zero, List.set_cons_succ]
      refine wpAnyH_take (i := 47) (oi := ⟨some 52, .move (.tmp 51), _, _, _, _⟩) (v := .bool false) rfl (by kernel_rfl) (by kernel_rfl) (by kernel_rfl) (fun _ _ _ h => h) (.inl ⟨by rfl, fun w hSw => by go_simp⟩) (by assumption) ?_
      simp only [Act.put, List.setIfInBounds_toArray, List.set_cons_zero, List.set_cons_succ]
      refine wpAnyH_take (i := 48) (oi := ⟨some 53, .move (.tmp 1), _, _, _, _⟩) (v := .pointer (some ⟨gH, 0, none⟩)) rfl (by kernel_rfl) (by kernel_rfl) (by kernel_rfl) (fun _ _ _ h => h) (.inl ⟨by rfl, fun w hSw => by go_simp⟩) (by assumption) ?_
      simp only [Act.put, List.setIfInBounds_toArray, List.set_cons_zero, List.set_cons_succ]
      refine wpAnyH_take (i := 49) (oi := ⟨some 54, .nilCheck (.tmp 53), _, _, _, _⟩) (v := .pointer (some ⟨gH, 0, none⟩)) rfl (by kernel_rfl) (by kernel_rfl) (by kernel_rfl) (fun _ _ _ h => h) (.inl ⟨by rfl, fun w hSw => by go_simp⟩) (by assumption) ?_
      simp only [Act.put, List.setIfInBounds_toArray, List.set_cons_zero, List.set_cons_succ]
      refine wpAnyH_take (i := 50) (oi := ⟨some 55, .fieldAddr 64 (.tmp 54) 4, _, _, _, _⟩) (v := .pointer (some ⟨gH, 4, none⟩)) rfl (by kernel_rfl) (by kernel_rfl) (by kernel_rfl) (fun _ _ _ h => h) (.inl ⟨by rfl, fun w hSw => by go_simp⟩) (by assumption) ?_
      simp only [Act.put, List.setIfInBounds_toArray, List.set_cons_zero, List.set_cons_succ]
      refine wpAnyH_ready (rs := [51]) (by kernel_rfl) (by simp) ?_
      refine AllReadyH.cons (o := ⟨some 56, .load 27 (.tmp 55), _, _, _, _⟩) rfl (fun K hK => ?_) AllReadyH.nil
      have cv39 := SV.cell HS38.out
      go_simp

      refine hK.out _ _ trivial (fun _hH39 => ?_)
      clear hK K
      clear cv39
      refine wpAnyH_ready (rs := [52]) (by kernel_rfl) (by simp) ?_
      refine AllReadyH.cons (o := ⟨some 57, .call ⟨.value (.func 17), #[.tmp 56, .const (.int .i64 2)], _⟩, _, _, _, _⟩) rfl (fun K hK => ?_) AllReadyH.nil
      go_simp
      refine (sv_fetch HS38.out 2 (by decide) (by decide)).mono ?_
      rintro e40 w40 ⟨rfl, G40, HS40, HC40, HW40⟩
      have HA40 := Lib.hid (HA38.out.step HC40.out HW40.out)
      refine hK.out _ _ trivial (fun _hH40 => ?_)
      clear hK K
      refine wpAnyH_take (i := 53) (oi := ⟨some 58, .binOp .neq 24 (.tmp 57) (.const (.int .i64 0)) 24, _, _, _, _⟩) (v := .bool false) rfl (by kernel_rfl) (by kernel_rfl) (by kernel_rfl) (fun _ _ _ h => h) (.inl ⟨by rfl, fun w hSw => by go_simp⟩) (by assumption) ?_
      simp only [Act.put, List.setIfInBounds_toArray, List.set_cons_zero, List.set_cons_succ]
      refine wpAnyH_take (i := 54) (oi := ⟨some 59, .pick (.tmp 52) (.const (.bool true)) (.tmp 58), _, _, _, _⟩) (v := .bool false) rfl (by kernel_rfl) (by kernel_rfl) (by kernel_rfl) (fun _ _ _ h => h) (.inl ⟨by rfl, fun w hSw => by go_simp⟩) (by assumption) ?_
      simp only [Act.put, List.setIfInBounds_toArray, List.set_cons_zero, List.set_cons_succ]
      refine wpAnyH_done (by kernel_rfl) ?_ _
      have cvT := SV.cell HS40.out
      have HGET := Lib.hid (sv_get HS40.out 2 (by decide) (lst 256 (wh [7])) (by
        rintro X ⟨X0, hX0, h1, h2⟩
        refine ⟨h2, ?_⟩
        rw [h1, show X0.C = fun _ => none from hX0.2]
        rfl))
      clear HT
      go_wp2_with (first
        | (go_at_call 15; refine HGET.out.mono ?_; rintro eg wg ⟨gg, rfl, hrow, hgg, hbg⟩
           have cg0 : wg.cell? ⟨gg, 0, none⟩ = some (.int .u8 7) := (hrow.out.cell 0).trans ((brr_get _ (by decide)).trans (by kernel_rfl))
           have HSG := Lib.hid (SV.below HS40.out hbg.out)
           have HAG := Lib.hid (At0.below HA40.out hbg.out)
           have cvg := SV.cell HSG.out
           clear hrow hgg hbg)
        | (go_at_call 24; refine (sv_epoch HSG.out).mono ?_; rintro eh wh2 ⟨rfl, rfl⟩))
      go_ret
      exact ⟨rfl, HAG.out.1⟩
end Go.Proofs.YtpocccnhibjjcaaGreatDoor
