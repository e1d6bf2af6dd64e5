/- What marking records in a vault's space leaves. Conditions: the vault lies there; the records' blocks are free, each once. -/
import Derived.Test.YtpocccnhibjjcaaGreatDoorMgVt
set_option linter.unusedVariables false
set_option maxRecDepth 20000
namespace Go.Proofs.YtpocccnhibjjcaaGreatDoor
open Go.RowKit

def mkS (S : Nat → Nat) (rs : List RecV) : Nat → Nat := fun j => if rs.any (fun r => r.a == (j : Int) + 1) = true then 1 else S j
theorem mkS_far {S : Nat → Nat} {rs : List RecV} {r : RecV} (h : r.a = 0) : mkS S (rs ++ [r]) = mkS S rs := by
  funext j
  unfold mkS
  rw [List.any_append]
  have : (r.a == (j : Int) + 1) = false := beq_false_of_ne (by omega)
  simp [this]
theorem mkS_one {S : Nat → Nat} {rs : List RecV} {r : RecV} {k : Nat} (h : r.a = (k : Int) + 1) : mkS S (rs ++ [r]) = S8.putN (mkS S rs) k 1 := by
  funext j
  unfold S8.putN
  show mkS S (rs ++ [r]) j = if j = k then 1 else mkS S rs j
  unfold mkS
  rw [List.any_append]
  by_cases e : j = k
  · subst e
    simp [h]
  · have : (r.a == (j : Int) + 1) = false := beq_false_of_ne (by omega)
    simp [this, e]
theorem mkS_free {S : Nat → Nat} {rs : List RecV} {k : Nat} (h : ∀ r ∈ rs, r.a ≠ (k : Int) + 1) : mkS S rs k = S k := by
  unfold mkS
  rw [if_neg]
  intro hx
  obtain ⟨r, hr, e⟩ := List.any_eq_true.1 hx
  exact h r hr (by simpa using e)
def MkOk (N : Nat) (S : Nat → Nat) (rs : List RecV) : Prop := ∀ j r, rs[j]? = some r → r.a = 0 ∨ ∃ k : Nat, r.a = (k : Int) + 1 ∧ k < N ∧ S k = 0 ∧ ∀ p ∈ rs.take j, p.a ≠ r.a
section
variable {b : Nat} {w w' : World} {FD FA : List Nat} {g q gv : Nat} {L : Nat → Nat → List UInt8} {X : VX}
def VMk (b : Nat) (w : World) (FD FA : List Nat) (g q gv : Nat) (L : Nat → Nat → List UInt8) (X : VX) (rs : List RecV) (e : Ending) (w' : World) : Prop :=
  e = .returned (.bool true) ∧ Hid (VB b w' FD FA g q gv L { X with S := mkS X.S rs }) ∧ Hid (Chg [X.c.gs] w w')
set_option maxHeartbeats 1000000 in
theorem vmark (h : VB b w FD FA g q gv L X) (rs : List RecV) (gR c : Nat) (hl : rs.length ≤ 4) (hR : ∀ j r, rs[j]? = some r → w.rangeAt gR (j * 35) r.cs) (hRn : gR ∉ [X.c.gs]) (hRl : gR < w.heap.size) (hok : MkOk X.ss.length X.S rs) :
    Calls Tryz.prog 71 #[.pointer (some ⟨g, 0, none⟩), .slice (some ⟨gR, 0, none⟩) rs.length c] w (VMk b w FD FA g q gv L X rs) := by
  have i35 := Lib.hid (p := ∀ r : RecV, (Tryz.prog.info? 87).map (·.size) = some r.cs.length) (fun r => by rw [r.cs_len]; exact info_rec)
  have hz := Lib.hid zero_rec
  have H := Lib.hid h
  have HR := Lib.hid hR
  have HRN := Lib.hid hRn
  have HRL := Lib.hid hRl
  have HL := Lib.hid hl
  have HOK := Lib.hid hok
  clear h hl hR hRn hRl hok
  go_enter Tryz.func71, Tryz.ntmps71
  go_wp2
  go_loopw [9] (fun x wr => ∃ k : Nat, k ≤ rs.length ∧ x = .int .i64 (k : Int) ∧ Hid (VB b wr FD FA g q gv L { X with S := mkS X.S (rs.take k) }) ∧ Hid (Chg [X.c.gs] w wr)) (fun x _ => rs.length - (intOf x).toNat)
  case atStart => exact ⟨0, Nat.zero_le _, rfl, H, Lib.hid (Chg.refl _ _)⟩
  case round =>
    obtain ⟨k, hk, rfl, HV, HC⟩ := hrel
    have hkw : IntKind.i64.wrap ((k : Int) + 1) = (k : Int) + 1 := by rw [IntKind.wrap_i64]; have := HL.out; omega
    by_cases hlt : k < rs.length
    · have h1i : (k : Int) < (rs.length : Int) := by omega
      have hk0 : (0 : Int) ≤ (k : Int) := by omega
      obtain ⟨r, hr⟩ : ∃ r, rs[k]? = some r := ⟨_, List.getElem?_eq_getElem hlt⟩
      have HRW := Lib.hid (p := wr.rangeAt gR (k * 35) r.cs) (fun j v hv => HC.out.cell (HR.out k r hr j v hv) HRN.out)
      have HT := Lib.hid (p := rs.take (k + 1) = rs.take k ++ [r]) (by rw [List.take_add_one, hr]; rfl)
      have HO := Lib.hid (HOK.out k r hr)
      have HLT := Lib.hid hlt
      clear hr hlt hk
      go_wp2_with (first
        | (refine wpList_load_mid rfl 87 (.tmp 11) rfl gR (k * 35) rfl r.cs _ HRW.out Tryz.underlying87 rfl (i35.out _) ?_)
        | (refine step_alloc rfl 6 rfl 87 rfl _ hz.out ?_; intro g6 w6 hr6 hg6 hb6 hs6; have HR6 := Lib.hid hr6; have HB6 := Lib.hid hb6; have HG6 := Lib.hid (p := wr.heap.size ≤ g6) (Nat.le_of_eq hg6.out.symm); clear hr6 hg6 hb6 hs6)
        | (refine step_store rfl 87 (.tmp 6) (.tmp 12) rfl g6 rfl _ _ r.cs rfl HR6.out (by rw [RecV.cs_len, RecV.cs_len]) (i35.out _) (RecV.cs_one _) ?_; intro w7 hr7 hg7 hs7; have HR7 := Lib.hid hr7; have HB7 := Lib.hid (p := Below wr.heap.size wr w7) (HB6.out.grown hg7 HB6.out.size (fun q hq => by injection hq with hq; subst hq; exact HG6.out)); clear hr7 hg7 hs7))
      have HV7 := Lib.hid (HV.out.below HB7.out)
      have C4 := Lib.hid (p := ∀ w5, Below w7.heap.size w7 w5 → w5.cell? ⟨g, 4, none⟩ = some (.pointer (some ⟨X.c.gs, 0, none⟩))) (fun w5 hb => VAt.gs (HV7.out.row.kept hb))
      cases hld : r.ld
      · have HA0 := Lib.hid (p := r.a = 0) (by unfold RecV.ld at hld; simpa using hld)
        refine wp_region_held_drew (S := fun W => W.cell? ⟨g, 4, none⟩ = some (.pointer (some ⟨X.c.gs, 0, none⟩)) ∧ W.rangeAt g6 0 r.cs) (by kernel_rfl) ⟨C4.out _ (below_drw _), HR7.out.drew.all⟩ (fun hHeld => ?_)
        refine wpAnyH_take (i := 0) (oi := ⟨some 13, .load 87 (.tmp 6), _, _, _, _⟩) (v := .agg r.cs.toArray) rfl (by kernel_rfl) (by kernel_rfl) (by kernel_rfl) (fun _ _ _ h => h) (yieldsIf_load_mid (by rfl) 87 (.tmp 6) rfl g6 0 rfl r.cs _ (fun w hSw => hSw.2) Tryz.underlying87 rfl (i35.out _)) (by assumption) ?_
        simp only [Act.put, List.setIfInBounds_toArray, List.set_cons_zero, List.set_cons_succ]
        refine wpAnyH_ready (rs := [1]) (by kernel_rfl) (by simp) ?_
        refine AllReadyH.cons (o := ⟨some 14, .call ⟨.value (.func 51), #[.tmp 13], _⟩, _, _, _, _⟩) rfl (fun K hK => ?_) AllReadyH.nil
        go_simp
        refine (vleads r _).mono ?_
        rintro e w8 ⟨rfl, hb8⟩
        rw [hld]
        have HB8 := Lib.hid (p := Below w7.heap.size w7 w8) (below_nxt hb8 (below_drw _))
        clear hb8
        refine hK.out _ _ ⟨C4.out _ HB8.out, (HR7.out.kept HB8.out).all⟩ (fun hH8 => ?_)
        clear hK K
        refine wpAnyH_take (i := 2) (oi := ⟨some 15, .move (.tmp 14), _, _, _, _⟩) (v := .bool false) rfl (by kernel_rfl) (by kernel_rfl) (by kernel_rfl) (fun _ _ _ h => h) (.inl ⟨by rfl, fun w hSw => by go_simp⟩) (by assumption) ?_
        simp only [Act.put, List.setIfInBounds_toArray, List.set_cons_zero, List.set_cons_succ]
        refine wpAnyH_take (i := 3) (oi := ⟨some 16, .move (.tmp 0), _, _, _, _⟩) (v := undef) rfl (by kernel_rfl) (by kernel_rfl) (by kernel_rfl) (fun _ _ _ h => h) (.inr ⟨by rfl, rfl⟩) (by assumption) ?_
        simp only [Act.put, List.setIfInBounds_toArray, List.set_cons_zero, List.set_cons_succ]
        refine wpAnyH_take (i := 4) (oi := ⟨some 17, .nilCheck (.tmp 16), _, _, _, _⟩) (v := undef) rfl (by kernel_rfl) (by kernel_rfl) (by kernel_rfl) (fun _ _ _ h => h) (.inr ⟨by rfl, rfl⟩) (by assumption) ?_
        simp only [Act.put, List.setIfInBounds_toArray, List.set_cons_zero, List.set_cons_succ]
        refine wpAnyH_take (i := 5) (oi := ⟨some 18, .fieldAddr 90 (.tmp 17) 4, _, _, _, _⟩) (v := undef) rfl (by kernel_rfl) (by kernel_rfl) (by kernel_rfl) (fun _ _ _ h => h) (.inr ⟨by rfl, rfl⟩) (by assumption) ?_
        simp only [Act.put, List.setIfInBounds_toArray, List.set_cons_zero, List.set_cons_succ]
        refine wpAnyH_take (i := 6) (oi := ⟨some 19, .load 79 (.tmp 18), _, _, _, _⟩) (v := undef) rfl (by kernel_rfl) (by kernel_rfl) (by kernel_rfl) (fun _ _ _ h => h) (.inr ⟨by rfl, rfl⟩) (by assumption) ?_
        simp only [Act.put, List.setIfInBounds_toArray, List.set_cons_zero, List.set_cons_succ]
        refine wpAnyH_take (i := 7) (oi := ⟨some 20, .load 87 (.tmp 6), _, _, _, _⟩) (v := undef) rfl (by kernel_rfl) (by kernel_rfl) (by kernel_rfl) (fun _ _ _ h => h) (.inr ⟨by rfl, rfl⟩) (by assumption) ?_
        simp only [Act.put, List.setIfInBounds_toArray, List.set_cons_zero, List.set_cons_succ]
        refine wpAnyH_take (i := 8) (oi := ⟨some 21, .call ⟨.value (.func 73), #[.tmp 20], _⟩, _, _, _, _⟩) (v := undef) rfl (by kernel_rfl) (by kernel_rfl) (by kernel_rfl) (fun _ _ _ h => h) (.inr ⟨by rfl, rfl⟩) (by assumption) ?_
        simp only [Act.put, List.setIfInBounds_toArray, List.set_cons_zero, List.set_cons_succ]
        refine wpAnyH_take (i := 9) (oi := ⟨some 22, .call ⟨.value (.func 97), #[.tmp 19, .tmp 21], _⟩, _, _, _, _⟩) (v := undef) rfl (by kernel_rfl) (by kernel_rfl) (by kernel_rfl) (fun _ _ _ h => h) (.inr ⟨by rfl, rfl⟩) (by assumption) ?_
        simp only [Act.put, List.setIfInBounds_toArray, List.set_cons_zero, List.set_cons_succ]
        refine wpAnyH_take (i := 10) (oi := ⟨some 23, .binOp .neq 24 (.tmp 22) (.const (.int .i64 0)) 24, _, _, _, _⟩) (v := undef) rfl (by kernel_rfl) (by kernel_rfl) (by kernel_rfl) (fun _ _ _ h => h) (.inr ⟨by rfl, rfl⟩) (by assumption) ?_
        simp only [Act.put, List.setIfInBounds_toArray, List.set_cons_zero, List.set_cons_succ]
        refine wpAnyH_take (i := 11) (oi := ⟨some 24, .pick (.tmp 15) (.tmp 23) (.const (.bool false)), _, _, _, _⟩) (v := .bool false) rfl (by kernel_rfl) (by kernel_rfl) (by kernel_rfl) (fun _ _ _ h => h) (.inl ⟨by rfl, fun w hSw => by go_simp⟩) (by assumption) ?_
        simp only [Act.put, List.setIfInBounds_toArray, List.set_cons_zero, List.set_cons_succ]
        refine wpAnyH_done (by kernel_rfl) ?_ _
        go_wp2
        go_roundw
        case rel => exact ⟨k + 1, HLT.out, by go_num, Lib.hid (by rw [HT.out, mkS_far HA0.out]; exact HV7.out.below HB8.out), Lib.hid (HC.out.trans (Chg.of (F := []) (below_nxt HB8.out HB7.out)) (fun j hj => by cases hj))⟩
        case measure => have := HLT.out; simp [intOf]; omega
      · obtain ⟨n, hn⟩ : ∃ n : Nat, r.a = (n : Int) + 1 ∧ n < X.ss.length ∧ S8.mv X.ss.length (mkS X.S (rs.take k)) (n : Int) 0 = 0 ∧ True := by
          rcases HO.out with h0 | ⟨n, h1, h2, h3, h4⟩
          · unfold RecV.ld at hld
            simp [h0] at hld
          · refine ⟨n, h1, h2, ?_, trivial⟩
            rw [S8.mv_in h2, mkS_free (fun p hp => by rw [← h1]; exact h4 p hp), h3]
            rfl
        have HN := Lib.hid hn
        clear hn
        refine wp_region_held_drew (S := fun W => W.cell? ⟨g, 4, none⟩ = some (.pointer (some ⟨X.c.gs, 0, none⟩)) ∧ W.rangeAt g6 0 r.cs) (by kernel_rfl) ⟨C4.out _ (below_drw _), HR7.out.drew.all⟩ (fun hHeld => ?_)
        refine wpAnyH_take (i := 0) (oi := ⟨some 13, .load 87 (.tmp 6), _, _, _, _⟩) (v := .agg r.cs.toArray) rfl (by kernel_rfl) (by kernel_rfl) (by kernel_rfl) (fun _ _ _ h => h) (yieldsIf_load_mid (by rfl) 87 (.tmp 6) rfl g6 0 rfl r.cs _ (fun w hSw => hSw.2) Tryz.underlying87 rfl (i35.out _)) (by assumption) ?_
        simp only [Act.put, List.setIfInBounds_toArray, List.set_cons_zero, List.set_cons_succ]
        refine wpAnyH_ready (rs := [1]) (by kernel_rfl) (by simp) ?_
        refine AllReadyH.cons (o := ⟨some 14, .call ⟨.value (.func 51), #[.tmp 13], _⟩, _, _, _, _⟩) rfl (fun K hK => ?_) AllReadyH.nil
        go_simp
        refine (vleads r _).mono ?_
        rintro e w8 ⟨rfl, hb8⟩
        rw [hld]
        have HB8 := Lib.hid (p := Below w7.heap.size w7 w8) (below_nxt hb8 (below_drw _))
        clear hb8
        refine hK.out _ _ ⟨C4.out _ HB8.out, (HR7.out.kept HB8.out).all⟩ (fun hH8 => ?_)
        clear hK K
        refine wpAnyH_take (i := 2) (oi := ⟨some 15, .move (.tmp 14), _, _, _, _⟩) (v := .bool true) rfl (by kernel_rfl) (by kernel_rfl) (by kernel_rfl) (fun _ _ _ h => h) (.inl ⟨by rfl, fun w hSw => by go_simp⟩) (by assumption) ?_
        simp only [Act.put, List.setIfInBounds_toArray, List.set_cons_zero, List.set_cons_succ]
        refine wpAnyH_take (i := 3) (oi := ⟨some 16, .move (.tmp 0), _, _, _, _⟩) (v := .pointer (some ⟨g, 0, none⟩)) rfl (by kernel_rfl) (by kernel_rfl) (by kernel_rfl) (fun _ _ _ h => h) (.inl ⟨by rfl, fun w hSw => by go_simp⟩) (by assumption) ?_
        simp only [Act.put, List.setIfInBounds_toArray, List.set_cons_zero, List.set_cons_succ]
        refine wpAnyH_take (i := 4) (oi := ⟨some 17, .nilCheck (.tmp 16), _, _, _, _⟩) (v := .pointer (some ⟨g, 0, none⟩)) rfl (by kernel_rfl) (by kernel_rfl) (by kernel_rfl) (fun _ _ _ h => h) (.inl ⟨by rfl, fun w hSw => by go_simp⟩) (by assumption) ?_
        simp only [Act.put, List.setIfInBounds_toArray, List.set_cons_zero, List.set_cons_succ]
        refine wpAnyH_take (i := 5) (oi := ⟨some 18, .fieldAddr 90 (.tmp 17) 4, _, _, _, _⟩) (v := .pointer (some ⟨g, 4, none⟩)) rfl (by kernel_rfl) (by kernel_rfl) (by kernel_rfl) (fun _ _ _ h => h) (.inl ⟨by rfl, fun w hSw => by go_simp⟩) (by assumption) ?_
        simp only [Act.put, List.setIfInBounds_toArray, List.set_cons_zero, List.set_cons_succ]
        refine wpAnyH_take (i := 6) (oi := ⟨some 19, .load 79 (.tmp 18), _, _, _, _⟩) (v := .pointer (some ⟨X.c.gs, 0, none⟩)) rfl (by kernel_rfl) (by kernel_rfl) (by kernel_rfl) (fun _ _ _ h => h) (.inl ⟨by rfl, fun w hSw => by have z := hSw.1; go_simp⟩) (by assumption) ?_
        simp only [Act.put, List.setIfInBounds_toArray, List.set_cons_zero, List.set_cons_succ]
        refine wpAnyH_take (i := 7) (oi := ⟨some 20, .load 87 (.tmp 6), _, _, _, _⟩) (v := .agg r.cs.toArray) rfl (by kernel_rfl) (by kernel_rfl) (by kernel_rfl) (fun _ _ _ h => h) (yieldsIf_load_mid (by rfl) 87 (.tmp 6) rfl g6 0 rfl r.cs _ (fun w hSw => hSw.2) Tryz.underlying87 rfl (i35.out _)) (by assumption) ?_
        simp only [Act.put, List.setIfInBounds_toArray, List.set_cons_zero, List.set_cons_succ]
        refine wpAnyH_ready (rs := [8]) (by kernel_rfl) (by simp) ?_
        refine AllReadyH.cons (o := ⟨some 21, .call ⟨.value (.func 73), #[.tmp 20], _⟩, _, _, _, _⟩) rfl (fun K hK => ?_) AllReadyH.nil
        go_simp
        refine (vblock r n HN.out.1 (by have := HN.out.2.1; have hle : X.ss.length ≤ 1024 := HV.out.spc.le; omega) _).mono ?_
        rintro e w9 ⟨rfl, hb9⟩
        have HB9 := Lib.hid (p := Below w7.heap.size w7 w9) (below_nxt hb9 HB8.out)
        clear hb9
        refine hK.out _ _ ⟨C4.out _ HB9.out, (HR7.out.kept HB9.out).all⟩ (fun hH9 => ?_)
        clear hK K
        refine wpAnyH_ready (rs := [9]) (by kernel_rfl) (by simp) ?_
        refine AllReadyH.cons (o := ⟨some 22, .call ⟨.value (.func 97), #[.tmp 19, .tmp 21], _⟩, _, _, _, _⟩) rfl (fun K hK => ?_) AllReadyH.nil
        go_simp
        refine (S8.mark_any (HV7.out.below HB9.out).spc (n : Int)).mono ?_
        rintro e w10 ⟨rfl, hs10, hg10⟩
        rw [HN.out.2.2.1]
        rw [S8.chS_do HN.out.2.2.1] at hs10
        have hc10 : Chg [X.c.gs] w9 w10 := (Chg.refl _ _).grown hg10 (fun k hk => by injection hk with hk; subst hk; exact .inl (List.mem_singleton.2 rfl))
        have HV10 := Lib.hid (p := VB b w10 FD FA g q gv L { X with S := mkS X.S (rs.take (k + 1)) }) (by rw [HT.out, mkS_one HN.out.1]; exact (HV7.out.below HB9.out).sturn hs10 hc10)
        have HC10 := Lib.hid (p := Chg [X.c.gs] w w10) ((HC.out.trans (Chg.of (F := []) (below_nxt HB9.out HB7.out)) (fun j hj => by cases hj)).trans hc10 (fun j hj => .inl hj))
        have C10 := Lib.hid (p := w10.cell? ⟨g, 4, none⟩ = some (.pointer (some ⟨X.c.gs, 0, none⟩))) (VAt.gs HV10.out.row)
        have HR10 := Lib.hid (p := Row w10 g6 87 r.cs) (hc10.row (HR7.out.kept HB9.out) (fun hx => by rw [List.mem_singleton] at hx; have h1 := HV.out.spc.lt; have h2 := HG6.out; have h3 : g6 = X.c.gs := hx; have h4 : X.c.gs < wr.heap.size := h1; omega))
        clear hs10 hg10 hc10
        refine hK.out _ _ ⟨C10.out, HR10.out.all⟩ (fun hH10 => ?_)
        clear hK K
        refine wpAnyH_take (i := 10) (oi := ⟨some 23, .binOp .neq 24 (.tmp 22) (.const (.int .i64 0)) 24, _, _, _, _⟩) (v := .bool false) rfl (by kernel_rfl) (by kernel_rfl) (by kernel_rfl) (fun _ _ _ h => h) (.inl ⟨by rfl, fun w hSw => by go_simp⟩) (by assumption) ?_
        simp only [Act.put, List.setIfInBounds_toArray, List.set_cons_zero, List.set_cons_succ]
        refine wpAnyH_take (i := 11) (oi := ⟨some 24, .pick (.tmp 15) (.tmp 23) (.const (.bool false)), _, _, _, _⟩) (v := .bool false) rfl (by kernel_rfl) (by kernel_rfl) (by kernel_rfl) (fun _ _ _ h => h) (.inl ⟨by rfl, fun w hSw => by go_simp⟩) (by assumption) ?_
        simp only [Act.put, List.setIfInBounds_toArray, List.set_cons_zero, List.set_cons_succ]
        refine wpAnyH_done (by kernel_rfl) ?_ _
        go_wp2
        go_roundw
        case rel => exact ⟨k + 1, HLT.out, by go_num, HV10, HC10⟩
        case measure => have := HLT.out; simp [intOf]; omega
    · obtain rfl : k = rs.length := by omega
      rw [List.take_length] at HV
      go_wp2
      go_ret
      exact ⟨rfl, HV, HC⟩
end
end Go.Proofs.YtpocccnhibjjcaaGreatDoor
/- What onward leaves: the next node that has a block, or the end of the mounting. Conditions: the vault lies there; the places are a tree's. -/
set_option linter.unusedVariables false
set_option maxRecDepth 20000
namespace Go.Proofs.YtpocccnhibjjcaaGreatDoor
open Go.RowKit

def unLen (g : Nat) (w : World) : Nat := match w.cell? ⟨g, 44, none⟩ with
  | some (.slice _ n _) => n
  | _ => 0
def nxtP (top : RecV) (N : Nat → Nat → Nat → RecV) (U : List (Nat × Nat)) : List (Nat × Nat) := U.dropWhile fun p => !(tr top N p.1 p.2).ld
def Small (U : List (Nat × Nat)) : Prop := ∀ p ∈ U, p.1 ≤ 1024 ∧ p.2 ≤ 1024
section
variable {b : Nat} {w w' : World} {FD FA : List Nat} {g q gv : Nat} {L : Nat → Nat → List UInt8} {X : VX}
def VOn (b : Nat) (w : World) (FD FA : List Nat) (g q gv : Nat) (L : Nat → Nat → List UInt8) (X : VX) (U : List (Nat × Nat)) (e : Ending) (w' : World) : Prop :=
  ∃ un, e = .returned (.tuple #[.bool U.isEmpty, .int .i64 0]) ∧ Hid (VB b w' FD FA g q gv L { X with c := { X.c with un := un, rd := U.isEmpty || X.c.rd, mf := if U.isEmpty then stV 98 g else stV 99 g }, un := U }) ∧ Hid (Chg [g] w w')
theorem chg_g2 {w w1 : World} {g : Nat} (h : Chg [g] w w1) (i : Nat) (v : Value) : Chg [g] w (w1.setCell ⟨g, i, none⟩ v) := h.setCell (p := ⟨g, i, none⟩) (.inl (List.mem_singleton.2 rfl)) v
set_option maxHeartbeats 1000000 in
theorem vonward (h : VB b w FD FA g q gv L X) (hs : Small X.un) :
    Calls Tryz.prog 72 #[.pointer (some ⟨g, 0, none⟩)] w (VOn b w FD FA g q gv L X (nxtP X.c.top X.N X.un)) := by
  have H := Lib.hid h
  have HS := Lib.hid hs
  clear h hs
  go_enter Tryz.func72, Tryz.ntmps72
  go_wp2
  go_loopw [] (fun wr => ∃ (un : Value) (U : List (Nat × Nat)), Hid (VB b wr FD FA g q gv L { X with c := { X.c with un := un }, un := U }) ∧ Hid (nxtP X.c.top X.N X.un = nxtP X.c.top X.N U) ∧ Hid (Small U) ∧ Hid (Chg [g] w wr)) (fun wr => unLen g wr)
  case atStart => exact ⟨X.c.un, X.un, H, Lib.hid rfl, HS, Lib.hid (Chg.refl _ _)⟩
  case round =>
    obtain ⟨un, U, HV, HN, HSM, HC⟩ := hrel
    have f44 := HV.out.gfr 44
    have f43 := HV.out.gfr 43
    have f45 := HV.out.gfr 45
    have c44 : wr.cell? ⟨g, 44, none⟩ = some un := by have z := VAt.un HV.out.row; exact z
    have c43 : wr.cell? ⟨g, 43, none⟩ = some X.c.mf := by have z := VAt.mf HV.out.row; exact z
    have hmf : ∀ (fn : Fn) (first cap : Array Value) (w : World), (Instr.makeFunc fn first cap).run Tryz.prog w = .ok (.func fn first cap) w := fun _ _ _ _ => rfl
    cases U with
    | nil =>
      have hps : PS wr un [] := HV.out.un
      obtain ⟨A, cc, rfl, hcc, _⟩ := hps
      clear hcc
      go_wp2_with (go_at_call 98; refine (vrise HV.out).mono ?_; rintro e w5 ⟨rfl, h5, hc5⟩)
      go_ret2
      rw [HN.out]
      exact ⟨_, rfl, h5, Lib.hid (HC.out.trans hc5.out (fun j hj => .inl hj))⟩
    | cons p U =>
      have hps : PS wr un (p :: U) := HV.out.un
      obtain ⟨gp, o, cc, rfl, hcc, hgp, cp0, cp1⟩ := hps.head
      have HT := Lib.hid hps.tail
      have hpos : (0 : Int) < ((U.length + 1 : Nat) : Int) := by omega
      have HCP := Lib.hid (p := ∀ w5, Below wr.heap.size wr w5 → w5.cell? ⟨gp, o, none⟩ = some (.int .i64 (p.1 : Int)) ∧ w5.cell? ⟨gp, o + 1, none⟩ = some (.int .i64 (p.2 : Int))) (fun w5 hb => ⟨(hb.cell (p := ⟨gp, o, none⟩) hgp).trans cp0, (hb.cell (p := ⟨gp, o + 1, none⟩) hgp).trans cp1⟩)
      have hz : (((U.length + 1 : Nat) : Int) == 0) = false := beq_false_of_ne (by omega)
      have HR := Lib.hid (p := ∀ w5, Below wr.heap.size wr w5 → Calls Tryz.prog 46 #[.pointer (some ⟨g, 0, none⟩), .agg #[.int .i64 (p.1 : Int), .int .i64 (p.2 : Int)]] w5 fun e w6 => e = .returned (.agg (tr X.c.top X.N p.1 p.2).cs.toArray) ∧ Below w5.heap.size w5 w6) (fun w5 hb => vrecord g { X.c with un := .slice (some ⟨gp, o, none⟩) (U.length + 1) cc } q X.N p.1 p.2 (HSM.out p (by simp)).1 (HSM.out p (by simp)).2 w5 (HV.out.row.kept hb) (HV.out.nodes.below hb))
      have hlen : (0 : Int) ≤ ((U.length + 1 : Nat) : Int) := by omega
      have hccI : ((U.length + 1 : Nat) : Int) ≤ (cc : Int) := by omega
      cases hld : (tr X.c.top X.N p.1 p.2).ld
      · have hN : nxtP X.c.top X.N (p :: U) = nxtP X.c.top X.N U := by unfold nxtP; rw [List.dropWhile_cons_of_pos (by rw [hld]; rfl)]
        rw [hN] at HN
        clear hN hps
        obtain ⟨n1, hn1⟩ : ∃ n1, U.length + 1 = n1 := ⟨_, rfl⟩
        rw [hn1] at c44 hpos hz hlen hccI hcc
        have HN1 := Lib.hid hn1
        clear hn1
        go_wp2_with (first
          | (go_at_call 46; refine (HR.out _ (Below.refl _ _)).mono ?_; rintro e w5 ⟨rfl, hb5⟩; have HB5 := Lib.hid hb5; clear hb5)
          | (go_at_call 51; refine (vleads _ _).mono ?_; rintro e w6 ⟨rfl, hb6⟩; rw [hld]; have HB6 := Lib.hid (below_nxt hb6 HB5.out); have c446 := (HB6.out.cell (p := ⟨g, 44, none⟩) HV.out.row.lt).trans c44; have f446 := (HV.out.below HB6.out).gfr 44; clear hb6))
        have hV6 := (HV.out.below HB6.out).p_un (.slice (if cc = 1 then some ⟨gp, o, none⟩ else some ⟨gp, o + 2, none⟩) (n1 - 1) (cc - 1)) (U := U) (by have e1 : n1 - 1 = U.length := (by have := HN1.out; omega); rw [e1]; exact HT.out.below HB6.out)
        refine ⟨⟨_, U, Lib.hid hV6, HN, Lib.hid (fun p hp => HSM.out p (List.mem_cons_of_mem _ hp)), Lib.hid (chg_g2 (HC.out.trans (Chg.of (F := []) HB6.out) (fun j hj => by cases hj)) 44 _)⟩, ?_⟩
        have e1 := VAt.un hV6.row
        unfold unLen
        rw [e1, c44]
        show n1 - 1 < n1
        have := HN1.out
        omega
      · have hN : nxtP X.c.top X.N (p :: U) = p :: U := by unfold nxtP; rw [List.dropWhile_cons_of_neg (by rw [hld]; simp)]
        rw [hN] at HN
        clear hN hps
        obtain ⟨n1, hn1⟩ : ∃ n1, U.length + 1 = n1 := ⟨_, rfl⟩
        rw [hn1] at c44 hpos hz hlen hccI hcc
        have HN1 := Lib.hid hn1
        clear hn1
        go_wp2_with (first
          | (go_at_call 46; refine (HR.out _ (Below.refl _ _)).mono ?_; rintro e w5 ⟨rfl, hb5⟩; have HB5 := Lib.hid hb5; clear hb5)
          | (go_at_call 51; refine (vleads _ _).mono ?_; rintro e w6 ⟨rfl, hb6⟩; rw [hld]; have HB6 := Lib.hid (below_nxt hb6 HB5.out); have c446 := (HB6.out.cell (p := ⟨g, 44, none⟩) HV.out.row.lt).trans c44; have f436 := (HV.out.below HB6.out).gfr 43; have c436 := (HB6.out.cell (p := ⟨g, 43, none⟩) HV.out.row.lt).trans c43; clear hb6))
        go_ret2
        rw [HN.out]
        exact ⟨_, rfl, Lib.hid ((HV.out.below HB6.out).p_mf _), Lib.hid (chg_g2 (HC.out.trans (Chg.of (F := []) HB6.out) (fun j hj => by cases hj)) 43 _)⟩
end
end Go.Proofs.YtpocccnhibjjcaaGreatDoor
