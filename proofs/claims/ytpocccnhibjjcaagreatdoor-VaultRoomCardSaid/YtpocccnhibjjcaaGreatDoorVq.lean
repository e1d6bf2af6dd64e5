/- What a vault's replace leaves: another record at a place, the elder one's block given back. Conditions: the vault lies there; the elder record's block is taken, or there is none. -/
import Derived.Test.YtpocccnhibjjcaaGreatDoorVp
set_option linter.unusedVariables false
set_option maxRecDepth 20000
namespace Go.Proofs.YtpocccnhibjjcaaGreatDoor
open Go.RowKit

def gvS (S : Nat → Nat) (r : RecV) : Nat → Nat := fun j => if r.a = (j : Int) + 1 then 2 else S j
theorem gvS_far {S : Nat → Nat} {r : RecV} (h : r.a = 0) : gvS S r = S := by
  funext j
  unfold gvS
  rw [if_neg (by omega)]
theorem gvS_one {S : Nat → Nat} {r : RecV} {k : Nat} (h : r.a = (k : Int) + 1) : gvS S r = S8.putN S k 2 := by
  funext j
  unfold gvS S8.putN
  by_cases e : j = k
  · subst e
    rw [if_pos h, if_pos rfl]
  · rw [if_neg (by omega), if_neg e]
def setK (R : Nat → RecV) (k : Nat) (r : RecV) : Nat → RecV := fun j => if j = k then r else R j
def VX.repl (X : VX) (r : RecV) : Nat → Nat → VX
  | 0, i => { X with c := { X.c with top := r }, S := gvS X.S X.c.top }
  | l + 1, i => { X with N := upN X.N l (i / 4) (setK (X.N l (i / 4)) (i % 4) r), S := gvS X.S (tr X.c.top X.N (l + 1) i) }
def Held (N : Nat) (S : Nat → Nat) (r : RecV) : Prop := r.a = 0 ∨ ∃ k : Nat, r.a = (k : Int) + 1 ∧ k < N ∧ S k = 1
section
variable {b : Nat} {w w' : World} {FD FA : List Nat} {g q gv : Nat} {L : Nat → Nat → List UInt8} {X : VX}
def VRp (b : Nat) (w : World) (FD FA : List Nat) (g q gv : Nat) (L : Nat → Nat → List UInt8) (X : VX) (F : List Nat) (e : Ending) (w' : World) : Prop :=
  e = .returned (.tuple #[]) ∧ Hid (VB b w' FD FA g q gv L X) ∧ Hid (Chg F w w')
set_option maxHeartbeats 4000000 in
theorem vrepl_top (h : VB b w FD FA g q gv L X) (r : RecV) (i : Nat) (hi : i ≤ 1024) (hold : Held X.ss.length X.S X.c.top) (hq : q + 1 ≤ 900000) :
    Calls Tryz.prog 86 #[.pointer (some ⟨g, 0, none⟩), pv 0 i, .agg r.cs.toArray] w (VRp b w FD FA g (q + 1) gv L (X.repl r 0 i) [g, X.c.gn, X.c.gs]) := by
  have i35 := Lib.hid (p := ∀ r : RecV, (Tryz.prog.info? 87).map (·.size) = some r.cs.length) (fun r => by rw [r.cs_len]; exact info_rec)
  have i140 := Lib.hid (p := ∀ Q : Nat → RecV, (Tryz.prog.info? 132).map (·.size) = some (recsC Q).length) (fun Q => by rw [recsC_len]; exact info_recs)
  have i2 := Lib.hid info_spot
  have hz := Lib.hid zero_rec
  have hz4 := Lib.hid zero_recs
  have H := Lib.hid h
  have HOLD := Lib.hid hold
  have HQ := Lib.hid hq
  obtain ⟨old, hod⟩ : ∃ old, X.c.top = old := ⟨_, rfl⟩
  obtain ⟨X2, hX2⟩ : ∃ X2, X.repl r 0 i = X2 := ⟨_, rfl⟩
  have HX2 := Lib.hid hX2
  have HREC := Lib.hid (p := ∀ w1, Below w.heap.size w w1 → Calls Tryz.prog 46 #[.pointer (some ⟨g, 0, none⟩), pv 0 i] w1 fun e w' => e = .returned (.agg old.cs.toArray) ∧ Below w1.heap.size w1 w') (fun w1 hb => by rw [← hod]; exact vrecord g X.c q X.N 0 i (by omega) hi w1 (h.row.kept hb) (h.nodes.below hb))
  rw [hX2]
  rw [hod] at HOLD
  have HOD := Lib.hid hod
  rw [pv_cs] at HREC ⊢
  clear h hold hq hi hod hX2
  cases hld : old.ld
  · have HA0 := Lib.hid (p := old.a = 0) (by unfold RecV.ld at hld; simpa using hld)
    go_enter Tryz.func86, Tryz.ntmps86
    go_wp2_with (first
      | (refine step_box rfl 4 rfl 99 _ rfl (pc2 0 i) rfl ?_; intro g4 w1 hr1 hg1 hb1 hs1; have HR4 := Lib.hid hr1; have HB1 := Lib.hid hb1; have HG4 := Lib.hid (p := w.heap.size ≤ g4) (Nat.le_of_eq hg1.out.symm); clear hr1 hg1 hb1 hs1)
      | (refine step_box rfl 5 rfl 87 _ rfl r.cs rfl ?_; intro g5 w2 hr2 hg2 hb2 hs2; have HR5 := Lib.hid hr2; have HR42 := Lib.hid (HR4.out.kept hb2); have HB2 := Lib.hid (below_nxt hb2 HB1.out); have HG5 := Lib.hid (p := w.heap.size ≤ g5) (by rw [hg2.out]; exact HB1.out.size); clear hr2 hg2 hb2 hs2)
      | (refine step_load rfl 11 rfl 99 (.tmp 4) rfl g4 rfl (pc2 0 i) _ HR42.out.all Tryz.underlying99 rfl i2.out ?_)
      | (go_at_call 46; refine (HREC.out _ HB2.out).mono ?_; rintro e w3 ⟨rfl, hb3⟩; have HB3 := Lib.hid (below_nxt hb3 HB2.out); have HR43 := Lib.hid (HR42.out.kept hb3); have HR53 := Lib.hid (HR5.out.kept hb3); have HSZ3 := Lib.hid hb3.size; clear hb3)
      | (refine step_alloc rfl 6 rfl 87 rfl _ hz.out ?_; intro g6 w4 hr6 hg6 hb6 hs6; have HR64 := Lib.hid hr6; have HB4 := Lib.hid (below_nxt hb6 HB3.out); have HR44 := Lib.hid (HR43.out.kept hb6); have HR54 := Lib.hid (HR53.out.kept hb6); have HG6 := Lib.hid (p := w2.heap.size ≤ g6) (by rw [hg6.out]; exact HSZ3.out); clear hr6 hg6 hb6 hs6)
      | (refine step_store rfl 87 (.tmp 6) (.tmp 12) rfl g6 rfl _ _ old.cs rfl HR64.out (by rw [RecV.cs_len, RecV.cs_len]) (i35.out _) (RecV.cs_one _) ?_; intro w5 hr6 hg6 hs6
         have HR6 := Lib.hid hr6
         have HB5 := Lib.hid (p := Below w.heap.size w w5) (HB4.out.grown hg6 HB4.out.size (fun q hq => by injection hq with hq; subst hq; exact Nat.le_trans HB2.out.size HG6.out))
         have HR45 := Lib.hid (HR44.out.grown hg6 (fun e => by have h1 : g4 = g6 := Option.some.inj e; have h2 := HR42.out.lt; have h3 := HG6.out; omega))
         have HR55 := Lib.hid (HR54.out.grown hg6 (fun e => by have h1 : g5 = g6 := Option.some.inj e; have h2 := HR5.out.lt; have h3 := HG6.out; omega))
         have HV5 := Lib.hid (H.out.below HB5.out)
         have C4 := Lib.hid (p := ∀ w7, Below w5.heap.size w5 w7 → w7.cell? ⟨g, 4, none⟩ = some (.pointer (some ⟨X.c.gs, 0, none⟩))) (fun w7 hb => VAt.gs (HV5.out.row.kept hb))
         clear hr6 hg6 hs6)
      | (refine step_load rfl 13 rfl 87 (.tmp 6) rfl g6 rfl old.cs _ HR6.out.all Tryz.underlying87 rfl (i35.out _) ?_)
      | (go_at_call 51; refine (vleads old _).mono ?_; rintro e w6 ⟨rfl, hb6⟩; rw [hld]; have HB6 := Lib.hid hb6
         have c04 := pc2_0 (HR45.out.kept hb6)
         have HV9 := Lib.hid (p := VB b w6 FD FA g q gv L { X with S := gvS X.S old }) (by rw [gvS_far HA0.out]; exact HV5.out.below hb6)
         have h9 := HV9.out
         have HR49 := Lib.hid (HR45.out.kept hb6)
         have HR59 := Lib.hid (HR55.out.kept hb6)
         have HC9 := Lib.hid (p := Chg [g, X.c.gn, X.c.gs] w w6) (.of (below_nxt hb6 HB5.out)); clear hb6)
      | (refine step_load rfl 26 rfl 87 (.tmp 5) rfl g5 rfl r.cs _ HR59.out.all Tryz.underlying87 rfl (i35.out _) ?_)
      | (refine wpList_store_mid rfl 87 (.tmp 28) (.tmp 26) rfl g 7 r.cs.toArray rfl rfl (by rw [List.size_toArray, RecV.cs_len]; exact HV9.out.top_there) (by rw [List.size_toArray]; exact i35.out _) (all_oneCell_toArray (RecV.cs_one _)) ?_))
    go_end0
    refine ⟨rfl, Lib.hid ?_, Lib.hid (HC9.out.grown (grown_setsA r.cs w6 7) (fun k hk => by injection hk with hk; subst hk; exact .inl (by simp)))⟩
    have z := h9.p_top r
    rw [← HX2.out]
    unfold VX.repl
    rw [HOD.out]
    exact z.mono (Nat.le_succ _) HQ.out
  · obtain ⟨n, hn⟩ : ∃ n : Nat, old.a = (n : Int) + 1 ∧ n < X.ss.length ∧ X.S n = 1 := by
      rcases HOLD.out with h0 | hn
      · unfold RecV.ld at hld
        simp [h0] at hld
      · exact hn
    have HN := Lib.hid hn
    have hmv : S8.mv X.ss.length X.S (n : Int) 1 = 0 := by rw [S8.mv_in hn.2.1, hn.2.2]; rfl
    have HMV := Lib.hid hmv
    clear hn hmv
    go_enter Tryz.func86, Tryz.ntmps86
    go_wp2_with (first
      | (refine step_box rfl 4 rfl 99 _ rfl (pc2 0 i) rfl ?_; intro g4 w1 hr1 hg1 hb1 hs1; have HR4 := Lib.hid hr1; have HB1 := Lib.hid hb1; have HG4 := Lib.hid (p := w.heap.size ≤ g4) (Nat.le_of_eq hg1.out.symm); clear hr1 hg1 hb1 hs1)
      | (refine step_box rfl 5 rfl 87 _ rfl r.cs rfl ?_; intro g5 w2 hr2 hg2 hb2 hs2; have HR5 := Lib.hid hr2; have HR42 := Lib.hid (HR4.out.kept hb2); have HB2 := Lib.hid (below_nxt hb2 HB1.out); have HG5 := Lib.hid (p := w.heap.size ≤ g5) (by rw [hg2.out]; exact HB1.out.size); clear hr2 hg2 hb2 hs2)
      | (refine step_load rfl 11 rfl 99 (.tmp 4) rfl g4 rfl (pc2 0 i) _ HR42.out.all Tryz.underlying99 rfl i2.out ?_)
      | (go_at_call 46; refine (HREC.out _ HB2.out).mono ?_; rintro e w3 ⟨rfl, hb3⟩; have HB3 := Lib.hid (below_nxt hb3 HB2.out); have HR43 := Lib.hid (HR42.out.kept hb3); have HR53 := Lib.hid (HR5.out.kept hb3); have HSZ3 := Lib.hid hb3.size; clear hb3)
      | (refine step_alloc rfl 6 rfl 87 rfl _ hz.out ?_; intro g6 w4 hr6 hg6 hb6 hs6; have HR64 := Lib.hid hr6; have HB4 := Lib.hid (below_nxt hb6 HB3.out); have HR44 := Lib.hid (HR43.out.kept hb6); have HR54 := Lib.hid (HR53.out.kept hb6); have HG6 := Lib.hid (p := w2.heap.size ≤ g6) (by rw [hg6.out]; exact HSZ3.out); clear hr6 hg6 hb6 hs6)
      | (refine step_store rfl 87 (.tmp 6) (.tmp 12) rfl g6 rfl _ _ old.cs rfl HR64.out (by rw [RecV.cs_len, RecV.cs_len]) (i35.out _) (RecV.cs_one _) ?_; intro w5 hr6 hg6 hs6
         have HR6 := Lib.hid hr6
         have HB5 := Lib.hid (p := Below w.heap.size w w5) (HB4.out.grown hg6 HB4.out.size (fun q hq => by injection hq with hq; subst hq; exact Nat.le_trans HB2.out.size HG6.out))
         have HR45 := Lib.hid (HR44.out.grown hg6 (fun e => by have h1 : g4 = g6 := Option.some.inj e; have h2 := HR42.out.lt; have h3 := HG6.out; omega))
         have HR55 := Lib.hid (HR54.out.grown hg6 (fun e => by have h1 : g5 = g6 := Option.some.inj e; have h2 := HR5.out.lt; have h3 := HG6.out; omega))
         have HV5 := Lib.hid (H.out.below HB5.out)
         have C4 := Lib.hid (p := ∀ w7, Below w5.heap.size w5 w7 → w7.cell? ⟨g, 4, none⟩ = some (.pointer (some ⟨X.c.gs, 0, none⟩))) (fun w7 hb => VAt.gs (HV5.out.row.kept hb))
         clear hr6 hg6 hs6)
      | (refine step_load rfl 13 rfl 87 (.tmp 6) rfl g6 rfl old.cs _ HR6.out.all Tryz.underlying87 rfl (i35.out _) ?_)
      | (go_at_call 51; refine (vleads old _).mono ?_; rintro e w6 ⟨rfl, hb6⟩; rw [hld]; have HB6 := Lib.hid hb6; clear hb6))
    refine wp_region_held_drew (S := fun W => W.cell? ⟨g, 4, none⟩ = some (.pointer (some ⟨X.c.gs, 0, none⟩)) ∧ W.rangeAt g6 0 old.cs) (by kernel_rfl) ⟨C4.out _ (HB6.out.drew), (HR6.out.kept HB6.out.drew).all⟩ (fun hHeld => ?_)
    refine wpAnyH_take (i := 0) (oi := ⟨some 15, .move (.tmp 0), _, _, _, _⟩) (v := .pointer (some ⟨g, 0, none⟩)) rfl (by kernel_rfl) (by kernel_rfl) (by kernel_rfl) (fun _ _ _ h => h) (.inl ⟨by rfl, fun w hSw => by go_simp⟩) (by assumption) ?_
    simp only [Act.put, List.setIfInBounds_toArray, List.set_cons_zero, List.set_cons_succ]
    refine wpAnyH_take (i := 1) (oi := ⟨some 16, .nilCheck (.tmp 15), _, _, _, _⟩) (v := .pointer (some ⟨g, 0, none⟩)) rfl (by kernel_rfl) (by kernel_rfl) (by kernel_rfl) (fun _ _ _ h => h) (.inl ⟨by rfl, fun w hSw => by go_simp⟩) (by assumption) ?_
    simp only [Act.put, List.setIfInBounds_toArray, List.set_cons_zero, List.set_cons_succ]
    refine wpAnyH_take (i := 2) (oi := ⟨some 17, .fieldAddr 90 (.tmp 16) 4, _, _, _, _⟩) (v := .pointer (some ⟨g, 4, none⟩)) rfl (by kernel_rfl) (by kernel_rfl) (by kernel_rfl) (fun _ _ _ h => h) (.inl ⟨by rfl, fun w hSw => by go_simp⟩) (by assumption) ?_
    simp only [Act.put, List.setIfInBounds_toArray, List.set_cons_zero, List.set_cons_succ]
    refine wpAnyH_take (i := 3) (oi := ⟨some 18, .load 79 (.tmp 17), _, _, _, _⟩) (v := .pointer (some ⟨X.c.gs, 0, none⟩)) rfl (by kernel_rfl) (by kernel_rfl) (by kernel_rfl) (fun _ _ _ h => h) (.inl ⟨by rfl, fun w hSw => by have z := hSw.1; go_simp⟩) (by assumption) ?_
    simp only [Act.put, List.setIfInBounds_toArray, List.set_cons_zero, List.set_cons_succ]
    refine wpAnyH_take (i := 4) (oi := ⟨some 19, .load 87 (.tmp 6), _, _, _, _⟩) (v := .agg old.cs.toArray) rfl (by kernel_rfl) (by kernel_rfl) (by kernel_rfl) (fun _ _ _ h => h) (yieldsIf_load_mid (by rfl) 87 (.tmp 6) rfl g6 0 rfl old.cs _ (fun w hSw => hSw.2) Tryz.underlying87 rfl (i35.out _)) (by assumption) ?_
    simp only [Act.put, List.setIfInBounds_toArray, List.set_cons_zero, List.set_cons_succ]
    refine wpAnyH_ready (rs := [5]) (by kernel_rfl) (by simp) ?_
    refine AllReadyH.cons (o := ⟨some 20, .call ⟨.value (.func 73), #[.tmp 19], _⟩, _, _, _, _⟩) rfl (fun K hK => ?_) AllReadyH.nil
    go_simp
    refine (vblock old n HN.out.1 (by have := HN.out.2.1; have hle : X.ss.length ≤ 1024 := H.out.spc.le; omega) _).mono ?_
    rintro e w7 ⟨rfl, hb7⟩
    have HB7 := Lib.hid (p := Below w5.heap.size w5 w7) (below_nxt hb7 HB6.out.drew)
    clear hb7
    refine hK.out _ _ ⟨C4.out _ HB7.out, (HR6.out.kept HB7.out).all⟩ (fun _hH => ?_)
    clear hK K
    refine wpAnyH_ready (rs := [6]) (by kernel_rfl) (by simp) ?_
    refine AllReadyH.cons (o := ⟨some 21, .call ⟨.value (.func 111), #[.tmp 18, .tmp 20], _⟩, _, _, _, _⟩) rfl (fun K hK => ?_) AllReadyH.nil
    go_simp
    refine (S8.give_any (HV5.out.below HB7.out).spc (n : Int)).mono ?_
    rintro e w8 ⟨rfl, hs8, hg8⟩
    rw [HMV.out]
    rw [S8.chS_do HMV.out] at hs8
    have hc8 : Chg [X.c.gs] w7 w8 := (Chg.refl _ _).grown hg8 (fun k hk => by injection hk with hk; subst hk; exact .inl (List.mem_singleton.2 rfl))
    have HV8 := Lib.hid (p := VB b w8 FD FA g q gv L { X with S := gvS X.S old }) (by rw [gvS_one HN.out.1]; exact (HV5.out.below HB7.out).sturn hs8 hc8)
    have hng : ∀ {p : Nat}, w.heap.size ≤ p → p ∉ [X.c.gs] := fun hp => no1 (fun e => by have h1 : X.c.gs < w.heap.size := H.out.spc.lt; omega)
    have HR48 := Lib.hid (hc8.row (HR45.out.kept HB7.out) (hng HG4.out))
    have HR58 := Lib.hid (hc8.row (HR55.out.kept HB7.out) (hng HG5.out))
    have HR68 := Lib.hid (hc8.row (HR6.out.kept HB7.out) (hng (Nat.le_trans HB2.out.size HG6.out)))
    have C48 := Lib.hid (p := w8.cell? ⟨g, 4, none⟩ = some (.pointer (some ⟨X.c.gs, 0, none⟩))) (by have z := VAt.gs HV8.out.row; exact z)
    have HC8 := Lib.hid (p := Chg [g, X.c.gn, X.c.gs] w w8) ((Chg.of (F := [g, X.c.gn, X.c.gs]) (below_nxt HB7.out HB5.out)).trans hc8 (fun j hj => .inl (by rw [List.mem_singleton] at hj; subst hj; simp)))
    clear hs8 hg8 hc8 hng
    refine hK.out _ _ ⟨C48.out, HR68.out.all⟩ (fun _hH => ?_)
    clear hK K
    refine wpAnyH_done (by kernel_rfl) ?_ _
    have HV9 := HV8
    have HR49 := HR48
    have HR59 := HR58
    have HC9 := HC8
    have c04 := pc2_0 HR48.out
    have h9 := HV9.out
    go_wp2_with (first
      | (refine step_load rfl 26 rfl 87 (.tmp 5) rfl g5 rfl r.cs _ HR59.out.all Tryz.underlying87 rfl (i35.out _) ?_)
      | (refine wpList_store_mid rfl 87 (.tmp 28) (.tmp 26) rfl g 7 r.cs.toArray rfl rfl (by rw [List.size_toArray, RecV.cs_len]; exact HV9.out.top_there) (by rw [List.size_toArray]; exact i35.out _) (all_oneCell_toArray (RecV.cs_one _)) ?_))
    go_end0
    refine ⟨rfl, Lib.hid ?_, Lib.hid (HC9.out.grown (grown_setsA r.cs w8 7) (fun k hk => by injection hk with hk; subst hk; exact .inl (by simp)))⟩
    have z := h9.p_top r
    rw [← HX2.out]
    unfold VX.repl
    rw [HOD.out]
    exact z.mono (Nat.le_succ _) HQ.out
set_option maxHeartbeats 4000000 in
theorem vrepl_node (h : VB b w FD FA g q gv L X) (r : RecV) (l i : Nat) (hl : l + 1 ≤ 1024) (hi : i ≤ 1024) (hold : Held X.ss.length X.S (tr X.c.top X.N (l + 1) i)) (hq : q + 1 ≤ 900000) :
    Calls Tryz.prog 86 #[.pointer (some ⟨g, 0, none⟩), pv (l + 1) i, .agg r.cs.toArray] w (VRp b w FD FA g (q + 1) gv L (X.repl r (l + 1) i) [g, X.c.gn, X.c.gs]) := by
  have i35 := Lib.hid (p := ∀ r : RecV, (Tryz.prog.info? 87).map (·.size) = some r.cs.length) (fun r => by rw [r.cs_len]; exact info_rec)
  have i140 := Lib.hid (p := ∀ Q : Nat → RecV, (Tryz.prog.info? 132).map (·.size) = some (recsC Q).length) (fun Q => by rw [recsC_len]; exact info_recs)
  have i2 := Lib.hid info_spot
  have hz := Lib.hid zero_rec
  have hz4 := Lib.hid zero_recs
  have H := Lib.hid h
  have HOLD := Lib.hid hold
  have HQ := Lib.hid hq
  have HI := Lib.hid (p := i ≤ 1024 ∧ l + 1 ≤ 1024) ⟨hi, hl⟩
  obtain ⟨old, hod⟩ : ∃ old, tr X.c.top X.N (l + 1) i = old := ⟨_, rfl⟩
  obtain ⟨X2, hX2⟩ : ∃ X2, X.repl r (l + 1) i = X2 := ⟨_, rfl⟩
  have HX2 := Lib.hid hX2
  have HREC := Lib.hid (p := ∀ w1, Below w.heap.size w w1 → Calls Tryz.prog 46 #[.pointer (some ⟨g, 0, none⟩), pv (l + 1) i] w1 fun e w' => e = .returned (.agg old.cs.toArray) ∧ Below w1.heap.size w1 w') (fun w1 hb => by rw [← hod]; exact vrecord g X.c q X.N (l + 1) i hl hi w1 (h.row.kept hb) (h.nodes.below hb))
  have HUP := Lib.hid (p := ∀ w1, Calls Tryz.prog 75 #[pv (l + 1) i] w1 fun e w' => e = .returned (.tuple #[pv l (i / 4), .int .i64 ((i % 4 : Nat) : Int)]) ∧ Below w1.heap.size w1 w') (fun w1 => vup l i (by omega) hi w1)
  obtain ⟨L1, hL1⟩ : ∃ L1, l + 1 = L1 := ⟨_, rfl⟩
  have hl0 : ((L1 : Int) == 0) = false := beq_false_of_ne (by omega)
  have HIK := Lib.hid (p := i % 4 < 4 ∧ i / 4 ≤ 1024 ∧ l ≤ 1024) ⟨by omega, by omega, by omega⟩
  obtain ⟨up, hup⟩ : ∃ up, i / 4 = up := ⟨_, rfl⟩
  obtain ⟨kk, hkk⟩ : ∃ kk, i % 4 = kk := ⟨_, rfl⟩
  have HUPK := Lib.hid (p := i / 4 = up ∧ i % 4 = kk) ⟨hup, hkk⟩
  rw [hup, hkk] at HUP HIK
  rw [hX2]
  rw [hod] at HOLD
  have HOD := Lib.hid hod
  rw [hL1] at HREC HUP ⊢
  rw [pv_cs] at HREC HUP ⊢
  rw [pv_cs] at HUP
  clear h hold hq hi hl hod hX2 hL1 hup hkk
  cases hld : old.ld
  · have HA0 := Lib.hid (p := old.a = 0) (by unfold RecV.ld at hld; simpa using hld)
    go_enter Tryz.func86, Tryz.ntmps86
    go_wp2_with (first
      | (refine step_box rfl 4 rfl 99 _ rfl (pc2 L1 i) rfl ?_; intro g4 w1 hr1 hg1 hb1 hs1; have HR4 := Lib.hid hr1; have HB1 := Lib.hid hb1; have HG4 := Lib.hid (p := w.heap.size ≤ g4) (Nat.le_of_eq hg1.out.symm); clear hr1 hg1 hb1 hs1)
      | (refine step_box rfl 5 rfl 87 _ rfl r.cs rfl ?_; intro g5 w2 hr2 hg2 hb2 hs2; have HR5 := Lib.hid hr2; have HR42 := Lib.hid (HR4.out.kept hb2); have HB2 := Lib.hid (below_nxt hb2 HB1.out); have HG5 := Lib.hid (p := w.heap.size ≤ g5) (by rw [hg2.out]; exact HB1.out.size); clear hr2 hg2 hb2 hs2)
      | (refine step_load rfl 11 rfl 99 (.tmp 4) rfl g4 rfl (pc2 L1 i) _ HR42.out.all Tryz.underlying99 rfl i2.out ?_)
      | (go_at_call 46; refine (HREC.out _ HB2.out).mono ?_; rintro e w3 ⟨rfl, hb3⟩; have HB3 := Lib.hid (below_nxt hb3 HB2.out); have HR43 := Lib.hid (HR42.out.kept hb3); have HR53 := Lib.hid (HR5.out.kept hb3); have HSZ3 := Lib.hid hb3.size; clear hb3)
      | (refine step_alloc rfl 6 rfl 87 rfl _ hz.out ?_; intro g6 w4 hr6 hg6 hb6 hs6; have HR64 := Lib.hid hr6; have HB4 := Lib.hid (below_nxt hb6 HB3.out); have HR44 := Lib.hid (HR43.out.kept hb6); have HR54 := Lib.hid (HR53.out.kept hb6); have HG6 := Lib.hid (p := w2.heap.size ≤ g6) (by rw [hg6.out]; exact HSZ3.out); clear hr6 hg6 hb6 hs6)
      | (refine step_store rfl 87 (.tmp 6) (.tmp 12) rfl g6 rfl _ _ old.cs rfl HR64.out (by rw [RecV.cs_len, RecV.cs_len]) (i35.out _) (RecV.cs_one _) ?_; intro w5 hr6 hg6 hs6
         have HR6 := Lib.hid hr6
         have HB5 := Lib.hid (p := Below w.heap.size w w5) (HB4.out.grown hg6 HB4.out.size (fun q hq => by injection hq with hq; subst hq; exact Nat.le_trans HB2.out.size HG6.out))
         have HR45 := Lib.hid (HR44.out.grown hg6 (fun e => by have h1 : g4 = g6 := Option.some.inj e; have h2 := HR42.out.lt; have h3 := HG6.out; omega))
         have HR55 := Lib.hid (HR54.out.grown hg6 (fun e => by have h1 : g5 = g6 := Option.some.inj e; have h2 := HR5.out.lt; have h3 := HG6.out; omega))
         have HV5 := Lib.hid (H.out.below HB5.out)
         have C4 := Lib.hid (p := ∀ w7, Below w5.heap.size w5 w7 → w7.cell? ⟨g, 4, none⟩ = some (.pointer (some ⟨X.c.gs, 0, none⟩))) (fun w7 hb => VAt.gs (HV5.out.row.kept hb))
         clear hr6 hg6 hs6)
      | (refine step_load rfl 13 rfl 87 (.tmp 6) rfl g6 rfl old.cs _ HR6.out.all Tryz.underlying87 rfl (i35.out _) ?_)
      | (go_at_call 51; refine (vleads old _).mono ?_; rintro e w6 ⟨rfl, hb6⟩; rw [hld]; have HB6 := Lib.hid hb6
         have c04 := pc2_0 (HR45.out.kept hb6)
         have HV9 := Lib.hid (p := VB b w6 FD FA g q gv L { X with S := gvS X.S old }) (by rw [gvS_far HA0.out]; exact HV5.out.below hb6)
         have h9 := HV9.out
         have HR49 := Lib.hid (HR45.out.kept hb6)
         have HR59 := Lib.hid (HR55.out.kept hb6)
         have HC9 := Lib.hid (p := Chg [g, X.c.gn, X.c.gs] w w6) (.of (below_nxt hb6 HB5.out)); clear hb6)
      | (refine step_load rfl 30 rfl 99 (.tmp 4) rfl g4 rfl (pc2 L1 i) _ HR49.out.all Tryz.underlying99 rfl i2.out ?_)
      | (go_at_call 75; refine (HUP.out _).mono ?_; rintro e w10 ⟨rfl, hb10⟩; have HB10 := Lib.hid hb10; clear hb10)
      | (refine step_alloc rfl 7 rfl 99 rfl _ zero_spot ?_; intro g7 w11 hr11 hg11 hb11 hs11; have HR7a := Lib.hid hr11; have HB11 := Lib.hid (below_nxt hb11 HB10.out); have HG7 := Lib.hid (p := w6.heap.size ≤ g7) (by rw [hg11.out]; exact HB10.out.size); clear hr11 hg11 hb11 hs11)
      | (refine step_store rfl 99 (.tmp 7) (.tmp 32) rfl g7 rfl _ _ (pc2 l up) rfl HR7a.out rfl i2.out (spot_one _ _) ?_; intro w12 hr12 hg12 hs12; have HR7 := Lib.hid hr12; have HB12 := Lib.hid (p := Below w6.heap.size w6 w12) (HB11.out.grown hg12 HB11.out.size (fun q hq => by injection hq with hq; subst hq; exact HG7.out)); clear hr12 hg12 hs12))
    have HV12 := Lib.hid (h9.below HB12.out)
    have HR512 := Lib.hid (HR59.out.kept HB12.out)
    have HS := Lib.hid (p := ∀ w2, Below w12.heap.size w12 w2 → MN w2 X.c.gn q X.N ∧ w2.cell? ⟨g, 42, none⟩ = some (.map (some X.c.gn)) ∧ Row w2 g7 99 (pc2 l up)) (fun w2 hb => ⟨(HV12.out.below hb).nodes, VAt.gn (HV12.out.row.kept hb), HR7.out.kept hb⟩)
    clear h9 c04
    refine wp_region_held_drew (S := fun W => MN W X.c.gn q X.N ∧ W.cell? ⟨g, 42, none⟩ = some (.map (some X.c.gn)) ∧ Row W g7 99 (pc2 l up)) (by kernel_rfl) (HS.out _ (below_drw _)) (fun hHeld => ?_)
    refine wpAnyH_take (i := 0) (oi := ⟨some 34, .move (.tmp 0), _, _, _, _⟩) (v := .pointer (some ⟨g, 0, none⟩)) rfl (by kernel_rfl) (by kernel_rfl) (by kernel_rfl) (fun _ _ _ h => h) (.inl ⟨by rfl, fun w hSw => by go_simp⟩) (by assumption) ?_
    simp only [Act.put, List.setIfInBounds_toArray, List.set_cons_zero, List.set_cons_succ]
    refine wpAnyH_take (i := 1) (oi := ⟨some 35, .nilCheck (.tmp 34), _, _, _, _⟩) (v := .pointer (some ⟨g, 0, none⟩)) rfl (by kernel_rfl) (by kernel_rfl) (by kernel_rfl) (fun _ _ _ h => h) (.inl ⟨by rfl, fun w hSw => by go_simp⟩) (by assumption) ?_
    simp only [Act.put, List.setIfInBounds_toArray, List.set_cons_zero, List.set_cons_succ]
    refine wpAnyH_take (i := 2) (oi := ⟨some 36, .fieldAddr 90 (.tmp 35) 8, _, _, _, _⟩) (v := .pointer (some ⟨g, 42, none⟩)) rfl (by kernel_rfl) (by kernel_rfl) (by kernel_rfl) (fun _ _ _ h => h) (.inl ⟨by rfl, fun w hSw => by go_simp⟩) (by assumption) ?_
    simp only [Act.put, List.setIfInBounds_toArray, List.set_cons_zero, List.set_cons_succ]
    refine wpAnyH_take (i := 3) (oi := ⟨some 37, .load 82 (.tmp 36), _, _, _, _⟩) (v := .map (some X.c.gn)) rfl (by kernel_rfl) (by kernel_rfl) (by kernel_rfl) (fun _ _ _ h => h) (.inl ⟨by rfl, fun w hSw => by have z := hSw.2.1; go_simp⟩) (by assumption) ?_
    simp only [Act.put, List.setIfInBounds_toArray, List.set_cons_zero, List.set_cons_succ]
    refine wpAnyH_take (i := 4) (oi := ⟨some 38, .load 99 (.tmp 7), _, _, _, _⟩) (v := .agg (pc2 l up).toArray) rfl (by kernel_rfl) (by kernel_rfl) (by kernel_rfl) (fun _ _ _ h => h) (yieldsIf_load_mid (by rfl) 99 (.tmp 7) rfl g7 0 rfl (pc2 l up) _ (fun w hSw => Row.all hSw.2.2) Tryz.underlying99 rfl i2.out) (by assumption) ?_
    simp only [Act.put, List.setIfInBounds_toArray, List.set_cons_zero, List.set_cons_succ]
    refine wpAnyH_take (i := 5) (oi := ⟨some 39, .lookup 82 (.tmp 37) (.tmp 38) false, _, _, _, _⟩) (v := .agg (recsC (X.N l up)).toArray) rfl (by kernel_rfl) (by kernel_rfl) (by kernel_rfl) (fun _ _ _ h => h) (.inl ⟨by rfl, fun w hSw => by have z := hSw.1.look HIK.out.2.2 HIK.out.2.1; rw [pv_cs] at z; go_simp⟩) (by assumption) ?_
    simp only [Act.put, List.setIfInBounds_toArray, List.set_cons_zero, List.set_cons_succ]
    refine wpAnyH_ready (rs := [6]) (by kernel_rfl) (by simp) ?_
    refine AllReadyH.cons (o := ⟨some 9, .alloc 132, _, _, _, _⟩) rfl (fun K hK => ?_) AllReadyH.nil
    refine st_alloc (by rfl) 132 rfl _ hz4.out ?_
    intro g9 w13 hr13 hg13 hb13
    have HR9a := Lib.hid hr13
    have HB13 := Lib.hid (p := Below w12.heap.size w12 w13) (below_nxt hb13 (below_drw _))
    have HG9 := Lib.hid (p := w12.heap.size ≤ g9) (by rw [hg13.out]; exact Nat.le_refl _)
    clear hr13 hg13 hb13
    refine hK.out _ _ (HS.out _ HB13.out) (fun _hH => ?_)
    clear hK K
    refine wpAnyH_ready (rs := [7]) (by kernel_rfl) (by simp) ?_
    refine AllReadyH.cons (o := ⟨none, .store 132 (.tmp 9) (.tmp 39), _, _, _, _⟩) rfl (fun K hK => ?_) AllReadyH.nil
    refine st_store (by rfl) 132 (.tmp 9) (.tmp 39) rfl g9 (by rfl) 132 _ (recsC (X.N l up)) (by rfl) HR9a.out (by rw [recsC_len, recsC_len]) (i140.out _) (recsC_one _) ?_
    intro w14 hr14 hg14
    have HR9 := Lib.hid hr14
    have HB14 := Lib.hid (p := Below w12.heap.size w12 w14) (HB13.out.grown hg14 HB13.out.size (fun q hq => by injection hq with hq; subst hq; exact HG9.out))
    clear hr14 hg14
    refine hK.out _ _ (HS.out _ HB14.out) (fun _hH => ?_)
    clear hK K
    refine wpAnyH_done (by kernel_rfl) ?_ _
    have hk0 : (0 : Int) ≤ (kk : Int) := by omega
    have hk4 : (kk : Int) < 4 := by have := HIK.out.1; omega
    go_wp2_with (first
      | (refine step_load rfl 41 rfl 87 (.tmp 5) rfl g5 rfl r.cs _ (HR512.out.kept HB14.out).all Tryz.underlying87 rfl (i35.out _) ?_)
      | (refine wpList_store_mid rfl 87 (.tmp 42) (.tmp 41) rfl g9 (kk * 35) r.cs.toArray rfl rfl (by rw [List.size_toArray, RecV.cs_len]; exact HR9.out.is_there (kk * 35) 35 (by rw [recsC_len]; have := HIK.out.1; omega)) (by rw [List.size_toArray]; exact i35.out _) (all_oneCell_toArray (RecV.cs_one _)) ?_))
    have hr15 := row_cellsAt r.cs (kk * 35) w14 _ HR9.out (by rw [recsC_len, RecV.cs_len]; have := HIK.out.1; omega)
    rw [RecV.cs_len, recsC_set (X.N l up) kk HIK.out.1 r] at hr15
    have hg15 := grown_setsA (g := g9) r.cs w14 (kk * 35)
    obtain ⟨w15, hw15⟩ : ∃ w15, w14.setCells g9 (kk * 35) r.cs = w15 := ⟨_, rfl⟩
    rw [hw15] at hr15 hg15 ⊢
    have HR15 := Lib.hid (p := Row w15 g9 132 (recsC (setK (X.N l up) kk r))) hr15
    have HB15 := Lib.hid (p := Below w12.heap.size w12 w15) (HB14.out.grown hg15 HB14.out.size (fun q hq => by injection hq with hq; subst hq; exact HG9.out))
    clear hr15 hg15 hw15 hk0 hk4
    have HV15 := HV12.out.below HB15.out.drew
    obtain ⟨w16, r16, m16, g16⟩ := HV15.nodes.put (l := l) (i := up) HIK.out.2.2 HIK.out.2.1 (by have := HQ.out; unfold maxLen; omega) (setK (X.N l up) kk r)
    change (Instr.mapUpdate 82 (.map (some X.c.gn)) (.agg (pc2 l up).toArray) (.agg (recsC (setK (X.N l up) kk r)).toArray)).run Tryz.prog w15.drew = .ok () w16 at r16
    have c16 : Chg [X.c.gn] w15.drew w16 := (Chg.refl _ _).grown g16 (fun k hk => by injection hk with hk; subst hk; exact .inl (List.mem_singleton.2 rfl))
    have HV16 := Lib.hid (HV15.nturn (q' := q + 1) m16 c16 (Nat.le_succ _) HQ.out)
    have nm : ∀ {p : Nat} {t : TypeId} {cs : List Value}, Row w15.drew p t cs → p ∉ [X.c.gn] := fun hr => no1 (fun e => HV15.nodes.no_cells _ _ _ (e ▸ hr.heap))
    have HR715 := Lib.hid (HR7.out.kept HB15.out.drew)
    have HR716 := Lib.hid (c16.row HR715.out (nm HR715.out))
    have HR916 := Lib.hid (c16.row HR15.out.drew (nm HR15.out.drew))
    have C42 := Lib.hid (p := w15.drew.cell? ⟨g, 42, none⟩ = some (.map (some X.c.gn))) (by have z := VAt.gn HV15.row; exact z)
    have C42b := Lib.hid (p := w16.cell? ⟨g, 42, none⟩ = some (.map (some X.c.gn))) (by have z := VAt.gn HV16.out.row; exact z)
    have HCE := Lib.hid (p := Chg [g, X.c.gn, X.c.gs] w w16) ((HC9.out.trans (Chg.of (F := []) (below_nxt HB15.out.drew HB12.out)) (fun j hj => by cases hj)).trans c16 (fun j hj => .inl (by rw [List.mem_singleton] at hj; subst hj; simp)))
    clear HV15 m16 g16 c16 nm
    refine wp_region_held_drew (S := fun W => W.cell? ⟨g, 42, none⟩ = some (.map (some X.c.gn)) ∧ Row W g7 99 (pc2 l up) ∧ Row W g9 132 (recsC (setK (X.N l up) kk r))) (by kernel_rfl) ⟨C42.out, HR715.out, HR15.out.drew⟩ (fun hHeld => ?_)
    refine wpAnyH_take (i := 0) (oi := ⟨some 43, .move (.tmp 0), _, _, _, _⟩) (v := .pointer (some ⟨g, 0, none⟩)) rfl (by kernel_rfl) (by kernel_rfl) (by kernel_rfl) (fun _ _ _ h => h) (.inl ⟨by rfl, fun w hSw => by go_simp⟩) (by assumption) ?_
    simp only [Act.put, List.setIfInBounds_toArray, List.set_cons_zero, List.set_cons_succ]
    refine wpAnyH_take (i := 1) (oi := ⟨some 44, .nilCheck (.tmp 43), _, _, _, _⟩) (v := .pointer (some ⟨g, 0, none⟩)) rfl (by kernel_rfl) (by kernel_rfl) (by kernel_rfl) (fun _ _ _ h => h) (.inl ⟨by rfl, fun w hSw => by go_simp⟩) (by assumption) ?_
    simp only [Act.put, List.setIfInBounds_toArray, List.set_cons_zero, List.set_cons_succ]
    refine wpAnyH_take (i := 2) (oi := ⟨some 45, .fieldAddr 90 (.tmp 44) 8, _, _, _, _⟩) (v := .pointer (some ⟨g, 42, none⟩)) rfl (by kernel_rfl) (by kernel_rfl) (by kernel_rfl) (fun _ _ _ h => h) (.inl ⟨by rfl, fun w hSw => by go_simp⟩) (by assumption) ?_
    simp only [Act.put, List.setIfInBounds_toArray, List.set_cons_zero, List.set_cons_succ]
    refine wpAnyH_take (i := 3) (oi := ⟨some 46, .load 82 (.tmp 45), _, _, _, _⟩) (v := .map (some X.c.gn)) rfl (by kernel_rfl) (by kernel_rfl) (by kernel_rfl) (fun _ _ _ h => h) (.inl ⟨by rfl, fun w hSw => by have z := hSw.1; go_simp⟩) (by assumption) ?_
    simp only [Act.put, List.setIfInBounds_toArray, List.set_cons_zero, List.set_cons_succ]
    refine wpAnyH_take (i := 4) (oi := ⟨some 47, .load 99 (.tmp 7), _, _, _, _⟩) (v := .agg (pc2 l up).toArray) rfl (by kernel_rfl) (by kernel_rfl) (by kernel_rfl) (fun _ _ _ h => h) (yieldsIf_load_mid (by rfl) 99 (.tmp 7) rfl g7 0 rfl (pc2 l up) _ (fun w hSw => Row.all hSw.2.1) Tryz.underlying99 rfl i2.out) (by assumption) ?_
    simp only [Act.put, List.setIfInBounds_toArray, List.set_cons_zero, List.set_cons_succ]
    refine wpAnyH_take (i := 5) (oi := ⟨some 48, .load 132 (.tmp 9), _, _, _, _⟩) (v := .agg (recsC (setK (X.N l up) kk r)).toArray) rfl (by kernel_rfl) (by kernel_rfl) (by kernel_rfl) (fun _ _ _ h => h) (yieldsIf_load_mid (by rfl) 132 (.tmp 9) rfl g9 0 rfl (recsC (setK (X.N l up) kk r)) _ (fun w hSw => Row.all hSw.2.2) Tryz.underlying132 rfl (i140.out _)) (by assumption) ?_
    simp only [Act.put, List.setIfInBounds_toArray, List.set_cons_zero, List.set_cons_succ]
    refine wpAnyH_ready (rs := [6]) (by kernel_rfl) (by simp) ?_
    refine AllReadyH.cons (o := ⟨none, .mapUpdate 82 (.tmp 46) (.tmp 47) (.tmp 48), _, _, _, _⟩) rfl (fun K hK => ?_) AllReadyH.nil
    go_simp
    refine hK.out _ _ ⟨C42b.out, HR716.out, HR916.out⟩ (fun _hH => ?_)
    clear hK K
    refine wpAnyH_done (by kernel_rfl) ?_ _
    go_wp2
    go_end0
    refine ⟨rfl, Lib.hid ?_, HCE⟩
    have e2 : X2 = { X with N := upN X.N l up (setK (X.N l up) kk r), S := gvS X.S old } := by rw [← HX2.out, ← HOD.out, ← HUPK.out.1, ← HUPK.out.2]; rfl
    rw [e2]
    exact HV16.out
  · obtain ⟨n, hn⟩ : ∃ n : Nat, old.a = (n : Int) + 1 ∧ n < X.ss.length ∧ X.S n = 1 := by
      rcases HOLD.out with h0 | hn
      · unfold RecV.ld at hld
        simp [h0] at hld
      · exact hn
    have HN := Lib.hid hn
    have hmv : S8.mv X.ss.length X.S (n : Int) 1 = 0 := by rw [S8.mv_in hn.2.1, hn.2.2]; rfl
    have HMV := Lib.hid hmv
    clear hn hmv
    go_enter Tryz.func86, Tryz.ntmps86
    go_wp2_with (first
      | (refine step_box rfl 4 rfl 99 _ rfl (pc2 L1 i) rfl ?_; intro g4 w1 hr1 hg1 hb1 hs1; have HR4 := Lib.hid hr1; have HB1 := Lib.hid hb1; have HG4 := Lib.hid (p := w.heap.size ≤ g4) (Nat.le_of_eq hg1.out.symm); clear hr1 hg1 hb1 hs1)
      | (refine step_box rfl 5 rfl 87 _ rfl r.cs rfl ?_; intro g5 w2 hr2 hg2 hb2 hs2; have HR5 := Lib.hid hr2; have HR42 := Lib.hid (HR4.out.kept hb2); have HB2 := Lib.hid (below_nxt hb2 HB1.out); have HG5 := Lib.hid (p := w.heap.size ≤ g5) (by rw [hg2.out]; exact HB1.out.size); clear hr2 hg2 hb2 hs2)
      | (refine step_load rfl 11 rfl 99 (.tmp 4) rfl g4 rfl (pc2 L1 i) _ HR42.out.all Tryz.underlying99 rfl i2.out ?_)
      | (go_at_call 46; refine (HREC.out _ HB2.out).mono ?_; rintro e w3 ⟨rfl, hb3⟩; have HB3 := Lib.hid (below_nxt hb3 HB2.out); have HR43 := Lib.hid (HR42.out.kept hb3); have HR53 := Lib.hid (HR5.out.kept hb3); have HSZ3 := Lib.hid hb3.size; clear hb3)
      | (refine step_alloc rfl 6 rfl 87 rfl _ hz.out ?_; intro g6 w4 hr6 hg6 hb6 hs6; have HR64 := Lib.hid hr6; have HB4 := Lib.hid (below_nxt hb6 HB3.out); have HR44 := Lib.hid (HR43.out.kept hb6); have HR54 := Lib.hid (HR53.out.kept hb6); have HG6 := Lib.hid (p := w2.heap.size ≤ g6) (by rw [hg6.out]; exact HSZ3.out); clear hr6 hg6 hb6 hs6)
      | (refine step_store rfl 87 (.tmp 6) (.tmp 12) rfl g6 rfl _ _ old.cs rfl HR64.out (by rw [RecV.cs_len, RecV.cs_len]) (i35.out _) (RecV.cs_one _) ?_; intro w5 hr6 hg6 hs6
         have HR6 := Lib.hid hr6
         have HB5 := Lib.hid (p := Below w.heap.size w w5) (HB4.out.grown hg6 HB4.out.size (fun q hq => by injection hq with hq; subst hq; exact Nat.le_trans HB2.out.size HG6.out))
         have HR45 := Lib.hid (HR44.out.grown hg6 (fun e => by have h1 : g4 = g6 := Option.some.inj e; have h2 := HR42.out.lt; have h3 := HG6.out; omega))
         have HR55 := Lib.hid (HR54.out.grown hg6 (fun e => by have h1 : g5 = g6 := Option.some.inj e; have h2 := HR5.out.lt; have h3 := HG6.out; omega))
         have HV5 := Lib.hid (H.out.below HB5.out)
         have C4 := Lib.hid (p := ∀ w7, Below w5.heap.size w5 w7 → w7.cell? ⟨g, 4, none⟩ = some (.pointer (some ⟨X.c.gs, 0, none⟩))) (fun w7 hb => VAt.gs (HV5.out.row.kept hb))
         clear hr6 hg6 hs6)
      | (refine step_load rfl 13 rfl 87 (.tmp 6) rfl g6 rfl old.cs _ HR6.out.all Tryz.underlying87 rfl (i35.out _) ?_)
      | (go_at_call 51; refine (vleads old _).mono ?_; rintro e w6 ⟨rfl, hb6⟩; rw [hld]; have HB6 := Lib.hid hb6; clear hb6))
    refine wp_region_held_drew (S := fun W => W.cell? ⟨g, 4, none⟩ = some (.pointer (some ⟨X.c.gs, 0, none⟩)) ∧ W.rangeAt g6 0 old.cs) (by kernel_rfl) ⟨C4.out _ (HB6.out.drew), (HR6.out.kept HB6.out.drew).all⟩ (fun hHeld => ?_)
    refine wpAnyH_take (i := 0) (oi := ⟨some 15, .move (.tmp 0), _, _, _, _⟩) (v := .pointer (some ⟨g, 0, none⟩)) rfl (by kernel_rfl) (by kernel_rfl) (by kernel_rfl) (fun _ _ _ h => h) (.inl ⟨by rfl, fun w hSw => by go_simp⟩) (by assumption) ?_
    simp only [Act.put, List.setIfInBounds_toArray, List.set_cons_zero, List.set_cons_succ]
    refine wpAnyH_take (i := 1) (oi := ⟨some 16, .nilCheck (.tmp 15), _, _, _, _⟩) (v := .pointer (some ⟨g, 0, none⟩)) rfl (by kernel_rfl) (by kernel_rfl) (by kernel_rfl) (fun _ _ _ h => h) (.inl ⟨by rfl, fun w hSw => by go_simp⟩) (by assumption) ?_
    simp only [Act.put, List.setIfInBounds_toArray, List.set_cons_zero, List.set_cons_succ]
    refine wpAnyH_take (i := 2) (oi := ⟨some 17, .fieldAddr 90 (.tmp 16) 4, _, _, _, _⟩) (v := .pointer (some ⟨g, 4, none⟩)) rfl (by kernel_rfl) (by kernel_rfl) (by kernel_rfl) (fun _ _ _ h => h) (.inl ⟨by rfl, fun w hSw => by go_simp⟩) (by assumption) ?_
    simp only [Act.put, List.setIfInBounds_toArray, List.set_cons_zero, List.set_cons_succ]
    refine wpAnyH_take (i := 3) (oi := ⟨some 18, .load 79 (.tmp 17), _, _, _, _⟩) (v := .pointer (some ⟨X.c.gs, 0, none⟩)) rfl (by kernel_rfl) (by kernel_rfl) (by kernel_rfl) (fun _ _ _ h => h) (.inl ⟨by rfl, fun w hSw => by have z := hSw.1; go_simp⟩) (by assumption) ?_
    simp only [Act.put, List.setIfInBounds_toArray, List.set_cons_zero, List.set_cons_succ]
    refine wpAnyH_take (i := 4) (oi := ⟨some 19, .load 87 (.tmp 6), _, _, _, _⟩) (v := .agg old.cs.toArray) rfl (by kernel_rfl) (by kernel_rfl) (by kernel_rfl) (fun _ _ _ h => h) (yieldsIf_load_mid (by rfl) 87 (.tmp 6) rfl g6 0 rfl old.cs _ (fun w hSw => hSw.2) Tryz.underlying87 rfl (i35.out _)) (by assumption) ?_
    simp only [Act.put, List.setIfInBounds_toArray, List.set_cons_zero, List.set_cons_succ]
    refine wpAnyH_ready (rs := [5]) (by kernel_rfl) (by simp) ?_
    refine AllReadyH.cons (o := ⟨some 20, .call ⟨.value (.func 73), #[.tmp 19], _⟩, _, _, _, _⟩) rfl (fun K hK => ?_) AllReadyH.nil
    go_simp
    refine (vblock old n HN.out.1 (by have := HN.out.2.1; have hle : X.ss.length ≤ 1024 := H.out.spc.le; omega) _).mono ?_
    rintro e w7 ⟨rfl, hb7⟩
    have HB7 := Lib.hid (p := Below w5.heap.size w5 w7) (below_nxt hb7 HB6.out.drew)
    clear hb7
    refine hK.out _ _ ⟨C4.out _ HB7.out, (HR6.out.kept HB7.out).all⟩ (fun _hH => ?_)
    clear hK K
    refine wpAnyH_ready (rs := [6]) (by kernel_rfl) (by simp) ?_
    refine AllReadyH.cons (o := ⟨some 21, .call ⟨.value (.func 111), #[.tmp 18, .tmp 20], _⟩, _, _, _, _⟩) rfl (fun K hK => ?_) AllReadyH.nil
    go_simp
    refine (S8.give_any (HV5.out.below HB7.out).spc (n : Int)).mono ?_
    rintro e w8 ⟨rfl, hs8, hg8⟩
    rw [HMV.out]
    rw [S8.chS_do HMV.out] at hs8
    have hc8 : Chg [X.c.gs] w7 w8 := (Chg.refl _ _).grown hg8 (fun k hk => by injection hk with hk; subst hk; exact .inl (List.mem_singleton.2 rfl))
    have HV8 := Lib.hid (p := VB b w8 FD FA g q gv L { X with S := gvS X.S old }) (by rw [gvS_one HN.out.1]; exact (HV5.out.below HB7.out).sturn hs8 hc8)
    have hng : ∀ {p : Nat}, w.heap.size ≤ p → p ∉ [X.c.gs] := fun hp => no1 (fun e => by have h1 : X.c.gs < w.heap.size := H.out.spc.lt; omega)
    have HR48 := Lib.hid (hc8.row (HR45.out.kept HB7.out) (hng HG4.out))
    have HR58 := Lib.hid (hc8.row (HR55.out.kept HB7.out) (hng HG5.out))
    have HR68 := Lib.hid (hc8.row (HR6.out.kept HB7.out) (hng (Nat.le_trans HB2.out.size HG6.out)))
    have C48 := Lib.hid (p := w8.cell? ⟨g, 4, none⟩ = some (.pointer (some ⟨X.c.gs, 0, none⟩))) (by have z := VAt.gs HV8.out.row; exact z)
    have HC8 := Lib.hid (p := Chg [g, X.c.gn, X.c.gs] w w8) ((Chg.of (F := [g, X.c.gn, X.c.gs]) (below_nxt HB7.out HB5.out)).trans hc8 (fun j hj => .inl (by rw [List.mem_singleton] at hj; subst hj; simp)))
    clear hs8 hg8 hc8 hng
    refine hK.out _ _ ⟨C48.out, HR68.out.all⟩ (fun _hH => ?_)
    clear hK K
    refine wpAnyH_done (by kernel_rfl) ?_ _
    have HV9 := HV8
    have HR49 := HR48
    have HR59 := HR58
    have HC9 := HC8
    have c04 := pc2_0 HR48.out
    have h9 := HV9.out
    go_wp2_with (first
      | (refine step_load rfl 30 rfl 99 (.tmp 4) rfl g4 rfl (pc2 L1 i) _ HR49.out.all Tryz.underlying99 rfl i2.out ?_)
      | (go_at_call 75; refine (HUP.out _).mono ?_; rintro e w10 ⟨rfl, hb10⟩; have HB10 := Lib.hid hb10; clear hb10)
      | (refine step_alloc rfl 7 rfl 99 rfl _ zero_spot ?_; intro g7 w11 hr11 hg11 hb11 hs11; have HR7a := Lib.hid hr11; have HB11 := Lib.hid (below_nxt hb11 HB10.out); have HG7 := Lib.hid (p := w8.heap.size ≤ g7) (by rw [hg11.out]; exact HB10.out.size); clear hr11 hg11 hb11 hs11)
      | (refine step_store rfl 99 (.tmp 7) (.tmp 32) rfl g7 rfl _ _ (pc2 l up) rfl HR7a.out rfl i2.out (spot_one _ _) ?_; intro w12 hr12 hg12 hs12; have HR7 := Lib.hid hr12; have HB12 := Lib.hid (p := Below w8.heap.size w8 w12) (HB11.out.grown hg12 HB11.out.size (fun q hq => by injection hq with hq; subst hq; exact HG7.out)); clear hr12 hg12 hs12))
    have HV12 := Lib.hid (h9.below HB12.out)
    have HR512 := Lib.hid (HR59.out.kept HB12.out)
    have HS := Lib.hid (p := ∀ w2, Below w12.heap.size w12 w2 → MN w2 X.c.gn q X.N ∧ w2.cell? ⟨g, 42, none⟩ = some (.map (some X.c.gn)) ∧ Row w2 g7 99 (pc2 l up)) (fun w2 hb => ⟨(HV12.out.below hb).nodes, VAt.gn (HV12.out.row.kept hb), HR7.out.kept hb⟩)
    clear h9 c04
    refine wp_region_held_drew (S := fun W => MN W X.c.gn q X.N ∧ W.cell? ⟨g, 42, none⟩ = some (.map (some X.c.gn)) ∧ Row W g7 99 (pc2 l up)) (by kernel_rfl) (HS.out _ (below_drw _)) (fun hHeld => ?_)
    refine wpAnyH_take (i := 0) (oi := ⟨some 34, .move (.tmp 0), _, _, _, _⟩) (v := .pointer (some ⟨g, 0, none⟩)) rfl (by kernel_rfl) (by kernel_rfl) (by kernel_rfl) (fun _ _ _ h => h) (.inl ⟨by rfl, fun w hSw => by go_simp⟩) (by assumption) ?_
    simp only [Act.put, List.setIfInBounds_toArray, List.set_cons_zero, List.set_cons_succ]
    refine wpAnyH_take (i := 1) (oi := ⟨some 35, .nilCheck (.tmp 34), _, _, _, _⟩) (v := .pointer (some ⟨g, 0, none⟩)) rfl (by kernel_rfl) (by kernel_rfl) (by kernel_rfl) (fun _ _ _ h => h) (.inl ⟨by rfl, fun w hSw => by go_simp⟩) (by assumption) ?_
    simp only [Act.put, List.setIfInBounds_toArray, List.set_cons_zero, List.set_cons_succ]
    refine wpAnyH_take (i := 2) (oi := ⟨some 36, .fieldAddr 90 (.tmp 35) 8, _, _, _, _⟩) (v := .pointer (some ⟨g, 42, none⟩)) rfl (by kernel_rfl) (by kernel_rfl) (by kernel_rfl) (fun _ _ _ h => h) (.inl ⟨by rfl, fun w hSw => by go_simp⟩) (by assumption) ?_
    simp only [Act.put, List.setIfInBounds_toArray, List.set_cons_zero, List.set_cons_succ]
    refine wpAnyH_take (i := 3) (oi := ⟨some 37, .load 82 (.tmp 36), _, _, _, _⟩) (v := .map (some X.c.gn)) rfl (by kernel_rfl) (by kernel_rfl) (by kernel_rfl) (fun _ _ _ h => h) (.inl ⟨by rfl, fun w hSw => by have z := hSw.2.1; go_simp⟩) (by assumption) ?_
    simp only [Act.put, List.setIfInBounds_toArray, List.set_cons_zero, List.set_cons_succ]
    refine wpAnyH_take (i := 4) (oi := ⟨some 38, .load 99 (.tmp 7), _, _, _, _⟩) (v := .agg (pc2 l up).toArray) rfl (by kernel_rfl) (by kernel_rfl) (by kernel_rfl) (fun _ _ _ h => h) (yieldsIf_load_mid (by rfl) 99 (.tmp 7) rfl g7 0 rfl (pc2 l up) _ (fun w hSw => Row.all hSw.2.2) Tryz.underlying99 rfl i2.out) (by assumption) ?_
    simp only [Act.put, List.setIfInBounds_toArray, List.set_cons_zero, List.set_cons_succ]
    refine wpAnyH_take (i := 5) (oi := ⟨some 39, .lookup 82 (.tmp 37) (.tmp 38) false, _, _, _, _⟩) (v := .agg (recsC (X.N l up)).toArray) rfl (by kernel_rfl) (by kernel_rfl) (by kernel_rfl) (fun _ _ _ h => h) (.inl ⟨by rfl, fun w hSw => by have z := hSw.1.look HIK.out.2.2 HIK.out.2.1; rw [pv_cs] at z; go_simp⟩) (by assumption) ?_
    simp only [Act.put, List.setIfInBounds_toArray, List.set_cons_zero, List.set_cons_succ]
    refine wpAnyH_ready (rs := [6]) (by kernel_rfl) (by simp) ?_
    refine AllReadyH.cons (o := ⟨some 9, .alloc 132, _, _, _, _⟩) rfl (fun K hK => ?_) AllReadyH.nil
    refine st_alloc (by rfl) 132 rfl _ hz4.out ?_
    intro g9 w13 hr13 hg13 hb13
    have HR9a := Lib.hid hr13
    have HB13 := Lib.hid (p := Below w12.heap.size w12 w13) (below_nxt hb13 (below_drw _))
    have HG9 := Lib.hid (p := w12.heap.size ≤ g9) (by rw [hg13.out]; exact Nat.le_refl _)
    clear hr13 hg13 hb13
    refine hK.out _ _ (HS.out _ HB13.out) (fun _hH => ?_)
    clear hK K
    refine wpAnyH_ready (rs := [7]) (by kernel_rfl) (by simp) ?_
    refine AllReadyH.cons (o := ⟨none, .store 132 (.tmp 9) (.tmp 39), _, _, _, _⟩) rfl (fun K hK => ?_) AllReadyH.nil
    refine st_store (by rfl) 132 (.tmp 9) (.tmp 39) rfl g9 (by rfl) 132 _ (recsC (X.N l up)) (by rfl) HR9a.out (by rw [recsC_len, recsC_len]) (i140.out _) (recsC_one _) ?_
    intro w14 hr14 hg14
    have HR9 := Lib.hid hr14
    have HB14 := Lib.hid (p := Below w12.heap.size w12 w14) (HB13.out.grown hg14 HB13.out.size (fun q hq => by injection hq with hq; subst hq; exact HG9.out))
    clear hr14 hg14
    refine hK.out _ _ (HS.out _ HB14.out) (fun _hH => ?_)
    clear hK K
    refine wpAnyH_done (by kernel_rfl) ?_ _
    have hk0 : (0 : Int) ≤ (kk : Int) := by omega
    have hk4 : (kk : Int) < 4 := by have := HIK.out.1; omega
    go_wp2_with (first
      | (refine step_load rfl 41 rfl 87 (.tmp 5) rfl g5 rfl r.cs _ (HR512.out.kept HB14.out).all Tryz.underlying87 rfl (i35.out _) ?_)
      | (refine wpList_store_mid rfl 87 (.tmp 42) (.tmp 41) rfl g9 (kk * 35) r.cs.toArray rfl rfl (by rw [List.size_toArray, RecV.cs_len]; exact HR9.out.is_there (kk * 35) 35 (by rw [recsC_len]; have := HIK.out.1; omega)) (by rw [List.size_toArray]; exact i35.out _) (all_oneCell_toArray (RecV.cs_one _)) ?_))
    have hr15 := row_cellsAt r.cs (kk * 35) w14 _ HR9.out (by rw [recsC_len, RecV.cs_len]; have := HIK.out.1; omega)
    rw [RecV.cs_len, recsC_set (X.N l up) kk HIK.out.1 r] at hr15
    have hg15 := grown_setsA (g := g9) r.cs w14 (kk * 35)
    obtain ⟨w15, hw15⟩ : ∃ w15, w14.setCells g9 (kk * 35) r.cs = w15 := ⟨_, rfl⟩
    rw [hw15] at hr15 hg15 ⊢
    have HR15 := Lib.hid (p := Row w15 g9 132 (recsC (setK (X.N l up) kk r))) hr15
    have HB15 := Lib.hid (p := Below w12.heap.size w12 w15) (HB14.out.grown hg15 HB14.out.size (fun q hq => by injection hq with hq; subst hq; exact HG9.out))
    clear hr15 hg15 hw15 hk0 hk4
    have HV15 := HV12.out.below HB15.out.drew
    obtain ⟨w16, r16, m16, g16⟩ := HV15.nodes.put (l := l) (i := up) HIK.out.2.2 HIK.out.2.1 (by have := HQ.out; unfold maxLen; omega) (setK (X.N l up) kk r)
    change (Instr.mapUpdate 82 (.map (some X.c.gn)) (.agg (pc2 l up).toArray) (.agg (recsC (setK (X.N l up) kk r)).toArray)).run Tryz.prog w15.drew = .ok () w16 at r16
    have c16 : Chg [X.c.gn] w15.drew w16 := (Chg.refl _ _).grown g16 (fun k hk => by injection hk with hk; subst hk; exact .inl (List.mem_singleton.2 rfl))
    have HV16 := Lib.hid (HV15.nturn (q' := q + 1) m16 c16 (Nat.le_succ _) HQ.out)
    have nm : ∀ {p : Nat} {t : TypeId} {cs : List Value}, Row w15.drew p t cs → p ∉ [X.c.gn] := fun hr => no1 (fun e => HV15.nodes.no_cells _ _ _ (e ▸ hr.heap))
    have HR715 := Lib.hid (HR7.out.kept HB15.out.drew)
    have HR716 := Lib.hid (c16.row HR715.out (nm HR715.out))
    have HR916 := Lib.hid (c16.row HR15.out.drew (nm HR15.out.drew))
    have C42 := Lib.hid (p := w15.drew.cell? ⟨g, 42, none⟩ = some (.map (some X.c.gn))) (by have z := VAt.gn HV15.row; exact z)
    have C42b := Lib.hid (p := w16.cell? ⟨g, 42, none⟩ = some (.map (some X.c.gn))) (by have z := VAt.gn HV16.out.row; exact z)
    have HCE := Lib.hid (p := Chg [g, X.c.gn, X.c.gs] w w16) ((HC9.out.trans (Chg.of (F := []) (below_nxt HB15.out.drew HB12.out)) (fun j hj => by cases hj)).trans c16 (fun j hj => .inl (by rw [List.mem_singleton] at hj; subst hj; simp)))
    clear HV15 m16 g16 c16 nm
    refine wp_region_held_drew (S := fun W => W.cell? ⟨g, 42, none⟩ = some (.map (some X.c.gn)) ∧ Row W g7 99 (pc2 l up) ∧ Row W g9 132 (recsC (setK (X.N l up) kk r))) (by kernel_rfl) ⟨C42.out, HR715.out, HR15.out.drew⟩ (fun hHeld => ?_)
    refine wpAnyH_take (i := 0) (oi := ⟨some 43, .move (.tmp 0), _, _, _, _⟩) (v := .pointer (some ⟨g, 0, none⟩)) rfl (by kernel_rfl) (by kernel_rfl) (by kernel_rfl) (fun _ _ _ h => h) (.inl ⟨by rfl, fun w hSw => by go_simp⟩) (by assumption) ?_
    simp only [Act.put, List.setIfInBounds_toArray, List.set_cons_zero, List.set_cons_succ]
    refine wpAnyH_take (i := 1) (oi := ⟨some 44, .nilCheck (.tmp 43), _, _, _, _⟩) (v := .pointer (some ⟨g, 0, none⟩)) rfl (by kernel_rfl) (by kernel_rfl) (by kernel_rfl) (fun _ _ _ h => h) (.inl ⟨by rfl, fun w hSw => by go_simp⟩) (by assumption) ?_
    simp only [Act.put, List.setIfInBounds_toArray, List.set_cons_zero, List.set_cons_succ]
    refine wpAnyH_take (i := 2) (oi := ⟨some 45, .fieldAddr 90 (.tmp 44) 8, _, _, _, _⟩) (v := .pointer (some ⟨g, 42, none⟩)) rfl (by kernel_rfl) (by kernel_rfl) (by kernel_rfl) (fun _ _ _ h => h) (.inl ⟨by rfl, fun w hSw => by go_simp⟩) (by assumption) ?_
    simp only [Act.put, List.setIfInBounds_toArray, List.set_cons_zero, List.set_cons_succ]
    refine wpAnyH_take (i := 3) (oi := ⟨some 46, .load 82 (.tmp 45), _, _, _, _⟩) (v := .map (some X.c.gn)) rfl (by kernel_rfl) (by kernel_rfl) (by kernel_rfl) (fun _ _ _ h => h) (.inl ⟨by rfl, fun w hSw => by have z := hSw.1; go_simp⟩) (by assumption) ?_
    simp only [Act.put, List.setIfInBounds_toArray, List.set_cons_zero, List.set_cons_succ]
    refine wpAnyH_take (i := 4) (oi := ⟨some 47, .load 99 (.tmp 7), _, _, _, _⟩) (v := .agg (pc2 l up).toArray) rfl (by kernel_rfl) (by kernel_rfl) (by kernel_rfl) (fun _ _ _ h => h) (yieldsIf_load_mid (by rfl) 99 (.tmp 7) rfl g7 0 rfl (pc2 l up) _ (fun w hSw => Row.all hSw.2.1) Tryz.underlying99 rfl i2.out) (by assumption) ?_
    simp only [Act.put, List.setIfInBounds_toArray, List.set_cons_zero, List.set_cons_succ]
    refine wpAnyH_take (i := 5) (oi := ⟨some 48, .load 132 (.tmp 9), _, _, _, _⟩) (v := .agg (recsC (setK (X.N l up) kk r)).toArray) rfl (by kernel_rfl) (by kernel_rfl) (by kernel_rfl) (fun _ _ _ h => h) (yieldsIf_load_mid (by rfl) 132 (.tmp 9) rfl g9 0 rfl (recsC (setK (X.N l up) kk r)) _ (fun w hSw => Row.all hSw.2.2) Tryz.underlying132 rfl (i140.out _)) (by assumption) ?_
    simp only [Act.put, List.setIfInBounds_toArray, List.set_cons_zero, List.set_cons_succ]
    refine wpAnyH_ready (rs := [6]) (by kernel_rfl) (by simp) ?_
    refine AllReadyH.cons (o := ⟨none, .mapUpdate 82 (.tmp 46) (.tmp 47) (.tmp 48), _, _, _, _⟩) rfl (fun K hK => ?_) AllReadyH.nil
    go_simp
    refine hK.out _ _ ⟨C42b.out, HR716.out, HR916.out⟩ (fun _hH => ?_)
    clear hK K
    refine wpAnyH_done (by kernel_rfl) ?_ _
    go_wp2
    go_end0
    refine ⟨rfl, Lib.hid ?_, HCE⟩
    have e2 : X2 = { X with N := upN X.N l up (setK (X.N l up) kk r), S := gvS X.S old } := by rw [← HX2.out, ← HOD.out, ← HUPK.out.1, ← HUPK.out.2]; rfl
    rw [e2]
    exact HV16.out
end
end Go.Proofs.YtpocccnhibjjcaaGreatDoor
