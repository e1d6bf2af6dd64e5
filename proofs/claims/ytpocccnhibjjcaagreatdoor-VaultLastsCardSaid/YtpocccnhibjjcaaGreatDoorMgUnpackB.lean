/- A block's four records, by package node: what the call leaves, for every block. No conditions. -/
import Derived.Test.YtpocccnhibjjcaaGreatDoorMgRMay
import Derived.Test.YtpocccnhibjjcaaGreatDoorMgVm
import Derived.Test.YtpocccnhibjjcaaGreatDoorMgPc
set_option linter.unusedVariables false
set_option maxRecDepth 20000
namespace Go.Proofs.YtpocccnhibjjcaaGreatDoor
open Go.RowKit

def unV (l : List UInt8) : Value := .tuple #[.agg (recsC (if unOk l = true then unR l else fun _ => rec0)).toArray, .int .i64 (if unOk l = true then 0 else 210)]
set_option maxHeartbeats 2000000 in
theorem unpack_any (A : Option Addr) (c : Nat) (l : List UInt8) (hl : l.length = 256) (w : World) (hA : Hol w A l) :
    Calls Tryz.prog 121 #[.slice A 256 c] w fun e w' => e = .returned (unV l) ∧ Below w.heap.size w w' := by
  have hz := Lib.hid zero_recs
  obtain ⟨C0, hC0⟩ : ∃ C0, C0 = recsC fun _ => rec0 := ⟨_, rfl⟩
  have HZ := Lib.hid recs0_cs
  rw [← hC0] at hz HZ
  have l0 := Lib.hid (p := C0.length = 140) (by rw [hC0, recsC_len])
  have one0 := Lib.hid (p := ∀ v ∈ C0, v.oneCell' = true) (by rw [hC0]; exact recsC_one _)
  have i140 := Lib.hid (p := ∀ Q : Nat → RecV, (Tryz.prog.info? 132).map (·.size) = some (recsC Q).length) (fun Q => by rw [recsC_len]; exact info_recs)
  have i0 := Lib.hid (p := (Tryz.prog.info? 132).map (·.size) = some C0.length) (by rw [l0.out]; exact info_recs)
  have i35 := Lib.hid (p := ∀ r : RecV, (Tryz.prog.info? 87).map (·.size) = some r.cs.length) (fun r => by rw [r.cs_len]; exact info_rec)
  have HA := Lib.hid hA
  have HL := Lib.hid hl
  have HC0 := Lib.hid hC0
  have HNew : Hid (∀ w', Below w.heap.size w w' → Calls Tryz.prog 150 #[.slice A 256 c] w' fun e w'' => ∃ g, e = .returned (.pointer (some ⟨g, 0, none⟩)) ∧ w'.heap.size ≤ g ∧ Cur w'' g l false ∧ Below w'.heap.size w' w'') := fun w' hb => by
    have h := cur_new_any A c l w' (hA.below hb) (by omega)
    rwa [hl] at h
  clear hA hl hC0
  go_enter Tryz.func121, Tryz.ntmps121
  go_wp2_with (first
    | (refine step_alloc rfl 2 rfl 132 rfl _ hz ?_; intro g2 w2 hr2 hg2 hb2 hs2
       have R2 := Lib.hid hr2
       have HB2 := Lib.hid hb2
       have Q2 := Lib.hid (p := w.heap.size ≤ g2) (by rw [hg2.out]; exact Nat.le_refl _)
       clear hr2 hb2 hg2 hs2)
    | (refine step_alloc rfl 4 rfl 132 rfl _ hz ?_; intro g4 w4 hr4 hg4 hb4 hs4
       have R4 := Lib.hid hr4
       have R24 := Lib.hid (R2.out.kept hb4)
       have HB4 := Lib.hid (HB2.out.trans (hb4.mono HB2.out.size))
       have N24 := Lib.hid (p := g2 < g4) (by rw [hg4.out]; exact R2.out.lt)
       clear hr4 hb4 hg4 hs4)
    | (go_at_call 150; refine (HNew.out _ HB4.out).mono ?_; rintro e5 w5 ⟨g5, rfl, hq5, hc5, hb5⟩
       have R45 := Lib.hid (R4.out.kept hb5)
       have R25 := Lib.hid (R24.out.kept hb5)
       have HB5 := Lib.hid (HB4.out.trans (hb5.mono HB4.out.size))
       have N45 := Lib.hid (p := g4 < g5) (Nat.lt_of_lt_of_le R4.out.lt hq5)
       have HC5 := Lib.hid hc5
       clear hq5 hc5 hb5))
  have R45' := Lib.hid (p := Row w5 g4 132 (recsC (upR (unR l) 0))) (by rw [upR_zero, ← HC0.out]; exact R45.out)
  have HC5' := Lib.hid (p := Cur w5 g5 (l.drop (42 * 0)) false) (by rw [Nat.mul_zero, List.drop_zero]; exact HC5.out)
  clear R45 HC5
  go_loopw [15] (fun x wr => ∃ k : Nat, k ≤ 4 ∧ x = .int .i64 (k : Int) ∧ Hid (Row wr g4 132 (recsC (upR (unR l) k))) ∧ Hid (Row wr g2 132 C0) ∧ Hid (Cur wr g5 (l.drop (42 * k)) false) ∧ Hid (Below w.heap.size w wr)) (fun x _ => 4 - (intOf x).toNat)
  case atStart => exact ⟨0, by omega, rfl, R45', R25, HC5', HB5⟩
  case round =>
    clear R45' R25 HC5' HB5
    obtain ⟨k, hk, rfl, HR4, HR2, HC, HB⟩ := hrel
    by_cases h4 : k < 4
    · have hki : (k : Int) < 4 := by omega
      have hk0 : (0 : Int) ≤ (k : Int) := by omega
      have HK := Lib.hid h4
      clear hk h4
      have HNx : Hid (Calls Tryz.prog 151 #[.func (.func 152) #[.pointer (some ⟨g5, 0, none⟩)] #[], .func (.func 153) #[.pointer (some ⟨g5, 0, none⟩)] #[]] wr (NextRec g5 (l.drop (42 * k)) false wr)) :=
        next_rec g5 (l.drop (42 * k)) false wr HC.out (by have h1 := HK.out; have h2 := HL.out; rw [List.length_drop]; omega) (by have h2 := HL.out; rw [List.length_drop]; omega)
      go_wp2_with (first
        | (go_at_call 151; refine HNx.out.mono ?_; rintro e6 w6 ⟨rfl, hc6, hg6⟩
           have HR46 := Lib.hid (HR4.out.grown hg6.out (fun e => by injection e with e; have := N45.out; omega))
           have HR26 := Lib.hid (HR2.out.grown hg6.out (fun e => by injection e with e; have h1 := N45.out; have h2 := N24.out; omega))
           have HC6 := Lib.hid (p := Cur w6 g5 (l.drop (42 * (k + 1))) false) (by have h9 := hc6.out; rw [List.drop_drop] at h9; exact h9)
           have HB6 := Lib.hid (p := Below w.heap.size w w6) (HB.out.grown hg6.out HB.out.size (fun q hq => by injection hq with hq; have h1 := N45.out; have h2 := N24.out; have h3 := Q2.out; omega))
           clear hc6 hg6)
        | (refine step_store_mid rfl 87 (.tmp 24) (.tmp 23) rfl g4 (k * 35) (by rfl) _ (recsC (upR (unR l) k)) (recOf (l.drop (42 * k))).cs (by rfl) HR46.out (by rw [RecV.cs_len, recsC_len]; have := HK.out; omega) (i35.out _) (RecV.cs_one _) ?_; intro w7 hr7 hg7
           rw [RecV.cs_len] at hr7
           have hset := recsC_set (upR (unR l) k) k HK.out (unR l k)
           rw [upR_step] at hset
           have HR47 := Lib.hid (p := Row w7 g4 132 (recsC (upR (unR l) (k + 1)))) (by rw [← hset]; exact hr7)
           have HR27 := Lib.hid (HR26.out.grown hg7 (fun e => by injection e with e; have h2 := N24.out; omega))
           have HC7 := Lib.hid (HC6.out.grown hg7 (fun e => by injection e with e; have h1 := N45.out; omega) (fun q hq cs e => by
             injection hq with hq
             subst hq
             have h5 := HR46.out
             unfold Row at h5
             rw [h5] at e
             injection e with e
             injection e with _ e
             exact absurd e (by decide)))
           have HB7 := Lib.hid (p := Below w.heap.size w w7) (HB6.out.grown hg7 HB6.out.size (fun q hq => by injection hq with hq; have h2 := N24.out; have h3 := Q2.out; omega))
           clear hr7 hg7 hset))
      go_roundw
      case rel => exact ⟨k + 1, HK.out, by go_num, HR47, HR27, HC7, HB7⟩
      case measure => have := HK.out; simp [intOf]; omega
    · obtain rfl : k = 4 := by omega
      rw [upR_all] at HR4
      obtain ⟨CR, hCR⟩ : ∃ CR, CR = recsC (unR l) := ⟨_, rfl⟩
      rw [← hCR] at HR4
      have iR := Lib.hid (p := (Tryz.prog.info? 132).map (·.size) = some CR.length) (by rw [hCR]; exact i140.out _)
      have lR := Lib.hid (p := CR.length = 140) (by rw [hCR, recsC_len])
      have oneR := Lib.hid (p := ∀ v ∈ CR, v.oneCell' = true) (by rw [hCR]; exact recsC_one _)
      have HCR := Lib.hid hCR
      by_cases hm : ∀ k, k < 4 → (unR l k).may = true
      · have HP := Lib.hid (fun w => pack_ok (unR l) (fun k _ => unR_ok l k) hm w)
        rw [← hCR] at HP
        have hu := unOk_not hm
        cases he : decide (lst 256 (pk (unR l)) = l)
        · rw [he] at hu
          have HE := Lib.hid he
          have HU := Lib.hid hu
          clear he hu hm hCR hk h4
          go_wp2_with (first
            | (refine step_load rfl 27 rfl 132 (.tmp 4) rfl g4 rfl CR _ HR4.out.all Tryz.underlying132 rfl iR.out ?_)
            | (go_at_call 110; refine (HP.out _).mono ?_; rintro e8 w8 ⟨g8, rfl, hr8, _, hb8⟩
               have HR48 := Lib.hid (HR4.out.kept hb8.out)
               have HR28 := Lib.hid (HR2.out.kept hb8.out)
               have HB8 := Lib.hid (HB.out.trans (hb8.out.mono HB.out.size))
               have HH8 := Lib.hid hr8.out.hol
               clear hb8 hr8)
            | (go_at_call 154; refine (bequal_any _ A 256 256 256 c (lst 256 (pk (unR l))) l (lst_len _ _).symm HL.out.symm _ HH8.out (HA.out.below HB8.out)).mono ?_; rintro e9 w9 ⟨rfl, hw9⟩; obtain rfl := hw9.symm; rw [HE.out])
            | (refine step_build rfl 132 #[] rfl [] ?hv _ HZ.out ?_; case hv => simp)
            | (refine step_store rfl 132 (.tmp 2) (.tmp 39) rfl g2 (by rfl) _ C0 C0 (by rfl) HR28.out rfl i0.out one0.out ?_; intro w9 hr9 hg9 hs9))
          refine bodyPost_ret (results_row_tmp rfl _ _ g2 _ _ _ _ rfl hr9 Tryz.underlying132 rfl (by simpa using i0.out)) rfl ?_
          refine ⟨?_, HB8.out.grown hg9 HB8.out.size (fun q hq => by injection hq with hq; subst hq; exact Q2.out)⟩
          unfold unV
          rw [HU.out, if_neg (by decide), if_neg (by decide), ← HC0.out]
          rfl
        · rw [he] at hu
          have HE := Lib.hid he
          have HU := Lib.hid hu
          clear he hu hm hCR hk h4
          go_wp2_with (first
            | (refine step_load rfl 27 rfl 132 (.tmp 4) rfl g4 rfl CR _ HR4.out.all Tryz.underlying132 rfl iR.out ?_)
            | (go_at_call 110; refine (HP.out _).mono ?_; rintro e8 w8 ⟨g8, rfl, hr8, _, hb8⟩
               have HR48 := Lib.hid (HR4.out.kept hb8.out)
               have HR28 := Lib.hid (HR2.out.kept hb8.out)
               have HB8 := Lib.hid (HB.out.trans (hb8.out.mono HB.out.size))
               have HH8 := Lib.hid hr8.out.hol
               clear hb8 hr8)
            | (go_at_call 154; refine (bequal_any _ A 256 256 256 c (lst 256 (pk (unR l))) l (lst_len _ _).symm HL.out.symm _ HH8.out (HA.out.below HB8.out)).mono ?_; rintro e9 w9 ⟨rfl, hw9⟩; obtain rfl := hw9.symm; rw [HE.out])
            | (refine step_load rfl 40 rfl 132 (.tmp 4) rfl g4 rfl CR _ HR48.out.all Tryz.underlying132 rfl iR.out ?_)
            | (refine step_store rfl 132 (.tmp 2) (.tmp 40) rfl g2 (by rfl) _ C0 CR (by rfl) HR28.out (by rw [l0.out, lR.out]) iR.out oneR.out ?_; intro w9 hr9 hg9 hs9))
          refine bodyPost_ret (results_row_tmp rfl _ _ g2 _ _ _ _ rfl hr9 Tryz.underlying132 rfl (by simpa using iR.out)) rfl ?_
          refine ⟨?_, HB8.out.grown hg9 HB8.out.size (fun q hq => by injection hq with hq; subst hq; exact Q2.out)⟩
          unfold unV
          rw [HU.out, if_pos rfl, if_pos rfl, ← HCR.out]
          rfl
      · obtain ⟨j, hj, hjm⟩ : ∃ k, k < 4 ∧ (unR l k).may = false := by
          refine Classical.byContradiction fun hn => hm fun k hk => ?_
          cases hm' : (unR l k).may
          · exact absurd ⟨k, hk, hm'⟩ hn
          · rfl
        have HP := Lib.hid (fun w => pack_not (unR l) (fun k _ => unR_ok l k) j hj hjm w)
        rw [← hCR] at HP
        have HU := Lib.hid (unOk_bad hj hjm)
        clear hj hjm hm hCR hk h4
        go_wp2_with (first
          | (refine step_load rfl 27 rfl 132 (.tmp 4) rfl g4 rfl CR _ HR4.out.all Tryz.underlying132 rfl iR.out ?_)
          | (go_at_call 110; refine (HP.out _).mono ?_; rintro e8 w8 ⟨rfl, hb8⟩
             have HR48 := Lib.hid (HR4.out.kept hb8.out)
             have HR28 := Lib.hid (HR2.out.kept hb8.out)
             have HB8 := Lib.hid (HB.out.trans (hb8.out.mono HB.out.size))
             clear hb8)
          | (refine step_build rfl 132 #[] rfl [] ?hv _ HZ.out ?_; case hv => simp)
          | (refine step_store rfl 132 (.tmp 2) (.tmp 39) rfl g2 (by rfl) _ C0 C0 (by rfl) HR28.out rfl i0.out one0.out ?_; intro w9 hr9 hg9 hs9))
        refine bodyPost_ret (results_row_tmp rfl _ _ g2 _ _ _ _ rfl hr9 Tryz.underlying132 rfl (by simpa using i0.out)) rfl ?_
        refine ⟨?_, HB8.out.grown hg9 HB8.out.size (fun q hq => by injection hq with hq; subst hq; exact Q2.out)⟩
        unfold unV
        rw [HU.out, if_neg (by decide), if_neg (by decide), ← HC0.out]
        rfl
end Go.Proofs.YtpocccnhibjjcaaGreatDoor
/- What a mounting's next step leaves: a node read. Conditions: the vault lies there; the node's block may be read, has the record's digest, is four records that may be marked. -/
set_option linter.unusedVariables false
set_option maxRecDepth 20000
namespace Go.Proofs.YtpocccnhibjjcaaGreatDoor
open Go.RowKit

def fourL (R : Nat → RecV) : List RecV := [R 0, R 1, R 2, R 3]
theorem fourL_get {R : Nat → RecV} {j : Nat} {r : RecV} (h : (fourL R)[j]? = some r) : j < 4 ∧ r = R j := by
  match j, h with
  | 0, h => exact ⟨by omega, (Option.some.inj h).symm⟩
  | 1, h => exact ⟨by omega, (Option.some.inj h).symm⟩
  | 2, h => exact ⟨by omega, (Option.some.inj h).symm⟩
  | 3, h => exact ⟨by omega, (Option.some.inj h).symm⟩
def VX.loaded (X : VX) (k : Nat) (p : Nat × Nat) (R : Nat → RecV) (U : List (Nat × Nat)) : VX := { X.read k with N := upN X.N p.1 p.2 R, S := mkS X.S (fourL R), un := U }
section
variable {b : Nat} {w w' : World} {FD FA : List Nat} {g q gv : Nat} {L : Nat → Nat → List UInt8} {X : VX}
set_option maxHeartbeats 1000000 in
theorem vload (h : VB b w FD FA g q gv L X) (p : Nat × Nat) (U : List (Nat × Nat)) (hun : X.un = p :: U) (hs : Small (p :: U)) (k : Nat) (hR : Right L X (tr X.c.top X.N p.1 p.2) k) (l : List UInt8) (hl : unhid L (tr X.c.top X.N p.1 p.2) (nowV X.ss X.rs k).l = l) (hu : unOk l = true) (hmk : MkOk X.ss.length X.S (fourL (unR l))) (hq : q + 2 ≤ 900000) :
    Calls Tryz.prog 99 #[.pointer (some ⟨g, 0, none⟩)] w (VOnF b w (vfoot g X.c FD FA) g (q + 2) gv L (X.loaded k p (unR l) U) (nxtP X.c.top (upN X.N p.1 p.2 (unR l)) U)) := by
  have i2 := Lib.hid info_spot
  have i140 := Lib.hid (p := ∀ Q : Nat → RecV, (Tryz.prog.info? 132).map (·.size) = some (recsC Q).length) (fun Q => by rw [recsC_len]; exact info_recs)
  have hz4 := Lib.hid zero_recs
  have H := Lib.hid h
  have HS := Lib.hid hs
  have HR := Lib.hid hR
  have HU := Lib.hid hu
  have HMK := Lib.hid hmk
  have HQ := Lib.hid hq
  have HL := Lib.hid hl
  have hps := h.un
  rw [hun] at hps
  obtain ⟨gp, o, cc, hcu, hcc, hgp, cp0, cp1⟩ := hps.head
  rw [hcu] at hps
  have HT := Lib.hid hps.tail
  have HCU := Lib.hid hcu
  have HUN := Lib.hid hun
  have c44 := h.row.un
  rw [hcu] at c44
  have C44 := Lib.hid c44
  obtain ⟨n1, hn1⟩ : ∃ n1, U.length + 1 = n1 := ⟨_, rfl⟩
  have HN1 := Lib.hid hn1
  rw [hn1] at c44 hcc
  have hpos : (0 : Int) < (n1 : Int) := by omega
  have hccI : (n1 : Int) ≤ (cc : Int) := by omega
  have hlen : (0 : Int) ≤ (n1 : Int) := by omega
  clear h hR hu hmk hq hs hl hps hcu hun hn1
  go_enter Tryz.func99, Tryz.ntmps99
  go_wp2_with (first
    | (refine step_alloc rfl 4 rfl 99 rfl _ zero_spot ?_; intro g4 w4 hr4 hg4 hb4 hs4; have HR4 := Lib.hid hr4; have HB4 := Lib.hid hb4; have HG4 := Lib.hid (p := w.heap.size ≤ g4) (Nat.le_of_eq hg4.out.symm); clear hr4 hg4 hb4 hs4)
    | (refine step_store rfl 99 (.tmp 4) (.tmp 13) rfl g4 rfl _ _ (pc2 p.1 p.2) rfl HR4.out rfl i2.out (spot_one _ _) ?_; intro w5 hr5 hg5 hs5; have HR5 := Lib.hid hr5; have HB5 := Lib.hid (p := Below w.heap.size w w5) (HB4.out.grown hg5 HB4.out.size (fun q hq => by injection hq with hq; subst hq; exact HG4.out)); clear hr5 hg5 hs5))
  have HV5 := Lib.hid (H.out.below HB5.out)
  have C0 := Lib.hid (p := ∀ w6, Below w5.heap.size w5 w6 → w6.cell? ⟨g, 0, none⟩ = some (.pointer (some ⟨X.c.gd, 0, none⟩))) (fun w6 hb => VAt.gd (HV5.out.row.kept hb))
  clear c44 cp0 cp1
  refine wp_region_held_drew (S := fun W => W.cell? ⟨g, 0, none⟩ = some (.pointer (some ⟨X.c.gd, 0, none⟩)) ∧ Row W g4 99 (pc2 p.1 p.2)) (by kernel_rfl) ⟨C0.out _ (below_drw _), HR5.out.drew⟩ (fun hHeld => ?_)
  refine wpAnyH_take (i := 0) (oi := ⟨some 15, .move (.tmp 0), _, _, _, _⟩) (v := .pointer (some ⟨g, 0, none⟩)) rfl (by kernel_rfl) (by kernel_rfl) (by kernel_rfl) (fun _ _ _ h => h) (.inl ⟨by rfl, fun w hSw => by go_simp⟩) (by assumption) ?_
  simp only [Act.put, List.setIfInBounds_toArray, List.set_cons_zero, List.set_cons_succ]
  refine wpAnyH_take (i := 1) (oi := ⟨some 16, .move (.tmp 0), _, _, _, _⟩) (v := .pointer (some ⟨g, 0, none⟩)) rfl (by kernel_rfl) (by kernel_rfl) (by kernel_rfl) (fun _ _ _ h => h) (.inl ⟨by rfl, fun w hSw => by go_simp⟩) (by assumption) ?_
  simp only [Act.put, List.setIfInBounds_toArray, List.set_cons_zero, List.set_cons_succ]
  refine wpAnyH_take (i := 2) (oi := ⟨some 17, .load 99 (.tmp 4), _, _, _, _⟩) (v := .agg (pc2 p.1 p.2).toArray) rfl (by kernel_rfl) (by kernel_rfl) (by kernel_rfl) (fun _ _ _ h => h) (yieldsIf_load_mid (by rfl) 99 (.tmp 4) rfl g4 0 rfl (pc2 p.1 p.2) _ (fun w hSw => Row.all hSw.2) Tryz.underlying99 rfl i2.out) (by assumption) ?_
  simp only [Act.put, List.setIfInBounds_toArray, List.set_cons_zero, List.set_cons_succ]
  refine wpAnyH_take (i := 4) (oi := ⟨some 19, .move (.tmp 0), _, _, _, _⟩) (v := .pointer (some ⟨g, 0, none⟩)) rfl (by kernel_rfl) (by kernel_rfl) (by kernel_rfl) (fun _ _ _ h => h) (.inl ⟨by rfl, fun w hSw => by go_simp⟩) (by assumption) ?_
  simp only [Act.put, List.setIfInBounds_toArray, List.set_cons_zero, List.set_cons_succ]
  refine wpAnyH_take (i := 5) (oi := ⟨some 20, .nilCheck (.tmp 19), _, _, _, _⟩) (v := .pointer (some ⟨g, 0, none⟩)) rfl (by kernel_rfl) (by kernel_rfl) (by kernel_rfl) (fun _ _ _ h => h) (.inl ⟨by rfl, fun w hSw => by go_simp⟩) (by assumption) ?_
  simp only [Act.put, List.setIfInBounds_toArray, List.set_cons_zero, List.set_cons_succ]
  refine wpAnyH_take (i := 6) (oi := ⟨some 21, .fieldAddr 90 (.tmp 20) 0, _, _, _, _⟩) (v := .pointer (some ⟨g, 0, none⟩)) rfl (by kernel_rfl) (by kernel_rfl) (by kernel_rfl) (fun _ _ _ h => h) (.inl ⟨by rfl, fun w hSw => by go_simp⟩) (by assumption) ?_
  simp only [Act.put, List.setIfInBounds_toArray, List.set_cons_zero, List.set_cons_succ]
  refine wpAnyH_take (i := 7) (oi := ⟨some 22, .load 23 (.tmp 21), _, _, _, _⟩) (v := .pointer (some ⟨X.c.gd, 0, none⟩)) rfl (by kernel_rfl) (by kernel_rfl) (by kernel_rfl) (fun _ _ _ h => h) (.inl ⟨by rfl, fun w hSw => by have z := hSw.1; go_simp⟩) (by assumption) ?_
  simp only [Act.put, List.setIfInBounds_toArray, List.set_cons_zero, List.set_cons_succ]
  refine wpAnyH_take (i := 8) (oi := ⟨some 23, .makeFunc (.func 49) #[.tmp 22] #[], _, _, _, _⟩) (v := .func (.func 49) #[.pointer (some ⟨X.c.gd, 0, none⟩)] #[]) rfl (by kernel_rfl) (by kernel_rfl) (by kernel_rfl) (fun _ _ _ h => h) (.inl ⟨by rfl, fun w hSw => by go_simp⟩) (by assumption) ?_
  simp only [Act.put, List.setIfInBounds_toArray, List.set_cons_zero, List.set_cons_succ]
  refine wpAnyH_ready (rs := [3]) (by kernel_rfl) (by simp) ?_
  refine AllReadyH.cons (o := ⟨some 18, .call ⟨.value (.func 46), #[.tmp 16, .tmp 17], _⟩, _, _, _, _⟩) rfl (fun K hK => ?_) AllReadyH.nil
  go_simp
  refine (vrecord g X.c q X.N p.1 p.2 (HS.out p (by simp)).1 (HS.out p (by simp)).2 _ (HV5.out.row.kept (below_drw _)) (HV5.out.nodes.below (below_drw _))).mono ?_
  rintro e w6 ⟨rfl, hb6⟩
  have HB6 := Lib.hid (p := Below w5.heap.size w5 w6) (below_nxt hb6 (below_drw _))
  clear hb6
  refine hK.out _ _ ⟨C0.out _ HB6.out, HR5.out.kept HB6.out⟩ (fun hH6 => ?_)
  clear hK K
  refine wpAnyH_ready (rs := [9]) (by kernel_rfl) (by simp) ?_
  refine AllReadyH.cons (o := ⟨some 24, .call ⟨.value (.func 45), #[.tmp 15, .tmp 18, .tmp 23], _⟩, _, _, _, _⟩) rfl (fun K hK => ?_) AllReadyH.nil
  go_simp
  refine (vopen (HV5.out.below HB6.out) (tr X.c.top X.N p.1 p.2) k HR.out.a HR.out.lt HR.out.ok HR.out.d (by have := HQ.out; omega)).mono ?_
  rintro e w7 ⟨y, rfl, hy, ho, FD7, FA7, h7, hc7, hw7⟩
  have HV7 := Lib.hid h7.out
  have HY := Lib.hid (p := y.l = l ∧ y.l.length = 256) (by rw [← HL.out]; exact hy.out)
  have HO := Lib.hid ho.out
  have HS7 := Lib.hid (p := w.heap.size ≤ w6.heap.size) (Nat.le_trans HB5.out.size HB6.out.size)
  have HC7 := Lib.hid (p := Chg (vfoot g X.c FD FA) w w7) ((Chg.of (F := vfoot g X.c FD FA) (below_nxt HB6.out HB5.out)).trans hc7.out (fun j hj => .inl hj))
  have HW7 := Lib.hid (p := Wider w (vfoot g X.c FD FA) (vfoot g X.c FD7 FA7)) (fun j hj => by
    rcases hw7.out j hj with h | h
    · exact .inl h
    · exact .inr (Nat.le_trans HS7.out h))
  have HR7 := Lib.hid (p := Row w7 g4 99 (pc2 p.1 p.2)) (hc7.out.row (HR5.out.kept HB6.out) (fun hx => by have := (H.out.g_lt _ hx).2; have := HG4.out; omega))
  have HT7 := Lib.hid (p := PS w7 (.slice (if cc = 1 then some ⟨gp, o, none⟩ else some ⟨gp, o + 2, none⟩) U.length (cc - 1)) U) ((HT.out.below (below_nxt HB6.out HB5.out)).chg hc7.out (fun j hj => (HV5.out.below HB6.out).no _ (.inr rfl) j hj))
  have C7 := Lib.hid (p := w7.cell? ⟨g, 0, none⟩ = some (.pointer (some ⟨X.c.gd, 0, none⟩))) (VAt.gd h7.out.row)
  clear h7 hy ho hc7 hw7
  refine hK.out _ _ ⟨C7.out, HR7.out⟩ (fun hH7 => ?_)
  clear hK K
  refine wpAnyH_take (i := 10) (oi := ⟨some 14, .move (.tmp 24), _, _, _, _⟩) (v := .tuple #[.slice y.A 256 y.c, .int .i64 0]) rfl (by kernel_rfl) (by kernel_rfl) (by kernel_rfl) (fun _ _ _ h => h) (.inl ⟨by rfl, fun w hSw => by go_simp⟩) (by assumption) ?_
  simp only [Act.put, List.setIfInBounds_toArray, List.set_cons_zero, List.set_cons_succ]
  refine wpAnyH_take (i := 11) (oi := ⟨some 25, .extract (.tmp 14) 0, _, _, _, _⟩) (v := .slice y.A 256 y.c) rfl (by kernel_rfl) (by kernel_rfl) (by kernel_rfl) (fun _ _ _ h => h) (.inl ⟨by rfl, fun w hSw => by go_simp⟩) (by assumption) ?_
  simp only [Act.put, List.setIfInBounds_toArray, List.set_cons_zero, List.set_cons_succ]
  refine wpAnyH_take (i := 12) (oi := ⟨some 26, .extract (.tmp 14) 1, _, _, _, _⟩) (v := .int .i64 0) rfl (by kernel_rfl) (by kernel_rfl) (by kernel_rfl) (fun _ _ _ h => h) (.inl ⟨by rfl, fun w hSw => by go_simp⟩) (by assumption) ?_
  simp only [Act.put, List.setIfInBounds_toArray, List.set_cons_zero, List.set_cons_succ]
  refine wpAnyH_take (i := 13) (oi := ⟨some 5, .assign (.tmp 25), _, _, _, _⟩) (v := .slice y.A 256 y.c) rfl (by kernel_rfl) (by kernel_rfl) (by kernel_rfl) (fun _ _ _ h => h) (.inl ⟨by rfl, fun w hSw => by go_simp⟩) (by assumption) ?_
  simp only [Act.put, List.setIfInBounds_toArray, List.set_cons_zero, List.set_cons_succ]
  refine wpAnyH_take (i := 14) (oi := ⟨some 6, .assign (.tmp 26), _, _, _, _⟩) (v := .int .i64 0) rfl (by kernel_rfl) (by kernel_rfl) (by kernel_rfl) (fun _ _ _ h => h) (.inl ⟨by rfl, fun w hSw => by go_simp⟩) (by assumption) ?_
  simp only [Act.put, List.setIfInBounds_toArray, List.set_cons_zero, List.set_cons_succ]
  refine wpAnyH_done (by kernel_rfl) ?_ _
  have HUV := Lib.hid (p := unV y.l = .tuple #[.agg (recsC (unR l)).toArray, .int .i64 0]) (by unfold unV; rw [HY.out.1, HU.out]; rfl)
  go_wp2_with (first
    | (go_at_call 121; refine (unpack_any y.A y.c y.l HY.out.2 _ HO.out.hol).mono ?_; rintro e w8 ⟨rfl, hb8⟩; rw [HUV.out]; have HB8 := Lib.hid hb8; clear hb8)
    | (refine step_alloc rfl 7 rfl 132 rfl _ hz4.out ?_; intro g7 w9 hr9 hg9 hb9 hs9; have HR9 := Lib.hid hr9; have HB9 := Lib.hid (below_nxt hb9 HB8.out); have HG9 := Lib.hid (p := w7.heap.size ≤ g7) (by rw [hg9.out]; exact HB8.out.size); clear hr9 hg9 hb9 hs9)
    | (refine step_store rfl 132 (.tmp 7) (.tmp 36) rfl g7 rfl _ _ (recsC (unR l)) rfl HR9.out (by rw [recsC_len, recsC_len]) (i140.out _) (recsC_one _) ?_; intro w10 hr10 hg10 hs10; have HR10 := Lib.hid hr10; have HB10 := Lib.hid (p := Below w7.heap.size w7 w10) (HB9.out.grown hg10 HB9.out.size (fun q hq => by injection hq with hq; subst hq; exact HG9.out)); clear hr10 hg10 hs10))
  refine (vmark (HV7.out.below HB10.out) (fourL (unR l)) g7 4 (Nat.le_refl 4) (fun j r hj => ?hR) ?hRn HR10.out.lt HMK.out).mono ?_
  case hR => obtain ⟨hj4, rfl⟩ := fourL_get hj; exact recs_range HR10.out j hj4
  case hRn => exact no1 (fun e => by have h1 := HV7.out.spc.lt; have h2 := HG9.out; have h3 : g7 = X.c.gs := e; have h4 : X.c.gs < w7.heap.size := h1; omega)
  rintro e w11 ⟨rfl, h11, hc11⟩
  have HV11 := Lib.hid h11.out
  have HC11 := Lib.hid hc11.out
  have HR7b := Lib.hid (p := Row w11 g4 99 (pc2 p.1 p.2)) (hc11.out.row (HR7.out.kept HB10.out) (no1 (fun e => by have h1 := H.out.spc.lt; have h2 := HG4.out; have h3 : g4 = X.c.gs := e; omega)))
  have HR10b := Lib.hid (p := Row w11 g7 132 (recsC (unR l))) (hc11.out.row HR10.out (no1 (fun e => by have h1 := HV7.out.spc.lt; have h2 := HG9.out; have h3 : g7 = X.c.gs := e; have h4 : X.c.gs < w7.heap.size := h1; omega)))
  have HT11 := Lib.hid ((HT7.out.below HB10.out).chg hc11.out (fun j hj => by rw [List.mem_singleton] at hj; subst hj; exact (HV7.out.below HB10.out).no _ (.inr rfl) _ (one_in (HV7.out.below HB10.out) (mem_vown.2 (.inr (.inr (.inr (.inr (.inl rfl)))))) _ (List.mem_singleton.2 rfl))))
  clear h11 hc11
  go_wp2
  have HV11d := HV11.out.below (below_drw w11)
  obtain ⟨w12, r12, m12, g12⟩ := HV11d.nodes.put (l := p.1) (i := p.2) (HS.out p (by simp)).1 (HS.out p (by simp)).2 (by have := HQ.out; unfold maxLen; omega) (unR l)
  change (Instr.mapUpdate 82 (.map (some X.c.gn)) (.agg (pc2 p.1 p.2).toArray) (.agg (recsC (unR l)).toArray)).run Tryz.prog w11.drew = .ok () w12 at r12
  have c12 : Chg [X.c.gn] w11.drew w12 := (Chg.refl _ _).grown g12 (fun k hk => by injection hk with hk; subst hk; exact .inl (List.mem_singleton.2 rfl))
  have HV12 := Lib.hid (HV11d.nturn (q' := q + 2) m12 c12 (Nat.le_succ _) HQ.out)
  have HC12 := Lib.hid c12
  have n12 : NoT w11.drew [X.c.gn] 99 := fun j hj cs fr => by rw [List.mem_singleton] at hj; subst hj; exact HV11d.nodes.no_cells _ _ _
  have HT12 := Lib.hid ((HT11.out.below (below_drw w11)).chg c12 n12)
  have C42 := Lib.hid (p := w11.drew.cell? ⟨g, 42, none⟩ = some (.map (some X.c.gn))) (by have z := VAt.gn HV11d.row; exact z)
  have C42b := Lib.hid (p := w12.cell? ⟨g, 42, none⟩ = some (.map (some X.c.gn))) (by have z := VAt.gn HV12.out.row; exact z)
  have HR12a := Lib.hid (p := Row w12 g4 99 (pc2 p.1 p.2)) (c12.row HR7b.out.drew (no1 (fun e => HV11d.nodes.no_cells _ _ _ (e ▸ HR7b.out.drew.heap))))
  have HR12b := Lib.hid (p := Row w12 g7 132 (recsC (unR l))) (c12.row HR10b.out.drew (no1 (fun e => HV11d.nodes.no_cells _ _ _ (e ▸ HR10b.out.drew.heap))))
  clear HV11d m12 g12 c12 n12
  refine wp_region_held_drew (S := fun W => W.cell? ⟨g, 42, none⟩ = some (.map (some X.c.gn)) ∧ Row W g4 99 (pc2 p.1 p.2) ∧ Row W g7 132 (recsC (unR l))) (by kernel_rfl) ⟨C42.out, HR7b.out.drew, HR10b.out.drew⟩ (fun hHeld => ?_)
  refine wpAnyH_take (i := 0) (oi := ⟨some 50, .move (.tmp 0), _, _, _, _⟩) (v := .pointer (some ⟨g, 0, none⟩)) rfl (by kernel_rfl) (by kernel_rfl) (by kernel_rfl) (fun _ _ _ h => h) (.inl ⟨by rfl, fun w hSw => by go_simp⟩) (by assumption) ?_
  simp only [Act.put, List.setIfInBounds_toArray, List.set_cons_zero, List.set_cons_succ]
  refine wpAnyH_take (i := 1) (oi := ⟨some 51, .nilCheck (.tmp 50), _, _, _, _⟩) (v := .pointer (some ⟨g, 0, none⟩)) rfl (by kernel_rfl) (by kernel_rfl) (by kernel_rfl) (fun _ _ _ h => h) (.inl ⟨by rfl, fun w hSw => by go_simp⟩) (by assumption) ?_
  simp only [Act.put, List.setIfInBounds_toArray, List.set_cons_zero, List.set_cons_succ]
  refine wpAnyH_take (i := 2) (oi := ⟨some 52, .fieldAddr 90 (.tmp 51) 8, _, _, _, _⟩) (v := .pointer (some ⟨g, 42, none⟩)) rfl (by kernel_rfl) (by kernel_rfl) (by kernel_rfl) (fun _ _ _ h => h) (.inl ⟨by rfl, fun w hSw => by go_simp⟩) (by assumption) ?_
  simp only [Act.put, List.setIfInBounds_toArray, List.set_cons_zero, List.set_cons_succ]
  refine wpAnyH_take (i := 3) (oi := ⟨some 53, .load 82 (.tmp 52), _, _, _, _⟩) (v := .map (some X.c.gn)) rfl (by kernel_rfl) (by kernel_rfl) (by kernel_rfl) (fun _ _ _ h => h) (.inl ⟨by rfl, fun w hSw => by have z := hSw.1; go_simp⟩) (by assumption) ?_
  simp only [Act.put, List.setIfInBounds_toArray, List.set_cons_zero, List.set_cons_succ]
  refine wpAnyH_take (i := 4) (oi := ⟨some 54, .load 99 (.tmp 4), _, _, _, _⟩) (v := .agg (pc2 p.1 p.2).toArray) rfl (by kernel_rfl) (by kernel_rfl) (by kernel_rfl) (fun _ _ _ h => h) (yieldsIf_load_mid (by rfl) 99 (.tmp 4) rfl g4 0 rfl (pc2 p.1 p.2) _ (fun w hSw => Row.all hSw.2.1) Tryz.underlying99 rfl i2.out) (by assumption) ?_
  simp only [Act.put, List.setIfInBounds_toArray, List.set_cons_zero, List.set_cons_succ]
  refine wpAnyH_take (i := 5) (oi := ⟨some 55, .load 132 (.tmp 7), _, _, _, _⟩) (v := .agg (recsC (unR l)).toArray) rfl (by kernel_rfl) (by kernel_rfl) (by kernel_rfl) (fun _ _ _ h => h) (yieldsIf_load_mid (by rfl) 132 (.tmp 7) rfl g7 0 rfl (recsC (unR l)) _ (fun w hSw => Row.all hSw.2.2) Tryz.underlying132 rfl (i140.out _)) (by assumption) ?_
  simp only [Act.put, List.setIfInBounds_toArray, List.set_cons_zero, List.set_cons_succ]
  refine wpAnyH_ready (rs := [6]) (by kernel_rfl) (by simp) ?_
  refine AllReadyH.cons (o := ⟨none, .mapUpdate 82 (.tmp 53) (.tmp 54) (.tmp 55), _, _, _, _⟩) rfl (fun K hK => ?_) AllReadyH.nil
  go_simp
  refine hK.out _ _ ⟨C42b.out, HR12a.out, HR12b.out⟩ (fun hH12 => ?_)
  clear hK K
  refine wpAnyH_done (by kernel_rfl) ?_ _
  have c44 : w12.cell? ⟨g, 44, none⟩ = some (.slice (some ⟨gp, o, none⟩) n1 cc) := by have z := VAt.un HV12.out.row; rw [← HN1.out, ← HCU.out]; exact z
  have f44 := HV12.out.gfr 44
  have hV13 := HV12.out.p_un (.slice (if cc = 1 then some ⟨gp, o, none⟩ else some ⟨gp, o + 2, none⟩) (n1 - 1) (cc - 1)) (U := U) (by have e1 : n1 - 1 = U.length := (by have := HN1.out; omega); rw [e1]; exact HT12.out)
  have HV13 := Lib.hid hV13
  clear hV13
  go_wp2_with (first
    | (go_at_call 72; refine (vonward HV13.out (fun z hz => HS.out z (List.mem_cons_of_mem _ hz))).mono ?_; rintro e w14 ⟨un, rfl, h14, hc14⟩))
  all_goals
    go_ret2
    refine ⟨un, rfl, VTo.of (FD' := FD7) (FA' := FA7) h14.out ?_ HW7.out⟩
    refine ((((HC7.out.trans (Chg.of (F := []) HB10.out) (fun j hj => by cases hj)).trans HC11.out (fun j hj => ?_)).drew.trans HC12.out (fun j hj => ?_)).trans (chg_g _ _ _ _) (fun j hj => ?_)).trans hc14.out (fun j hj => ?_)
    · exact .inl (one_in H.out (mem_vown.2 (.inr (.inr (.inr (.inr (.inl rfl)))))) j hj)
    · exact .inl (one_in H.out (mem_vown.2 (.inr (.inl rfl))) j hj)
    · exact .inl (one_in H.out (mem_vown.2 (.inl rfl)) j hj)
    · exact .inl (one_in H.out (mem_vown.2 (.inl rfl)) j hj)
end
end Go.Proofs.YtpocccnhibjjcaaGreatDoor
/- The program's nodes above slots: what the call leaves. Conditions: those named. -/
set_option linter.unusedVariables false
namespace Go.Proofs.YtpocccnhibjjcaaGreatDoor.P7
open Go.RowKit

theorem own_parted {w : World} {b b' : Nat} {e e' : TypeId} {s s' n n' : Nat} {v v' : Value} {xs xs' : List Value} (h : w.ownsRow b e s v n xs) (h' : w.ownsRow b' e' s' v' n' xs') (hne : e ≠ e') : v.ownBlock = none ∨ v.ownBlock ≠ v'.ownBlock := by
  rcases h.2 with ⟨rfl, _⟩ | ⟨g, cap, cur, rfl, _, hg, _⟩
  · exact .inl rfl
  · refine .inr fun he => ?_
    rcases h'.2 with ⟨rfl, _⟩ | ⟨g', cap', cur', rfl, _, hg', _⟩
    · simp [Value.ownBlock] at he
    · simp [Value.ownBlock] at he
      subst he
      rw [hg] at hg'
      injection hg' with hg'
      injection hg' with _ ht
      exact hne ht
def aboveL (d : Int) (zs : List Int) : List (Int × Int) := abv (lv d) zs (lv d)
theorem aboveL_out {d : Int} (h : ¬ (1 ≤ d ∧ d ≤ 4)) (zs : List Int) : aboveL d zs = [] := by unfold aboveL; rw [lv_out h]; rfl
theorem aboveL_in {n : Nat} (h1 : 1 ≤ n) (h4 : n ≤ 4) (zs : List Int) : aboveL n zs = abv n zs n := by unfold aboveL; rw [lv_of h1 h4]
theorem aboveL_len (d : Int) (zs : List Int) : (aboveL d zs).length ≤ 4 * zs.length :=
  Nat.le_trans (abv_len _ _ _) (Nat.mul_le_mul_right _ (lv_le d))
set_option maxRecDepth 20000 in
set_option maxHeartbeats 1000000 in
theorem above_any (d : Int) (A : Option Addr) (c : Nat) (zs : List Int) (w : World) (hA : HolI w A zs) (hz : zs.length ≤ 1000) :
    Calls Tryz.prog 55 #[.int .i64 d, .slice A zs.length c] w (SpotsPost w (aboveL d zs)) := by
  by_cases hd : 1 ≤ d ∧ d ≤ 4
  · obtain ⟨n, rfl, hn1, hn4⟩ := lv_nat hd.1 hd.2
    rw [aboveL_in hn1 hn4]
    have HL := Lib.hid (lv_of hn1 hn4)
    have HS := Lib.hid (sl_of hn1 hn4)
    have HA := Lib.hid hA
    have HZ := Lib.hid hz
    have HPW := Lib.hid (pw_le hn4)
    clear hA hz hd
    go_enter Tryz.func55, Tryz.ntmps55
    go_wp2_with (first
      | (go_at_call 83; refine (there_any _ A c zs _ HA.out (by have := HZ.out; omega)).mono ?_; rintro e w1 ⟨B1, k1, c1, rfl, hO1, hB1⟩
         rw [HS.out] at hO1
         have HO1 := Lib.hid hO1
         have HB1 := Lib.hid hB1
         clear hO1 hB1)
      | (go_at_call 66; refine (levels_any _ _).mono ?_; rintro e w' ⟨rfl, rfl⟩; rw [HL.out]))
    go_loopw [5, 6, 15] (fun v q i wr => ∃ k : Nat, k ≤ n ∧ i = .int .i64 k ∧ (∃ B m b, v = .slice B m b ∧ Hid (OwnS w.heap.size wr B m b (abv n zs k))) ∧ (∃ B m b, q = .slice B m b ∧ Hid (m = (pl (pw n) zs k).length) ∧ Hid (HolI wr B (pl (pw n) zs k))) ∧ Hid (Below w.heap.size w wr)) (fun _ _ i _ => n - (intOf i).toNat)
    case atStart => exact ⟨0, Nat.zero_le _, rfl, ⟨none, 0, 0, rfl, Lib.hid (OwnS.nil _ _)⟩, ⟨B1, k1, c1, rfl, Lib.hid HO1.out.len, Lib.hid HO1.out.hol⟩, HB1⟩
    case round =>
      clear HO1 HB1
      obtain ⟨k, hk, rfl, ⟨A2, m2, c2, rfl, HO⟩, ⟨B3, m3, c3, rfl, HM3, HI⟩, HB⟩ := hrel
      by_cases hlt : k < n
      · obtain rfl := HM3.out
        have hq := pl_len (pw n) zs (k + 1)
        obtain ⟨qs, hqs⟩ : ∃ qs, pl (pw n) zs (k + 1) = qs := ⟨_, rfl⟩
        have HQ := Lib.hid hqs
        have HQL : Hid (qs.length ≤ 1000) := Lib.hid (by rw [← hqs]; have := HZ.out; omega)
        have HQM : Hid (∀ z ∈ qs, 0 ≤ z ∧ z ≤ 1000000) := Lib.hid (fun z hz => by rw [← hqs] at hz; have := pl_pos hz; have := HPW.out; omega)
        have HPM : Hid (∀ z ∈ pl (pw n) zs k, 0 ≤ z ∧ z ≤ 1000000) := Lib.hid (fun z hz => by have := pl_pos hz; have := HPW.out; omega)
        have HPL := Lib.hid (pl_len (pw n) zs k)
        clear hqs hq
        have hsub : (n : Int) - 1 - (k : Int) = ((n - 1 - k : Nat) : Int) := by omega
        obtain ⟨r, hr⟩ : ∃ r, n - 1 - k = r := ⟨_, rfl⟩
        rw [hr] at hsub
        have HR := Lib.hid hr
        clear hr
        go_wp2_with (first
          | (go_at_call 84; refine (up_any B3 c3 (pl (pw n) zs k) _ HI.out (by have := HPL.out; have := HZ.out; omega) HPM.out).mono ?_; rintro e w4 ⟨B4, k4, c4, rfl, hO4, hB4⟩
             have hO4' : OwnI wr.heap.size w4 B4 k4 c4 qs := by rw [← HQ.out]; exact hO4
             obtain rfl := hO4'.len
             have HH4 := Lib.hid (own_lower hO4' HB.out.size)
             have HO4 := Lib.hid (HO.out.kept hB4)
             have HB4 := Lib.hid (below_nxt hB4 HB.out)
             clear hO4 hO4' hB4))
        clear HI HPM HPL HM3
        go_loopw [5, 22] (fun v i wr => ∃ j : Nat, j ≤ qs.length ∧ i = .int .i64 j ∧ ∃ B m b, v = .slice B m b ∧ Hid (OwnS w.heap.size wr B m b (abv n zs k ++ (qs.take j).map fun i => ((r : Int), i))) ∧ Hid (OwnI w.heap.size wr B4 qs.length c4 qs) ∧ Hid (Below w.heap.size w wr)) (fun _ i _ => qs.length - (intOf i).toNat)
        case atStart => exact ⟨0, Nat.zero_le _, rfl, A2, m2, c2, rfl, Lib.hid (by rw [List.take_zero, List.map_nil, List.append_nil]; exact HO4.out), HH4, HB4⟩
        case round =>
          clear HO4 HH4 HB4 HO HB
          obtain ⟨j, hj, rfl, A5, m5, c5, rfl, HO, HH, HB⟩ := hrel
          by_cases hjl : j < qs.length
          · obtain ⟨g, o, rfl, hgs, hc⟩ := HH.out.hol.at_ hjl
            have hq1000 := HQL.out
            obtain ⟨x, hx⟩ : ∃ x, qs[j] = x := ⟨_, rfl⟩
            rw [hx] at hc
            have hts := List.take_succ_eq_append_getElem hjl
            rw [hx] at hts
            have HM := Lib.hid (p := m5 ≤ 100000) (by
              have h1 := HO.out.len
              rw [List.length_append, List.length_map] at h1
              have h3 := List.length_take_le j qs
              have h4 := abv_len n zs k
              have h5 : k * zs.length ≤ 4 * zs.length := Nat.mul_le_mul_right _ (by omega)
              have := HQL.out
              have := HZ.out
              omega)
            have HN : Hid (((qs.take (j + 1)).map fun i => ((r : Int), i)) = ((qs.take j).map fun i => ((r : Int), i)) ++ [((r : Int), x)]) := Lib.hid (by rw [hts, List.map_append]; rfl)
            clear hx hts
            go_wp2_with (first
              | (at_builtin; refine wp_join rfl _ _ rfl rec_spot w.heap.size (.slice A5 m5 c5) m5 ((abv n zs k ++ (qs.take j).map fun i => ((r : Int), i)).flatMap sp) rfl (HO.out.alloc _) (some ⟨wr.heap.size, 0, none⟩) 1 1 (sp ((r : Int), x)) rfl rfl (made_src wr (sp ((r : Int), x)) _) (sp_one _) (by have := HM.out; omega) (Nat.le_trans HB.out.size (below_al wr _).size) ?_
                 intro v5 w2 hr2 hg2 hat2
                 obtain ⟨A6, c6, rfl, hO6, hB6⟩ := spot_more HB.out HO.out hr2 hg2
                 have HH6 : Hid (OwnI w.heap.size w2 (some ⟨g, o, none⟩) qs.length c4 qs) := Lib.hid (World.ownsRow.kept (HH.out.kept (below_al wr (.cells (sp ((r : Int), x)).toArray 99))) hg2 (own_parted HH.out HO.out (by decide)))
                 have HO6 := Lib.hid hO6
                 have HB6 := Lib.hid hB6
                 clear hr2 hg2 hat2 hO6 hB6))
            go_roundw
            case rel => exact ⟨j + 1, by omega, by go_num, A6, m5 + 1, c6, rfl, by rw [HN.out, ← List.append_assoc]; exact HO6, HH6, HB6⟩
            case measure => simp [intOf]; omega
          · obtain rfl : j = qs.length := by omega
            rw [List.take_length] at HO
            go_wp2
            go_roundw
            case rel => exact ⟨k + 1, by omega, by go_num, ⟨A5, m5, c5, rfl, by rw [abv_succ, HQ.out, HR.out]; exact HO⟩, ⟨B4, qs.length, c4, rfl, Lib.hid (by rw [HQ.out]), by rw [HQ.out]; exact Lib.hid HH.out.hol⟩, HB⟩
            case measure => simp [intOf]; omega
      · obtain rfl : k = n := by omega
        go_wp2
        go_ret
        exact SpotsPost.mk HO.out HB.out rfl
  · rw [aboveL_out hd]
    have HL := Lib.hid (lv_out hd)
    have HA := Lib.hid hA
    clear hA hd
    go_enter Tryz.func55, Tryz.ntmps55
    go_wp2_with (first
      | (go_at_call 83; refine (there_any _ A c zs _ HA.out (by omega)).mono ?_; rintro e w1 ⟨B1, k1, c1, rfl, hO1, hB1⟩
         have HB1 := Lib.hid hB1
         clear hO1 hB1)
      | (go_at_call 66; refine (levels_any _ _).mono ?_; rintro e w' ⟨rfl, rfl⟩; rw [HL.out]))
    go_loopw [5, 15] (fun v i wr => v = .slice none 0 0 ∧ i = .int .i64 0 ∧ Hid (Below w.heap.size w wr)) (fun _ _ _ => 0)
    case atStart => exact ⟨rfl, rfl, HB1⟩
    case round =>
      clear HB1
      obtain ⟨rfl, rfl, HB1⟩ := hrel
      go_wp2
      go_ret
      exact SpotsPost.mk (OwnS.nil _ _) HB1.out rfl
end Go.Proofs.YtpocccnhibjjcaaGreatDoor.P7
