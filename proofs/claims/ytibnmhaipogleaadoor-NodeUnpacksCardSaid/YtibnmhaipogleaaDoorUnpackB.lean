/- A block's four records, by package node: what the call leaves, for every block. No conditions. -/
import Derived.Test.YtibnmhaipogleaaDoorUnpackA
set_option linter.unusedVariables false
set_option maxRecDepth 20000
namespace Go.Proofs.YtibnmhaipogleaaDoor
open Go.RowKit

/-- What Unpack answers. -/
def unV (l : List UInt8) : Value := .tuple #[.agg (recsC (if unOk l = true then unR l else fun _ => rec0)).toArray, .int .i64 (if unOk l = true then 0 else 210)]
set_option maxHeartbeats 2000000 in
theorem unpack_any (A : Option Addr) (c : Nat) (l : List UInt8) (hl : l.length = 256) (w : World) (hA : Hol w A l) :
    Calls Tryd.prog 14 #[.slice A 256 c] w fun e w' => e = .returned (unV l) ∧ Below w.heap.size w w' := by
  have hz := Lib.hid zero_recs
  obtain ⟨C0, hC0⟩ : ∃ C0, C0 = recsC fun _ => rec0 := ⟨_, rfl⟩
  have HZ := Lib.hid recs0_cs
  rw [← hC0] at hz HZ
  have l0 := Lib.hid (p := C0.length = 140) (by rw [hC0, recsC_len])
  have one0 := Lib.hid (p := ∀ v ∈ C0, v.oneCell' = true) (by rw [hC0]; exact recsC_one _)
  have i140 := Lib.hid (p := ∀ Q : Nat → RecV, (Tryd.prog.info? 27).map (·.size) = some (recsC Q).length) (fun Q => by rw [recsC_len]; exact info_recs)
  have i0 := Lib.hid (p := (Tryd.prog.info? 27).map (·.size) = some C0.length) (by rw [l0.out]; exact info_recs)
  have i35 := Lib.hid (p := ∀ r : RecV, (Tryd.prog.info? 26).map (·.size) = some r.cs.length) (fun r => by rw [r.cs_len]; exact info_rec)
  have HA := Lib.hid hA
  have HL := Lib.hid hl
  have HC0 := Lib.hid hC0
  have HNew : Hid (∀ w', Below w.heap.size w w' → Calls Tryd.prog 29 #[.slice A 256 c] w' fun e w'' => ∃ g, e = .returned (.pointer (some ⟨g, 0, none⟩)) ∧ w'.heap.size ≤ g ∧ Cur w'' g l false ∧ Below w'.heap.size w' w'') := fun w' hb => by
    have h := cur_new_any A c l w' (hA.below hb) (by omega)
    rwa [hl] at h
  clear hA hl hC0
  go_enter Tryd.func14, Tryd.ntmps14
  go_wp2_with (first
    | (refine step_alloc rfl 2 rfl 27 rfl _ hz ?_; intro g2 w2 hr2 hg2 hb2 hs2
       have R2 := Lib.hid hr2
       have HB2 := Lib.hid hb2
       have Q2 := Lib.hid (p := w.heap.size ≤ g2) (by rw [hg2.out]; exact Nat.le_refl _)
       clear hr2 hb2 hg2 hs2)
    | (refine step_alloc rfl 4 rfl 27 rfl _ hz ?_; intro g4 w4 hr4 hg4 hb4 hs4
       have R4 := Lib.hid hr4
       have R24 := Lib.hid (R2.out.kept hb4)
       have HB4 := Lib.hid (HB2.out.trans (hb4.mono HB2.out.size))
       have N24 := Lib.hid (p := g2 < g4) (by rw [hg4.out]; exact R2.out.lt)
       clear hr4 hb4 hg4 hs4)
    | (go_at_call 29; refine (HNew.out _ HB4.out).mono ?_; rintro e5 w5 ⟨g5, rfl, hq5, hc5, hb5⟩
       have R45 := Lib.hid (R4.out.kept hb5)
       have R25 := Lib.hid (R24.out.kept hb5)
       have HB5 := Lib.hid (HB4.out.trans (hb5.mono HB4.out.size))
       have N45 := Lib.hid (p := g4 < g5) (Nat.lt_of_lt_of_le R4.out.lt hq5)
       have HC5 := Lib.hid hc5
       clear hq5 hc5 hb5))
  have R45' := Lib.hid (p := Row w5 g4 27 (recsC (upR (unR l) 0))) (by rw [upR_zero, ← HC0.out]; exact R45.out)
  have HC5' := Lib.hid (p := Cur w5 g5 (l.drop (42 * 0)) false) (by rw [Nat.mul_zero, List.drop_zero]; exact HC5.out)
  clear R45 HC5
  go_loopw [15] (fun x wr => ∃ k : Nat, k ≤ 4 ∧ x = .int .i64 (k : Int) ∧ Hid (Row wr g4 27 (recsC (upR (unR l) k))) ∧ Hid (Row wr g2 27 C0) ∧ Hid (Cur wr g5 (l.drop (42 * k)) false) ∧ Hid (Below w.heap.size w wr)) (fun x _ => 4 - (intOf x).toNat)
  case atStart => exact ⟨0, by omega, rfl, R45', R25, HC5', HB5⟩
  case round =>
    clear R45' R25 HC5' HB5
    obtain ⟨k, hk, rfl, HR4, HR2, HC, HB⟩ := hrel
    by_cases h4 : k < 4
    · have hki : (k : Int) < 4 := by omega
      have hk0 : (0 : Int) ≤ (k : Int) := by omega
      have HK := Lib.hid h4
      clear hk h4
      have HNx : Hid (Calls Tryd.prog 30 #[.func (.func 31) #[.pointer (some ⟨g5, 0, none⟩)] #[], .func (.func 32) #[.pointer (some ⟨g5, 0, none⟩)] #[]] wr (NextRec g5 (l.drop (42 * k)) false wr)) :=
        next_rec g5 (l.drop (42 * k)) false wr HC.out (by have h1 := HK.out; have h2 := HL.out; rw [List.length_drop]; omega) (by have h2 := HL.out; rw [List.length_drop]; omega)
      go_wp2_with (first
        | (go_at_call 30; refine HNx.out.mono ?_; rintro e6 w6 ⟨rfl, hc6, hg6⟩
           have HR46 := Lib.hid (HR4.out.grown hg6.out (fun e => by injection e with e; have := N45.out; omega))
           have HR26 := Lib.hid (HR2.out.grown hg6.out (fun e => by injection e with e; have h1 := N45.out; have h2 := N24.out; omega))
           have HC6 := Lib.hid (p := Cur w6 g5 (l.drop (42 * (k + 1))) false) (by have h9 := hc6.out; rw [List.drop_drop] at h9; exact h9)
           have HB6 := Lib.hid (p := Below w.heap.size w w6) (HB.out.grown hg6.out HB.out.size (fun q hq => by injection hq with hq; have h1 := N45.out; have h2 := N24.out; have h3 := Q2.out; omega))
           clear hc6 hg6)
        | (refine step_store_mid rfl 26 (.tmp 24) (.tmp 23) rfl g4 (k * 35) (by rfl) _ (recsC (upR (unR l) k)) (recOf (l.drop (42 * k))).cs (by rfl) HR46.out (by rw [RecV.cs_len, recsC_len]; have := HK.out; omega) (i35.out _) (RecV.cs_one _) ?_; intro w7 hr7 hg7
           rw [RecV.cs_len] at hr7
           have hset := recsC_set (upR (unR l) k) k HK.out (unR l k)
           rw [upR_step] at hset
           have HR47 := Lib.hid (p := Row w7 g4 27 (recsC (upR (unR l) (k + 1)))) (by rw [← hset]; exact hr7)
           have HR27 := Lib.hid (HR26.out.grown hg7 (fun e => by injection e with e; have h2 := N24.out; omega))
           have HC7 := Lib.hid (HC6.out.grown hg7 (fun e => by injection e with e; have h1 := N45.out; omega) (fun q hq cs e => by
             injection hq with hq
             subst hq
             have h5 := HR46.out
             unfold Row at h5
             rw [h5] at e
             injection e with e
             injection e with _ e
             exact absurd e (by decide)))
           have HB7 := Lib.hid (p := Below w.heap.size w w7) (HB6.out.grown hg7 HB6.out.size (fun q hq => by injection hq with hq; have h2 := N24.out; have h3 := Q2.out; omega))
           clear hr7 hg7 hset))
      go_roundw
      case rel => exact ⟨k + 1, HK.out, by go_num, HR47, HR27, HC7, HB7⟩
      case measure => have := HK.out; simp [intOf]; omega
    · obtain rfl : k = 4 := by omega
      rw [upR_all] at HR4
      obtain ⟨CR, hCR⟩ : ∃ CR, CR = recsC (unR l) := ⟨_, rfl⟩
      rw [← hCR] at HR4
      have iR := Lib.hid (p := (Tryd.prog.info? 27).map (·.size) = some CR.length) (by rw [hCR]; exact i140.out _)
      have lR := Lib.hid (p := CR.length = 140) (by rw [hCR, recsC_len])
      have oneR := Lib.hid (p := ∀ v ∈ CR, v.oneCell' = true) (by rw [hCR]; exact recsC_one _)
      have HCR := Lib.hid hCR
      by_cases hm : ∀ k, k < 4 → (unR l k).may = true
      · have HP := Lib.hid (fun w => pack_ok (unR l) (fun k _ => unR_ok l k) hm w)
        rw [← hCR] at HP
        have hu := unOk_not hm
        cases he : decide (lst 256 (pk (unR l)) = l)
        · rw [he] at hu
          have HE := Lib.hid he
          have HU := Lib.hid hu
          clear he hu hm hCR hk h4
          go_wp2_with (first
            | (refine step_load rfl 27 rfl 27 (.tmp 4) rfl g4 rfl CR _ HR4.out.all Tryd.underlying27 rfl iR.out ?_)
            | (go_at_call 11; refine (HP.out _).mono ?_; rintro e8 w8 ⟨g8, rfl, hr8, _, hb8⟩
               have HR48 := Lib.hid (HR4.out.kept hb8.out)
               have HR28 := Lib.hid (HR2.out.kept hb8.out)
               have HB8 := Lib.hid (HB.out.trans (hb8.out.mono HB.out.size))
               have HH8 := Lib.hid hr8.out.hol
               clear hb8 hr8)
            | (go_at_call 33; refine (bequal_any _ A 256 256 256 c (lst 256 (pk (unR l))) l (lst_len _ _).symm HL.out.symm _ HH8.out (HA.out.below HB8.out)).mono ?_; rintro e9 w9 ⟨rfl, hw9⟩; obtain rfl := hw9.symm; rw [HE.out])
            | (refine step_build rfl 27 #[] rfl [] ?hv _ HZ.out ?_; case hv => simp)
            | (refine step_store rfl 27 (.tmp 2) (.tmp 39) rfl g2 (by rfl) _ C0 C0 (by rfl) HR28.out rfl i0.out one0.out ?_; intro w9 hr9 hg9 hs9))
          refine bodyPost_ret (results_row_tmp rfl _ _ g2 _ _ _ _ rfl hr9 Tryd.underlying27 rfl (by simpa using i0.out)) rfl ?_
          refine ⟨?_, HB8.out.grown hg9 HB8.out.size (fun q hq => by injection hq with hq; subst hq; exact Q2.out)⟩
          unfold unV
          rw [HU.out, if_neg (by decide), if_neg (by decide), ← HC0.out]
          rfl
        · rw [he] at hu
          have HE := Lib.hid he
          have HU := Lib.hid hu
          clear he hu hm hCR hk h4
          go_wp2_with (first
            | (refine step_load rfl 27 rfl 27 (.tmp 4) rfl g4 rfl CR _ HR4.out.all Tryd.underlying27 rfl iR.out ?_)
            | (go_at_call 11; refine (HP.out _).mono ?_; rintro e8 w8 ⟨g8, rfl, hr8, _, hb8⟩
               have HR48 := Lib.hid (HR4.out.kept hb8.out)
               have HR28 := Lib.hid (HR2.out.kept hb8.out)
               have HB8 := Lib.hid (HB.out.trans (hb8.out.mono HB.out.size))
               have HH8 := Lib.hid hr8.out.hol
               clear hb8 hr8)
            | (go_at_call 33; refine (bequal_any _ A 256 256 256 c (lst 256 (pk (unR l))) l (lst_len _ _).symm HL.out.symm _ HH8.out (HA.out.below HB8.out)).mono ?_; rintro e9 w9 ⟨rfl, hw9⟩; obtain rfl := hw9.symm; rw [HE.out])
            | (refine step_load rfl 40 rfl 27 (.tmp 4) rfl g4 rfl CR _ HR48.out.all Tryd.underlying27 rfl iR.out ?_)
            | (refine step_store rfl 27 (.tmp 2) (.tmp 40) rfl g2 (by rfl) _ C0 CR (by rfl) HR28.out (by rw [l0.out, lR.out]) iR.out oneR.out ?_; intro w9 hr9 hg9 hs9))
          refine bodyPost_ret (results_row_tmp rfl _ _ g2 _ _ _ _ rfl hr9 Tryd.underlying27 rfl (by simpa using iR.out)) rfl ?_
          refine ⟨?_, HB8.out.grown hg9 HB8.out.size (fun q hq => by injection hq with hq; subst hq; exact Q2.out)⟩
          unfold unV
          rw [HU.out, if_pos rfl, if_pos rfl, ← HCR.out]
          rfl
      · obtain ⟨j, hj, hjm⟩ : ∃ k, k < 4 ∧ (unR l k).may = false := by
          refine Classical.byContradiction fun hn => hm fun k hk => ?_
          cases hm' : (unR l k).may
          · exact absurd ⟨k, hk, hm'⟩ hn
          · rfl
        have HP := Lib.hid (fun w => pack_not (unR l) (fun k _ => unR_ok l k) j hj hjm w)
        rw [← hCR] at HP
        have HU := Lib.hid (unOk_bad hj hjm)
        clear hj hjm hm hCR hk h4
        go_wp2_with (first
          | (refine step_load rfl 27 rfl 27 (.tmp 4) rfl g4 rfl CR _ HR4.out.all Tryd.underlying27 rfl iR.out ?_)
          | (go_at_call 11; refine (HP.out _).mono ?_; rintro e8 w8 ⟨rfl, hb8⟩
             have HR48 := Lib.hid (HR4.out.kept hb8.out)
             have HR28 := Lib.hid (HR2.out.kept hb8.out)
             have HB8 := Lib.hid (HB.out.trans (hb8.out.mono HB.out.size))
             clear hb8)
          | (refine step_build rfl 27 #[] rfl [] ?hv _ HZ.out ?_; case hv => simp)
          | (refine step_store rfl 27 (.tmp 2) (.tmp 39) rfl g2 (by rfl) _ C0 C0 (by rfl) HR28.out rfl i0.out one0.out ?_; intro w9 hr9 hg9 hs9))
        refine bodyPost_ret (results_row_tmp rfl _ _ g2 _ _ _ _ rfl hr9 Tryd.underlying27 rfl (by simpa using i0.out)) rfl ?_
        refine ⟨?_, HB8.out.grown hg9 HB8.out.size (fun q hq => by injection hq with hq; subst hq; exact Q2.out)⟩
        unfold unV
        rw [HU.out, if_neg (by decide), if_neg (by decide), ← HC0.out]
        rfl
end Go.Proofs.YtibnmhaipogleaaDoor
