/- The reference's Run: what a script sees and changes. Conditions: the source and the script lie there. -/
import Derived.Test.YtpobppoaidngeaaKi
import Derived.Test.YtpobppoaidngeaaKl
set_option linter.unusedVariables false
set_option maxRecDepth 20000
namespace Go.Proofs.Ytpobppoaidngeaa
open Go.RowKit

theorem results_tmp4 {fn : Func} {t u v x : Tmp} (h : fn.results = #[.tmp t, .tmp u, .tmp v, .tmp x]) (tmps : Array Value) (P : Program) (w : World) :
    (results fn tmps).run P w = .ok (.tuple #[tmps.getD t undef, tmps.getD u undef, tmps.getD v undef, tmps.getD x undef]) w := by
  simp [results, h]
theorem info_do : (Try.prog.info? 46).map (·.size) = some 3 := by kernel_rfl
theorem zero_do (w : World) : (zeroValue 46).run Try.prog w = .ok (.agg [Value.bool false, .int .i64 0, .slice none 0 0].toArray) w := by kernel_rfl
theorem dcs_one (d : DV) : ∀ u ∈ dcs d, u.oneCell' = true := by intro u hu; simp [dcs, bvv] at hu; rcases hu with rfl | rfl | rfl <;> rfl
/-- What the reference's Run leaves. -/
def RRunP (w : World) (T : (List L8 × (Int → Option L8)) ⊕ Int) (e : Ending) (w' : World) : Prop :=
  (∃ (xs : List BV) (A : Option Addr) (c : Nat) (qs : List (Int × BV)) (A2 : Option Addr) (c2 : Nat) (C : Int → Option L8), e = .returned (.tuple #[.slice A xs.length c, .slice A2 qs.length c2, .int .i64 0, .bool true]) ∧ Hid (T = .inl (xs.map BV.l, C)) ∧ Hid (SlsAt w' A xs) ∧ Hid (PutsAt w' A2 qs) ∧ Hid (ChOf C (chL qs)) ∧ Hid (Below w.heap.size w w')) ∨
  (∃ (s : Int) (A : Option Addr) (n c : Nat), e = .returned (.tuple #[.slice A n c, .slice none 0 0, .int .i64 s, .bool false]) ∧ Hid (T = .inr s) ∧ Hid (Below w.heap.size w w'))
set_option maxHeartbeats 2000000 in
theorem rrun_any {w : World} {gs : Nat} {Bs : List BV} {Ks : List Bool} {A : Option Addr} {c : Nat} {ds : List DV} (hs : Src w.heap.size w gs Bs Ks) (hd : ScB w.heap.size w A ds) :
    Calls Try.prog 14 #[.pointer (some ⟨gs, 0, none⟩), .slice A ds.length c] w (RRunP w (runP (byL (srcF Bs Ks)) ds (byL fun _ => none) [])) := by
  have i3 := Lib.hid (p := ∀ d : DV, (Try.prog.info? 46).map (·.size) = some (dcs d).length) (fun d => info_do)
  have hz3 := Lib.hid zero_do
  have HBP := Lib.hid built_put
  have HS := Lib.hid hs
  have HD := Lib.hid hd
  obtain ⟨T, hT⟩ : ∃ T, runP (byL (srcF Bs Ks)) ds (byL fun _ => none) [] = T := ⟨_, rfl⟩
  have HT := Lib.hid hT
  rw [hT]
  clear hs hd hT
  go_enter Try.func14, Try.ntmps14
  go_wp2
  go_loopw [8, 9, 10] (fun x u y wr => ∃ (k : Nat) (xs : List BV) (A' : Option Addr) (m c' : Nat) (ps : List (Int × BV)) (A2 : Option Addr) (m2 c2 : Nat), Hid (k ≤ ds.length) ∧ y = .int .i64 (k : Int) ∧ x = .slice A' m c' ∧ u = .slice A2 m2 c2 ∧ Hid (m = xs.length ∧ m2 = ps.length ∧ xs.length ≤ k ∧ ps.length ≤ k) ∧ Hid (runP (byL (srcF Bs Ks)) (ds.drop k) (byL (lastP ps)) (xs.map BV.l) = T) ∧ Hid (wr.ownsRow w.heap.size 44 1 (.slice A' m c') m (xs.flatMap sc)) ∧ Hid (wr.ownsRow w.heap.size 61 2 (.slice A2 m2 c2) m2 (ps.flatMap pcs)) ∧ Hid (∀ x ∈ xs, Hol w x.A x.l ∧ x.l.length ≤ 131072) ∧ Hid (∀ p ∈ ps, Hol w p.2.A p.2.l ∧ p.2.l.length ≤ 131072) ∧ Hid (Below w.heap.size w wr)) (fun _ _ y _ => ds.length - (intOf y).toNat)
  case atStart => exact ⟨0, [], none, 0, 0, [], none, 0, 0, Lib.hid (Nat.zero_le _), rfl, rfl, rfl, Lib.hid ⟨rfl, rfl, Nat.le_refl _, Nat.le_refl _⟩, Lib.hid (by simpa [lastP] using HT.out), Lib.hid (World.ownsRow_nil _ _ _ _), Lib.hid (World.ownsRow_nil _ _ _ _), Lib.hid (by simp), Lib.hid (by simp), Lib.hid (Below.refl _ _)⟩
  case round =>
    obtain ⟨k, xs, A', m, c', ps, A2, m2, c2, HKL, rfl, rfl, rfl, HM, HTK, HO, HQ, HXS, HPS, HB⟩ := hrel
    rename World => wo
    by_cases hk : k < ds.length
    · have hki : (k : Int) < (ds.length : Int) := by omega
      obtain ⟨d, hd⟩ : ∃ d, ds[k] = d := ⟨_, rfl⟩
      obtain ⟨g, o, rfl, hc⟩ := HD.out.lies.1.at_ hk
      rw [hd] at hc
      have HRG := Lib.hid (p := wo.rangeAt g (o + k * 3) (dcs d)) (fun j u hu => by
        have := hc j u hu
        exact (HB.out.cell (p := ⟨g, o + k * 3 + j, none⟩) (World.block_lt_of_cell? w _ this)).trans this)
      have HDM := Lib.hid (p := d ∈ ds) (by rw [← hd]; exact List.getElem_mem _)
      have HDR := Lib.hid (p := ds.drop k = d :: ds.drop (k + 1)) (by rw [List.drop_eq_getElem_cons hk, hd])
      have HKT := Lib.hid hk
      obtain ⟨pt, hpt⟩ : ∃ pt, d.put = pt := ⟨_, rfl⟩
      have HPT := Lib.hid hpt
      obtain ⟨z, hz⟩ : ∃ z, d.slot = z := ⟨_, rfl⟩
      have HZ := Lib.hid hz
      have hkw : IntKind.i64.wrap ((k : Int) + 1) = (k : Int) + 1 := by rw [IntKind.wrap_i64]; have := HD.out.lim; omega
      clear hk hd hc hpt hz
      cases pt with
      | true =>
        go_wp2_with (first
          | (refine wpList_load_mid rfl 46 (.tmp 23) rfl g (o + k * 3) rfl (dcs d) _ HRG.out Try.underlying46 rfl (i3.out d) ?_)
          | (refine step_alloc rfl 11 rfl 46 rfl _ hz3.out ?_; intro g2 w2 hr2 hg2 hb2 hs2
             have R2 := Lib.hid hr2; have HB2 := Lib.hid hb2; have HG2 := hg2; clear hr2 hg2 hb2 hs2)
          | (refine step_store rfl 46 (.tmp 11) (.tmp 24) rfl g2 (by rfl) _ [Value.bool false, .int .i64 0, .slice none 0 0] (dcs d) (by rfl) R2.out rfl (i3.out d) (dcs_one d) ?_; intro w3 hr3 hg3 hs3
             have R3 := Lib.hid hr3
             have HB3 := Lib.hid (p := Below wo.heap.size wo w3) (HB2.out.grown hg3 HB2.out.size (fun q hq => by injection hq with hq; subst hq; exact Nat.le_of_eq HG2.out.symm))
             have c0 : w3.cell? ⟨g2, 0, none⟩ = some (.bool true) := by rw [← HPT.out]; exact (hr3.cell 0).trans rfl
             have c1 : w3.cell? ⟨g2, 1, none⟩ = some (.int .i64 z) := by rw [← HZ.out]; exact (hr3.cell 1).trans rfl
             have c2' : w3.cell? ⟨g2, 2, none⟩ = some (.slice d.blk.A d.blk.l.length d.blk.c) := (hr3.cell 2).trans rfl
             clear hr3 hg3 hs3)
          | (refine step_build rfl 61 _ rfl [(0, .int .i64 z), (1, .slice d.blk.A d.blk.l.length d.blk.c)] ?hv _ (HBP.out _ _ _ _) ?_; case hv => (simp [Act.eval, Act.put]))
          | (at_builtin
             refine wp_join rfl _ _ rfl rec_put w.heap.size (.slice A2 m2 c2) m2 (ps.flatMap pcs) rfl ((own_kept HQ.out HB3.out).alloc _) (some ⟨w3.heap.size, 0, none⟩) 1 1 (pcs (z, d.blk)) rfl rfl (made_src w3 (pcs (z, d.blk)) _) (pcs_one _) (by have := HM.out; have := HKT.out; have := HD.out.lim; omega) (by have := HB.out.size; have := HB3.out.size; simp; omega) ?_
             intro v1 w5 ho1 hg1 hat1
             have hlow : w.heap.size ≤ w3.heap.size := by have := HB.out.size; have := HB3.out.size; omega
             have HX5 := Lib.hid (World.ownsRow.kept (World.ownsRow.kept (own_kept HO.out HB3.out) (World.grownBy_alloc w3 _ none) (by cases hx : (Value.slice A' m c').ownBlock with | none => exact .inl rfl | some k => exact .inr (by simp))) hg1 (own_parted HO.out HQ.out (by decide)))
             obtain ⟨A1, c1', rfl, ho2, hb2⟩ := row_more (x := (z, d.blk)) (HB.out.trans (HB3.out.mono HB.out.size)) hlow (own_kept HQ.out HB3.out) ho1 hg1
             have HO2 := Lib.hid ho2
             have HB5 := Lib.hid hb2
             clear ho1 hg1 hat1 ho2 hb2))
        go_roundw
        case rel =>
          refine ⟨k + 1, xs, A', m, c', ps ++ [(z, d.blk)], A1, m2 + 1, c1', Lib.hid HKT.out, by go_num, rfl, rfl, Lib.hid (by have := HM.out; rw [List.length_append]; simp; omega), Lib.hid ?_, HX5, HO2, HXS, Lib.hid (fun p hp => ?_), HB5⟩
          · have h3 := HTK.out
            rw [HDR.out, runP_put HPT.out] at h3
            rw [lastP_snoc, byL_up, ← HZ.out]
            exact h3
          · rcases List.mem_append.1 hp with hp | hp
            · exact HPS.out p hp
            · rw [List.mem_singleton] at hp
              subst hp
              exact ⟨(HD.out.hol d HDM.out).1, HD.out.len d HDM.out⟩
        case measure => have := HKT.out; simp [intOf]; omega
      | false =>
        go_wp2_with (first
          | (refine wpList_load_mid rfl 46 (.tmp 23) rfl g (o + k * 3) rfl (dcs d) _ HRG.out Try.underlying46 rfl (i3.out d) ?_)
          | (refine step_alloc rfl 11 rfl 46 rfl _ hz3.out ?_; intro g2 w2 hr2 hg2 hb2 hs2
             have R2 := Lib.hid hr2; have HB2 := Lib.hid hb2; have HG2 := hg2; clear hr2 hg2 hb2 hs2)
          | (refine step_store rfl 46 (.tmp 11) (.tmp 24) rfl g2 (by rfl) _ [Value.bool false, .int .i64 0, .slice none 0 0] (dcs d) (by rfl) R2.out rfl (i3.out d) (dcs_one d) ?_; intro w3 hr3 hg3 hs3
             have R3 := Lib.hid hr3
             have HB3 := Lib.hid (p := Below wo.heap.size wo w3) (HB2.out.grown hg3 HB2.out.size (fun q hq => by injection hq with hq; subst hq; exact Nat.le_of_eq HG2.out.symm))
             have c0 : w3.cell? ⟨g2, 0, none⟩ = some (.bool false) := by rw [← HPT.out]; exact (hr3.cell 0).trans rfl
             have c1 : w3.cell? ⟨g2, 1, none⟩ = some (.int .i64 z) := by rw [← HZ.out]; exact (hr3.cell 1).trans rfl
             have c2' : w3.cell? ⟨g2, 2, none⟩ = some (.slice d.blk.A d.blk.l.length d.blk.c) := (hr3.cell 2).trans rfl
             clear hr3 hg3 hs3)
          | (go_at_call 10; refine (get_any ((HS.out.keep HB.out).keep (HB3.out.mono HB.out.size)) z).mono ?_; rintro e w4 ⟨rfl, hw4⟩; subst hw4))
        obtain ⟨o0, ho0⟩ : ∃ o0, srcF Bs Ks z = o0 := ⟨_, rfl⟩
        rw [ho0]
        have HO0 := Lib.hid ho0
        clear ho0 c0
        have HBW := Lib.hid (HB.out.trans (HB3.out.mono HB.out.size))
        have HX3 := Lib.hid (own_kept HO.out HB3.out)
        have HQ3 := Lib.hid (own_kept HQ.out HB3.out)
        have HQL := Lib.hid (Lies.own (by decide) pcs_len HQ3.out)
        go_loopw [12, 13, 14] (fun x u y wr => ∃ (q : Nat) (oq : Option BV), Hid (q ≤ m2) ∧ y = .int .i64 (q : Int) ∧ x = bvo oq ∧ u = .bool oq.isSome ∧ Hid (oq = seeF (lastP (ps.take q)) (srcF Bs Ks) z) ∧ Hid (Below w3.heap.size w3 wr)) (fun _ _ y _ => m2 - (intOf y).toNat)
        case atStart => exact ⟨0, o0, Lib.hid (Nat.zero_le _), rfl, rfl, rfl, Lib.hid (by rw [← HO0.out]; rfl), Lib.hid (Below.refl _ _)⟩
        case round =>
          obtain ⟨q, oq, HQQ, rfl, rfl, rfl, HOQ, HBR⟩ := hrel
          by_cases hq : q < m2
          · have hqi : (q : Int) < (m2 : Int) := by omega
            have hqp : q < ps.length := by rw [← HM.out.2.1]; exact hq
            obtain ⟨p, hp⟩ : ∃ p, ps[q] = p := ⟨_, rfl⟩
            obtain ⟨g4, o4, rfl, hc4⟩ := (HQL.out.below HBR.out).at_ hqp
            rw [hp] at hc4
            have cp0 := hc4 0 _ rfl
            have cp1 := hc4 1 _ rfl
            simp only [Nat.add_zero] at cp0
            unfold bvv at cp1
            have cd1 : wr.cell? ⟨g2, 1, none⟩ = some (.int .i64 z) := (HBR.out.cell (p := ⟨g2, 1, none⟩) R3.out.lt).trans c1
            have HTA := Lib.hid (p := lastP (ps.take (q + 1)) = upC (lastP (ps.take q)) p.1 p.2) (by rw [List.take_succ_eq_append_getElem hqp, hp, lastP_snoc])
            have HQT := Lib.hid hq
            have hqw : IntKind.i64.wrap ((q : Int) + 1) = (q : Int) + 1 := by rw [IntKind.wrap_i64]; have := HM.out; have := HKT.out; have := HD.out.lim; omega
            obtain ⟨z1, hz1⟩ : ∃ z1, p.1 = z1 := ⟨_, rfl⟩
            have cp2 : wr.cell? ⟨g4, o4 + q * 2, none⟩ = some (.int .i64 z1) := by rw [← hz1]; exact cp0
            have HZ1 := Lib.hid hz1
            clear hq hqp hp hc4 cp0 hz1
            by_cases hzz : z1 = z
            · subst hzz
              have hbe : (z1 == z1) = true := by simp
              go_wp2_with fail
              go_quiet (fail)
              have dp1 : (wr.drewN nq).cell? ⟨g4, o4 + q * 2 + 1, none⟩ = some (.slice p.2.A p.2.l.length p.2.c) := cp1
              go_wp2
              go_roundw
              case rel =>
                refine ⟨q + 1, some p.2, Lib.hid HQT.out, by go_num, rfl, rfl, Lib.hid ?_, Lib.hid (below_drewN HBR.out _)⟩
                rw [HTA.out, ← HZ1.out]
                unfold seeF
                rw [upC_same]
              case measure => have := HQT.out; simp [intOf]; omega
            · have hbe : (z1 == z) = false := beq_false_of_ne hzz
              have hbd : decide (z1 = z) = false := decide_eq_false hzz
              have HNE := Lib.hid hzz
              go_wp2_with fail
              go_quiet (fail)
              go_wp2
              go_roundw
              case rel =>
                refine ⟨q + 1, oq, Lib.hid HQT.out, by go_num, rfl, rfl, Lib.hid ?_, Lib.hid (below_drewN HBR.out _)⟩
                rw [HTA.out]
                have h4 : upC (lastP (ps.take q)) p.1 p.2 z = lastP (ps.take q) z := upC_other _ _ (by rw [HZ1.out]; exact fun e => HNE.out e.symm)
                rw [HOQ.out]
                unfold seeF
                rw [h4]
              case measure => have := HQT.out; simp [intOf]; omega
          · have hqi : ¬ (q : Int) < (m2 : Int) := by omega
            have hqe : ps.take q = ps := List.take_of_length_le (by have := HM.out; omega)
            have HFIN := Lib.hid (p := oq = seeF (lastP ps) (srcF Bs Ks) z) (by rw [HOQ.out, hqe])
            have hb : Below w.heap.size w wr := HBW.out.trans (HBR.out.mono HBW.out.size)
            have HBZ := Lib.hid hb
            have cd1 : wr.cell? ⟨g2, 1, none⟩ = some (.int .i64 z) := (HBR.out.cell (p := ⟨g2, 1, none⟩) R3.out.lt).trans c1
            have HX4 := Lib.hid (own_kept HX3.out HBR.out)
            have HQ4 := Lib.hid (own_kept HQ3.out HBR.out)
            rename World => wi
            clear hq hqe hb
            cases oq with
            | none =>
              go_wp2_with fail
              go_wp2
              go_quiet (fail)
              go_wp2
              refine bodyPost_ret (results_tmp4 rfl _ _ _) rfl ?_
              refine .inr ⟨z, A', m, c', rfl, Lib.hid ?_, Lib.hid (below_drewN HBZ.out _)⟩
              have h3 := HTK.out
              rw [HDR.out, runP_not HPT.out (by rw [HZ.out]; exact HFIN.out.symm), HZ.out] at h3
              exact h3.symm
            | some x =>
              have hbx : bvo (some x) = .slice x.A x.l.length x.c := rfl
              rw [hbx]
              go_wp2_with (first
                | (at_builtin
                   refine wp_join rfl _ _ rfl rec_sl w.heap.size (.slice A' m c') m (xs.flatMap sc) rfl (HX4.out.kept (World.grownBy_alloc wi _ none) (by cases hx : (Value.slice A' m c').ownBlock with | none => exact .inl rfl | some k => exact .inr (by simp))) (some ⟨wi.heap.size, 0, none⟩) 1 1 (sc x) rfl rfl (made_src wi (sc x) _) (sc_one _) (by have := HM.out; have := HKT.out; have := HD.out.lim; omega) (by have := HBZ.out.size; simp; omega) ?_
                   intro v1 w5 ho1 hg1 hat1
                   have HQ5 := Lib.hid (World.ownsRow.kept (World.ownsRow.kept HQ4.out (World.grownBy_alloc wi _ none) (by cases hx : (Value.slice A2 m2 c2).ownBlock with | none => exact .inl rfl | some k => exact .inr (by simp))) hg1 (own_parted HQ4.out HX4.out (by decide)))
                   obtain ⟨A1, c1', rfl, ho2, hb2⟩ := row_more (x := x) HBZ.out HBZ.out.size HX4.out ho1 hg1
                   have HO2 := Lib.hid ho2
                   have HB5 := Lib.hid hb2
                   clear ho1 hg1 hat1 ho2 hb2))
              go_roundw
              case rel =>
                refine ⟨k + 1, xs ++ [x], A1, m + 1, c1', ps, A2, m2, c2, Lib.hid HKT.out, by go_num, rfl, rfl, Lib.hid (by have := HM.out; rw [List.length_append]; simp; omega), Lib.hid ?_, HO2, HQ5, Lib.hid (fun x' hx => ?_), HPS, HB5⟩
                · have h3 := HTK.out
                  rw [HDR.out, runP_see HPT.out (by rw [HZ.out]; exact HFIN.out.symm)] at h3
                  rw [List.map_append, List.map_singleton]
                  exact h3
                · rcases List.mem_append.1 hx with hx | hx
                  · exact HXS.out x' hx
                  · rw [List.mem_singleton] at hx
                    subst hx
                    have h4 := HFIN.out.symm
                    unfold seeF at h4
                    split at h4
                    · rename_i y hy
                      injection h4 with h4
                      subst h4
                      obtain ⟨j, hj, _⟩ := (last_iff _ _ _).1 hy
                      exact HPS.out _ (List.mem_of_getElem? hj)
                    · exact ⟨(HS.out.hol _ (src_mem h4)).1, HS.out.len _ (src_mem h4)⟩
              case measure => have := HKT.out; simp [intOf]; omega
    · have hki : ¬ (k : Int) < (ds.length : Int) := by omega
      have hke : k = ds.length := by have := HKL.out; omega
      subst hke
      have HPA := Lib.hid (p := PutsAt wo A2 ps) ⟨Lies.own (by decide) pcs_len HQ.out, fun p hp => ((HPS.out p hp).1).below HB.out, fun p hp => (HPS.out p hp).2, by have := HM.out; have := HD.out.lim; omega⟩
      have hmm := HM.out
      obtain ⟨rfl, rfl, hxl, hpl⟩ := hmm
      have HPL := Lib.hid hpl
      have HXL := Lib.hid hxl
      clear hk hpl hxl
      go_wp2_with (first
        | (go_at_call 29; refine (rchanges A2 c2 ps wo HPA.out (by have := HPL.out; have := HD.out.lim; omega)).mono ?_; rintro e w5 ⟨qs, A3, c3, rfl, hco, hpa, hb5⟩))
      refine bodyPost_ret (results_tmp4 rfl _ _ _) rfl ?_
      have hbe := below_nxt hb5.out HB.out
      refine .inl ⟨xs, A', c', qs, A3, c3, byL (lastP ps), rfl, Lib.hid ?_, Lib.hid ⟨(Lies.own (by decide) sc_len HO.out).below hb5.out, fun x hx => ((HXS.out x hx).1).below hbe, fun x hx => (HXS.out x hx).2, by have := HXL.out; have := HD.out.lim; omega⟩, hpa, hco, Lib.hid hbe⟩
      have h3 := HTK.out
      rw [List.drop_length] at h3
      exact h3.symm
end Go.Proofs.Ytpobppoaidngeaa
