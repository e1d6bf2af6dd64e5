/- Four records as a node's block, by package node: what the call leaves, for every four records. Conditions: their numbers fit. -/
import Derived.Test.YtibnmhaipogleaaDoorNodeR
import Derived.StillTailTactics
set_option linter.unusedVariables false
set_option maxRecDepth 20000
namespace Go.Proofs.YtibnmhaipogleaaDoor
open Go.RowKit

theorem RecV.eqb_a {r q : RecV} (h : r.eqb q = true) : r.a = q.a := by
  simp [RecV.eqb] at h
  exact h.1
theorem RecV.may_in {r : RecV} (h : r.may = true) : ∃ k : Nat, r.a = (k : Int) ∧ k < 65536 := by
  unfold RecV.may at h
  rw [Bool.or_eq_true] at h
  rcases h with h | h
  · unfold RecV.leads at h
    simp at h
    exact ⟨r.a.toNat, by omega, by omega⟩
  · have := RecV.eqb_a h
    exact ⟨0, by rw [this]; rfl, by omega⟩
theorem run_cut_at (g k : Nat) (hk : k < 4) (w : World) : (Instr.sliceAt 29 (.slice (some ⟨g, 0, none⟩) 256 256) (some (.int .i64 ((42 * k : Nat) : Int))) none none).run Tryd.prog w = .ok (.slice (some ⟨g, 42 * k, none⟩) (256 - 42 * k) (256 - 42 * k)) w := by
  have hu : Tryd.prog.underlying 29 = some (.slice (Tryd.prog.elem 29)) := by kernel_rfl
  have hs : ∀ w, (sizeOf (Tryd.prog.elem 29)).run Tryd.prog w = .ok 1 w := fun w => size_of (by kernel_rfl) w
  rw [run_sliceAt_slice w _ _ _ _ _ hu, run_slice_l w _ _ _ _ hu .i64 _ (by omega) (by omega), hs]
  have h1 : ¬ 256 = 42 * k := by omega
  simp only [Result.andThen_ok, sliced, Int.toNat_natCast, Nat.mul_one, if_neg h1, Option.map_some, Addr.add_lit, Nat.zero_add]
/-- What Pack leaves. -/
def PackPost (R : Nat → RecV) (w : World) (e : Ending) (w' : World) : Prop :=
  ((∀ k, k < 4 → (R k).may = true) ∧ ∃ g, e = .returned (.tuple #[.slice (some ⟨g, 0, none⟩) 256 256, .int .i64 0]) ∧ Row w' g 5 (brr 256 (pk R)) ∧ w.heap.size ≤ g ∧ Below w.heap.size w w') ∨
  ((∃ k, k < 4 ∧ (R k).may = false) ∧ e = .returned (.tuple #[.slice none 0 0, .int .i64 201]) ∧ Below w.heap.size w w')
set_option maxHeartbeats 2000000 in
theorem pack_any (R : Nat → RecV) (hR : ∀ k, k < 4 → (R k).Ok) (w : World) : Calls Tryd.prog 11 #[.agg (recsC R).toArray] w (PackPost R w) := by
  obtain ⟨i, U⟩ := u8_tab
  have h8 := Lib.hid (p := (Tryd.prog.info? 5).map (·.size) = some 1) (by rw [U.hi]; simp [U.h1])
  have i140 := Lib.hid (p := (Tryd.prog.info? 27).map (·.size) = some (recsC R).length) (by rw [recsC_len]; exact info_recs)
  have i35 := Lib.hid (p := ∀ r : RecV, (Tryd.prog.info? 26).map (·.size) = some r.cs.length) (fun r => by rw [r.cs_len]; exact info_rec)
  have hz := Lib.hid zero_rec
  have HR := Lib.hid hR
  have HX := Lib.hid (p := ∀ k : Nat, k < 4 → ∀ W : World, (Instr.index 27 (.agg (recsC R).toArray) (.int .i64 (k : Int))).run Tryd.prog W = .ok (.agg (R k).cs.toArray) W) (fun k hk W => run_index_rec R k hk W)
  clear hR
  go_enter Tryd.func11, Tryd.ntmps11
  go_wp2_with (first
    | (refine step_box rfl 1 rfl 27 _ rfl (recsC R) rfl ?_; intro g1 w1 hr1 hg1 hb1 hs1)
    | (refine step_make rfl _ _ 29 5 i U rfl 256 rfl rfl (by omega) ?_; intro g2 w2 hr2 hg2 hb2 hs2)
    | (refine step_load rfl 8 rfl 27 (.tmp 1) rfl g1 rfl (recsC R) _ (hr1.kept hb2).all Tryd.underlying27 rfl i140.out ?_))
  have hb12 : Below w.heap.size w w2 := hb1.trans (hb2.mono hb1.size)
  have q2 := Lib.hid (p := w.heap.size ≤ g2) (by rw [hg2.out]; exact hb1.size)
  have hr2' : Row w2 g2 5 (brr 256 (upto (42 * 0) (pk R) fun _ => 0)) := by rw [Nat.mul_zero, upto_zero]; exact hr2
  clear hr1 hb1 hg1 hs1 hb2 hg2 hs2 hr2
  go_loopw [9] (fun x wr => ∃ k : Nat, k ≤ 4 ∧ x = .int .i64 (k : Int) ∧ Hid (∀ j, j < k → (R j).may = true) ∧ Hid (Row wr g2 5 (brr 256 (upto (42 * k) (pk R) fun _ => 0))) ∧ Hid (Below w.heap.size w wr)) (fun x _ => 4 - (intOf x).toNat)
  case atStart => exact ⟨0, by omega, rfl, fun j hj => by omega, hr2', hb12⟩
  case round =>
    clear hr2' hb12
    obtain ⟨k, hk, rfl, HM, HRow, HB⟩ := hrel
    by_cases h4 : k < 4
    · have hix := HX.out k h4
      have hki : (k : Int) < 4 := by omega
      by_cases hm : (R k).may = true
      · obtain ⟨m, hma, hm2⟩ := RecV.may_in hm
        have HMA := Lib.hid hma
        have HM2 := Lib.hid hm2
        have HM1 := Lib.hid hm
        clear hma hm2
        have e1 : IntKind.i64.wrap ((k : Int) * 42) = ((42 * k : Nat) : Int) := by rw [IntKind.wrap_i64]; omega
        have e2 : ((42 * k : Nat) : Int) ≤ 256 := by omega
        have e3 : (0 : Int) ≤ ((42 * k : Nat) : Int) := by omega
        go_wp2_with (first
          | (refine step_alloc rfl 6 rfl 26 rfl _ hz ?_; intro g6 w6 hr6 hg6 hb6 hs6)
          | (refine step_store rfl 26 (.tmp 6) (.tmp 12) rfl g6 (by rfl) _ rec0.cs (R k).cs (by rfl) hr6 (by rw [RecV.cs_len, RecV.cs_len]) (i35.out _) (RecV.cs_one _) ?_; intro w7 hr7 hg7 hs7)
          | (refine step_load rfl 13 rfl 26 (.tmp 6) rfl g6 rfl (R k).cs _ hr7.all Tryd.underlying26 rfl (i35.out _) ?_)
          | (go_at_call 25; refine (mayBe_any (R k) _).mono ?_; rintro e8 w8 ⟨rfl, hb8⟩; rw [HM1.out]))
        have hr8 := hr7.kept hb8
        have HB78 := Lib.hid (p := Below wr.heap.size wr w8) (((hb6.grown hg7 hb6.size (fun q hq => by injection hq with hq; subst hq; rw [hg6.out]; exact Nat.le_refl _))).trans (hb8.mono (by have := hb6.size; have := hs7.out; omega)))
        have HR8 := Lib.hid hr8
        have HG6 := Lib.hid (p := g2 < g6) (by rw [hg6.out]; exact HRow.out.lt)
        have hcut := run_cut_at g2 k h4
        clear hr7 hg7 hs7 hb8 hr6 hg6 hb6 hs6 hr8
        refine wp_region_held_drew (S := fun W => W.rangeAt g6 0 (R k).cs) (by kernel_rfl) (HR8.out.drew.all) (fun hHeld => ?_)
        refine wpAnyH_take (i := 0) (oi := ⟨some 16, .move (.tmp 4), _, _, _, none⟩) (v := .slice (some ⟨g2, 0, none⟩) 256 256) rfl (by kernel_rfl) (by kernel_rfl) (by kernel_rfl) (fun _ _ _ h => h) (.inl ⟨by rfl, fun w hSw => by go_simp⟩) (by assumption) ?_
        simp only [Act.put, List.setIfInBounds_toArray, List.set_cons_zero, List.set_cons_succ]
        refine wpAnyH_take (i := 1) (oi := ⟨some 17, .move (.tmp 5), _, _, _, none⟩) (v := .int .i64 (k : Int)) rfl (by kernel_rfl) (by kernel_rfl) (by kernel_rfl) (fun _ _ _ h => h) (.inl ⟨by rfl, fun w hSw => by go_simp⟩) (by assumption) ?_
        simp only [Act.put, List.setIfInBounds_toArray, List.set_cons_zero, List.set_cons_succ]
        refine wpAnyH_take (i := 2) (oi := ⟨some 18, .binOp .mul 3 (.tmp 17) (.const (.int .i64 42)) 3, _, _, _, none⟩) (v := .int .i64 ((42 * k : Nat) : Int)) rfl (by kernel_rfl) (by kernel_rfl) (by kernel_rfl) (fun _ _ _ h => h) (.inl ⟨by rfl, fun w hSw => by go_simp⟩) (by assumption) ?_
        simp only [Act.put, List.setIfInBounds_toArray, List.set_cons_zero, List.set_cons_succ]
        refine wpAnyH_take (i := 3) (oi := ⟨some 19, .slice 29 (.tmp 16) (some (.tmp 18)) none none, _, _, _, none⟩) (v := .slice (some ⟨g2, 42 * k, none⟩) (256 - 42 * k) (256 - 42 * k)) rfl (by kernel_rfl) (by kernel_rfl) (by kernel_rfl) (fun _ _ _ h => h) (.inl ⟨by rfl, fun w hSw => by have h9 := hcut w; unfold execOp; simp only [Sem.run_bind]; exact congrArg (fun r => Result.andThen r _) h9⟩) (by assumption) ?_
        simp only [Act.put, List.setIfInBounds_toArray, List.set_cons_zero, List.set_cons_succ]
        refine wpAnyH_take (i := 4) (oi := ⟨some 20, .load 26 (.tmp 6), _, _, _, none⟩) (v := .agg (R k).cs.toArray) rfl (by kernel_rfl) (by kernel_rfl) (by kernel_rfl) (fun _ _ _ h => h) (yieldsIf_load_mid (by rfl) 26 (.tmp 6) rfl g6 0 rfl (R k).cs _ (fun w hSw => hSw) Tryd.underlying26 rfl (i35.out _)) (by assumption) ?_
        simp only [Act.put, List.setIfInBounds_toArray, List.set_cons_zero, List.set_cons_succ]
        refine wpAnyH_ready (rs := [5]) (by kernel_rfl) (by simp) ?_
        refine AllReadyH.cons (o := ⟨some 21, .call ⟨.value (.func 26), #[.tmp 20], _⟩, _, _, _, none⟩) rfl (fun K hK => ?_) AllReadyH.nil
        go_simp
        refine (record_any (R k) m HMA.out HM2.out (HR.out k h4) _).mono ?_
        rintro x9 w9 ⟨A9, n9, c9, rfl, hn9, ho9, hb9⟩
        have HB9 := Lib.hid (p := Below w8.heap.size w8 w9) (below_next hb9.out (below_draw w8))
        have HL9 := Lib.hid (Hol.own ho9.out)
        have HRow9 := Lib.hid (HRow.out.kept (HB78.out.trans (HB9.out.mono HB78.out.size)))
        have HR9 := Lib.hid (HR8.out.kept HB9.out)
        clear ho9 hb9
        refine hK.out _ _ HR9.out.all (fun hH2 => ?_)
        clear hK K
        refine wpAnyH_ready (rs := [6]) (by kernel_rfl) (by simp) ?_
        refine AllReadyH.cons (o := ⟨some 22, .call ⟨.builtin .copy, #[.tmp 19, .tmp 21], #[29, 29]⟩, _, _, _, none⟩) rfl (fun K hK => ?_) AllReadyH.nil
        refine step_copy rfl (.tmp 19) (.tmp 21) _ _ rfl 5 U.ht h8.out g2 (42 * k) 256 (256 - 42 * k) (256 - 42 * k) _ _ rfl HRow9.out A9 n9 c9 (R k).b rfl hn9.out HL9.out (by have h1 : Nat.min n9 (256 - 42 * k) ≤ 256 - 42 * k := Nat.min_le_right _ _; omega) ?_
        intro w10 k10 hr10 hu10
        have HR10 := Lib.hid (HR9.out.grown hu10.out.1 (fun e => by injection e with e; have := HG6.out; omega))
        have hpk : brr 256 (ov (42 * k) ((R k).b.take (256 - 42 * k)) (upto (42 * k) (pk R) fun _ => 0)) = brr 256 (upto (42 * (k + 1)) (pk R) fun _ => 0) := brr_congr fun j _ => pk_step R k _ h4 (by omega) j
        rw [hpk] at hr10
        have HRow10 := Lib.hid hr10
        have HB10 := Lib.hid (p := Below w.heap.size w w10) ((HB.out.trans ((HB78.out.trans (HB9.out.mono HB78.out.size)).mono HB.out.size)).grown hu10.out.1 (Nat.le_trans HB.out.size (Nat.le_trans HB78.out.size HB9.out.size)) (fun q hq => by injection hq with hq; subst hq; exact q2.out))
        have HM10 := Lib.hid (p := ∀ j, j < k + 1 → (R j).may = true) (fun j hj => by
          by_cases e : j = k
          · rw [e]; exact HM1.out
          · exact HM.out j (by omega))
        clear hr10 hu10 hpk
        refine hK.out _ _ HR10.out.all (fun hH3 => ?_)
        clear hK K
        refine wpAnyH_done (by kernel_rfl) ?_ _
        go_wp2
        go_roundw
        case rel => exact ⟨k + 1, by omega, by go_num, HM10, HRow10, HB10⟩
        case measure => simp [intOf]; omega
      · have HM1 := Lib.hid (p := (R k).may = false) (by simpa using hm)
        clear hm
        go_wp2_with (first
          | (refine step_alloc rfl 6 rfl 26 rfl _ hz ?_; intro g6 w6 hr6 hg6 hb6 hs6)
          | (refine step_store rfl 26 (.tmp 6) (.tmp 12) rfl g6 (by rfl) _ rec0.cs (R k).cs (by rfl) hr6 (by rw [RecV.cs_len, RecV.cs_len]) (i35.out _) (RecV.cs_one _) ?_; intro w7 hr7 hg7 hs7)
          | (refine step_load rfl 13 rfl 26 (.tmp 6) rfl g6 rfl (R k).cs _ hr7.all Tryd.underlying26 rfl (i35.out _) ?_)
          | (go_at_call 25; refine (mayBe_any (R k) _).mono ?_; rintro e8 w8 ⟨rfl, hb8⟩; rw [HM1.out]))
        go_ret2
        refine .inr ⟨⟨k, h4, HM1.out⟩, rfl, ?_⟩
        have hb67 : Below wr.heap.size wr w7 := hb6.grown hg7 hb6.size (fun q hq => by injection hq with hq; subst hq; rw [hg6.out]; exact Nat.le_refl _)
        have s7 : wr.heap.size ≤ w7.heap.size := hb67.size
        exact HB.out.trans ((hb67.trans (hb8.mono s7)).mono HB.out.size)
    · obtain rfl : k = 4 := by omega
      have hpk : brr 256 (upto (42 * 4) (pk R) fun _ => 0) = brr 256 (pk R) := brr_congr fun j _ => pk_end R j
      rw [hpk] at HRow
      go_wp2
      go_ret2
      exact .inl ⟨HM.out, g2, rfl, HRow.out, q2.out, HB.out⟩
/-- Four records that may be. -/
theorem pack_ok (R : Nat → RecV) (hR : ∀ k, k < 4 → (R k).Ok) (h : ∀ k, k < 4 → (R k).may = true) (w : World) : Calls Tryd.prog 11 #[.agg (recsC R).toArray] w fun e w' =>
    ∃ g, e = .returned (.tuple #[.slice (some ⟨g, 0, none⟩) 256 256, .int .i64 0]) ∧ Hid (Row w' g 5 (brr 256 (pk R))) ∧ Hid (w.heap.size ≤ g) ∧ Hid (Below w.heap.size w w') := by
  refine (pack_any R hR w).mono ?_
  rintro e w' (⟨_, g, rfl, hr, hq, hb⟩ | ⟨⟨k, hk, hm⟩, _⟩)
  · exact ⟨g, rfl, hr, hq, hb⟩
  · rw [h k hk] at hm
    cases hm
/-- Four records of which one may not be. -/
theorem pack_not (R : Nat → RecV) (hR : ∀ k, k < 4 → (R k).Ok) (k : Nat) (hk : k < 4) (h : (R k).may = false) (w : World) : Calls Tryd.prog 11 #[.agg (recsC R).toArray] w fun e w' =>
    e = .returned (.tuple #[.slice none 0 0, .int .i64 201]) ∧ Hid (Below w.heap.size w w') := by
  refine (pack_any R hR w).mono ?_
  rintro e w' (⟨hm, _⟩ | ⟨_, he, hb⟩)
  · rw [hm k hk] at h
    cases h
  · exact ⟨he, hb⟩
end Go.Proofs.YtibnmhaipogleaaDoor
