/- The reference's Changes: the last change of each slot, by rising slots. Conditions: the list lies there. -/
import Derived.Test.YtpobppoaidngeaaKk
import Derived.Test.YtpobppoaidngeaaStp
import Derived.Deep.RegionHeld3
set_option linter.unusedVariables false
set_option maxRecDepth 20000
namespace Go.Proofs.Ytpobppoaidngeaa
open Go.RowKit

section
variable {P : Program} {w : World} {t e : TypeId} {k : Nat} {ops : Array Oper} {o : Oper} {a : Act} {K : Act → World → Prop} {Q : Exit → Act → World → Prop} {E : Prop}
/-- A row appended, at a step of a region that draws. -/
theorem step_join (hgd : o.guard = none) (s x : Operand)
    (ho : o.op = .call { callee := .builtin .append, args := #[s, x], argTypes := #[t, t] }) (R : Rec P t e k) (base : Nat) (v : Value) (n : Nat) (xs : List Value) (hs : a.eval s = v) (hown : w.ownsRow base e k v n xs)
    (A : Option Addr) (m c : Nat) (ys : List Value) (hx : a.eval x = .slice A m c) (hys : ys.length = m * k) (hA : m = 0 ∧ A = none ∨ ∃ ad, A = some ad ∧ ∀ j u, ys[j]? = some u → w.cell? (ad.add j) = some u) (h1 : ∀ u ∈ ys, u.oneCell' = true) (hb : n + m ≤ 1000001) (hbase : base ≤ w.heap.size)
    (h : ∀ v' w', w'.ownsRow base e k v' (n + m) (xs ++ ys) → w.grownBy w' v.ownBlock → (v'.ownBlock = v.ownBlock ∨ v'.ownBlock = some w.heap.size) → K (a.put o.dst v') w') :
    if Region.wanted o (yielded ops a.tmps) = true then Oper.wp P o a w K Q else E := by
  have hw : Region.wanted o (yielded ops a.tmps) = true := by simp [Region.wanted, hgd]
  rw [if_pos hw]
  obtain ⟨v', w', hr, h2, h3, h4⟩ := run_join (P := P) R o.type base v n xs hown A m c ys hys hA h1 hb hbase
  unfold Oper.wp execOp
  simp only [ho, resolve, invoke, builtin, Sem.run_bind, Sem.run_pure, Result.andThen_ok, List.map_toArray, List.map_cons, List.map_nil, hs, hx, hr]
  exact h v' w' h2 h3 h4
end
/-- A slice of one change, at a step of a region that draws. -/
theorem st_bs1 {w : World} {ops : Array Oper} {o : Oper} {a : Act} {K : Act → World → Prop} {Q : Exit → Act → World → Prop} {E : Prop} (hw : Region.wanted o (yielded ops a.tmps) = true) (x : Operand) (ho : o.op = .buildSlice 37 1 #[(0, x)]) (p : Int × BV) (hx : a.eval x = .agg (pcs p).toArray)
    (h : K (a.put o.dst (.slice (some ⟨w.heap.size, 0, none⟩) 1 1)) (w.alloc (.cells (pcs p).toArray 61))) : if Region.wanted o (yielded ops a.tmps) = true then Oper.wp Try.prog o a w K Q else E := by
  rw [if_pos hw]
  unfold pcs bvv at hx h
  unfold Oper.wp execOp
  simp only [ho, List.map_toArray, List.map_cons, List.map_nil, hx]
  simp [go_sem]
  exact h
theorem size_put (W : World) : (sizeOf (Try.prog.elem 37)).run Try.prog W = .ok 2 W := by kernel_rfl
/-- A row of changes cut at its head. -/
theorem cut_low (A : Option Addr) (m c n : Nat) (hn : n ≤ m) (hc : m ≤ c) :
    ∃ A1 c1, (∀ W : World, (Instr.slice 37 (.slice A m c) (some (.int .i64 (n : Int))) none none).run Try.prog W = .ok (.slice A1 (m - n) c1) W) ∧
      ∀ (W : World) (b : Nat) (qs : List (Int × BV)), W.ownsRow b 61 2 (.slice A m c) m (qs.flatMap pcs) → (m - n = 0 ∧ A1 = none) ∨ ∃ ad, A1 = some ad ∧ ∀ j u, ((qs.drop n).flatMap pcs)[j]? = some u → W.cell? (ad.add j) = some u := by
  refine ⟨if c = n then A else A.map (·.add (n * 2)), c - n, fun W => ?_, fun W b qs h => ?_⟩
  · have h1 : (0 : Int) ≤ (n : Int) := by omega
    have h2 : (n : Int) ≤ (m : Int) := by omega
    rw [run_slice_l (P := Try.prog) W 37 A m c (by kernel_rfl) .i64 n h1 h2, size_put]
    simp [Result.andThen, sliced]
  · have hql : qs.length = m := by have := h.1; rw [flat_len pcs_len] at this; omega
    rcases own_src h with ⟨h0, hA⟩ | ⟨ad, rfl, hcell⟩
    · refine .inl ⟨by omega, ?_⟩
      rw [hA]
      split <;> rfl
    · refine .inr ?_
      by_cases hcn : c = n
      · rw [if_pos hcn]
        refine ⟨ad, rfl, fun j u hu => ?_⟩
        rw [List.drop_of_length_le (by omega)] at hu
        simp at hu
      · rw [if_neg hcn]
        refine ⟨ad.add (n * 2), rfl, fun j u hu => ?_⟩
        rw [Deep.add_add]
        refine hcell _ u ?_
        have e1 : qs.flatMap pcs = (qs.take n).flatMap pcs ++ (qs.drop n).flatMap pcs := by rw [← List.flatMap_append, List.take_append_drop]
        have e2 : ((qs.take n).flatMap pcs).length = n * 2 := by rw [flat_len pcs_len, List.length_take]; omega
        rw [e1, List.getElem?_append_right (by omega), e2, Nat.add_sub_cancel_left]
        exact hu
/-- A row of changes cut at its end. -/
theorem cut_high (A : Option Addr) (m c n : Nat) (hn : n ≤ m) (hc : m ≤ c) :
    ∃ c1, (∀ W : World, (Instr.slice 37 (.slice A m c) none (some (.int .i64 (n : Int))) none).run Try.prog W = .ok (.slice A n c1) W) ∧
      ∀ (W : World) (b : Nat) (qs : List (Int × BV)), W.ownsRow b 61 2 (.slice A m c) m (qs.flatMap pcs) → (n = 0 ∧ A = none) ∨ ∃ ad, A = some ad ∧ ∀ j u, ((qs.take n).flatMap pcs)[j]? = some u → W.cell? (ad.add j) = some u := by
  refine ⟨c, fun W => ?_, fun W b qs h => ?_⟩
  · have h1 : (0 : Int) ≤ (n : Int) := by omega
    have h2 : (n : Int) ≤ (c : Int) := by omega
    rw [run_slice_h (P := Try.prog) W 37 A m c (by kernel_rfl) .i64 n h1 h2, size_put]
    have e1 : ∀ ad : Addr, ad.add 0 = ad := fun ad => by simp [Addr.add]
    have e2 : (A.map fun x => x.add 0) = A := by cases A <;> simp [e1]
    simp only [Result.andThen_ok, sliced, Int.toNat_natCast, Nat.zero_mul, e2, Nat.sub_zero, ite_self]
  · rcases own_src h with ⟨h0, hA⟩ | ⟨ad, rfl, hcell⟩
    · exact .inl ⟨by omega, hA⟩
    · refine .inr ⟨ad, rfl, fun j u hu => hcell j u ?_⟩
      have e1 : qs.flatMap pcs = (qs.take n).flatMap pcs ++ (qs.drop n).flatMap pcs := by rw [← List.flatMap_append, List.take_append_drop]
      rw [e1, List.getElem?_append_left (List.getElem?_eq_some_iff.1 hu).1]
      exact hu
theorem own_capm {w : World} {b m c k : Nat} {e : TypeId} {A : Option Addr} {xs : List Value} (h : w.ownsRow b e k (.slice A m c) m xs) : m ≤ c := by
  rcases h.2 with ⟨h1, h2⟩ | ⟨g, cap, cur, h1, hb, hg, hn, _⟩
  · omega
  · simp only [Value.slice.injEq] at h1
    omega
theorem info_put : (Try.prog.info? 61).map (·.size) = some 2 := by kernel_rfl
/-- What the reference's Changes leaves. -/
def RChP (w : World) (ps : List (Int × BV)) (e : Ending) (w' : World) : Prop := ∃ qs A c, e = .returned (.slice A qs.length c) ∧ Hid (ChOf (byL (lastP ps)) (chL qs)) ∧ Hid (PutsAt w' A qs) ∧ Hid (Below w.heap.size w w')
theorem isLast_iff {ps : List (Int × BV)} {i : Nat} {z : Int} {bq : Bool} (h : bq = true ↔ ∀ k p, i < k → k < ps.length → ps[k]? = some p → p.1 ≠ z) : bq = true ↔ isLast ps i z := by
  rw [h]
  constructor
  · intro h1 k p hk hp
    exact h1 k p hk (List.getElem?_eq_some_iff.1 hp).1 hp
  · intro h1 k p hk _ hp
    exact h1 k p hk hp
set_option maxHeartbeats 2000000 in
theorem rchanges (A : Option Addr) (c : Nat) (ps : List (Int × BV)) (w : World) (h : PutsAt w A ps) (hn : ps.length ≤ 200) :
    Calls Try.prog 29 #[.slice A ps.length c] w (RChP w ps) := by
  have i2 := Lib.hid info_put
  have H := Lib.hid h
  have HN := Lib.hid hn
  clear h hn
  go_enter Try.func29, Try.ntmps29
  go_wp2
  go_loopw [3, 4] (fun x y wr => ∃ (k : Nat) (qs : List (Int × BV)) (A' : Option Addr) (m c' : Nat), Hid (k ≤ ps.length) ∧ y = .int .i64 (k : Int) ∧ x = .slice A' m c' ∧ Hid (m = qs.length) ∧ Hid (qs.length ≤ k) ∧ Hid (InsOf ps k qs) ∧ Hid (wr.ownsRow w.heap.size 61 2 (.slice A' m c') m (qs.flatMap pcs)) ∧ Hid (Below w.heap.size w wr)) (fun _ y _ => ps.length - (intOf y).toNat)
  case atStart => exact ⟨0, [], none, 0, 0, Lib.hid (Nat.zero_le _), rfl, rfl, Lib.hid rfl, Lib.hid (Nat.le_refl _), Lib.hid (InsOf.nil _), Lib.hid (World.ownsRow_nil _ _ _ _), Lib.hid (Below.refl _ _)⟩
  case round =>
    obtain ⟨k, qs, A', m, c', HKL, rfl, rfl, HM, HQK, HI, HO, HB⟩ := hrel
    rename World => wo
    by_cases hk : k < ps.length
    · have hki : (k : Int) < (ps.length : Int) := by omega
      obtain ⟨p, hp⟩ : ∃ p, ps[k] = p := ⟨_, rfl⟩
      have hps : ps[k]? = some p := by rw [List.getElem?_eq_getElem hk, hp]
      obtain ⟨g, o, rfl, hc⟩ := H.out.lies.at_ hk
      rw [hp] at hc
      have HP0 := Lib.hid (p := ∀ W, Below w.heap.size w W → W.cell? ⟨g, o + k * 2, none⟩ = some (.int .i64 p.1)) (fun W hb => by
        have := hc 0 _ rfl
        exact (hb.cell (p := ⟨g, o + k * 2, none⟩) (World.block_lt_of_cell? w _ this)).trans this)
      have HPA := Lib.hid (p := ∀ W, Below w.heap.size w W → W.rangeAt g (o + k * 2) (pcs p)) (fun W hb j u hu => by
        have := hc j u hu
        exact (hb.cell (p := ⟨g, o + k * 2 + j, none⟩) (World.block_lt_of_cell? w _ this)).trans this)
      have HPS := Lib.hid hps
      have HPL := Lib.hid (H.out.len p (List.mem_of_getElem? hps))
      have HKT := Lib.hid hk
      have HLI := Lib.hid (p := ∀ j q, ps[j]? = some q → ∀ W, Below w.heap.size w W → W.cell? ⟨g, o + j * 2, none⟩ = some (.int .i64 q.1)) (fun j q hq W hb => by
        have hj := (List.getElem?_eq_some_iff.1 hq).1
        obtain ⟨g2, o2, e2, hc2⟩ := H.out.lies.at_ hj
        injection e2 with e2
        injection e2 with e3 e4
        subst e3 e4
        have e5 : ps[j] = q := by
          rw [List.getElem?_eq_getElem hj] at hq
          injection hq
        rw [e5] at hc2
        have := hc2 0 _ rfl
        exact (hb.cell (p := ⟨g, o + j * 2, none⟩) (World.block_lt_of_cell? w _ this)).trans this)
      obtain ⟨z, hz⟩ : ∃ z, p.1 = z := ⟨_, rfl⟩
      have HZ := Lib.hid hz
      have hkw : IntKind.i64.wrap ((k : Int) + 1) = (k : Int) + 1 := by rw [IntKind.wrap_i64]; have := HN.out; omega
      clear hk hp hps hc hz
      go_wp2
      go_loopw [5, 6] (fun x y wr => ∃ (j : Nat) (bq : Bool), Hid (k < j ∧ j ≤ ps.length) ∧ y = .int .i64 (j : Int) ∧ x = .bool bq ∧ Hid (bq = true ↔ ∀ k' p', k < k' → k' < j → ps[k']? = some p' → p'.1 ≠ z) ∧ Hid (Below wo.heap.size wo wr)) (fun _ y _ => ps.length - (intOf y).toNat)
      case atStart => exact ⟨k + 1, true, Lib.hid ⟨by omega, HKT.out⟩, by go_num, rfl, Lib.hid ⟨fun _ k' p' h1 h2 => by omega, fun _ => rfl⟩, Lib.hid (Below.refl _ _)⟩
      case round =>
        obtain ⟨j, bq, HJ, rfl, rfl, HBQ, HBR⟩ := hrel
        by_cases hj : j < ps.length
        · have hji : (j : Int) < (ps.length : Int) := by omega
          obtain ⟨q, hq⟩ : ∃ q, ps[j]? = some q := ⟨_, List.getElem?_eq_getElem hj⟩
          have HQ := Lib.hid hq
          have HJT := Lib.hid hj
          have hjw : IntKind.i64.wrap ((j : Int) + 1) = (j : Int) + 1 := by rw [IntKind.wrap_i64]; have := HN.out; omega
          have hb : Below w.heap.size w wr := below_nxt HBR.out HB.out
          have cj := HLI.out j q hq wr hb
          have ck := HP0.out wr hb
          rw [HZ.out] at ck
          clear hj hq hb
          cases bq with
          | false =>
            go_wp2_with fail
            go_quiet (fail)
            go_wp2
            go_roundw
            case rel =>
              refine ⟨j + 1, false, Lib.hid ⟨by have := HJ.out; omega, HJT.out⟩, by go_num, rfl, Lib.hid ⟨fun e => (by cases e), fun h => ?_⟩, Lib.hid (below_drewN HBR.out _)⟩
              exact HBQ.out.2 fun k' p' h1 h2 h3 => h k' p' h1 (by omega) h3
            case measure => have := HJT.out; simp [intOf]; omega
          | true =>
            obtain ⟨q1, hq1⟩ : ∃ q1, q.1 = q1 := ⟨_, rfl⟩
            rw [hq1] at cj
            have HQ1 := Lib.hid hq1
            clear hq1
            go_wp2_with fail
            go_quiet (fail)
            go_wp2
            go_roundw
            case rel =>
              refine ⟨j + 1, q1 != z, Lib.hid ⟨by have := HJ.out; omega, HJT.out⟩, by go_num, rfl, Lib.hid ?_, Lib.hid (below_drewN HBR.out _)⟩
              rw [bne_iff_ne]
              constructor
              · intro h k' p' h1 h2 h3
                by_cases e : k' = j
                · subst e
                  rw [HQ.out] at h3
                  injection h3 with h3
                  subst h3
                  rw [HQ1.out]
                  exact h
                · exact HBQ.out.1 (by trivial) k' p' h1 (by omega) h3
              · intro h
                rw [← HQ1.out]
                exact h j q HJ.out.1 (by omega) HQ.out
            case measure => have := HJT.out; simp [intOf]; omega
        · have hji : ¬ (j : Int) < (ps.length : Int) := by omega
          have hje : j = ps.length := by have := HJ.out; omega
          subst hje
          have HLS := Lib.hid (isLast_iff HBQ.out)
          have HBW := Lib.hid (below_nxt HBR.out HB.out)
          have HOW := Lib.hid (own_kept HO.out HBR.out)
          rename World => wi
          clear hj HBQ HBR
          cases bq with
          | false =>
            go_wp2
            go_roundw
            case rel => exact ⟨k + 1, qs, A', m, c', Lib.hid HKT.out, by go_num, rfl, HM, Lib.hid (by have := HQK.out; omega), Lib.hid (HI.out.skip HPS.out (fun h => by rw [HZ.out] at h; have := HLS.out.2 h; cases this)), HOW, HBW⟩
            case measure => have := HKT.out; simp [intOf]; omega
          | true =>
            have hlast : isLast ps k p.1 := by rw [HZ.out]; exact HLS.out.1 rfl
            have HLA := Lib.hid hlast
            clear hlast
            have HLO := Lib.hid (Lies.own (by decide) pcs_len HOW.out)
            go_wp2
            go_loopw [7] (fun x wr => ∃ a : Nat, Hid (a ≤ m) ∧ x = .int .i64 (a : Int) ∧ Hid (∀ j q, j < a → qs[j]? = some q → q.1 < z) ∧ Hid (Below wi.heap.size wi wr)) (fun x _ => m - (intOf x).toNat)
            case atStart => exact ⟨0, Lib.hid (Nat.zero_le _), rfl, Lib.hid (fun j q h => by omega), Lib.hid (Below.refl _ _)⟩
            case round =>
              obtain ⟨a, HA, rfl, HLT, HBR⟩ := hrel
              have haw : IntKind.i64.wrap ((a : Int) + 1) = (a : Int) + 1 := by rw [IntKind.wrap_i64]; have := HN.out; have := HA.out; have := HM.out; have := HQK.out; have := HKT.out; omega
              have HBZ := Lib.hid (below_nxt HBR.out HBW.out)
              have ck := HP0.out wr HBZ.out
              rw [HZ.out] at ck
              by_cases ha : a < m
              · have hai : (a : Int) < (m : Int) := by omega
                have haq : a < qs.length := by rw [← HM.out]; exact ha
                obtain ⟨q, hq⟩ : ∃ q, qs[a] = q := ⟨_, rfl⟩
                obtain ⟨g3, o3, rfl, hc3⟩ := (HLO.out.below HBR.out).at_ haq
                rw [hq] at hc3
                have cq := hc3 0 _ rfl
                simp only [Nat.add_zero] at cq
                have HQS := Lib.hid (p := qs[a]? = some q) (by rw [List.getElem?_eq_getElem haq, hq])
                obtain ⟨q1, hq1⟩ : ∃ q1, q.1 = q1 := ⟨_, rfl⟩
                have cq1 : wr.cell? ⟨g3, o3 + a * 2, none⟩ = some (.int .i64 q1) := by rw [← hq1]; exact cq
                have HQ1 := Lib.hid hq1
                have HAT := Lib.hid ha
                clear ha haq hq hc3 cq hq1
                by_cases hlt : q1 < z
                · have HLT1 := Lib.hid hlt
                  go_wp2_with fail
                  go_quiet (fail)
                  go_wp2
                  go_roundw
                  case rel =>
                    refine ⟨a + 1, Lib.hid HAT.out, by go_num, Lib.hid (fun j q' hj hq' => ?_), Lib.hid (below_drewN HBR.out _)⟩
                    by_cases e : j = a
                    · subst e
                      rw [HQS.out] at hq'
                      injection hq' with hq'
                      subst hq'
                      rw [HQ1.out]
                      exact HLT1.out
                    · exact HLT.out j q' (by omega) hq'
                  case measure => have := HAT.out; simp [intOf]; omega
                · have HSTOP := Lib.hid (p := ∀ q, qs[a]? = some q → ¬ q.1 < z) (fun q' hq' => by
                    rw [HQS.out] at hq'
                    injection hq' with hq'
                    subst hq'
                    rw [HQ1.out]
                    exact hlt)
                  have hdl : decide (q1 < z) = false := decide_eq_false hlt
                  go_wp2_with fail
                  go_quiet (fail)
                  go_wp2
                  have hbf : Below wi.heap.size wi (wr.drewN nq) := below_drewN HBR.out nq
                  have HOF := Lib.hid (own_kept HOW.out hbf)
                  have HBF := Lib.hid (below_nxt hbf HBW.out)
                  have ham : a ≤ m := HA.out
                  obtain ⟨A1, c1, hlow, hlsrc⟩ := cut_low (some ⟨g3, o3, none⟩) m c' a ham (own_capm HOW.out)
                  obtain ⟨c2, hhigh, hhsrc⟩ := cut_high (some ⟨g3, o3, none⟩) m c' a ham (own_capm HOW.out)
                  have HLS1 := Lib.hid hlsrc
                  have HHS1 := Lib.hid hhsrc
                  clear hlsrc hhsrc hbf
                  generalize (wr.drewN nq) = W0 at HOF HBF ⊢
                  have HPW := Lib.hid (p := ∀ W, Below W0.heap.size W0 W → W.rangeAt g (o + k * 2) (pcs p)) (fun W hb => HPA.out W (below_nxt hb HBF.out))
                  refine wp_region_held_drew (S := fun W => W.rangeAt g (o + k * 2) (pcs p)) (by kernel_rfl) (HPW.out _ (below_drw W0)) (fun hHeld => ?_)
                  refine wpAnyH_take (i := 0) (oi := ⟨some 58, .move (.tmp 0), _, _, _, _⟩) (v := .slice (some ⟨g, o, none⟩) ps.length c) rfl (by kernel_rfl) (by kernel_rfl) (by kernel_rfl) (fun _ _ _ h => h) (.inl ⟨by rfl, fun w hSw => by go_simp⟩) (by assumption) ?_
                  simp only [Act.put, List.setIfInBounds_toArray, List.set_cons_zero, List.set_cons_succ]
                  refine wpAnyH_take (i := 1) (oi := ⟨some 59, .move (.tmp 4), _, _, _, _⟩) (v := .int .i64 (k : Int)) rfl (by kernel_rfl) (by kernel_rfl) (by kernel_rfl) (fun _ _ _ h => h) (.inl ⟨by rfl, fun w hSw => by go_simp⟩) (by assumption) ?_
                  simp only [Act.put, List.setIfInBounds_toArray, List.set_cons_zero, List.set_cons_succ]
                  refine wpAnyH_take (i := 2) (oi := ⟨some 60, .indexAddr 37 (.tmp 58) (.tmp 59), _, _, _, _⟩) (v := .pointer (some ⟨g, o + k * 2, none⟩)) rfl (by kernel_rfl) (by kernel_rfl) (by kernel_rfl) (fun _ _ _ h => h) (.inl ⟨by rfl, fun w hSw => by go_simp⟩) (by assumption) ?_
                  simp only [Act.put, List.setIfInBounds_toArray, List.set_cons_zero, List.set_cons_succ]
                  refine wpAnyH_take (i := 3) (oi := ⟨some 61, .load 61 (.tmp 60), _, _, _, _⟩) (v := .agg (pcs p).toArray) rfl (by kernel_rfl) (by kernel_rfl) (by kernel_rfl) (fun _ _ _ h => h) (yieldsIf_load_mid (by rfl) 61 (.tmp 60) rfl g (o + k * 2) rfl (pcs p) _ (fun w hSw => hSw) Try.underlying61 rfl i2.out) (by assumption) ?_
                  simp only [Act.put, List.setIfInBounds_toArray, List.set_cons_zero, List.set_cons_succ]
                  refine wpAnyH_take (i := 5) (oi := ⟨some 63, .move (.tmp 3), _, _, _, _⟩) (v := .slice (some ⟨g3, o3, none⟩) m c') rfl (by kernel_rfl) (by kernel_rfl) (by kernel_rfl) (fun _ _ _ h => h) (.inl ⟨by rfl, fun w hSw => by go_simp⟩) (by assumption) ?_
                  simp only [Act.put, List.setIfInBounds_toArray, List.set_cons_zero, List.set_cons_succ]
                  refine wpAnyH_take (i := 6) (oi := ⟨some 64, .move (.tmp 7), _, _, _, _⟩) (v := .int .i64 (a : Int)) rfl (by kernel_rfl) (by kernel_rfl) (by kernel_rfl) (fun _ _ _ h => h) (.inl ⟨by rfl, fun w hSw => by go_simp⟩) (by assumption) ?_
                  simp only [Act.put, List.setIfInBounds_toArray, List.set_cons_zero, List.set_cons_succ]
                  refine wpAnyH_take (i := 7) (oi := ⟨some 65, .slice 37 (.tmp 63) (some (.tmp 64)) none none, _, _, _, _⟩) (v := .slice A1 (m - a) c1) rfl (by kernel_rfl) (by kernel_rfl) (by kernel_rfl) (fun _ _ _ h => h) (.inl ⟨by rfl, fun w hSw => by go_simp⟩) (by assumption) ?_
                  simp only [Act.put, List.setIfInBounds_toArray, List.set_cons_zero, List.set_cons_succ]
                  refine wpAnyH_ready (rs := [4]) (by kernel_rfl) (by simp) ?_
                  refine AllReadyH.cons (o := ⟨some 62, .buildSlice 37 1 #[(0, .tmp 61)], _, _, _, _⟩) rfl (fun K hK => ?_) AllReadyH.nil
                  have HM1 := Lib.hid (made_own W0.drew 61 2 w.heap.size 1 (pcs p) rfl HBF.out.size (by decide))
                  have HB1 := Lib.hid (p := Below W0.heap.size W0 (W0.drew.alloc (.cells (pcs p).toArray 61))) ((below_drw W0).alloc (Nat.le_refl _) _)
                  refine st_bs1 (by rfl) (.tmp 61) rfl p rfl ?_
                  refine hK.out _ _ (HPW.out _ HB1.out) (fun hH4 => ?_)
                  clear hK K
                  refine wpAnyH_ready (rs := [8]) (by kernel_rfl) (by simp) ?_
                  refine AllReadyH.cons (o := ⟨some 66, .call ⟨.builtin .append, #[.tmp 62, .tmp 65], #[37, 37]⟩, _, _, _, _⟩) rfl (fun K hK => ?_) AllReadyH.nil
                  refine step_join (by rfl) (.tmp 62) (.tmp 65) rfl rec_put w.heap.size (.slice (some ⟨W0.heap.size, 0, none⟩) 1 1) 1 (pcs p) rfl HM1.out A1 (m - a) c1 ((qs.drop a).flatMap pcs) rfl (by rw [flat_len pcs_len, List.length_drop, HM.out]) (HLS1.out _ _ qs (own_kept HOF.out HB1.out)) (flat_one pcs_one _) (by have := HM.out; have := HQK.out; have := HKT.out; have := HN.out; omega) (by have := HBF.out.size; simp; omega) ?_
                  intro v2 w2 ho2 hg2 hat2
                  have hb2 : Below W0.heap.size W0 w2 := HB1.out.grown hg2 HB1.out.size (fun q hq => by have h0 : some W0.heap.size = some q := hq; injection h0 with h0; omega)
                  obtain ⟨A2, c3, rfl⟩ := own_sl ho2
                  have HB2 := Lib.hid hb2
                  have HO2 := Lib.hid ho2
                  clear ho2 hg2 hat2 hb2
                  refine hK.out _ _ (HPW.out _ HB2.out) (fun hH8 => ?_)
                  clear hK K
                  refine wpAnyH_take (i := 9) (oi := ⟨some 8, .assign (.tmp 66), _, _, _, _⟩) (v := .slice A2 (1 + (m - a)) c3) rfl (by kernel_rfl) (by kernel_rfl) (by kernel_rfl) (fun _ _ _ h => h) (.inl ⟨by rfl, fun w hSw => by go_simp⟩) (by assumption) ?_
                  simp only [Act.put, List.setIfInBounds_toArray, List.set_cons_zero, List.set_cons_succ]
                  refine wpAnyH_done (by kernel_rfl) ?_ _
                  have MK := trivial
                  go_wp2_with (first
                    | (at_builtin; clear MK
                       refine wp_join rfl _ _ rfl rec_put w.heap.size (.slice (some ⟨w2.heap.size, 0, none⟩) 0 0) 0 [] rfl (void_own w2 _ 2 _ (Nat.le_trans HBF.out.size HB2.out.size)) (some ⟨g3, o3, none⟩) a c2 ((qs.take a).flatMap pcs) rfl (by rw [flat_len pcs_len, List.length_take, ← HM.out, Nat.min_eq_left HA.out]) (HHS1.out _ _ qs (own_kept HOF.out (HB2.out.alloc HB2.out.size _))) (flat_one pcs_one _) (by have := HM.out; have := HQK.out; have := HKT.out; have := HN.out; have := HA.out; omega) (by have := HBF.out.size; have := HB2.out.size; simp; omega) ?_
                       intro v3 w3 ho3 hg3 hat3
                       have hb3 : Below w2.heap.size w2 w3 := ((Below.refl _ _).alloc (Nat.le_refl _) _).grown hg3 (by simp) (fun q hq => by have h0 : some w2.heap.size = some q := hq; injection h0 with h0; omega)
                       rw [Nat.zero_add, List.nil_append] at ho3
                       obtain ⟨A3, c4, rfl⟩ := own_sl ho3
                       have HB3 := Lib.hid hb3
                       have HO3 := Lib.hid ho3
                       have HG3 := Lib.hid (p := ∀ q, (Value.slice A3 a c4).ownBlock = some q → w2.heap.size ≤ q) (fun q hq => by
                         rcases hat3 with h | h
                         · rw [h] at hq; simp [Value.ownBlock] at hq; omega
                         · rw [h] at hq; injection hq with hq; simp at hq; omega)
                       clear ho3 hg3 hat3 hb3)
                    | (at_builtin
                       refine wp_join rfl _ _ rfl rec_put w.heap.size (.slice A3 a c4) a ((qs.take a).flatMap pcs) rfl HO3.out A2 (1 + (m - a)) c3 (pcs p ++ (qs.drop a).flatMap pcs) rfl (by rw [List.length_append, flat_len pcs_len, List.length_drop, HM.out, pcs_len]; omega) (own_src (own_kept HO2.out HB3.out)) (by
                         intro u hu
                         rcases List.mem_append.1 hu with hu | hu
                         · exact pcs_one _ u hu
                         · exact flat_one pcs_one _ u hu) (by have := HM.out; have := HQK.out; have := HKT.out; have := HN.out; have := HA.out; omega) (by have := HBF.out.size; have := HB2.out.size; have := HB3.out.size; omega) ?_
                       intro v5 w5 ho5 hg5 hat5
                       have hb5 : Below W0.heap.size W0 w5 := (HB2.out.trans (HB3.out.mono HB2.out.size)).grown hg5 (Nat.le_trans HB2.out.size HB3.out.size) (fun q hq => Nat.le_trans HB2.out.size (HG3.out q hq))
                       obtain ⟨A5, c5, rfl⟩ := own_sl ho5
                       have HB5 := Lib.hid hb5
                       have HO5 := Lib.hid ho5
                       clear ho5 hg5 hat5 hb5))
                  go_roundw
                  case rel =>
                    have hln : a + (1 + (m - a)) = (qs.take a ++ (p :: qs.drop a)).length := by rw [List.length_append, List.length_take, List.length_cons, List.length_drop, ← HM.out, Nat.min_eq_left HA.out]; omega
                    refine ⟨k + 1, qs.take a ++ (p :: qs.drop a), A5, a + (1 + (m - a)), c5, Lib.hid HKT.out, by go_num, rfl, Lib.hid hln, Lib.hid (by rw [← hln]; have := HM.out; have := HQK.out; have := HA.out; omega), Lib.hid (HI.out.ins HPS.out HLA.out (fun j q hj hq => by rw [HZ.out]; exact HLT.out j q hj hq) (fun q hq => by rw [HZ.out]; have := HSTOP.out q hq; omega)), Lib.hid ?_, Lib.hid (below_nxt HB5.out HBF.out)⟩
                    have e1 : (qs.take a ++ (p :: qs.drop a)).flatMap pcs = (qs.take a).flatMap pcs ++ (pcs p ++ (qs.drop a).flatMap pcs) := by rw [List.flatMap_append, List.flatMap_cons]
                    rw [e1]
                    exact HO5.out
                  case measure => have := HKT.out; simp [intOf]; omega
              · have hai : ¬ (a : Int) < (m : Int) := by omega
                have hdl : decide ((a : Int) < (m : Int)) = false := decide_eq_false hai
                have hdn : decide (a < m) = false := decide_eq_false ha
                have HSTOP := Lib.hid (p := ∀ q, qs[a]? = some q → ¬ q.1 < z) (fun q' hq' => by
                  have := (List.getElem?_eq_some_iff.1 hq').1
                  have := HM.out
                  omega)
                go_wp2_with fail
                go_quiet (fail)
                go_wp2
                have hbf : Below wi.heap.size wi (wr.drewN nq) := below_drewN HBR.out nq
                have HOF := Lib.hid (own_kept HOW.out hbf)
                have HBF := Lib.hid (below_nxt hbf HBW.out)
                have ham : a ≤ m := HA.out
                obtain ⟨A1, c1, hlow, hlsrc⟩ := cut_low (A') m c' a ham (own_capm HOW.out)
                obtain ⟨c2, hhigh, hhsrc⟩ := cut_high (A') m c' a ham (own_capm HOW.out)
                have HLS1 := Lib.hid hlsrc
                have HHS1 := Lib.hid hhsrc
                clear hlsrc hhsrc hbf
                generalize (wr.drewN nq) = W0 at HOF HBF ⊢
                have HPW := Lib.hid (p := ∀ W, Below W0.heap.size W0 W → W.rangeAt g (o + k * 2) (pcs p)) (fun W hb => HPA.out W (below_nxt hb HBF.out))
                refine wp_region_held_drew (S := fun W => W.rangeAt g (o + k * 2) (pcs p)) (by kernel_rfl) (HPW.out _ (below_drw W0)) (fun hHeld => ?_)
                refine wpAnyH_take (i := 0) (oi := ⟨some 58, .move (.tmp 0), _, _, _, _⟩) (v := .slice (some ⟨g, o, none⟩) ps.length c) rfl (by kernel_rfl) (by kernel_rfl) (by kernel_rfl) (fun _ _ _ h => h) (.inl ⟨by rfl, fun w hSw => by go_simp⟩) (by assumption) ?_
                simp only [Act.put, List.setIfInBounds_toArray, List.set_cons_zero, List.set_cons_succ]
                refine wpAnyH_take (i := 1) (oi := ⟨some 59, .move (.tmp 4), _, _, _, _⟩) (v := .int .i64 (k : Int)) rfl (by kernel_rfl) (by kernel_rfl) (by kernel_rfl) (fun _ _ _ h => h) (.inl ⟨by rfl, fun w hSw => by go_simp⟩) (by assumption) ?_
                simp only [Act.put, List.setIfInBounds_toArray, List.set_cons_zero, List.set_cons_succ]
                refine wpAnyH_take (i := 2) (oi := ⟨some 60, .indexAddr 37 (.tmp 58) (.tmp 59), _, _, _, _⟩) (v := .pointer (some ⟨g, o + k * 2, none⟩)) rfl (by kernel_rfl) (by kernel_rfl) (by kernel_rfl) (fun _ _ _ h => h) (.inl ⟨by rfl, fun w hSw => by go_simp⟩) (by assumption) ?_
                simp only [Act.put, List.setIfInBounds_toArray, List.set_cons_zero, List.set_cons_succ]
                refine wpAnyH_take (i := 3) (oi := ⟨some 61, .load 61 (.tmp 60), _, _, _, _⟩) (v := .agg (pcs p).toArray) rfl (by kernel_rfl) (by kernel_rfl) (by kernel_rfl) (fun _ _ _ h => h) (yieldsIf_load_mid (by rfl) 61 (.tmp 60) rfl g (o + k * 2) rfl (pcs p) _ (fun w hSw => hSw) Try.underlying61 rfl i2.out) (by assumption) ?_
                simp only [Act.put, List.setIfInBounds_toArray, List.set_cons_zero, List.set_cons_succ]
                refine wpAnyH_take (i := 5) (oi := ⟨some 63, .move (.tmp 3), _, _, _, _⟩) (v := .slice (A') m c') rfl (by kernel_rfl) (by kernel_rfl) (by kernel_rfl) (fun _ _ _ h => h) (.inl ⟨by rfl, fun w hSw => by go_simp⟩) (by assumption) ?_
                simp only [Act.put, List.setIfInBounds_toArray, List.set_cons_zero, List.set_cons_succ]
                refine wpAnyH_take (i := 6) (oi := ⟨some 64, .move (.tmp 7), _, _, _, _⟩) (v := .int .i64 (a : Int)) rfl (by kernel_rfl) (by kernel_rfl) (by kernel_rfl) (fun _ _ _ h => h) (.inl ⟨by rfl, fun w hSw => by go_simp⟩) (by assumption) ?_
                simp only [Act.put, List.setIfInBounds_toArray, List.set_cons_zero, List.set_cons_succ]
                refine wpAnyH_take (i := 7) (oi := ⟨some 65, .slice 37 (.tmp 63) (some (.tmp 64)) none none, _, _, _, _⟩) (v := .slice A1 (m - a) c1) rfl (by kernel_rfl) (by kernel_rfl) (by kernel_rfl) (fun _ _ _ h => h) (.inl ⟨by rfl, fun w hSw => by go_simp⟩) (by assumption) ?_
                simp only [Act.put, List.setIfInBounds_toArray, List.set_cons_zero, List.set_cons_succ]
                refine wpAnyH_ready (rs := [4]) (by kernel_rfl) (by simp) ?_
                refine AllReadyH.cons (o := ⟨some 62, .buildSlice 37 1 #[(0, .tmp 61)], _, _, _, _⟩) rfl (fun K hK => ?_) AllReadyH.nil
                have HM1 := Lib.hid (made_own W0.drew 61 2 w.heap.size 1 (pcs p) rfl HBF.out.size (by decide))
                have HB1 := Lib.hid (p := Below W0.heap.size W0 (W0.drew.alloc (.cells (pcs p).toArray 61))) ((below_drw W0).alloc (Nat.le_refl _) _)
                refine st_bs1 (by rfl) (.tmp 61) rfl p rfl ?_
                refine hK.out _ _ (HPW.out _ HB1.out) (fun hH4 => ?_)
                clear hK K
                refine wpAnyH_ready (rs := [8]) (by kernel_rfl) (by simp) ?_
                refine AllReadyH.cons (o := ⟨some 66, .call ⟨.builtin .append, #[.tmp 62, .tmp 65], #[37, 37]⟩, _, _, _, _⟩) rfl (fun K hK => ?_) AllReadyH.nil
                refine step_join (by rfl) (.tmp 62) (.tmp 65) rfl rec_put w.heap.size (.slice (some ⟨W0.heap.size, 0, none⟩) 1 1) 1 (pcs p) rfl HM1.out A1 (m - a) c1 ((qs.drop a).flatMap pcs) rfl (by rw [flat_len pcs_len, List.length_drop, HM.out]) (HLS1.out _ _ qs (own_kept HOF.out HB1.out)) (flat_one pcs_one _) (by have := HM.out; have := HQK.out; have := HKT.out; have := HN.out; omega) (by have := HBF.out.size; simp; omega) ?_
                intro v2 w2 ho2 hg2 hat2
                have hb2 : Below W0.heap.size W0 w2 := HB1.out.grown hg2 HB1.out.size (fun q hq => by have h0 : some W0.heap.size = some q := hq; injection h0 with h0; omega)
                obtain ⟨A2, c3, rfl⟩ := own_sl ho2
                have HB2 := Lib.hid hb2
                have HO2 := Lib.hid ho2
                clear ho2 hg2 hat2 hb2
                refine hK.out _ _ (HPW.out _ HB2.out) (fun hH8 => ?_)
                clear hK K
                refine wpAnyH_take (i := 9) (oi := ⟨some 8, .assign (.tmp 66), _, _, _, _⟩) (v := .slice A2 (1 + (m - a)) c3) rfl (by kernel_rfl) (by kernel_rfl) (by kernel_rfl) (fun _ _ _ h => h) (.inl ⟨by rfl, fun w hSw => by go_simp⟩) (by assumption) ?_
                simp only [Act.put, List.setIfInBounds_toArray, List.set_cons_zero, List.set_cons_succ]
                refine wpAnyH_done (by kernel_rfl) ?_ _
                have MK := trivial
                go_wp2_with (first
                  | (at_builtin; clear MK
                     refine wp_join rfl _ _ rfl rec_put w.heap.size (.slice (some ⟨w2.heap.size, 0, none⟩) 0 0) 0 [] rfl (void_own w2 _ 2 _ (Nat.le_trans HBF.out.size HB2.out.size)) (A') a c2 ((qs.take a).flatMap pcs) rfl (by rw [flat_len pcs_len, List.length_take, ← HM.out, Nat.min_eq_left HA.out]) (HHS1.out _ _ qs (own_kept HOF.out (HB2.out.alloc HB2.out.size _))) (flat_one pcs_one _) (by have := HM.out; have := HQK.out; have := HKT.out; have := HN.out; have := HA.out; omega) (by have := HBF.out.size; have := HB2.out.size; simp; omega) ?_
                     intro v3 w3 ho3 hg3 hat3
                     have hb3 : Below w2.heap.size w2 w3 := ((Below.refl _ _).alloc (Nat.le_refl _) _).grown hg3 (by simp) (fun q hq => by have h0 : some w2.heap.size = some q := hq; injection h0 with h0; omega)
                     rw [Nat.zero_add, List.nil_append] at ho3
                     obtain ⟨A3, c4, rfl⟩ := own_sl ho3
                     have HB3 := Lib.hid hb3
                     have HO3 := Lib.hid ho3
                     have HG3 := Lib.hid (p := ∀ q, (Value.slice A3 a c4).ownBlock = some q → w2.heap.size ≤ q) (fun q hq => by
                       rcases hat3 with h | h
                       · rw [h] at hq; simp [Value.ownBlock] at hq; omega
                       · rw [h] at hq; injection hq with hq; simp at hq; omega)
                     clear ho3 hg3 hat3 hb3)
                  | (at_builtin
                     refine wp_join rfl _ _ rfl rec_put w.heap.size (.slice A3 a c4) a ((qs.take a).flatMap pcs) rfl HO3.out A2 (1 + (m - a)) c3 (pcs p ++ (qs.drop a).flatMap pcs) rfl (by rw [List.length_append, flat_len pcs_len, List.length_drop, HM.out, pcs_len]; omega) (own_src (own_kept HO2.out HB3.out)) (by
                       intro u hu
                       rcases List.mem_append.1 hu with hu | hu
                       · exact pcs_one _ u hu
                       · exact flat_one pcs_one _ u hu) (by have := HM.out; have := HQK.out; have := HKT.out; have := HN.out; have := HA.out; omega) (by have := HBF.out.size; have := HB2.out.size; have := HB3.out.size; omega) ?_
                     intro v5 w5 ho5 hg5 hat5
                     have hb5 : Below W0.heap.size W0 w5 := (HB2.out.trans (HB3.out.mono HB2.out.size)).grown hg5 (Nat.le_trans HB2.out.size HB3.out.size) (fun q hq => Nat.le_trans HB2.out.size (HG3.out q hq))
                     obtain ⟨A5, c5, rfl⟩ := own_sl ho5
                     have HB5 := Lib.hid hb5
                     have HO5 := Lib.hid ho5
                     clear ho5 hg5 hat5 hb5))
                go_roundw
                case rel =>
                  have hln : a + (1 + (m - a)) = (qs.take a ++ (p :: qs.drop a)).length := by rw [List.length_append, List.length_take, List.length_cons, List.length_drop, ← HM.out, Nat.min_eq_left HA.out]; omega
                  refine ⟨k + 1, qs.take a ++ (p :: qs.drop a), A5, a + (1 + (m - a)), c5, Lib.hid HKT.out, by go_num, rfl, Lib.hid hln, Lib.hid (by rw [← hln]; have := HM.out; have := HQK.out; have := HA.out; omega), Lib.hid (HI.out.ins HPS.out HLA.out (fun j q hj hq => by rw [HZ.out]; exact HLT.out j q hj hq) (fun q hq => by rw [HZ.out]; have := HSTOP.out q hq; omega)), Lib.hid ?_, Lib.hid (below_nxt HB5.out HBF.out)⟩
                  have e1 : (qs.take a ++ (p :: qs.drop a)).flatMap pcs = (qs.take a).flatMap pcs ++ (pcs p ++ (qs.drop a).flatMap pcs) := by rw [List.flatMap_append, List.flatMap_cons]
                  rw [e1]
                  exact HO5.out
                case measure => have := HKT.out; simp [intOf]; omega
    · have hki : ¬ (k : Int) < (ps.length : Int) := by omega
      have hke : k = ps.length := by have := HKL.out; omega
      subst hke
      clear hk
      go_wp2
      go_ret
      obtain rfl := HM.out
      exact ⟨qs, A', c', rfl, Lib.hid HI.out.done, Lib.hid ⟨Lies.own (by decide) pcs_len HO.out, fun q hq => (by
        obtain ⟨j, _, h2, _⟩ := (HI.out.mem q).1 hq
        exact (H.out.hol q (List.mem_of_getElem? h2)).below HB.out), fun q hq => (by
        obtain ⟨j, _, h2, _⟩ := (HI.out.mem q).1 hq
        exact H.out.len q (List.mem_of_getElem? h2)), by have := HQK.out; have := HN.out; omega⟩, HB⟩
end Go.Proofs.Ytpobppoaidngeaa
