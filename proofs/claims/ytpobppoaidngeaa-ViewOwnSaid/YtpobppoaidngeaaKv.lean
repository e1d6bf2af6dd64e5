/- The walk of ViewOwn. Conditions: those named. -/
import Derived.Test.YtpobppoaidngeaaKt
import Derived.Test.YtpobppoaidngeaaKv0
set_option linter.unusedVariables false
set_option maxRecDepth 20000
namespace Go.Proofs.Ytpobppoaidngeaa
open Go.RowKit

theorem nodup_sub_len {α : Type} [DecidableEq α] : ∀ {l m : List α}, l.Nodup → (∀ x ∈ l, x ∈ m) → l.length ≤ m.length
  | [], m, _, _ => Nat.zero_le _
  | a :: l, m, hn, hs => by
    have ha : a ∈ m := hs a (by simp)
    have h1 := nodup_sub_len (m := m.erase a) (List.nodup_cons.1 hn).2 (fun x hx => by
      have hne : x ≠ a := fun e => (List.nodup_cons.1 hn).1 (e ▸ hx)
      exact (List.mem_erase_of_ne hne).2 (hs x (List.mem_cons_of_mem _ hx)))
    rw [List.length_erase_of_mem ha] at h1
    have := List.length_pos_of_mem ha
    simp only [List.length_cons]
    omega
theorem lastP_some (s : Int) (ps : List (Int × BV)) : (∃ p ∈ ps, p.1 = s) → (lastP ps s).isSome = true := by
  induction hn : ps.length generalizing ps with
  | zero =>
    have : ps = [] := List.eq_nil_of_length_eq_zero hn
    subst this
    rintro ⟨p, hp, _⟩
    simp at hp
  | succ n ih =>
    obtain ⟨qs, p, rfl⟩ : ∃ qs p, ps = qs ++ [p] := by
      refine ⟨ps.dropLast, ps.getLast (by intro e; rw [e] at hn; cases hn), (List.dropLast_concat_getLast _).symm⟩
    rintro ⟨q, hq, e⟩
    rw [lastP_snoc]
    by_cases hs : s = p.1
    · subst hs
      rw [upC_same]
      rfl
    · rw [upC_other _ _ hs]
      refine ih qs (by simpa using hn) ⟨q, ?_, e⟩
      rcases List.mem_append.1 hq with h | h
      · exact h
      · rw [List.mem_singleton] at h
        subst h
        exact absurd e.symm hs
/-- The slots of the first i, each once. -/
structure Firsts (ds : List DV) (i : Nat) (fs : List Int) : Prop where
  nd : fs.Nodup
  mem : ∀ s, s ∈ fs ↔ ∃ j d, j < i ∧ ds[j]? = some d ∧ d.slot = s
theorem Firsts.skip {ds : List DV} {i : Nat} {fs : List Int} {d : DV} (h : Firsts ds i fs) (hd : ds[i]? = some d) (hn : ∃ j e, j < i ∧ ds[j]? = some e ∧ e.slot = d.slot) : Firsts ds (i + 1) fs := by
  refine ⟨h.nd, fun s => ?_⟩
  rw [h.mem]
  constructor
  · rintro ⟨j, e, h1, h2⟩
    exact ⟨j, e, by omega, h2⟩
  · rintro ⟨j, e, h1, h2, h3⟩
    by_cases hj : j = i
    · subst hj
      rw [hd] at h2
      injection h2 with h2
      subst h2
      rw [← h3]
      exact hn
    · exact ⟨j, e, by omega, h2, h3⟩
theorem Firsts.more {ds : List DV} {i : Nat} {fs : List Int} {d : DV} (h : Firsts ds i fs) (hd : ds[i]? = some d) (hn : ∀ j e, j < i → ds[j]? = some e → e.slot ≠ d.slot) : Firsts ds (i + 1) (d.slot :: fs) := by
  refine ⟨List.nodup_cons.2 ⟨fun hm => ?_, h.nd⟩, fun s => ?_⟩
  · obtain ⟨j, e, h1, h2, h3⟩ := (h.mem _).1 hm
    exact hn j e h1 h2 h3
  · rw [List.mem_cons, h.mem]
    constructor
    · rintro (rfl | ⟨j, e, h1, h2⟩)
      · exact ⟨i, d, by omega, hd, rfl⟩
      · exact ⟨j, e, by omega, h2⟩
    · rintro ⟨j, e, h1, h2, h3⟩
      by_cases hj : j = i
      · subst hj
        rw [hd] at h2
        injection h2 with h2
        subst h2
        exact .inl h3.symm
      · exact .inr ⟨j, e, by omega, h2, h3⟩
theorem Firsts.count {ds : List DV} {fs : List Int} {q : List (Int × BV)} (h : Firsts ds ds.length fs) (hco : ChOf (byL (lastP (qsOf ds))) (chL q)) : q.length = fs.length := by
  have hm : ∀ s, s ∈ (chL q).map Prod.fst ↔ s ∈ fs := fun s => by
    rw [h.mem, List.mem_map]
    constructor
    · rintro ⟨p, hp, rfl⟩
      have h1 := (hco.mem p.1 p.2).1 hp
      obtain ⟨x, hx, _⟩ := Option.map_eq_some_iff.1 (show (lastP (qsOf ds) p.1).map (·.l) = some p.2 from h1)
      obtain ⟨j, hj, _⟩ := (last_iff _ _ _).1 hx
      obtain ⟨d, hd, e⟩ := get_qs hj
      exact ⟨j, d, (List.getElem?_eq_some_iff.1 hd).1, hd, (congrArg Prod.fst e).symm⟩
    · rintro ⟨j, d, _, hd, rfl⟩
      have h1 := lastP_some d.slot (qsOf ds) ⟨(d.slot, d.blk), List.mem_of_getElem? (qs_get hd), rfl⟩
      obtain ⟨x, hx⟩ := Option.isSome_iff_exists.1 h1
      exact ⟨(d.slot, x.l), (hco.mem _ _).2 (by unfold byL; rw [hx]; rfl), rfl⟩
  have hnd : ((chL q).map Prod.fst).Nodup := by
    refine List.pairwise_map.2 (hco.lt.imp ?_)
    intro a b h
    omega
  have h1 := nodup_sub_len hnd (fun x hx => (hm x).1 hx)
  have h2 := nodup_sub_len h.nd (fun x hx => (hm x).2 hx)
  simp only [chL, List.length_map] at h1 h2
  omega
set_option maxHeartbeats 4000000 in
theorem ownW {W : World} {AB : Option Addr} {nB cB : Nat} {AK : Option Addr} {nK cK : Nat} {Bs : List BV} {Ks : List Bool} {A : Option Addr} {c : Nat} {ds : List DV} (hm : ∀ (w1 : World) (gs : Nat), Row w1 gs 25 [.slice AB nB cB, .slice AK nK cK] → Below W.heap.size W w1 → SrcR w1 gs Bs Ks) (hd : ScR W A ds) :
    Calls Try.prog 5 #[.agg #[.slice AB nB cB, .slice AK nK cK], .slice A ds.length c] W fun e w' => e = .returned (.bool true) ∧ Below W.heap.size W w' := by
  have hmf : ∀ (fn : Fn) (first cap : Array Value) (w : World), (Instr.makeFunc fn first cap).run Try.prog w = .ok (.func fn first cap) w := fun _ _ _ _ => rfl
  have HM := Lib.hid hm
  have HD := Lib.hid hd
  clear hm hd
  go_enter Try.func5, Try.ntmps5
  go_wp2_with (first
    | (refine step_box rfl 2 rfl 25 _ rfl [.slice AB nB cB, .slice AK nK cK] rfl ?_; intro gs w1 hr1 hg1 hb1 hs1
       have HS1 := Lib.hid (HM.out w1 gs hr1 hb1); have HB1 := Lib.hid hb1; clear hr1 hg1 hb1 hs1)
    | (refine step_box1 rfl 26 _ rfl (.slice A ds.length c) rfl rfl ?_; intro pd w2 hr2 hg2 hb2
       have R2 := Lib.hid hr2; have HB2 := Lib.hid (below_nxt hb2 HB1.out); have HS2 := Lib.hid (HS1.out.below hb2); clear hr2 hg2 hb2)
    | (go_at_call 7; refine (awake_any _).mono ?_; rintro e w4 ⟨rfl, hb4⟩
       have HB4 := Lib.hid (below_nxt hb4 HB2.out); have HS4 := Lib.hid (HS2.out.below hb4); have R24 := Lib.hid (R2.out.kept hb4)
       have c2 : w4.cell? ⟨pd, 0, none⟩ = some (.slice A ds.length c) := (R24.out.cell 0).trans rfl
       clear hb4))
  refine (may_any HS4.out (HD.out.below HB4.out)).mono ?_
  rintro e w5 ⟨rm, rfl, hok, hb5⟩
  have HB5 := Lib.hid (below_nxt hb5.out HB4.out)
  have HS5 := Lib.hid (HS4.out.below hb5.out)
  have R25 := Lib.hid (R24.out.kept hb5.out)
  clear c2
  cases rm with
  | false =>
    go_wp2
    go_ret
    exact ⟨rfl, HB5.out⟩
  | true =>
    have HSO := Lib.hid (HS5.out.ok (hok.out (by trivial)))
    have HDO := Lib.hid ((HD.out.below HB5.out).ok (hok.out (by trivial)))
    go_wp2_with (first
      | (go_at_call 9; refine (vnew gs _).mono ?_; rintro e w6 ⟨gv, gm, rfl, hv6, hb6⟩)
      | (refine step_new rfl 30 rfl (.pointer none) zero_vptr rfl ?_; intro pv w7 hr7 hg7 hb7
         have lpv : w6.heap.size ≤ pv := Nat.le_of_eq hg7.out.symm
         have hc68 : Chg [pv] w6 (w7.setCell ⟨pv, 0, none⟩ (.pointer (some ⟨gv, 0, none⟩))) := (Chg.of hb7).setCell (p := ⟨pv, 0, none⟩) (.inl (by simp)) _
         have HV8 := Lib.hid (hv6.out.below' hc68 (fun x hx => by rw [List.mem_singleton] at hx; omega))
         have HB8 := Lib.hid (p := Below w5.heap.size w5 (w7.setCell ⟨pv, 0, none⟩ (.pointer (some ⟨gv, 0, none⟩)))) (hb6.out.trans (hc68.below hb6.out.size (fun x hx => by rw [List.mem_singleton] at hx; have := hb6.out.size; omega)))
         have R8 := Lib.hid (hr7.put 0 (.pointer (some ⟨gv, 0, none⟩)))
         have c7 : w7.cell? ⟨pv, 0, none⟩ = some (.pointer none) := (hr7.cell 0).trans rfl
         have f7 := hr7.free 0
         clear hr7 hg7 hb7 hc68)
      | (refine step_new rfl 4 rfl (.bool false) zero_bool rfl ?_; intro pr w9 hr9 hg9 hb9
         generalize w7.setCell ⟨pv, 0, none⟩ (.pointer (some ⟨gv, 0, none⟩)) = X8 at HV8 HB8 R8 hb9 hg9
         have c9 : w9.cell? ⟨pr, 0, none⟩ = some (.bool false) := (hr9.cell 0).trans rfl
         have f9 := hr9.free 0
         have nvr : pv ≠ pr := (R8.out.kept hb9).ne_ hr9 (by decide)
         have hcX : Chg [pr] X8 (w9.setCell ⟨pr, 0, none⟩ (.bool true)) := (Chg.of hb9).setCell (p := ⟨pr, 0, none⟩) (.inl (by simp)) _
         have hpX : ∀ x ∈ [pr], X8.heap.size ≤ x := fun x hx => by rw [List.mem_singleton] at hx; subst hx; exact Nat.le_of_eq hg9.out.symm
         have HV9 := Lib.hid (HV8.out.below' hcX hpX)
         have HB9 := Lib.hid (HB8.out.trans (hcX.below HB8.out.size (fun x hx => Nat.le_trans HB8.out.size (hpX x hx))))
         have Rr := Lib.hid (hr9.put 0 (.bool true))
         have Rv := Lib.hid ((R8.out.kept hb9).far (p := ⟨pr, 0, none⟩) nvr (.bool true))
         have Rd := Lib.hid (R25.out.below HB9.out R25.out.lt)
         have LPR := Lib.hid (p := X8.heap.size ≤ pr) (Nat.le_of_eq hg9.out.symm)
         have cv9 : (w9.setCell ⟨pr, 0, none⟩ (.bool true)).cell? ⟨pv, 0, none⟩ = some (.pointer (some ⟨gv, 0, none⟩)) := (Rv.out.cell 0).trans rfl
         clear hr9 hg9 hb9 hcX hpX))
    have nlo := hv6.out.lo
    generalize w9.setCell ⟨pr, 0, none⟩ (.bool true) = W9 at HV9 HB9 Rr Rv Rd cv9 ⊢
    have HCF := Lib.hid (p := ∀ w, (callFunc 19 #[.pointer (some ⟨pd, 0, none⟩), .pointer (some ⟨pv, 0, none⟩), .pointer (some ⟨pr, 0, none⟩)]).run Try.prog w = .ok (.enter 19 #[.pointer (some ⟨pd, 0, none⟩), .pointer (some ⟨pv, 0, none⟩), .pointer (some ⟨pr, 0, none⟩)]) w) (fun w => by simp [go_sem])
    have nrg : pr ≠ gv := Rr.out.ne_ HV9.out.row (by decide)
    have nrm : pr ≠ gm := fun e => HV9.out.map.no_cells _ _ _ (e ▸ Rr.out.heap)
    have lpr := Rr.out.lt
    have hG : ∀ x ∈ [gm, pr], x ≠ gv ∧ x < W9.heap.size := fun x hx => by
      simp at hx
      rcases hx with rfl | rfl
      · exact ⟨HV9.out.ne.symm, HV9.out.map.lt⟩
      · exact ⟨nrg, lpr⟩
    have hbs : ∀ x ∈ [gv, gm], w5.heap.size ≤ x := fun x hx => by simp at hx; rcases hx with rfl | rfl <;> omega
    have hbs4 : ∀ x ∈ [gv, gm, gm, pr], w5.heap.size ≤ x := fun x hx => by
      have h1 := LPR.out
      have h2 := HB8.out.size
      simp at hx
      rcases hx with rfl | rfl | rfl <;> omega
    refine (vrun 19 #[.pointer (some ⟨pd, 0, none⟩), .pointer (some ⟨pv, 0, none⟩), .pointer (some ⟨pr, 0, none⟩)] [gm, pr] _ _ HV9.out hG HCF.out (fun r w1 hv hr hc hrb => own1 (c := c) (ds := ds) hv (by have := HB9.out.size; have := hc.size; omega) hr (Rv.out.run0 HV9.out (by decide) hc) (Rd.out.run0 HV9.out (by decide) hc) (Rr.out.run0 HV9.out (by decide) hc) (HSO.out.keep (HB9.out.trans (hc.below HB9.out.size hbs))) (HDO.out.keep (HB9.out.trans (hc.below HB9.out.size hbs))) (by have := LPR.out; have := HB8.out.size; omega))).mono ?_
    intro e w11 h11
    obtain ⟨rfl, n', C', w1, w2, F, hv11, hn11, hD, hF, hFF, hsz, hc11⟩ := h11.done (fun _ _ h => h)
    have HB11 := Lib.hid (HB9.out.trans (hc11.out.below HB9.out.size hbs4))
    have hc11' := hc11.out
    have cr11 : w11.cell? ⟨pr, 0, none⟩ = some (.bool true) := hF.out.cell hD.out.1 (fun hx => by rcases hFF.out pr hx with h | h; exact nrg h; omega)
    have Rv11 := Lib.hid (Rv.out.run_ HV9.out (by decide) (Rv.out.ne_ Rr.out (by decide)) hc11')
    have Rd11 := Lib.hid (Rd.out.run_ HV9.out (by decide) (Rd.out.ne_ Rr.out (by decide)) hc11')
    have HDC := Lib.hid hD.out.2
    have cd11 : w11.cell? ⟨pd, 0, none⟩ = some (.slice A ds.length c) := (Rd11.out.cell 0).trans rfl
    have HSC := Lib.hid (HDO.out.keep HB11.out)
    have HLM := Lib.hid HDO.out.lim
    clear hD hF hFF hsz hc11 hc11' hG hbs hbs4 cv9 c7 f7 c9 f9
    go_wp2
    go_loopw [9, 10] (fun x y wr => ∃ (i : Nat) (fs : List Int), Hid (i ≤ ds.length) ∧ y = .int .i64 (i : Int) ∧ x = .int .i64 (fs.length : Int) ∧ Hid (fs.length ≤ i) ∧ Hid (Firsts ds i fs) ∧ Hid (Below w11.heap.size w11 wr)) (fun _ y _ => ds.length - (intOf y).toNat)
    case atStart => exact ⟨0, [], Lib.hid (Nat.zero_le _), rfl, rfl, Lib.hid (Nat.le_refl _), Lib.hid ⟨List.nodup_nil, fun s => by simp⟩, Lib.hid (Below.refl _ _)⟩
    case round =>
      obtain ⟨i, fs, HI, rfl, rfl, HFL, HFS, HBR⟩ := hrel
      rename World => wo
      have cdo : wo.cell? ⟨pd, 0, none⟩ = some (.slice A ds.length c) := (HBR.out.cell (p := ⟨pd, 0, none⟩) (World.block_lt_of_cell? w11 _ cd11)).trans cd11
      by_cases hi : i < ds.length
      · have hii : (i : Int) < (ds.length : Int) := by omega
        obtain ⟨d, hd⟩ : ∃ d, ds[i] = d := ⟨_, rfl⟩
        have hds : ds[i]? = some d := by rw [List.getElem?_eq_getElem hi, hd]
        obtain ⟨g, o, rfl, hc⟩ := HSC.out.lies.1.at_ hi
        rw [hd] at hc
        have HPW := Lib.hid (p := ∀ j q, ds[j]? = some q → ∀ W, Below w11.heap.size w11 W → W.cell? ⟨g, o + j * 3 + 1, none⟩ = some (.int .i64 q.slot)) (fun j q hq W hb => by
          have hj := (List.getElem?_eq_some_iff.1 hq).1
          obtain ⟨g2, o2, e2, hc2⟩ := HSC.out.lies.1.at_ hj
          injection e2 with e2
          injection e2 with e3 e4
          subst e3 e4
          have e5 : ds[j] = q := by
            rw [List.getElem?_eq_getElem hj] at hq
            injection hq
          rw [e5] at hc2
          have := hc2 1 _ rfl
          exact (hb.cell (p := ⟨g, o + j * 3 + 1, none⟩) (World.block_lt_of_cell? w11 _ this)).trans this)
        obtain ⟨z, hz⟩ : ∃ z, d.slot = z := ⟨_, rfl⟩
        have HZ := Lib.hid hz
        have HDS := Lib.hid hds
        have HIT := Lib.hid hi
        have hiw : IntKind.i64.wrap ((i : Int) + 1) = (i : Int) + 1 := by rw [IntKind.wrap_i64]; have := HLM.out; omega
        clear hi hd hds hc hz
        go_wp2
        go_loopw [11, 12] (fun x y wr => ∃ (j : Nat) (bq : Bool), Hid (j ≤ i) ∧ y = .int .i64 (j : Int) ∧ x = .bool bq ∧ Hid (bq = true ↔ ∀ k' p', k' < j → ds[k']? = some p' → p'.slot ≠ z) ∧ Hid (Below wo.heap.size wo wr)) (fun _ y _ => i - (intOf y).toNat)
        case atStart => exact ⟨0, true, Lib.hid (Nat.zero_le _), rfl, rfl, Lib.hid ⟨fun _ k' p' h => by omega, fun _ => rfl⟩, Lib.hid (Below.refl _ _)⟩
        case round =>
          obtain ⟨j, bq, HJ, rfl, rfl, HBQ, HBJ⟩ := hrel
          have hb : Below w11.heap.size w11 wr := below_nxt HBJ.out HBR.out
          have cdr : wr.cell? ⟨pd, 0, none⟩ = some (.slice (some ⟨g, o, none⟩) ds.length c) := (HBJ.out.cell (p := ⟨pd, 0, none⟩) (World.block_lt_of_cell? wo _ cdo)).trans cdo
          by_cases hj : j < i
          · have hji : (j : Int) < (i : Int) := by omega
            have hjl : (j : Int) < (ds.length : Int) := by have := HIT.out; omega
            obtain ⟨q, hq⟩ : ∃ q, ds[j]? = some q := ⟨_, List.getElem?_eq_getElem (by have := HIT.out; omega)⟩
            have HQ := Lib.hid hq
            have HJT := Lib.hid hj
            have hjw : IntKind.i64.wrap ((j : Int) + 1) = (j : Int) + 1 := by rw [IntKind.wrap_i64]; have := HLM.out; omega
            have cj := HPW.out j q hq wr hb
            have ck := HPW.out i d HDS.out wr hb
            rw [HZ.out] at ck
            clear hj hq hb
            cases bq with
            | false =>
              go_wp2_with fail
              go_quiet (fail)
              go_wp2
              go_roundw
              case rel =>
                refine ⟨j + 1, false, Lib.hid (by have := HJT.out; omega), by go_num, rfl, Lib.hid ⟨fun e => (by cases e), fun h => ?_⟩, Lib.hid (below_drewN HBJ.out _)⟩
                exact HBQ.out.2 fun k' p' h1 h2 => h k' p' (by omega) h2
              case measure => have := HJT.out; simp [intOf]; omega
            | true =>
              obtain ⟨q1, hq1⟩ : ∃ q1, q.slot = q1 := ⟨_, rfl⟩
              rw [hq1] at cj
              have HQ1 := Lib.hid hq1
              clear hq1
              go_wp2_with fail
              go_quiet (fail)
              go_wp2
              go_roundw
              case rel =>
                refine ⟨j + 1, q1 != z, Lib.hid (by have := HJT.out; omega), by go_num, rfl, Lib.hid ?_, Lib.hid (below_drewN HBJ.out _)⟩
                rw [bne_iff_ne]
                constructor
                · intro h k' p' h1 h3
                  by_cases e : k' = j
                  · subst e
                    rw [HQ.out] at h3
                    injection h3 with h3
                    subst h3
                    rw [HQ1.out]
                    exact h
                  · exact HBQ.out.1 (by trivial) k' p' (by omega) h3
                · intro h
                  rw [← HQ1.out]
                  exact h j q (by omega) HQ.out
              case measure => have := HJT.out; simp [intOf]; omega
          · have hji : ¬ (j : Int) < (i : Int) := by omega
            have hje : j = i := by have := HJ.out; omega
            subst hje
            have HBZ := Lib.hid hb
            clear hj hb
            cases bq with
            | false =>
              go_wp2
              go_roundw
              case rel =>
                refine ⟨j + 1, fs, Lib.hid HIT.out, by go_num, rfl, Lib.hid (by have := HFL.out; omega), Lib.hid (HFS.out.skip HDS.out ?_), HBZ⟩
                by_cases hx : ∃ k' p', k' < j ∧ ds[k']? = some p' ∧ p'.slot = d.slot
                · exact hx
                · have h9 := HBQ.out.2 fun k' p' h1 h2 h3 => hx ⟨k', p', h1, h2, by rw [HZ.out]; exact h3⟩
                  cases h9
              case measure => have := HIT.out; simp [intOf]; omega
            | true =>
              have hfw : IntKind.i64.wrap ((fs.length : Int) + 1) = (fs.length : Int) + 1 := by rw [IntKind.wrap_i64]; have := HFL.out; have := HLM.out; have := HIT.out; omega
              go_wp2
              go_roundw
              case rel =>
                exact ⟨j + 1, d.slot :: fs, Lib.hid HIT.out, by go_num, by rw [List.length_cons]; go_num, Lib.hid (by have := HFL.out; rw [List.length_cons]; omega), Lib.hid (HFS.out.more HDS.out (fun k' p' h1 h2 => by rw [HZ.out]; exact HBQ.out.1 (by trivial) k' p' h1 h2)), HBZ⟩
              case measure => have := HIT.out; simp [intOf]; omega
      · have hii : ¬ (i : Int) < (ds.length : Int) := by omega
        have hie : i = ds.length := by have := HI.out; omega
        subst hie
        have cro : wo.cell? ⟨pr, 0, none⟩ = some (.bool true) := (HBR.out.cell (p := ⟨pr, 0, none⟩) (World.block_lt_of_cell? w11 _ cr11)).trans cr11
        have cvo : wo.cell? ⟨pv, 0, none⟩ = some (.pointer (some ⟨gv, 0, none⟩)) := ((Rv11.out.kept HBR.out).cell 0).trans rfl
        have HVo := Lib.hid (hv11.out.below HBR.out)
        have hnn : ((fs.length : Int) == (fs.length : Int)) = true := by simp
        clear hi
        go_wp2_with (first
          | (go_at_call 16; refine (vchanges HVo.out hn11.out).mono ?_; rintro e w14 ⟨qs, A14, c14, rfl, hco, hpa, hb14⟩
             have hl := HFS.out.count (by rw [← HDC.out]; exact hco.out)
             rw [hl]
             have HB14 := Lib.hid (HB11.out.trans ((below_nxt hb14.out HBR.out).mono HB11.out.size))
             clear hl))
        go_ret
        exact ⟨rfl, below_nxt HB14.out HB5.out⟩
end Go.Proofs.Ytpobppoaidngeaa
