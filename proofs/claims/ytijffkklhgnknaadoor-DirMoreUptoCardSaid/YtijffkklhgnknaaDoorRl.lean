/- The reference's Told. Conditions: no more than a million entries, names no longer than 2^32. -/
import Derived.Test.YtijffkklhgnknaaDoorRk
import Derived.Test.YtijffkklhgnknaaDoorQq
set_option linter.unusedVariables false
set_option maxRecDepth 20000
namespace Go.Proofs.YtijffkklhgnknaaDoor
open Go.RowKit

set_option maxHeartbeats 8000000 in
theorem rtold_any (A : Option Addr) (n c after : Nat) (room : Int) (X : List Ent) (hmax : n ≤ 1000000) (w : World) (h : Lies ecs 5 w A X) (hn : X.length = n) (hnm : ∀ e ∈ X, e.nm.size ≤ 4294967296) (hlo : -9223372036854775808 ≤ room) (hhi : room ≤ 9223372036854775807) :
    Calls Tryd.prog 18 #[.slice A n c, .int .u32 (after : Int), .int .i64 room] w fun e w' => ∃ A' c' k L, e = .returned (.slice A' k c') ∧ w'.ownsRow w.heap.size 42 5 (.slice A' k c') k ((L.take k).flatMap ecs) ∧ k = fit room L ∧ Ord Ent.ck L ∧ SameK Ent.ck (X.filter (fun e : Ent => decide (after < e.ck))) L ∧ Below w.heap.size w w' := by
  obtain ⟨p, hp⟩ : ∃ p : Ent → Bool, (fun e : Ent => decide (after < e.ck)) = p := ⟨_, rfl⟩
  have HPP := Lib.hid (p := ∀ x : Ent, p x = decide (after < x.ck)) (fun x => by rw [← hp])
  rw [hp]
  have H := Lib.hid h
  have HN := Lib.hid (And.intro hmax hn)
  have HNM := Lib.hid hnm
  have HRM := Lib.hid (And.intro hlo hhi)
  clear h hmax hn hnm hlo hhi hp
  go_enter Tryd.func18, Tryd.ntmps18
  go_wp2
  go_loopw [7, 8] (fun x y wr => ∃ (i : Nat) (A' : Option Addr) (m c' : Nat) (R : List Ent), y = .int .i64 (i : Int) ∧ x = .slice A' m c' ∧ Hid (i ≤ n) ∧ Hid (wr.ownsRow w.heap.size 42 5 (.slice A' m c') m (R.flatMap ecs)) ∧ Hid (R.length = m) ∧ Hid (m ≤ i) ∧ Hid (Ord Ent.ck R ∧ SameK Ent.ck ((X.take i).filter p) R) ∧ Hid (Below w.heap.size w wr)) (fun _ y _ => n - (intOf y).toNat)
  case atStart => exact ⟨0, none, 0, 0, [], rfl, rfl, Lib.hid (Nat.zero_le _), Lib.hid (World.ownsRow_nil _ _ _ _), Lib.hid rfl, Lib.hid (Nat.le_refl _), Lib.hid ⟨Ord.nil, SameK.refl _⟩, Lib.hid (Below.refl _ _)⟩
  case round =>
    obtain ⟨i, A', m, c', R, rfl, rfl, HIN, HO, HRM2, HMI, HOS, HB⟩ := hrel
    rename World => wo
    by_cases hi : i < n
    · have hii : (i : Int) < (n : Int) := by omega
      have hiw : IntKind.i64.wrap ((i : Int) + 1) = (i : Int) + 1 := by rw [IntKind.wrap_i64]; have := HN.out; omega
      have hix : i < X.length := by have := HN.out; omega
      obtain ⟨ga, oa, rfl, hc⟩ := (H.out.below HB.out).at_ hix
      obtain ⟨x, hx⟩ : ∃ x, X[i] = x := ⟨_, rfl⟩
      rw [hx] at hc
      have HX := Lib.hid (p := X[i]? = some x) (by rw [List.getElem?_eq_getElem hix, hx])
      have HR := Lib.hid (p := wo.rangeAt ga (oa + i * 5) (ecs x)) (fun j u hu => hc j u hu)
      have HI1 := Lib.hid hi
      have cx : wo.cell? ⟨ga, oa + i * 5 + 4, none⟩ = some (.int .u32 (x.ck : Int)) := hc 4 _ rfl
      clear hc hix hx hi
      by_cases hpx : after < x.ck
      · have hle : ¬ (x.ck : Int) ≤ (after : Int) := by omega
        have HPX := Lib.hid (p := p x = true) (by rw [HPP.out]; exact decide_eq_true hpx)
        have HLO := Lib.hid (p := Lies ecs 5 wo A' R) (Lies.own (by decide) ecs_len HO.out)
        have HMC := Lib.hid (own_cap HO.out)
        clear hpx
        go_wp2
        go_loopw [9] (fun y wr => ∃ k : Nat, Hid (k ≤ m) ∧ y = .int .i64 (k : Int) ∧ Hid (∀ j z, j < k → R[j]? = some z → z.ck ≤ x.ck) ∧ Hid (Below wo.heap.size wo wr)) (fun y _ => m - (intOf y).toNat)
        case atStart => exact ⟨0, Lib.hid (Nat.zero_le _), rfl, Lib.hid (fun j z hj => by omega), Lib.hid (Below.refl _ _)⟩
        case round =>
          clear cx
          obtain ⟨k, HKM, rfl, HLE, HBI⟩ := hrel
          have HRM := HRM2
          have HXW0 := Lib.hid (p := wr.rangeAt ga (oa + i * 5) (ecs x)) (fun j u hu => (HBI.out.cell (p := ⟨ga, oa + i * 5 + j, none⟩) (World.block_lt_of_cell? wo _ (HR.out j u hu))).trans (HR.out j u hu))
          have cx : wr.cell? ⟨ga, oa + i * 5 + 4, none⟩ = some (.int .u32 (x.ck : Int)) := HXW0.out 4 _ rfl
          by_cases hk : k < m
          · have hki : (k : Int) < (m : Int) := by omega
            have hkw : IntKind.i64.wrap ((k : Int) + 1) = (k : Int) + 1 := by rw [IntKind.wrap_i64]; have := HN.out; have := HMI.out; have := HIN.out; omega
            have hkx : k < R.length := by have := HRM.out; omega
            obtain ⟨gb, ob, rfl, hcb⟩ := (HLO.out.below HBI.out).at_ hkx
            obtain ⟨y, hy⟩ : ∃ y, R[k] = y := ⟨_, rfl⟩
            rw [hy] at hcb
            have HY := Lib.hid (p := R[k]? = some y) (by rw [List.getElem?_eq_getElem hkx, hy])
            have cy : wr.cell? ⟨gb, ob + k * 5 + 4, none⟩ = some (.int .u32 (y.ck : Int)) := hcb 4 _ rfl
            have HKL := Lib.hid hk
            clear hcb hy hkx hk hle
            by_cases hyx : y.ck ≤ x.ck
            · have hyi : (y.ck : Int) ≤ (x.ck : Int) := by omega
              have HYX := Lib.hid hyx
              clear hyx
              go_wp2_with fail
              go_quiet (fail)
              go_wp2_with fail
              go_roundw
              case rel =>
                refine ⟨k + 1, Lib.hid HKL.out, by go_num, Lib.hid (fun j z hj hz => ?_), Lib.hid (below_drewN HBI.out _)⟩
                by_cases hjk : j < k
                · exact HLE.out j z hjk hz
                · obtain rfl : j = k := by omega
                  have h1 := HY.out
                  rw [hz] at h1
                  injection h1 with h1
                  subst h1
                  exact HYX.out
              case measure => have := HKL.out; simp [intOf]; omega
            · have hyi : ¬ (y.ck : Int) ≤ (x.ck : Int) := by omega
              have HGT := Lib.hid (ord_above HOS.out.1 HY.out (by omega : x.ck < y.ck))
              clear hyx
              go_wp2_with fail
              go_quiet (fail)
              rename_i nq
              go_upto_region 9 with (fail)
              have HXW := Lib.hid (p := (wr.drewN nq).rangeAt ga (oa + i * 5) (ecs x)) (fun j u hu => HXW0.out j u hu)
              have HLW := Lib.hid (p := Lies ecs 5 (wr.drewN nq) (some ⟨gb, ob, none⟩) R) ((HLO.out.below HBI.out).below (below_drewN (Below.refl _ _) _))
              have HBW := Lib.hid (p := Below w.heap.size w (wr.drewN nq)) (below_drewN (below_nxt HBI.out HB.out) _)
              clear cx cy hyi
              have HXd := Lib.hid (p := (wr.drewN nq).drew.rangeAt ga (oa + i * 5) (ecs x)) (rng_drw HXW.out)
              have HLd := Lib.hid (p := Lies ecs 5 (wr.drewN nq).drew (some ⟨gb, ob, none⟩) R) (HLW.out.below (below_drw _))
              have HBd := Lib.hid (p := Below w.heap.size w (wr.drewN nq).drew) (below_nxt (below_drw _) HBW.out)
              obtain ⟨B, d, hrun, hd, hcut⟩ := cut_ent (some ⟨gb, ob, none⟩) c' m k HKM.out HMC.out
              have HRUN := Lib.hid hrun
              have HSRC := Lib.hid (hcut _ R HRM.out HLd.out)
              obtain ⟨q, hq⟩ : ∃ q, m - k = q := ⟨_, rfl⟩
              rw [hq] at HRUN
              have HQ := Lib.hid (p := (R.drop k).length = q) (by rw [List.length_drop, HRM.out, hq])
              have HQM := Lib.hid (p := k + (1 + q) = m + 1) (by have := HKM.out; omega)
              have hfront := front_ent (some ⟨gb, ob, none⟩) c' m k (Nat.le_trans HKM.out HMC.out)
              clear hrun hd hcut hq
              refine wp_region_held_drew (S := fun _ => True) (by kernel_rfl) trivial (fun hHeld => ?_)
              refine wpAnyH_take (i := 0) (oi := ⟨some 45, .move (.tmp 0), _, _, _, _⟩) (v := .slice (some ⟨ga, oa, none⟩) n c) rfl (by kernel_rfl) (by kernel_rfl) (by kernel_rfl) (fun _ _ _ h => h) (.inl ⟨by rfl, fun w hSw => by go_simp⟩) (by assumption) ?_
              simp only [Act.put, List.setIfInBounds_toArray, List.set_cons_zero, List.set_cons_succ]
              refine wpAnyH_take (i := 1) (oi := ⟨some 46, .move (.tmp 8), _, _, _, _⟩) (v := .int .i64 (i : Int)) rfl (by kernel_rfl) (by kernel_rfl) (by kernel_rfl) (fun _ _ _ h => h) (.inl ⟨by rfl, fun w hSw => by go_simp⟩) (by assumption) ?_
              simp only [Act.put, List.setIfInBounds_toArray, List.set_cons_zero, List.set_cons_succ]
              refine wpAnyH_take (i := 2) (oi := ⟨some 47, .indexAddr 22 (.tmp 45) (.tmp 46), _, _, _, _⟩) (v := .pointer (some ⟨ga, oa + i * 5, none⟩)) rfl (by kernel_rfl) (by kernel_rfl) (by kernel_rfl) (fun _ _ _ h => h) (.inl ⟨by rfl, fun w hSw => by go_simp⟩) (by assumption) ?_
              simp only [Act.put, List.setIfInBounds_toArray, List.set_cons_zero, List.set_cons_succ]
              refine wpAnyH_take (i := 5) (oi := ⟨some 50, .move (.tmp 7), _, _, _, _⟩) (v := .slice (some ⟨gb, ob, none⟩) m c') rfl (by kernel_rfl) (by kernel_rfl) (by kernel_rfl) (fun _ _ _ h => h) (.inl ⟨by rfl, fun w hSw => by go_simp⟩) (by assumption) ?_
              simp only [Act.put, List.setIfInBounds_toArray, List.set_cons_zero, List.set_cons_succ]
              refine wpAnyH_take (i := 6) (oi := ⟨some 51, .move (.tmp 9), _, _, _, _⟩) (v := .int .i64 (k : Int)) rfl (by kernel_rfl) (by kernel_rfl) (by kernel_rfl) (fun _ _ _ h => h) (.inl ⟨by rfl, fun w hSw => by go_simp⟩) (by assumption) ?_
              simp only [Act.put, List.setIfInBounds_toArray, List.set_cons_zero, List.set_cons_succ]
              refine wpAnyH_take (i := 7) (oi := ⟨some 52, .slice 22 (.tmp 50) (some (.tmp 51)) none none, _, _, _, _⟩) (v := .slice B q d) rfl (by kernel_rfl) (by kernel_rfl) (by kernel_rfl) (fun _ _ _ h => h) (.inl ⟨by rfl, fun w hSw => by have z := HRUN.out w; go_simp⟩) (by assumption) ?_
              simp only [Act.put, List.setIfInBounds_toArray, List.set_cons_zero, List.set_cons_succ]
              refine wpAnyH_ready (rs := [3]) (by kernel_rfl) (by simp) ?_
              refine AllReadyH.cons (o := ⟨some 48, .load 42 (.tmp 47), _, _, _, _⟩) rfl (fun K hK => ?_) AllReadyH.nil
              refine st_load_rng (by rfl) 42 (.tmp 47) rfl ga (oa + i * 5) rfl (ecs x) _ HXd.out Tryd.underlying42 rfl (info_ent x) ?_
              refine hK.out _ _ trivial (fun _hs => ?_)
              clear hK K
              refine wpAnyH_ready (rs := [4]) (by kernel_rfl) (by simp) ?_
              refine AllReadyH.cons (o := ⟨some 49, .buildSlice 22 1 #[(0, .tmp 48)], _, _, _, _⟩) rfl (fun K hK => ?_) AllReadyH.nil
              refine st_bs1 (by rfl) 22 42 _ rfl Tryd.underlying22 5 (info_ent x) (by decide) _ zero_ent (ecs x) rfl rfl ?_
              intro g8 w8 hr8 hg8 hb8
              have HB8 := Lib.hid hb8
              have HG8 := hg8
              have HR8 := Lib.hid (p := w8.ownsRow w.heap.size 42 5 (.slice (some ⟨g8, 0, none⟩) 1 1) 1 (ecs x)) (own_row hr8 rfl (by have h1 := hg8.out; have h2 := HBd.out.size; omega) (by decide))
              have HS8 := Lib.hid (HSRC.out.below hb8)
              clear hr8 hg8 hb8
              refine hK.out _ _ trivial (fun _hs => ?_)
              clear hK K
              refine wpAnyH_ready (rs := [8]) (by kernel_rfl) (by simp) ?_
              refine AllReadyH.cons (o := ⟨some 53, .call ⟨.builtin .append, #[.tmp 49, .tmp 52], #[22, 22]⟩, _, _, _, _⟩) rfl (fun K hK => ?_) AllReadyH.nil
              refine st_join (by rfl) (.tmp 49) (.tmp 52) rfl rec_ent w.heap.size (.slice (some ⟨g8, 0, none⟩) 1 1) 1 (ecs x) rfl HR8.out B q d ((R.drop k).flatMap ecs) rfl (by rw [flat_len ecs_len, HQ.out]) (Lies.src HS8.out (by decide) ecs_len HQ.out) (flat_one ecs_one _) (by have := HQM.out; have := HMI.out; have := HN.out; have := HIN.out; omega) (by have h1 := HBd.out.size; have h2 := HB8.out.size; omega) ?_
              intro v1 w9 ho1 hg1 hat1
              have HO9 := Lib.hid ho1
              have HBW9 := Lib.hid (HB8.out.grown hg1 HB8.out.size (fun z hz => by have hz2 : some g8 = some z := hz; injection hz2 with hz2; subst hz2; exact Nat.le_of_eq HG8.out.symm))
              obtain ⟨A1, c1, rfl⟩ := own_sl ho1
              clear ho1 hg1 hat1
              refine hK.out _ _ trivial (fun _hs => ?_)
              clear hK K
              refine wpAnyH_take (i := 9) (oi := ⟨some 10, .assign (.tmp 53), _, _, _, _⟩) (v := .slice A1 (1 + q) c1) rfl (by kernel_rfl) (by kernel_rfl) (by kernel_rfl) (fun _ _ _ h => h) (.inl ⟨by rfl, fun w hSw => by go_simp⟩) (by assumption) ?_
              simp only [Act.put, List.setIfInBounds_toArray, List.set_cons_zero, List.set_cons_succ]
              refine wpAnyH_done (by kernel_rfl) ?_ _
              have HB9 := Lib.hid (below_nxt HBW9.out HBd.out)
              have HLF := Lib.hid (p := Lies ecs 5 (w9.alloc (.cells #[] 42)) (some ⟨gb, ob, none⟩) (R.take k)) (((HLd.out.below HBW9.out).take_ k).below ((Below.refl _ _).alloc (Nat.le_refl _) _))
              have HTK := Lib.hid (p := (R.take k).length = k) (by rw [List.length_take, HRM.out]; have := HKM.out; omega)
              go_wp2_with (first
                | (at_builtin
                   refine wp_join rfl _ _ rfl rec_ent w.heap.size (.slice (some ⟨w9.heap.size, 0, none⟩) 0 0) 0 [] rfl (void_own w9 _ 5 _ HB9.out.size) (some ⟨gb, ob, none⟩) k c' ((R.take k).flatMap ecs) rfl (by rw [flat_len ecs_len, HTK.out]) (Lies.src HLF.out (by decide) ecs_len HTK.out) (flat_one ecs_one _) (by have := HKM.out; have := HMI.out; have := HIN.out; have := HN.out; omega) (by have := HB9.out.size; simp; omega) ?_
                   intro v2' w10 hown2 hg2 hat2
                   rw [List.nil_append, Nat.zero_add] at hown2
                   obtain ⟨A2, c2, rfl⟩ := own_sl hown2
                   have hb2 : Below w9.heap.size w9 w10 := ((Below.refl _ _).alloc (Nat.le_refl _) _).grown hg2 (by simp) (fun z hz => by have h0 : some w9.heap.size = some z := hz; injection h0 with h0; omega)
                   have HX10 := Lib.hid hown2
                   have HB10 := Lib.hid hb2
                   have HO10 := Lib.hid (own_kept HO9.out hb2)
                   clear hown2 hg2 hat2 hb2 HLF)
                | (at_builtin
                   refine wp_join rfl _ _ rfl rec_ent w.heap.size (.slice A2 k c2) k ((R.take k).flatMap ecs) rfl HX10.out A1 (1 + q) c1 (ecs x ++ (R.drop k).flatMap ecs) rfl (by rw [List.length_append, flat_len ecs_len, HQ.out, ecs_len]; omega) (own_src HO10.out) (fun u hu => (List.mem_append.1 hu).elim (ecs_one x u) (flat_one ecs_one _ u)) (by have := HQM.out; have := HMI.out; have := HIN.out; have := HN.out; omega) (by have := HB9.out.size; have := HB10.out.size; omega) ?_
                   intro v3 w11 ho3 hg3 hat3
                   have HO11 := Lib.hid ho3
                   obtain ⟨A3, c3, rfl⟩ := own_sl ho3
                   have HB11 := Lib.hid ((below_nxt HB10.out HB9.out).grown hg3 (below_nxt HB10.out HB9.out).size (fun z hz => (HX10.out.lt z hz).1))
                   clear ho3 hg3 hat3))
              go_roundw
              case rel =>
                refine ⟨i + 1, A3, k + (1 + q), c3, R.take k ++ x :: R.drop k, by go_num, rfl, Lib.hid HI1.out, Lib.hid ?_, Lib.hid (by rw [List.length_append, HTK.out, List.length_cons, HQ.out]; omega), Lib.hid (by have := HQM.out; have := HMI.out; omega), Lib.hid ⟨ins_ord HOS.out.1 HLE.out HGT.out, ?_⟩, HB11⟩
                · rw [List.flatMap_append, List.flatMap_cons]; exact HO11.out
                · rw [filter_snoc HX.out, HPX.out, if_pos rfl]; exact ins_same HOS.out.2 HGT.out
              case measure => have := HI1.out; simp [intOf]; omega
          · have hkm : k = m := by have := HKM.out; omega
            have hki : ¬ (k : Int) < (m : Int) := by omega
            have hkd : decide (k < m) = false := decide_eq_false hk
            have hkd2 : decide ((k : Int) < (m : Int)) = false := decide_eq_false hki
            have HGT := Lib.hid (p := ∀ z ∈ R.drop k, x.ck < z.ck) (by rw [List.drop_of_length_le (by have := HRM.out; omega)]; intro z hz; cases hz)
            clear hk hkm hle
            go_wp2_with fail
            go_quiet (fail)
            rename_i nq
            go_upto_region 9 with (fail)
            have HXW := Lib.hid (p := (wr.drewN nq).rangeAt ga (oa + i * 5) (ecs x)) (fun j u hu => HXW0.out j u hu)
            have HLW := Lib.hid (p := Lies ecs 5 (wr.drewN nq) (A') R) ((HLO.out.below HBI.out).below (below_drewN (Below.refl _ _) _))
            have HBW := Lib.hid (p := Below w.heap.size w (wr.drewN nq)) (below_drewN (below_nxt HBI.out HB.out) _)
            clear cx hki
            have HXd := Lib.hid (p := (wr.drewN nq).drew.rangeAt ga (oa + i * 5) (ecs x)) (rng_drw HXW.out)
            have HLd := Lib.hid (p := Lies ecs 5 (wr.drewN nq).drew (A') R) (HLW.out.below (below_drw _))
            have HBd := Lib.hid (p := Below w.heap.size w (wr.drewN nq).drew) (below_nxt (below_drw _) HBW.out)
            obtain ⟨B, d, hrun, hd, hcut⟩ := cut_ent (A') c' m k HKM.out HMC.out
            have HRUN := Lib.hid hrun
            have HSRC := Lib.hid (hcut _ R HRM.out HLd.out)
            obtain ⟨q, hq⟩ : ∃ q, m - k = q := ⟨_, rfl⟩
            rw [hq] at HRUN
            have HQ := Lib.hid (p := (R.drop k).length = q) (by rw [List.length_drop, HRM.out, hq])
            have HQM := Lib.hid (p := k + (1 + q) = m + 1) (by have := HKM.out; omega)
            have hfront := front_ent (A') c' m k (Nat.le_trans HKM.out HMC.out)
            clear hrun hd hcut hq
            refine wp_region_held_drew (S := fun _ => True) (by kernel_rfl) trivial (fun hHeld => ?_)
            refine wpAnyH_take (i := 0) (oi := ⟨some 45, .move (.tmp 0), _, _, _, _⟩) (v := .slice (some ⟨ga, oa, none⟩) n c) rfl (by kernel_rfl) (by kernel_rfl) (by kernel_rfl) (fun _ _ _ h => h) (.inl ⟨by rfl, fun w hSw => by go_simp⟩) (by assumption) ?_
            simp only [Act.put, List.setIfInBounds_toArray, List.set_cons_zero, List.set_cons_succ]
            refine wpAnyH_take (i := 1) (oi := ⟨some 46, .move (.tmp 8), _, _, _, _⟩) (v := .int .i64 (i : Int)) rfl (by kernel_rfl) (by kernel_rfl) (by kernel_rfl) (fun _ _ _ h => h) (.inl ⟨by rfl, fun w hSw => by go_simp⟩) (by assumption) ?_
            simp only [Act.put, List.setIfInBounds_toArray, List.set_cons_zero, List.set_cons_succ]
            refine wpAnyH_take (i := 2) (oi := ⟨some 47, .indexAddr 22 (.tmp 45) (.tmp 46), _, _, _, _⟩) (v := .pointer (some ⟨ga, oa + i * 5, none⟩)) rfl (by kernel_rfl) (by kernel_rfl) (by kernel_rfl) (fun _ _ _ h => h) (.inl ⟨by rfl, fun w hSw => by go_simp⟩) (by assumption) ?_
            simp only [Act.put, List.setIfInBounds_toArray, List.set_cons_zero, List.set_cons_succ]
            refine wpAnyH_take (i := 5) (oi := ⟨some 50, .move (.tmp 7), _, _, _, _⟩) (v := .slice (A') m c') rfl (by kernel_rfl) (by kernel_rfl) (by kernel_rfl) (fun _ _ _ h => h) (.inl ⟨by rfl, fun w hSw => by go_simp⟩) (by assumption) ?_
            simp only [Act.put, List.setIfInBounds_toArray, List.set_cons_zero, List.set_cons_succ]
            refine wpAnyH_take (i := 6) (oi := ⟨some 51, .move (.tmp 9), _, _, _, _⟩) (v := .int .i64 (k : Int)) rfl (by kernel_rfl) (by kernel_rfl) (by kernel_rfl) (fun _ _ _ h => h) (.inl ⟨by rfl, fun w hSw => by go_simp⟩) (by assumption) ?_
            simp only [Act.put, List.setIfInBounds_toArray, List.set_cons_zero, List.set_cons_succ]
            refine wpAnyH_take (i := 7) (oi := ⟨some 52, .slice 22 (.tmp 50) (some (.tmp 51)) none none, _, _, _, _⟩) (v := .slice B q d) rfl (by kernel_rfl) (by kernel_rfl) (by kernel_rfl) (fun _ _ _ h => h) (.inl ⟨by rfl, fun w hSw => by have z := HRUN.out w; go_simp⟩) (by assumption) ?_
            simp only [Act.put, List.setIfInBounds_toArray, List.set_cons_zero, List.set_cons_succ]
            refine wpAnyH_ready (rs := [3]) (by kernel_rfl) (by simp) ?_
            refine AllReadyH.cons (o := ⟨some 48, .load 42 (.tmp 47), _, _, _, _⟩) rfl (fun K hK => ?_) AllReadyH.nil
            refine st_load_rng (by rfl) 42 (.tmp 47) rfl ga (oa + i * 5) rfl (ecs x) _ HXd.out Tryd.underlying42 rfl (info_ent x) ?_
            refine hK.out _ _ trivial (fun _hs => ?_)
            clear hK K
            refine wpAnyH_ready (rs := [4]) (by kernel_rfl) (by simp) ?_
            refine AllReadyH.cons (o := ⟨some 49, .buildSlice 22 1 #[(0, .tmp 48)], _, _, _, _⟩) rfl (fun K hK => ?_) AllReadyH.nil
            refine st_bs1 (by rfl) 22 42 _ rfl Tryd.underlying22 5 (info_ent x) (by decide) _ zero_ent (ecs x) rfl rfl ?_
            intro g8 w8 hr8 hg8 hb8
            have HB8 := Lib.hid hb8
            have HG8 := hg8
            have HR8 := Lib.hid (p := w8.ownsRow w.heap.size 42 5 (.slice (some ⟨g8, 0, none⟩) 1 1) 1 (ecs x)) (own_row hr8 rfl (by have h1 := hg8.out; have h2 := HBd.out.size; omega) (by decide))
            have HS8 := Lib.hid (HSRC.out.below hb8)
            clear hr8 hg8 hb8
            refine hK.out _ _ trivial (fun _hs => ?_)
            clear hK K
            refine wpAnyH_ready (rs := [8]) (by kernel_rfl) (by simp) ?_
            refine AllReadyH.cons (o := ⟨some 53, .call ⟨.builtin .append, #[.tmp 49, .tmp 52], #[22, 22]⟩, _, _, _, _⟩) rfl (fun K hK => ?_) AllReadyH.nil
            refine st_join (by rfl) (.tmp 49) (.tmp 52) rfl rec_ent w.heap.size (.slice (some ⟨g8, 0, none⟩) 1 1) 1 (ecs x) rfl HR8.out B q d ((R.drop k).flatMap ecs) rfl (by rw [flat_len ecs_len, HQ.out]) (Lies.src HS8.out (by decide) ecs_len HQ.out) (flat_one ecs_one _) (by have := HQM.out; have := HMI.out; have := HN.out; have := HIN.out; omega) (by have h1 := HBd.out.size; have h2 := HB8.out.size; omega) ?_
            intro v1 w9 ho1 hg1 hat1
            have HO9 := Lib.hid ho1
            have HBW9 := Lib.hid (HB8.out.grown hg1 HB8.out.size (fun z hz => by have hz2 : some g8 = some z := hz; injection hz2 with hz2; subst hz2; exact Nat.le_of_eq HG8.out.symm))
            obtain ⟨A1, c1, rfl⟩ := own_sl ho1
            clear ho1 hg1 hat1
            refine hK.out _ _ trivial (fun _hs => ?_)
            clear hK K
            refine wpAnyH_take (i := 9) (oi := ⟨some 10, .assign (.tmp 53), _, _, _, _⟩) (v := .slice A1 (1 + q) c1) rfl (by kernel_rfl) (by kernel_rfl) (by kernel_rfl) (fun _ _ _ h => h) (.inl ⟨by rfl, fun w hSw => by go_simp⟩) (by assumption) ?_
            simp only [Act.put, List.setIfInBounds_toArray, List.set_cons_zero, List.set_cons_succ]
            refine wpAnyH_done (by kernel_rfl) ?_ _
            have HB9 := Lib.hid (below_nxt HBW9.out HBd.out)
            have HLF := Lib.hid (p := Lies ecs 5 (w9.alloc (.cells #[] 42)) (A') (R.take k)) (((HLd.out.below HBW9.out).take_ k).below ((Below.refl _ _).alloc (Nat.le_refl _) _))
            have HTK := Lib.hid (p := (R.take k).length = k) (by rw [List.length_take, HRM.out]; have := HKM.out; omega)
            go_wp2_with (first
              | (at_builtin
                 refine wp_join rfl _ _ rfl rec_ent w.heap.size (.slice (some ⟨w9.heap.size, 0, none⟩) 0 0) 0 [] rfl (void_own w9 _ 5 _ HB9.out.size) (A') k c' ((R.take k).flatMap ecs) rfl (by rw [flat_len ecs_len, HTK.out]) (Lies.src HLF.out (by decide) ecs_len HTK.out) (flat_one ecs_one _) (by have := HKM.out; have := HMI.out; have := HIN.out; have := HN.out; omega) (by have := HB9.out.size; simp; omega) ?_
                 intro v2' w10 hown2 hg2 hat2
                 rw [List.nil_append, Nat.zero_add] at hown2
                 obtain ⟨A2, c2, rfl⟩ := own_sl hown2
                 have hb2 : Below w9.heap.size w9 w10 := ((Below.refl _ _).alloc (Nat.le_refl _) _).grown hg2 (by simp) (fun z hz => by have h0 : some w9.heap.size = some z := hz; injection h0 with h0; omega)
                 have HX10 := Lib.hid hown2
                 have HB10 := Lib.hid hb2
                 have HO10 := Lib.hid (own_kept HO9.out hb2)
                 clear hown2 hg2 hat2 hb2 HLF)
              | (at_builtin
                 refine wp_join rfl _ _ rfl rec_ent w.heap.size (.slice A2 k c2) k ((R.take k).flatMap ecs) rfl HX10.out A1 (1 + q) c1 (ecs x ++ (R.drop k).flatMap ecs) rfl (by rw [List.length_append, flat_len ecs_len, HQ.out, ecs_len]; omega) (own_src HO10.out) (fun u hu => (List.mem_append.1 hu).elim (ecs_one x u) (flat_one ecs_one _ u)) (by have := HQM.out; have := HMI.out; have := HIN.out; have := HN.out; omega) (by have := HB9.out.size; have := HB10.out.size; omega) ?_
                 intro v3 w11 ho3 hg3 hat3
                 have HO11 := Lib.hid ho3
                 obtain ⟨A3, c3, rfl⟩ := own_sl ho3
                 have HB11 := Lib.hid ((below_nxt HB10.out HB9.out).grown hg3 (below_nxt HB10.out HB9.out).size (fun z hz => (HX10.out.lt z hz).1))
                 clear ho3 hg3 hat3))
            go_roundw
            case rel =>
              refine ⟨i + 1, A3, k + (1 + q), c3, R.take k ++ x :: R.drop k, by go_num, rfl, Lib.hid HI1.out, Lib.hid ?_, Lib.hid (by rw [List.length_append, HTK.out, List.length_cons, HQ.out]; omega), Lib.hid (by have := HQM.out; have := HMI.out; omega), Lib.hid ⟨ins_ord HOS.out.1 HLE.out HGT.out, ?_⟩, HB11⟩
              · rw [List.flatMap_append, List.flatMap_cons]; exact HO11.out
              · rw [filter_snoc HX.out, HPX.out, if_pos rfl]; exact ins_same HOS.out.2 HGT.out
            case measure => have := HI1.out; simp [intOf]; omega
      · have hle : (x.ck : Int) ≤ (after : Int) := by omega
        have HPX := Lib.hid (p := p x = false) (by rw [HPP.out]; exact decide_eq_false hpx)
        clear hpx
        go_wp2
        go_roundw
        case rel => exact ⟨i + 1, A', m, c', R, by go_num, rfl, Lib.hid HI1.out, HO, HRM2, Lib.hid (by have := HMI.out; omega), Lib.hid ⟨HOS.out.1, by rw [filter_snoc HX.out, HPX.out, if_neg Bool.false_ne_true, List.append_nil]; exact HOS.out.2⟩, HB⟩
        case measure => have := HI1.out; simp [intOf]; omega
    · have hii : ¬ (i : Int) < (n : Int) := by omega
      have hin : i = n := by have := HIN.out; omega
      have HSL := Lib.hid (p := SameK Ent.ck (X.filter p) R) (by
        have h1 := HOS.out.2
        rw [List.take_of_length_le (by have := HN.out; omega)] at h1
        exact h1)
      have HLO := Lib.hid (p := Lies ecs 5 wo A' R) (Lies.own (by decide) ecs_len HO.out)
      have HMN := Lib.hid (p := m ≤ 1000000) (by have := HMI.out; have := HN.out; omega)
      clear hi hin
      go_wp2
      go_loopw [2, 11, 12] (fun xr xo y wr => ∃ (j : Nat) (r : Int) (A2 : Option Addr) (c2 : Nat), y = .int .i64 (j : Int) ∧ xr = .int .i64 r ∧ xo = .slice A2 j c2 ∧ Hid (j ≤ m ∧ fit room R = j + fit r (R.drop j)) ∧ Hid (-9223372036854775808 ≤ r ∧ r ≤ 9223372036854775807) ∧ Hid (wr.ownsRow wo.heap.size 42 5 (.slice A2 j c2) j ((R.take j).flatMap ecs)) ∧ Hid (Below wo.heap.size wo wr)) (fun _ _ y _ => m - (intOf y).toNat)
      case atStart => exact ⟨0, room, none, 0, rfl, rfl, rfl, Lib.hid ⟨Nat.zero_le _, by simp⟩, HRM, Lib.hid (World.ownsRow_nil _ _ _ _), Lib.hid (Below.refl _ _)⟩
      case round =>
        obtain ⟨j, r, A2, c2, rfl, rfl, rfl, HK, HRR, HO2, HBI⟩ := hrel
        by_cases hj : j < m
        · have hji : (j : Int) < (m : Int) := by omega
          have hjw : IntKind.i64.wrap ((j : Int) + 1) = (j : Int) + 1 := by rw [IntKind.wrap_i64]; have := HMN.out; omega
          have hjx : j < R.length := by have := HRM2.out; omega
          obtain ⟨gb, ob, rfl, hcb⟩ := (HLO.out.below HBI.out).at_ hjx
          obtain ⟨y, hy⟩ : ∃ y, R[j] = y := ⟨_, rfl⟩
          rw [hy] at hcb
          have HY := Lib.hid (p := R[j]? = some y) (by rw [List.getElem?_eq_getElem hjx, hy])
          have HRy := Lib.hid (p := wr.rangeAt gb (ob + j * 5) (ecs y)) (fun k u hu => hcb k u hu)
          have cy : wr.cell? ⟨gb, ob + j * 5, none⟩ = some (.string y.nm) := hcb 0 _ rfl
          have HJ := Lib.hid hj
          have hsz : y.nm.size ≤ 4294967296 := HNM.out y (List.mem_filter.1 ((HSL.out.mem y).1 (List.mem_of_getElem? HY.out))).1
          obtain ⟨s, hs⟩ : ∃ s : Nat, y.nm.size = s := ⟨_, rfl⟩
          have hsw : IntKind.i64.wrap (24 + (s : Int)) = 24 + (s : Int) := by rw [IntKind.wrap_i64]; omega
          have HS := Lib.hid (And.intro hs (show s ≤ 4294967296 by omega))
          clear hcb hy hjx hj hsz
          by_cases hf : r < 24 + (s : Int)
          · have HF := Lib.hid hf
            go_wp2
            go_ret
            have e1 : j = fit room R := by have h1 := HK.out.2; rw [fit_no HY.out (by rw [HS.out.1]; exact HF.out)] at h1; omega
            exact ⟨A2, c2, j, R, rfl, own_lower HO2.out HB.out.size, e1, HOS.out.1, HSL.out, below_nxt HBI.out HB.out⟩
          · have HF := Lib.hid hf
            obtain ⟨r1, hr1⟩ : ∃ r1 : Int, r - 24 = r1 := ⟨_, rfl⟩
            obtain ⟨r2, hr2⟩ : ∃ r2 : Int, r1 - (s : Int) = r2 := ⟨_, rfl⟩
            have hrw1 : IntKind.i64.wrap (r - 24) = r1 := by rw [IntKind.wrap_i64]; have := HRR.out; omega
            have hrw2 : IntKind.i64.wrap (r1 - (s : Int)) = r2 := by rw [IntKind.wrap_i64]; have := HRR.out; omega
            have HR2X := Lib.hid (p := r - (24 + (s : Int)) = r2) (by omega)
            clear hr1 hr2
            go_wp2_with (first
              | (refine wpList_load_mid rfl 42 (.tmp 88) rfl gb (ob + j * 5) rfl (ecs y) _ HRy.out Tryd.underlying42 rfl (info_ent y) ?_)
              | (refine step_bs1 rfl 22 42 _ rfl Tryd.underlying22 5 (info_ent y) (by decide) _ zero_ent (ecs y) rfl rfl ?_; intro g8 w8 hr8 hg8 hb8
                 have HR8 := Lib.hid hr8
                 have HO8 := Lib.hid (own_kept HO2.out hb8)
                 have HB8 := Lib.hid (below_nxt hb8 HBI.out)
                 clear hr8 hg8 hb8)
              | (at_builtin
                 refine wp_join rfl _ _ rfl rec_ent wo.heap.size (.slice A2 j c2) j ((R.take j).flatMap ecs) rfl HO8.out (some ⟨g8, 0, none⟩) 1 1 (ecs y) rfl rfl (.inr ⟨_, rfl, fun j u hu => by rw [Addr.add_lit]; exact HR8.out.all j u hu⟩) (ecs_one y) (by have := HMN.out; have := HJ.out; omega) HB8.out.size ?_
                 intro v1 w9 ho1 hg1 hat1
                 have HO9 := Lib.hid ho1
                 obtain ⟨A3, c3, rfl⟩ := own_sl ho1
                 have HB9 := Lib.hid (p := Below wo.heap.size wo w9) (HB8.out.grown hg1 HB8.out.size (fun z hz => (HO8.out.lt z hz).1))
                 clear ho1 hg1 hat1))
            go_roundw
            case rel =>
              refine ⟨j + 1, r2, A3, c3, by go_num, rfl, rfl, Lib.hid ⟨HJ.out, ?_⟩, Lib.hid (by have := HRR.out; have := HR2X.out; have := HF.out; omega), Lib.hid (by rw [List.take_add_one, HY.out, List.flatMap_append]; simpa using HO9.out), HB9⟩
              have h1 := HK.out.2
              rw [fit_yes HY.out (by rw [HS.out.1]; exact HF.out), HS.out.1, HR2X.out] at h1
              omega
            case measure => have := HJ.out; simp [intOf]; omega
        · have hje : j = m := by have := HK.out; omega
          have hji : ¬ (j : Int) < (m : Int) := by omega
          have HKE := Lib.hid hje
          clear hj hje
          go_wp2
          go_ret
          have e1 : j = fit room R := by
            have h1 := HK.out.2
            rw [List.drop_of_length_le (by rw [HRM2.out, HKE.out]; exact Nat.le_refl _)] at h1
            rw [fit_nil] at h1
            omega
          exact ⟨A2, c2, j, rfl, R, own_lower HO2.out HB.out.size, e1, HOS.out.1, HSL.out, below_nxt HBI.out HB.out⟩
end Go.Proofs.YtijffkklhgnknaaDoor
