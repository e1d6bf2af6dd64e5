/- The walk of ViewAgain. Conditions: those named. -/
import Derived.Test.YtpobppoaidngeaaKt
import Derived.Test.YtpobppoaidngeaaKu0
import Derived.Deep.Cut
import Derived.Deep.CutRange
set_option linter.unusedVariables false
set_option maxRecDepth 20000
namespace Go.Proofs.Ytpobppoaidngeaa
open Go.RowKit

set_option maxHeartbeats 4000000 in
theorem againW {W : World} {AB : Option Addr} {nB cB : Nat} {AK : Option Addr} {nK cK : Nat} {Bs : List BV} {Ks : List Bool} {A : Option Addr} {c : Nat} {ds : List DV} (hI : SrcI W AB nB cB AK nK cK Bs Ks) (hd : ScR W A ds) :
    Calls Try.prog 4 #[.agg #[.slice AB nB cB, .slice AK nK cK], .slice A ds.length c] W fun e w' => e = .returned (.bool true) ∧ Below W.heap.size W w' := by
  have hmf : ∀ (fn : Fn) (first cap : Array Value) (w : World), (Instr.makeFunc fn first cap).run Try.prog w = .ok (.func fn first cap) w := fun _ _ _ _ => rfl
  have HM := Lib.hid (p := ∀ (w1 : World) (gs : Nat), Row w1 gs 25 [.slice AB nB cB, .slice AK nK cK] → Below W.heap.size W w1 → SrcR w1 gs Bs Ks) (fun w1 gs hr hb => hI.made hr hb)
  have HI := Lib.hid hI
  have HD := Lib.hid hd
  clear hI hd
  go_enter Try.func4, Try.ntmps4
  go_wp2_with (first
    | (refine step_box rfl 2 rfl 25 _ rfl [.slice AB nB cB, .slice AK nK cK] rfl ?_; intro gs w1 hr1 hg1 hb1 hs1
       have HS1 := Lib.hid (HM.out w1 gs hr1 hb1); have HB1 := Lib.hid hb1; have R1 := Lib.hid hr1; clear hr1 hg1 hb1 hs1)
    | (refine step_box1 rfl 26 _ rfl (.slice A ds.length c) rfl rfl ?_; intro pd w2 hr2 hg2 hb2
       have R2 := Lib.hid hr2; have HB2 := Lib.hid (below_nxt hb2 HB1.out); have HS2 := Lib.hid (HS1.out.below hb2); have R12 := Lib.hid (R1.out.kept hb2); clear hr2 hg2 hb2)
    | (go_at_call 7; refine (awake_any _).mono ?_; rintro e w4 ⟨rfl, hb4⟩
       have HB4 := Lib.hid (below_nxt hb4 HB2.out); have HS4 := Lib.hid (HS2.out.below hb4); have R24 := Lib.hid (R2.out.kept hb4); have R14 := Lib.hid (R12.out.kept hb4)
       have c2 : w4.cell? ⟨pd, 0, none⟩ = some (.slice A ds.length c) := (R24.out.cell 0).trans rfl
       clear hb4))
  refine (may_any HS4.out (HD.out.below HB4.out)).mono ?_
  rintro e w5 ⟨rm, rfl, hok, hb5⟩
  have HB5 := Lib.hid (below_nxt hb5.out HB4.out)
  have HS5 := Lib.hid (HS4.out.below hb5.out)
  have R25 := Lib.hid (R24.out.kept hb5.out)
  have R15 := Lib.hid (R14.out.kept hb5.out)
  clear c2
  cases rm with
  | false =>
    go_wp2
    go_ret
    exact ⟨rfl, HB5.out⟩
  | true =>
    have HOK := Lib.hid (hok.out (by trivial))
    have HSO := Lib.hid (HS5.out.ok HOK.out)
    have HDO := Lib.hid ((HD.out.below HB5.out).ok HOK.out)
    have hn : nB = nK := by rw [HI.out.nB, HI.out.nK, HOK.out.eq]
    subst hn
    have HBN := Lib.hid (p := Bs.length = nB) HI.out.nB.symm
    have HKN := Lib.hid (p := Ks.length = nB) HI.out.nK.symm
    have HN3 := Lib.hid (p := nB ≤ 300) (by rw [← HBN.out]; exact HOK.out.lim)
    have HLB := Lib.hid (HI.out.lB.below HB5.out)
    have HLK5 := Lib.hid (HI.out.lK.below HB5.out)
    have HLM := Lib.hid HDO.out.lim
    have cd5 : w5.cell? ⟨pd, 0, none⟩ = some (.slice A ds.length c) := (R25.out.cell 0).trans rfl
    have cb5 : w5.cell? ⟨gs, 0, none⟩ = some (.slice AB nB cB) := (R15.out.cell 0).trans rfl
    clear hok hb5
    go_wp2
    go_loopw [5] (fun x wr => ∃ i : Nat, Hid (i ≤ ds.length) ∧ x = .int .i64 (i : Int) ∧ Hid (∀ k d, k < i → ds[k]? = some d → 0 ≤ d.slot ∧ d.slot < (nB : Int)) ∧ Hid (Below w5.heap.size w5 wr)) (fun x _ => ds.length - (intOf x).toNat)
    case atStart => exact ⟨0, Lib.hid (Nat.zero_le _), rfl, Lib.hid (fun k d h => by omega), Lib.hid (Below.refl _ _)⟩
    case round =>
      obtain ⟨i, HIL, rfl, HSL, HBR⟩ := hrel
      rename World => wo
      have cdo : wo.cell? ⟨pd, 0, none⟩ = some (.slice A ds.length c) := (HBR.out.cell (p := ⟨pd, 0, none⟩) (World.block_lt_of_cell? w5 _ cd5)).trans cd5
      have cbo : wo.cell? ⟨gs, 0, none⟩ = some (.slice AB nB cB) := (HBR.out.cell (p := ⟨gs, 0, none⟩) (World.block_lt_of_cell? w5 _ cb5)).trans cb5
      by_cases hi : i < ds.length
      · have hii : (i : Int) < (ds.length : Int) := by omega
        obtain ⟨d, hd⟩ : ∃ d, ds[i] = d := ⟨_, rfl⟩
        have hds : ds[i]? = some d := by rw [List.getElem?_eq_getElem hi, hd]
        obtain ⟨g, o, rfl, hc⟩ := HDO.out.lies.1.at_ hi
        rw [hd] at hc
        obtain ⟨z, hz⟩ : ∃ z, d.slot = z := ⟨_, rfl⟩
        have cz5 := hc 1 _ rfl
        have cz : wo.cell? ⟨g, o + i * 3 + 1, none⟩ = some (.int .i64 d.slot) := (HBR.out.cell (p := ⟨g, o + i * 3 + 1, none⟩) (World.block_lt_of_cell? w5 _ cz5)).trans cz5
        rw [hz] at cz
        have HZ := Lib.hid hz
        have HDS := Lib.hid hds
        have HIT := Lib.hid hi
        have hiw : IntKind.i64.wrap ((i : Int) + 1) = (i : Int) + 1 := by rw [IntKind.wrap_i64]; have := HLM.out; omega
        clear hi hd hds hc hz cz5
        by_cases h0 : z < 0
        · go_wp2_with fail
          go_quiet (fail)
          go_wp2
          go_ret
          exact ⟨rfl, below_nxt (below_drewN HBR.out _) HB5.out⟩
        · have h0' : decide (z < 0) = false := decide_eq_false h0
          have h0'' : 0 ≤ z := by omega
          by_cases h1 : (nB : Int) ≤ z
          · go_wp2_with fail
            go_quiet (fail)
            go_wp2
            go_ret
            exact ⟨rfl, below_nxt (below_drewN HBR.out _) HB5.out⟩
          · have h1' : decide ((nB : Int) ≤ z) = false := decide_eq_false h1
            have h1'' : z < (nB : Int) := by omega
            go_wp2_with fail
            go_quiet (fail)
            go_wp2
            go_roundw
            case rel =>
              refine ⟨i + 1, Lib.hid (by have := HIT.out; omega), by go_num, Lib.hid ?_, Lib.hid (below_drewN HBR.out _)⟩
              intro k q hk hq
              by_cases e : k = i
              · subst e
                rw [HDS.out] at hq
                injection hq with hq
                subst hq
                rw [HZ.out]
                exact ⟨h0'', h1''⟩
              · exact HSL.out k q (by omega) hq
            case measure => have := HIT.out; simp [intOf]; omega
      · have hii : ¬ (i : Int) < (ds.length : Int) := by omega
        have HIR := Lib.hid (p := InR nB ds) (fun q hq => by
          obtain ⟨k, hk, e⟩ := List.mem_iff_getElem.1 hq
          exact HSL.out k q (by have := HIL.out; omega) (by rw [List.getElem?_eq_getElem hk, e]))
        have HR0 := Lib.hid (R15.out.below HBR.out R15.out.lt)
        have HLK := Lib.hid (Lies.below HLK5.out HBR.out)
        have HSB := Lib.hid (p := w5.heap.size ≤ wo.heap.size) HBR.out.size
        clear hi HSL HIL
        go_upto_region 10 with fail
        clear cdo cbo cd5 cb5
        go_cut [6] from 46 to 52 (fun p wx => ∃ go, p = .pointer (some ⟨go, 0, none⟩) ∧ Hid (OwnS w5.heap.size wx go AB nB cB Ks) ∧ Hid (Below wo.heap.size wo wx))
        case first =>
          refine wp_region_held_drew (S := fun W => Row W gs 25 [.slice AB nB cB, .slice AK nB cK]) (by kernel_rfl) (HR0.out.drew) (fun hHeld => ?_)
          refine wpAnyH_take (i := 0) (oi := ⟨some 46, .fieldAddr 25 (.tmp 2) 0, _, _, _, _⟩) (v := .pointer (some ⟨gs, 0, none⟩)) rfl (by kernel_rfl) (by kernel_rfl) (by kernel_rfl) (fun _ _ _ h => h) (.inl ⟨by rfl, fun w hSw => by go_simp⟩) (by assumption) ?_
          simp only [Act.put, List.setIfInBounds_toArray, List.set_cons_zero, List.set_cons_succ]
          refine wpAnyH_take (i := 1) (oi := ⟨some 47, .load 22 (.tmp 46), _, _, _, _⟩) (v := .slice AB nB cB) rfl (by kernel_rfl) (by kernel_rfl) (by kernel_rfl) (fun _ _ _ h => h) (.inl ⟨by rfl, fun w hSw => by have z := (show w.cell? ⟨gs, 0, none⟩ = some (.slice AB nB cB) from (hSw.cell 0).trans rfl); go_simp⟩) (by assumption) ?_
          simp only [Act.put, List.setIfInBounds_toArray, List.set_cons_zero, List.set_cons_succ]
          refine wpAnyH_take (i := 3) (oi := ⟨some 49, .fieldAddr 25 (.tmp 2) 1, _, _, _, _⟩) (v := .pointer (some ⟨gs, 1, none⟩)) rfl (by kernel_rfl) (by kernel_rfl) (by kernel_rfl) (fun _ _ _ h => h) (.inl ⟨by rfl, fun w hSw => by go_simp⟩) (by assumption) ?_
          simp only [Act.put, List.setIfInBounds_toArray, List.set_cons_zero, List.set_cons_succ]
          refine wpAnyH_take (i := 4) (oi := ⟨some 50, .load 23 (.tmp 49), _, _, _, _⟩) (v := .slice AK nB cK) rfl (by kernel_rfl) (by kernel_rfl) (by kernel_rfl) (fun _ _ _ h => h) (.inl ⟨by rfl, fun w hSw => by have z := (show w.cell? ⟨gs, 1, none⟩ = some (.slice AK nB cK) from (hSw.cell 1).trans rfl); go_simp⟩) (by assumption) ?_
          simp only [Act.put, List.setIfInBounds_toArray, List.set_cons_zero, List.set_cons_succ]
          refine wpAnyH_ready (rs := [2, 7]) (by kernel_rfl) (by simp) ?_
          refine AllReadyH.cons (o := ⟨some 48, .buildSlice 23 0 #[], _, _, _, _⟩) rfl (fun K hK => ?_) (AllReadyH.cons (o := ⟨some 6, .alloc 25, _, _, _, _⟩) rfl (fun K hK => ?_) AllReadyH.nil)
          · skip
            have HBb := Lib.hid (p := Below wo.heap.size wo (wo.drew.alloc (.cells #[] 4))) ((below_drw wo).alloc ((below_drw wo).size) _)
            have HOb := Lib.hid (p := (wo.drew.alloc (.cells #[] 4)).ownsRow w5.heap.size 4 1 (.slice (some ⟨wo.drew.heap.size, 0, none⟩) 0 0) 0 []) (void_own wo.drew _ 1 _ (Nat.le_trans HSB.out (below_drw wo).size))
            have LXb := Lib.hid (p := wo.heap.size ≤ wo.drew.heap.size) (below_drw wo).size
            refine st_bs0 (by rfl) rfl ?_
            refine hK.out _ _ (HR0.out.kept HBb.out) (fun hHb => ?_)
            clear hK K
            refine wpAnyH_ready (rs := [5, 7]) (by kernel_rfl) (by simp) ?_
            refine AllReadyH.cons (o := ⟨some 51, .call ⟨.builtin .append, #[.tmp 48, .tmp 50], #[23, 23]⟩, _, _, _, _⟩) rfl (fun K hK => ?_) (AllReadyH.cons (o := ⟨some 6, .alloc 25, _, _, _, _⟩) rfl (fun K hK => ?_) AllReadyH.nil)
            · skip
              refine step_join (by rfl) (.tmp 48) (.tmp 50) rfl rec_bool w5.heap.size (.slice (some ⟨wo.drew.heap.size, 0, none⟩) 0 0) 0 [] rfl (HOb.out) AK nB cK (Ks.flatMap bcs) rfl (by rw [flat_len bcs_len, HKN.out]) (by have z := lies_src (HLK.out.below (HBb.out)); rwa [HKN.out] at z) (flat_one bcs_one _) (by have := HN3.out; omega) (Nat.le_trans HSB.out (HBb.out).size) ?_
              intro v2 w2 ho2 hg2 hat2
              rw [List.nil_append, Nat.zero_add] at ho2
              obtain ⟨A2, c2, rfl⟩ := own_sl ho2
              have HB2 := Lib.hid (p := Below wo.heap.size wo w2) ((HBb.out).grown hg2 (HBb.out).size (fun q hq => by have h0 : some wo.drew.heap.size = some q := hq; injection h0 with h0; have := LXb.out; omega))
              have HO2 := Lib.hid ho2
              clear ho2 hg2 hat2
              refine hK.out _ _ (HR0.out.kept HB2.out) (fun hH2 => ?_)
              clear hK K
              refine wpAnyH_take (i := 6) (oi := ⟨some 52, .build 25 #[(0, .tmp 47), (1, .tmp 51)], _, _, _, _⟩) (v := .agg #[.slice AB nB cB, .slice A2 nB c2]) rfl (by kernel_rfl) (by kernel_rfl) (by kernel_rfl) (fun _ _ _ h => h) (.inl ⟨by rfl, fun w hSw => run_build_op w _ 25 _ rfl [(0, .slice AB nB cB), (1, .slice A2 nB c2)] (by simp only [List.map_toArray, List.map_cons, List.map_nil]; rfl) _ (built_source _ _ _ _ _ _)⟩) (by assumption) ?_
              simp only [Act.put, List.setIfInBounds_toArray, List.set_cons_zero, List.set_cons_succ]
              refine wpAnyH_ready (rs := [7]) (by kernel_rfl) (by simp) ?_
              refine AllReadyH.cons (o := ⟨some 6, .alloc 25, _, _, _, _⟩) rfl (fun K hK => ?_) AllReadyH.nil
              refine st_alloc (by rfl) 25 rfl [.slice none 0 0, .slice none 0 0] zero_source ?_
              intro go w3 hr3 hg3 hb3
              have HB3 := Lib.hid (p := Below wo.heap.size wo w3) ((HB2.out).trans (hb3.mono (HB2.out).size))
              have HG3 := Lib.hid hr3
              have LG3 := Lib.hid (p := wo.heap.size ≤ go) (by have := hg3.out; have := (HB2.out).size; simp at *; omega)
              have HO3 := Lib.hid (own_kept (HO2.out) hb3)
              clear hr3 hg3 hb3
              refine hK.out _ _ (HR0.out.kept HB3.out) (fun hH3 => ?_)
              clear hK K
              refine wpAnyH_ready (rs := [8]) (by kernel_rfl) (by simp) ?_
              refine AllReadyH.cons (o := ⟨none, .store 25 (.tmp 6) (.tmp 52), _, _, _, _⟩) rfl (fun K hK => ?_) AllReadyH.nil
              refine st_store (by rfl) 25 (.tmp 6) (.tmp 52) rfl go rfl 25 [.slice none 0 0, .slice none 0 0] [.slice AB nB cB, .slice A2 nB c2] rfl (HG3.out) rfl info_source (by intro v hv; simp at hv; rcases hv with rfl | rfl <;> rfl) ?_
              intro w7 hr7 hg7
              have HE := Lib.hid (own_end (B := w5.heap.size) (HO3.out) (HG3.out) hr7 hg7 (Nat.le_trans HSB.out LG3.out))
              have HB7 := Lib.hid (p := Below wo.heap.size wo w7) ((HB3.out).grown hg7 (HB3.out).size (fun q hq => by injection hq with hq; have := LG3.out; omega))
              clear hr7 hg7
              refine hK.out _ _ (HR0.out.kept HB7.out) (fun hH7 => ?_)
              clear hK K
              refine wpAnyH_done (by kernel_rfl) ?_ _
              go_wp2_with fail
              go_meet
              case rel => exact ⟨go, rfl, HE, HB7⟩
            · skip
              refine st_alloc (by rfl) 25 rfl [.slice none 0 0, .slice none 0 0] zero_source ?_
              intro go w3 hr3 hg3 hb3
              have HB3 := Lib.hid (p := Below wo.heap.size wo w3) ((HBb.out).trans (hb3.mono (HBb.out).size))
              have HG3 := Lib.hid hr3
              have LG3 := Lib.hid (p := wo.heap.size ≤ go) (by have := hg3.out; have := (HBb.out).size; simp at *; omega)
              have HO3 := Lib.hid (own_kept (HOb.out) hb3)
              clear hr3 hg3 hb3
              refine hK.out _ _ (HR0.out.kept HB3.out) (fun hH3 => ?_)
              clear hK K
              refine wpAnyH_ready (rs := [5]) (by kernel_rfl) (by simp) ?_
              refine AllReadyH.cons (o := ⟨some 51, .call ⟨.builtin .append, #[.tmp 48, .tmp 50], #[23, 23]⟩, _, _, _, _⟩) rfl (fun K hK => ?_) AllReadyH.nil
              refine step_join (by rfl) (.tmp 48) (.tmp 50) rfl rec_bool w5.heap.size (.slice (some ⟨wo.drew.heap.size, 0, none⟩) 0 0) 0 [] rfl (HO3.out) AK nB cK (Ks.flatMap bcs) rfl (by rw [flat_len bcs_len, HKN.out]) (by have z := lies_src (HLK.out.below (HB3.out)); rwa [HKN.out] at z) (flat_one bcs_one _) (by have := HN3.out; omega) (Nat.le_trans HSB.out (HB3.out).size) ?_
              intro v2 w2 ho2 hg2 hat2
              rw [List.nil_append, Nat.zero_add] at ho2
              obtain ⟨A2, c2, rfl⟩ := own_sl ho2
              have HB2 := Lib.hid (p := Below wo.heap.size wo w2) ((HB3.out).grown hg2 (HB3.out).size (fun q hq => by have h0 : some wo.drew.heap.size = some q := hq; injection h0 with h0; have := LXb.out; omega))
              have HO2 := Lib.hid ho2
              have HG2 := Lib.hid ((HG3.out).grown hg2 (row_parted (HG3.out) (HO3.out) (by decide)).symm)
              clear ho2 hg2 hat2
              refine hK.out _ _ (HR0.out.kept HB2.out) (fun hH2 => ?_)
              clear hK K
              refine wpAnyH_take (i := 6) (oi := ⟨some 52, .build 25 #[(0, .tmp 47), (1, .tmp 51)], _, _, _, _⟩) (v := .agg #[.slice AB nB cB, .slice A2 nB c2]) rfl (by kernel_rfl) (by kernel_rfl) (by kernel_rfl) (fun _ _ _ h => h) (.inl ⟨by rfl, fun w hSw => run_build_op w _ 25 _ rfl [(0, .slice AB nB cB), (1, .slice A2 nB c2)] (by simp only [List.map_toArray, List.map_cons, List.map_nil]; rfl) _ (built_source _ _ _ _ _ _)⟩) (by assumption) ?_
              simp only [Act.put, List.setIfInBounds_toArray, List.set_cons_zero, List.set_cons_succ]
              refine wpAnyH_ready (rs := [8]) (by kernel_rfl) (by simp) ?_
              refine AllReadyH.cons (o := ⟨none, .store 25 (.tmp 6) (.tmp 52), _, _, _, _⟩) rfl (fun K hK => ?_) AllReadyH.nil
              refine st_store (by rfl) 25 (.tmp 6) (.tmp 52) rfl go rfl 25 [.slice none 0 0, .slice none 0 0] [.slice AB nB cB, .slice A2 nB c2] rfl (HG2.out) rfl info_source (by intro v hv; simp at hv; rcases hv with rfl | rfl <;> rfl) ?_
              intro w7 hr7 hg7
              have HE := Lib.hid (own_end (B := w5.heap.size) (HO2.out) (HG2.out) hr7 hg7 (Nat.le_trans HSB.out LG3.out))
              have HB7 := Lib.hid (p := Below wo.heap.size wo w7) ((HB2.out).grown hg7 (HB2.out).size (fun q hq => by injection hq with hq; have := LG3.out; omega))
              clear hr7 hg7
              refine hK.out _ _ (HR0.out.kept HB7.out) (fun hH7 => ?_)
              clear hK K
              refine wpAnyH_done (by kernel_rfl) ?_ _
              go_wp2_with fail
              go_meet
              case rel => exact ⟨go, rfl, HE, HB7⟩
          · skip
            refine st_alloc (by rfl) 25 rfl [.slice none 0 0, .slice none 0 0] zero_source ?_
            intro go w3 hr3 hg3 hb3
            have HB3 := Lib.hid (p := Below wo.heap.size wo w3) ((below_drw wo).trans (hb3.mono (below_drw wo).size))
            have HG3 := Lib.hid hr3
            have LG3 := Lib.hid (p := wo.heap.size ≤ go) (by have := hg3.out; have := (below_drw wo).size; simp at *; omega)
            clear hr3 hg3 hb3
            refine hK.out _ _ (HR0.out.kept HB3.out) (fun hH3 => ?_)
            clear hK K
            refine wpAnyH_ready (rs := [2]) (by kernel_rfl) (by simp) ?_
            refine AllReadyH.cons (o := ⟨some 48, .buildSlice 23 0 #[], _, _, _, _⟩) rfl (fun K hK => ?_) AllReadyH.nil
            have HBb := Lib.hid (p := Below wo.heap.size wo (w3.alloc (.cells #[] 4))) ((HB3.out).alloc ((HB3.out).size) _)
            have HOb := Lib.hid (p := (w3.alloc (.cells #[] 4)).ownsRow w5.heap.size 4 1 (.slice (some ⟨w3.heap.size, 0, none⟩) 0 0) 0 []) (void_own w3 _ 1 _ (Nat.le_trans HSB.out (HB3.out).size))
            have LXb := Lib.hid (p := wo.heap.size ≤ w3.heap.size) (HB3.out).size
            have HGb := Lib.hid (HG3.out.alloc (.cells #[] 4))
            refine st_bs0 (by rfl) rfl ?_
            refine hK.out _ _ (HR0.out.kept HBb.out) (fun hHb => ?_)
            clear hK K
            refine wpAnyH_ready (rs := [5]) (by kernel_rfl) (by simp) ?_
            refine AllReadyH.cons (o := ⟨some 51, .call ⟨.builtin .append, #[.tmp 48, .tmp 50], #[23, 23]⟩, _, _, _, _⟩) rfl (fun K hK => ?_) AllReadyH.nil
            refine step_join (by rfl) (.tmp 48) (.tmp 50) rfl rec_bool w5.heap.size (.slice (some ⟨w3.heap.size, 0, none⟩) 0 0) 0 [] rfl (HOb.out) AK nB cK (Ks.flatMap bcs) rfl (by rw [flat_len bcs_len, HKN.out]) (by have z := lies_src (HLK.out.below (HBb.out)); rwa [HKN.out] at z) (flat_one bcs_one _) (by have := HN3.out; omega) (Nat.le_trans HSB.out (HBb.out).size) ?_
            intro v2 w2 ho2 hg2 hat2
            rw [List.nil_append, Nat.zero_add] at ho2
            obtain ⟨A2, c2, rfl⟩ := own_sl ho2
            have HB2 := Lib.hid (p := Below wo.heap.size wo w2) ((HBb.out).grown hg2 (HBb.out).size (fun q hq => by have h0 : some w3.heap.size = some q := hq; injection h0 with h0; have := LXb.out; omega))
            have HO2 := Lib.hid ho2
            have HG2 := Lib.hid ((HGb.out).grown hg2 (row_parted (HGb.out) (HOb.out) (by decide)).symm)
            clear ho2 hg2 hat2
            refine hK.out _ _ (HR0.out.kept HB2.out) (fun hH2 => ?_)
            clear hK K
            refine wpAnyH_take (i := 6) (oi := ⟨some 52, .build 25 #[(0, .tmp 47), (1, .tmp 51)], _, _, _, _⟩) (v := .agg #[.slice AB nB cB, .slice A2 nB c2]) rfl (by kernel_rfl) (by kernel_rfl) (by kernel_rfl) (fun _ _ _ h => h) (.inl ⟨by rfl, fun w hSw => run_build_op w _ 25 _ rfl [(0, .slice AB nB cB), (1, .slice A2 nB c2)] (by simp only [List.map_toArray, List.map_cons, List.map_nil]; rfl) _ (built_source _ _ _ _ _ _)⟩) (by assumption) ?_
            simp only [Act.put, List.setIfInBounds_toArray, List.set_cons_zero, List.set_cons_succ]
            refine wpAnyH_ready (rs := [8]) (by kernel_rfl) (by simp) ?_
            refine AllReadyH.cons (o := ⟨none, .store 25 (.tmp 6) (.tmp 52), _, _, _, _⟩) rfl (fun K hK => ?_) AllReadyH.nil
            refine st_store (by rfl) 25 (.tmp 6) (.tmp 52) rfl go rfl 25 [.slice none 0 0, .slice none 0 0] [.slice AB nB cB, .slice A2 nB c2] rfl (HG2.out) rfl info_source (by intro v hv; simp at hv; rcases hv with rfl | rfl <;> rfl) ?_
            intro w7 hr7 hg7
            have HE := Lib.hid (own_end (B := w5.heap.size) (HO2.out) (HG2.out) hr7 hg7 (Nat.le_trans HSB.out LG3.out))
            have HB7 := Lib.hid (p := Below wo.heap.size wo w7) ((HB2.out).grown hg7 (HB2.out).size (fun q hq => by injection hq with hq; have := LG3.out; omega))
            clear hr7 hg7
            refine hK.out _ _ (HR0.out.kept HB7.out) (fun hH7 => ?_)
            clear hK K
            refine wpAnyH_done (by kernel_rfl) ?_ _
            go_wp2_with fail
            go_meet
            case rel => exact ⟨go, rfl, HE, HB7⟩
        case rest =>
          obtain ⟨go, rfl, HO6, HB6⟩ := hcut
          obtain ⟨w6, hw6⟩ : ∃ w6 : World, w6 = wc := ⟨_, rfl⟩
          rw [← hw6] at HO6 HB6 ⊢
          clear hw6
          have HBR6 := Lib.hid (below_nxt' HB6.out HBR.out HSB.out)
          have HSB6 := Lib.hid (p := w5.heap.size ≤ w6.heap.size) HBR6.out.size
          replace HR0 := Lib.hid (HR0.out.kept HB6.out)
          replace HLK := Lib.hid (HLK.out.below HB6.out)
          clear HSB
          have HSB := Lib.hid (p := w6.heap.size ≤ w6.heap.size) (Nat.le_refl _)
          go_upto_region 11 with fail
          go_cut [7] from 53 to 59 (fun p wx => ∃ gk, p = .pointer (some ⟨gk, 0, none⟩) ∧ Hid (OwnS w6.heap.size wx gk AB nB cB Ks) ∧ Hid (Below w6.heap.size w6 wx))
          case first =>
            refine wp_region_held_drew (S := fun W => Row W gs 25 [.slice AB nB cB, .slice AK nB cK]) (by kernel_rfl) (HR0.out.drew) (fun hHeld => ?_)
            refine wpAnyH_take (i := 0) (oi := ⟨some 53, .fieldAddr 25 (.tmp 2) 0, _, _, _, _⟩) (v := .pointer (some ⟨gs, 0, none⟩)) rfl (by kernel_rfl) (by kernel_rfl) (by kernel_rfl) (fun _ _ _ h => h) (.inl ⟨by rfl, fun w hSw => by go_simp⟩) (by assumption) ?_
            simp only [Act.put, List.setIfInBounds_toArray, List.set_cons_zero, List.set_cons_succ]
            refine wpAnyH_take (i := 1) (oi := ⟨some 54, .load 22 (.tmp 53), _, _, _, _⟩) (v := .slice AB nB cB) rfl (by kernel_rfl) (by kernel_rfl) (by kernel_rfl) (fun _ _ _ h => h) (.inl ⟨by rfl, fun w hSw => by have z := (show w.cell? ⟨gs, 0, none⟩ = some (.slice AB nB cB) from (hSw.cell 0).trans rfl); go_simp⟩) (by assumption) ?_
            simp only [Act.put, List.setIfInBounds_toArray, List.set_cons_zero, List.set_cons_succ]
            refine wpAnyH_take (i := 3) (oi := ⟨some 56, .fieldAddr 25 (.tmp 2) 1, _, _, _, _⟩) (v := .pointer (some ⟨gs, 1, none⟩)) rfl (by kernel_rfl) (by kernel_rfl) (by kernel_rfl) (fun _ _ _ h => h) (.inl ⟨by rfl, fun w hSw => by go_simp⟩) (by assumption) ?_
            simp only [Act.put, List.setIfInBounds_toArray, List.set_cons_zero, List.set_cons_succ]
            refine wpAnyH_take (i := 4) (oi := ⟨some 57, .load 23 (.tmp 56), _, _, _, _⟩) (v := .slice AK nB cK) rfl (by kernel_rfl) (by kernel_rfl) (by kernel_rfl) (fun _ _ _ h => h) (.inl ⟨by rfl, fun w hSw => by have z := (show w.cell? ⟨gs, 1, none⟩ = some (.slice AK nB cK) from (hSw.cell 1).trans rfl); go_simp⟩) (by assumption) ?_
            simp only [Act.put, List.setIfInBounds_toArray, List.set_cons_zero, List.set_cons_succ]
            refine wpAnyH_ready (rs := [2, 7]) (by kernel_rfl) (by simp) ?_
            refine AllReadyH.cons (o := ⟨some 55, .buildSlice 23 0 #[], _, _, _, _⟩) rfl (fun K hK => ?_) (AllReadyH.cons (o := ⟨some 7, .alloc 25, _, _, _, _⟩) rfl (fun K hK => ?_) AllReadyH.nil)
            · skip
              have HBb := Lib.hid (p := Below w6.heap.size w6 (w6.drew.alloc (.cells #[] 4))) ((below_drw w6).alloc ((below_drw w6).size) _)
              have HOb := Lib.hid (p := (w6.drew.alloc (.cells #[] 4)).ownsRow w6.heap.size 4 1 (.slice (some ⟨w6.drew.heap.size, 0, none⟩) 0 0) 0 []) (void_own w6.drew _ 1 _ (Nat.le_trans HSB.out (below_drw w6).size))
              have LXb := Lib.hid (p := w6.heap.size ≤ w6.drew.heap.size) (below_drw w6).size
              refine st_bs0 (by rfl) rfl ?_
              refine hK.out _ _ (HR0.out.kept HBb.out) (fun hHb => ?_)
              clear hK K
              refine wpAnyH_ready (rs := [5, 7]) (by kernel_rfl) (by simp) ?_
              refine AllReadyH.cons (o := ⟨some 58, .call ⟨.builtin .append, #[.tmp 55, .tmp 57], #[23, 23]⟩, _, _, _, _⟩) rfl (fun K hK => ?_) (AllReadyH.cons (o := ⟨some 7, .alloc 25, _, _, _, _⟩) rfl (fun K hK => ?_) AllReadyH.nil)
              · skip
                refine step_join (by rfl) (.tmp 55) (.tmp 57) rfl rec_bool w6.heap.size (.slice (some ⟨w6.drew.heap.size, 0, none⟩) 0 0) 0 [] rfl (HOb.out) AK nB cK (Ks.flatMap bcs) rfl (by rw [flat_len bcs_len, HKN.out]) (by have z := lies_src (HLK.out.below (HBb.out)); rwa [HKN.out] at z) (flat_one bcs_one _) (by have := HN3.out; omega) (Nat.le_trans HSB.out (HBb.out).size) ?_
                intro v2 w2 ho2 hg2 hat2
                rw [List.nil_append, Nat.zero_add] at ho2
                obtain ⟨A2, c2, rfl⟩ := own_sl ho2
                have HB2 := Lib.hid (p := Below w6.heap.size w6 w2) ((HBb.out).grown hg2 (HBb.out).size (fun q hq => by have h0 : some w6.drew.heap.size = some q := hq; injection h0 with h0; have := LXb.out; omega))
                have HO2 := Lib.hid ho2
                clear ho2 hg2 hat2
                refine hK.out _ _ (HR0.out.kept HB2.out) (fun hH2 => ?_)
                clear hK K
                refine wpAnyH_take (i := 6) (oi := ⟨some 59, .build 25 #[(0, .tmp 54), (1, .tmp 58)], _, _, _, _⟩) (v := .agg #[.slice AB nB cB, .slice A2 nB c2]) rfl (by kernel_rfl) (by kernel_rfl) (by kernel_rfl) (fun _ _ _ h => h) (.inl ⟨by rfl, fun w hSw => run_build_op w _ 25 _ rfl [(0, .slice AB nB cB), (1, .slice A2 nB c2)] (by simp only [List.map_toArray, List.map_cons, List.map_nil]; rfl) _ (built_source _ _ _ _ _ _)⟩) (by assumption) ?_
                simp only [Act.put, List.setIfInBounds_toArray, List.set_cons_zero, List.set_cons_succ]
                refine wpAnyH_ready (rs := [7]) (by kernel_rfl) (by simp) ?_
                refine AllReadyH.cons (o := ⟨some 7, .alloc 25, _, _, _, _⟩) rfl (fun K hK => ?_) AllReadyH.nil
                refine st_alloc (by rfl) 25 rfl [.slice none 0 0, .slice none 0 0] zero_source ?_
                intro go w3 hr3 hg3 hb3
                have HB3 := Lib.hid (p := Below w6.heap.size w6 w3) ((HB2.out).trans (hb3.mono (HB2.out).size))
                have HG3 := Lib.hid hr3
                have LG3 := Lib.hid (p := w6.heap.size ≤ go) (by have := hg3.out; have := (HB2.out).size; simp at *; omega)
                have HO3 := Lib.hid (own_kept (HO2.out) hb3)
                clear hr3 hg3 hb3
                refine hK.out _ _ (HR0.out.kept HB3.out) (fun hH3 => ?_)
                clear hK K
                refine wpAnyH_ready (rs := [8]) (by kernel_rfl) (by simp) ?_
                refine AllReadyH.cons (o := ⟨none, .store 25 (.tmp 7) (.tmp 59), _, _, _, _⟩) rfl (fun K hK => ?_) AllReadyH.nil
                refine st_store (by rfl) 25 (.tmp 7) (.tmp 59) rfl go rfl 25 [.slice none 0 0, .slice none 0 0] [.slice AB nB cB, .slice A2 nB c2] rfl (HG3.out) rfl info_source (by intro v hv; simp at hv; rcases hv with rfl | rfl <;> rfl) ?_
                intro w7 hr7 hg7
                have HE := Lib.hid (own_end (B := w6.heap.size) (HO3.out) (HG3.out) hr7 hg7 (Nat.le_trans HSB.out LG3.out))
                have HB7 := Lib.hid (p := Below w6.heap.size w6 w7) ((HB3.out).grown hg7 (HB3.out).size (fun q hq => by injection hq with hq; have := LG3.out; omega))
                clear hr7 hg7
                refine hK.out _ _ (HR0.out.kept HB7.out) (fun hH7 => ?_)
                clear hK K
                refine wpAnyH_done (by kernel_rfl) ?_ _
                go_wp2_with fail
                go_meet
                case rel => exact ⟨go, rfl, HE, HB7⟩
              · skip
                refine st_alloc (by rfl) 25 rfl [.slice none 0 0, .slice none 0 0] zero_source ?_
                intro go w3 hr3 hg3 hb3
                have HB3 := Lib.hid (p := Below w6.heap.size w6 w3) ((HBb.out).trans (hb3.mono (HBb.out).size))
                have HG3 := Lib.hid hr3
                have LG3 := Lib.hid (p := w6.heap.size ≤ go) (by have := hg3.out; have := (HBb.out).size; simp at *; omega)
                have HO3 := Lib.hid (own_kept (HOb.out) hb3)
                clear hr3 hg3 hb3
                refine hK.out _ _ (HR0.out.kept HB3.out) (fun hH3 => ?_)
                clear hK K
                refine wpAnyH_ready (rs := [5]) (by kernel_rfl) (by simp) ?_
                refine AllReadyH.cons (o := ⟨some 58, .call ⟨.builtin .append, #[.tmp 55, .tmp 57], #[23, 23]⟩, _, _, _, _⟩) rfl (fun K hK => ?_) AllReadyH.nil
                refine step_join (by rfl) (.tmp 55) (.tmp 57) rfl rec_bool w6.heap.size (.slice (some ⟨w6.drew.heap.size, 0, none⟩) 0 0) 0 [] rfl (HO3.out) AK nB cK (Ks.flatMap bcs) rfl (by rw [flat_len bcs_len, HKN.out]) (by have z := lies_src (HLK.out.below (HB3.out)); rwa [HKN.out] at z) (flat_one bcs_one _) (by have := HN3.out; omega) (Nat.le_trans HSB.out (HB3.out).size) ?_
                intro v2 w2 ho2 hg2 hat2
                rw [List.nil_append, Nat.zero_add] at ho2
                obtain ⟨A2, c2, rfl⟩ := own_sl ho2
                have HB2 := Lib.hid (p := Below w6.heap.size w6 w2) ((HB3.out).grown hg2 (HB3.out).size (fun q hq => by have h0 : some w6.drew.heap.size = some q := hq; injection h0 with h0; have := LXb.out; omega))
                have HO2 := Lib.hid ho2
                have HG2 := Lib.hid ((HG3.out).grown hg2 (row_parted (HG3.out) (HO3.out) (by decide)).symm)
                clear ho2 hg2 hat2
                refine hK.out _ _ (HR0.out.kept HB2.out) (fun hH2 => ?_)
                clear hK K
                refine wpAnyH_take (i := 6) (oi := ⟨some 59, .build 25 #[(0, .tmp 54), (1, .tmp 58)], _, _, _, _⟩) (v := .agg #[.slice AB nB cB, .slice A2 nB c2]) rfl (by kernel_rfl) (by kernel_rfl) (by kernel_rfl) (fun _ _ _ h => h) (.inl ⟨by rfl, fun w hSw => run_build_op w _ 25 _ rfl [(0, .slice AB nB cB), (1, .slice A2 nB c2)] (by simp only [List.map_toArray, List.map_cons, List.map_nil]; rfl) _ (built_source _ _ _ _ _ _)⟩) (by assumption) ?_
                simp only [Act.put, List.setIfInBounds_toArray, List.set_cons_zero, List.set_cons_succ]
                refine wpAnyH_ready (rs := [8]) (by kernel_rfl) (by simp) ?_
                refine AllReadyH.cons (o := ⟨none, .store 25 (.tmp 7) (.tmp 59), _, _, _, _⟩) rfl (fun K hK => ?_) AllReadyH.nil
                refine st_store (by rfl) 25 (.tmp 7) (.tmp 59) rfl go rfl 25 [.slice none 0 0, .slice none 0 0] [.slice AB nB cB, .slice A2 nB c2] rfl (HG2.out) rfl info_source (by intro v hv; simp at hv; rcases hv with rfl | rfl <;> rfl) ?_
                intro w7 hr7 hg7
                have HE := Lib.hid (own_end (B := w6.heap.size) (HO2.out) (HG2.out) hr7 hg7 (Nat.le_trans HSB.out LG3.out))
                have HB7 := Lib.hid (p := Below w6.heap.size w6 w7) ((HB2.out).grown hg7 (HB2.out).size (fun q hq => by injection hq with hq; have := LG3.out; omega))
                clear hr7 hg7
                refine hK.out _ _ (HR0.out.kept HB7.out) (fun hH7 => ?_)
                clear hK K
                refine wpAnyH_done (by kernel_rfl) ?_ _
                go_wp2_with fail
                go_meet
                case rel => exact ⟨go, rfl, HE, HB7⟩
            · skip
              refine st_alloc (by rfl) 25 rfl [.slice none 0 0, .slice none 0 0] zero_source ?_
              intro go w3 hr3 hg3 hb3
              have HB3 := Lib.hid (p := Below w6.heap.size w6 w3) ((below_drw w6).trans (hb3.mono (below_drw w6).size))
              have HG3 := Lib.hid hr3
              have LG3 := Lib.hid (p := w6.heap.size ≤ go) (by have := hg3.out; have := (below_drw w6).size; simp at *; omega)
              clear hr3 hg3 hb3
              refine hK.out _ _ (HR0.out.kept HB3.out) (fun hH3 => ?_)
              clear hK K
              refine wpAnyH_ready (rs := [2]) (by kernel_rfl) (by simp) ?_
              refine AllReadyH.cons (o := ⟨some 55, .buildSlice 23 0 #[], _, _, _, _⟩) rfl (fun K hK => ?_) AllReadyH.nil
              have HBb := Lib.hid (p := Below w6.heap.size w6 (w3.alloc (.cells #[] 4))) ((HB3.out).alloc ((HB3.out).size) _)
              have HOb := Lib.hid (p := (w3.alloc (.cells #[] 4)).ownsRow w6.heap.size 4 1 (.slice (some ⟨w3.heap.size, 0, none⟩) 0 0) 0 []) (void_own w3 _ 1 _ (Nat.le_trans HSB.out (HB3.out).size))
              have LXb := Lib.hid (p := w6.heap.size ≤ w3.heap.size) (HB3.out).size
              have HGb := Lib.hid (HG3.out.alloc (.cells #[] 4))
              refine st_bs0 (by rfl) rfl ?_
              refine hK.out _ _ (HR0.out.kept HBb.out) (fun hHb => ?_)
              clear hK K
              refine wpAnyH_ready (rs := [5]) (by kernel_rfl) (by simp) ?_
              refine AllReadyH.cons (o := ⟨some 58, .call ⟨.builtin .append, #[.tmp 55, .tmp 57], #[23, 23]⟩, _, _, _, _⟩) rfl (fun K hK => ?_) AllReadyH.nil
              refine step_join (by rfl) (.tmp 55) (.tmp 57) rfl rec_bool w6.heap.size (.slice (some ⟨w3.heap.size, 0, none⟩) 0 0) 0 [] rfl (HOb.out) AK nB cK (Ks.flatMap bcs) rfl (by rw [flat_len bcs_len, HKN.out]) (by have z := lies_src (HLK.out.below (HBb.out)); rwa [HKN.out] at z) (flat_one bcs_one _) (by have := HN3.out; omega) (Nat.le_trans HSB.out (HBb.out).size) ?_
              intro v2 w2 ho2 hg2 hat2
              rw [List.nil_append, Nat.zero_add] at ho2
              obtain ⟨A2, c2, rfl⟩ := own_sl ho2
              have HB2 := Lib.hid (p := Below w6.heap.size w6 w2) ((HBb.out).grown hg2 (HBb.out).size (fun q hq => by have h0 : some w3.heap.size = some q := hq; injection h0 with h0; have := LXb.out; omega))
              have HO2 := Lib.hid ho2
              have HG2 := Lib.hid ((HGb.out).grown hg2 (row_parted (HGb.out) (HOb.out) (by decide)).symm)
              clear ho2 hg2 hat2
              refine hK.out _ _ (HR0.out.kept HB2.out) (fun hH2 => ?_)
              clear hK K
              refine wpAnyH_take (i := 6) (oi := ⟨some 59, .build 25 #[(0, .tmp 54), (1, .tmp 58)], _, _, _, _⟩) (v := .agg #[.slice AB nB cB, .slice A2 nB c2]) rfl (by kernel_rfl) (by kernel_rfl) (by kernel_rfl) (fun _ _ _ h => h) (.inl ⟨by rfl, fun w hSw => run_build_op w _ 25 _ rfl [(0, .slice AB nB cB), (1, .slice A2 nB c2)] (by simp only [List.map_toArray, List.map_cons, List.map_nil]; rfl) _ (built_source _ _ _ _ _ _)⟩) (by assumption) ?_
              simp only [Act.put, List.setIfInBounds_toArray, List.set_cons_zero, List.set_cons_succ]
              refine wpAnyH_ready (rs := [8]) (by kernel_rfl) (by simp) ?_
              refine AllReadyH.cons (o := ⟨none, .store 25 (.tmp 7) (.tmp 59), _, _, _, _⟩) rfl (fun K hK => ?_) AllReadyH.nil
              refine st_store (by rfl) 25 (.tmp 7) (.tmp 59) rfl go rfl 25 [.slice none 0 0, .slice none 0 0] [.slice AB nB cB, .slice A2 nB c2] rfl (HG2.out) rfl info_source (by intro v hv; simp at hv; rcases hv with rfl | rfl <;> rfl) ?_
              intro w7 hr7 hg7
              have HE := Lib.hid (own_end (B := w6.heap.size) (HO2.out) (HG2.out) hr7 hg7 (Nat.le_trans HSB.out LG3.out))
              have HB7 := Lib.hid (p := Below w6.heap.size w6 w7) ((HB2.out).grown hg7 (HB2.out).size (fun q hq => by injection hq with hq; have := LG3.out; omega))
              clear hr7 hg7
              refine hK.out _ _ (HR0.out.kept HB7.out) (fun hH7 => ?_)
              clear hK K
              refine wpAnyH_done (by kernel_rfl) ?_ _
              go_wp2_with fail
              go_meet
              case rel => exact ⟨go, rfl, HE, HB7⟩
          case rest =>
            obtain ⟨gk, rfl, HO7, HB7⟩ := hcut
            obtain ⟨w7, hw7⟩ : ∃ w7 : World, w7 = wc := ⟨_, rfl⟩
            rw [← hw7] at HO7 HB7 ⊢
            clear hw7 HSB HR0 HLK
            have HS6 := Lib.hid ((HSO.out.keep HBR6.out).mono HSB6.out)
            have HLB6 := Lib.hid (HLB.out.below HBR6.out)
            go_wp2
            go_loopw [8] (fun x wr => ∃ i : Nat, Hid (i ≤ nB) ∧ x = .int .i64 (i : Int) ∧ Hid (OwnS w6.heap.size wr gk AB nB cB (pre Ks i)) ∧ Hid (Below w6.heap.size w6 wr)) (fun x _ => nB - (intOf x).toNat)
            case atStart => exact ⟨0, Lib.hid (Nat.zero_le _), rfl, Lib.hid (by rw [pre_zero]; exact HO7.out), HB7⟩
            case round =>
              obtain ⟨i, HIL, rfl, HOW, HBW⟩ := hrel
              rename World => wq
              by_cases hi : i < nB
              · have hii : (i : Int) < (nB : Int) := by omega
                obtain ⟨ga, cc, hrow, cga, fga, hBa, hset, hlt, cur, hcur⟩ := HOW.out.at_ hi
                have cg1 : wq.cell? ⟨gk, 1, none⟩ = some (.slice (some ⟨ga, 0, none⟩) nB cc) := (hrow.cell 1).trans rfl
                have cg0 : wq.cell? ⟨ga, 0 + i, none⟩ = some (.bool ((pre Ks i).getD i false)) := by rw [Nat.zero_add]; exact cga
                have fg0 : wq.frozen? ⟨ga, 0 + i, none⟩ = false := by rw [Nat.zero_add]; exact fga
                have hiw : IntKind.i64.wrap ((i : Int) + 1) = (i : Int) + 1 := by rw [IntKind.wrap_i64]; have := HN3.out; omega
                have HSET := Lib.hid hset
                have HBA := Lib.hid hBa
                have HIT := Lib.hid hi
                clear hi hset hBa hrow hcur
                go_wp2
                go_roundw
                case rel =>
                  refine ⟨i + 1, Lib.hid HIT.out, by go_num, Lib.hid ?_, Lib.hid ?_⟩
                  · rw [← pre_set (by rw [HKN.out]; exact HIT.out)]
                    first | exact HSET.out | (rw [Nat.zero_add]; exact HSET.out)
                  · exact HBW.out.setCell HBA.out _
                case measure => have := HIT.out; simp [intOf]; omega
              · have hii : ¬ (i : Int) < (nB : Int) := by omega
                have hie : i = nB := by have := HIL.out; omega
                have HOA := Lib.hid (p := OwnS w6.heap.size wq gk AB nB cB (List.replicate nB true)) (by have z := HOW.out; rw [hie, pre_all HKN.out] at z; exact z)
                have HB5q := Lib.hid (below_nxt' HBW.out HBR6.out HSB6.out)
                have HSA := Lib.hid (HOA.out.src HS6.out HLB6.out HBN.out HBW.out rfl)
                have HDA := Lib.hid ((HDO.out.keep HB5q.out).mono HB5q.out.size)
                have HRR := Lib.hid (rrun_any (c := c) HSA.out HDA.out)
                have HOG := Lib.hid (HO6.out.below HBW.out)
                obtain ⟨Ac, cc, hrow⟩ := HOW.out.row
                have cg1 : wq.cell? ⟨gk, 1, none⟩ = some (.slice Ac nB cc) := (hrow.cell 1).trans rfl
                have lpd := R25.out.lt
                have lgs := R15.out.lt
                have cdq : wq.cell? ⟨pd, 0, none⟩ = some (.slice A ds.length c) := (HB5q.out.cell (p := ⟨pd, 0, none⟩) lpd).trans ((R25.out.cell 0).trans rfl)
                clear hi hrow HOW HIL HSA HDA hie
                go_wp2_with fail
                refine HRR.out.mono ?_
                rintro e w8 (⟨ys, A4, c4, qs, A5, c5, C5, rfl, HTA, HSL, HPU, HCH, hb8⟩ | ⟨s, A4, n4, c4, rfl, hT2, hb8⟩)
                · have HB58 := Lib.hid (below_nxt' hb8.out HB5q.out HB5q.out.size)
                  have HO8 := Lib.hid ((HOG.out.below hb8.out).t)
                  have HE8 := Lib.hid (p := w5.heap.size ≤ w8.heap.size) HB58.out.size
                  clear cg1 cdq HRR HOG HBW HB5q hb8 HOA
                  go_wp2_with (first
                    | (go_at_call 9; refine (vnew go _).mono ?_; rintro e w9 ⟨gv, gm, rfl, hv9, hb9⟩)
                    | (refine step_new rfl 30 rfl (.pointer none) zero_vptr rfl ?_; intro pv w10 hr10 hg10 hb10
                       have lpv : w9.heap.size ≤ pv := Nat.le_of_eq hg10.out.symm
                       have hcX : Chg [pv] w9 (w10.setCell ⟨pv, 0, none⟩ (.pointer (some ⟨gv, 0, none⟩))) := (Chg.of hb10).setCell (p := ⟨pv, 0, none⟩) (.inl (by simp)) _
                       have hpX : ∀ x ∈ [pv], w9.heap.size ≤ x := fun x hx => by rw [List.mem_singleton] at hx; omega
                       have HV11 := Lib.hid (hv9.out.below' hcX hpX)
                       have HB11 := Lib.hid (p := Below w8.heap.size w8 (w10.setCell ⟨pv, 0, none⟩ (.pointer (some ⟨gv, 0, none⟩)))) (hb9.out.trans (hcX.below hb9.out.size (fun x hx => Nat.le_trans hb9.out.size (hpX x hx))))
                       have Rv11 := Lib.hid (hr10.put 0 (.pointer (some ⟨gv, 0, none⟩)))
                       have c10 : w10.cell? ⟨pv, 0, none⟩ = some (.pointer none) := (hr10.cell 0).trans rfl
                       have f10 := hr10.free 0
                       clear hr10 hg10 hb10 hcX hpX))
                  have nlo := hv9.out.lo
                  generalize w10.setCell ⟨pv, 0, none⟩ (.pointer (some ⟨gv, 0, none⟩)) = w11 at HV11 HB11 Rv11 ⊢
                  clear c10 f10
                  go_loopw [14] (fun x wr => ∃ (i n' : Nat) (Ki : List Bool) (C' : Int → Option BV), x = .int .i64 (i : Int) ∧ Hid (i + Ki.count false ≤ nB) ∧ Hid (Row wr pv 30 [.pointer (some ⟨gv, 0, none⟩)]) ∧ Hid (VV w8.heap.size wr gv gm go none n' C') ∧ Hid (n' ≤ 1000) ∧ Hid (OwnT w5.heap.size w8.heap.size wr go AB nB cB Ki) ∧ Hid (KeepN w8 wr) ∧ Hid (Below w5.heap.size w5 wr)) (fun x _ => nB + 1 - (intOf x).toNat)
                  case atStart => exact ⟨0, 0, Ks, _, rfl, Lib.hid (by have := cnt_le Ks; have := HKN.out; omega), Rv11, HV11, Lib.hid (by omega), Lib.hid (HO8.out.keep HB11.out), Lib.hid ((KeepN.refl w8).below HB11.out), Lib.hid (HB58.out.trans (HB11.out.mono HE8.out))⟩
                  case round =>
                    clear HV11 HB11 Rv11
                    obtain ⟨i, n', Ki, C', rfl, HCN, Rv, HV, HN, HO, HK, HB⟩ := hrel
                    rename World => wo2
                    have hii : (i : Int) ≤ (nB : Int) := by have := HCN.out; omega
                    have hiw : IntKind.i64.wrap ((i : Int) + 1) = (i : Int) + 1 := by rw [IntKind.wrap_i64]; have := HCN.out; have := HN3.out; omega
                    have cbo : wo2.cell? ⟨gs, 0, none⟩ = some (.slice AB nB cB) := (HB.out.cell (p := ⟨gs, 0, none⟩) lgs).trans ((R15.out.cell 0).trans rfl)
                    have cv : wo2.cell? ⟨pv, 0, none⟩ = some (.pointer (some ⟨gv, 0, none⟩)) := (Rv.out.cell 0).trans rfl
                    go_wp2_with (first
                      | (refine step_new rfl 22 rfl (.slice none 0 0) zero_sls rfl ?_; intro ps w12 hr12 hg12 hb12
                         have R12 := Lib.hid hr12
                         have HG12 := Lib.hid (p := wo2.heap.size ≤ ps) (Nat.le_of_eq hg12.out.symm)
                         have Rv12 := Lib.hid (Rv.out.kept hb12)
                         have HV12 := Lib.hid (HV.out.below hb12)
                         have HO12 := Lib.hid (HO.out.keep (hb12.mono HK.out.1))
                         have HK12 := Lib.hid (HK.out.below (hb12.mono HK.out.1))
                         have HB12 := Lib.hid (HB.out.trans (hb12.mono HB.out.size))
                         have cv12 : w12.cell? ⟨pv, 0, none⟩ = some (.pointer (some ⟨gv, 0, none⟩)) := (Rv12.out.cell 0).trans rfl
                         clear hr12 hg12 hb12 cv cbo))
                    have HCF := Lib.hid (p := ∀ w, (callFunc 18 #[.pointer (some ⟨pv, 0, none⟩), .pointer (some ⟨pd, 0, none⟩), .pointer (some ⟨ps, 0, none⟩)]).run Try.prog w = .ok (.enter 18 #[.pointer (some ⟨pv, 0, none⟩), .pointer (some ⟨pd, 0, none⟩), .pointer (some ⟨ps, 0, none⟩)]) w) (fun w => by simp [go_sem])
                    have hpm : ps ≠ gm := fun e => HV12.out.map.no_cells _ _ _ (e ▸ R12.out.heap)
                    have hpg : ps ≠ gv := R12.out.ne_ HV12.out.row (by decide)
                    have lps := R12.out.lt
                    have hG : ∀ x ∈ [gm, ps], x ≠ gv ∧ x < w12.heap.size := fun x hx => by
                      simp at hx
                      rcases hx with rfl | rfl
                      · exact ⟨HV12.out.ne.symm, HV12.out.map.lt⟩
                      · exact ⟨hpg, lps⟩
                    have hbs : ∀ x ∈ [gv, gm], w8.heap.size ≤ x := fun x hx => by simp at hx; rcases hx with rfl | rfl <;> omega
                    have hbs4 : ∀ x ∈ [gv, gm, gm, ps], w8.heap.size ≤ x := fun x hx => by
                      have h1 := HG12.out
                      have h2 := HK.out.1
                      simp at hx
                      rcases hx with rfl | rfl | rfl <;> omega
                    refine (vrun 18 #[.pointer (some ⟨pv, 0, none⟩), .pointer (some ⟨pd, 0, none⟩), .pointer (some ⟨ps, 0, none⟩)] [gm, ps] _ _ HV12.out hG HCF.out (fun r w1 hv hr hc hrb => by
                      have hb1 : Below w8.heap.size w12 w1 := hc.below HK12.out.1 hbs
                      have hB1 : Below w5.heap.size w5 w1 := HB12.out.trans (hb1.mono HE8.out)
                      exact again1 (c := c) (x0 := .slice none 0 0) hv (by have := HK12.out.1; have := hc.size; omega) (by have := HK12.out.1; omega) hr (((Rv12.out.run0 HV12.out (by decide) hc).cell 0).trans rfl) ((hB1.cell (p := ⟨pd, 0, none⟩) lpd).trans ((R25.out.cell 0).trans rfl)) (R12.out.run0 HV12.out (by decide) hc) ((HO12.out.keep hb1).src HSO.out HLB.out HBN.out hB1 rfl HE8.out) ((HDO.out.keep hB1).mono HE8.out))).mono ?_
                    intro e w13 h13
                    have hc13 : Chg [gv, gm, gm, ps] w12 w13 := by
                      rcases h13 with ⟨_, _, _, _, _, _, _, _, _, _, _, _, h⟩ | ⟨_, _, _, _, _, h⟩ <;> exact h
                    have hb13 : Below w8.heap.size w12 w13 := hc13.below HK12.out.1 hbs4
                    have Rv13 := Lib.hid (Rv12.out.run_ HV12.out (by decide) (Rv12.out.ne_ R12.out (by decide)) hc13)
                    have HO13 := Lib.hid (HO12.out.keep hb13)
                    have HK13 := Lib.hid (HK12.out.below hb13)
                    have HB13 := Lib.hid (HB12.out.trans (hb13.mono HE8.out))
                    have cv13 : w13.cell? ⟨pv, 0, none⟩ = some (.pointer (some ⟨gv, 0, none⟩)) := (Rv13.out.cell 0).trans rfl
                    clear cv12 hG hbs hbs4 hb13
                    rcases h13 with ⟨rfl, n2', C2, w1, w2, F, hv13, hn13, ⟨xs, A3, c3, hT, cps, hown, h8⟩, hF, hFF, hsz, _⟩ | ⟨a, w2, rfl, hv13, hT, _⟩
                    · have HV13 := Lib.hid hv13
                      have HN13 := Lib.hid hn13
                      have HTT := Lib.hid (HTA.out.symm.trans (runP_mono (byL_mono (src_all_mono HO13.out.1.len)) hT))
                      have hni : ∀ k, w1.heap.size ≤ k → k ∉ F := fun k hk hf => by
                        have := HV12.out.row.lt
                        rcases hFF k hf with h | h <;> omega
                      have HOW := Lib.hid (Chg.own hown hF (fun k hk hf => hni k (hown.lt k hk).1 hf))
                      have H8 := Lib.hid (p := ∀ x ∈ xs, Own8 w1.heap.size w13 x) (fun x hx => Chg.own (h8 x hx) hF (fun k hk hf => hni k ((h8 x hx).lt k hk).1 hf))
                      have cps13 : w13.cell? ⟨ps, 0, none⟩ = some (.slice A3 xs.length c3) := hF.cell cps (fun hx => by rcases hFF ps hx with h | h; exact hpg h; omega)
                      clear hv13 hn13 hF hFF hsz cps hown h8 hT hni
                      have hte := HTT.out
                      simp only [Sum.inl.injEq, Prod.mk.injEq] at hte
                      have HT1 := Lib.hid hte.1
                      have HT2 := Lib.hid hte.2
                      have HSX := Lib.hid (sls_of HOW.out H8.out HT1.out.symm HSL.out.len HSL.out.lim)
                      have HSY := Lib.hid (HSL.out.keepN HK13.out)
                      have HPY := Lib.hid (HPU.out.keepN HK13.out)
                      clear hte
                      have MK := trivial
                      go_wp2_with (first
                        | (go_at_call 17; refine (lists_same A3 A4 c3 c4 xs ys _ HSX.out HSY.out HT1.out.symm HSX.out.lim).mono ?_; rintro e w14 ⟨rfl, hb14⟩
                           have HV14 := Lib.hid (HV13.out.below hb14)
                           have HB14 := Lib.hid (HB13.out.trans (hb14.mono HB13.out.size))
                           have HPY14 := Lib.hid (HPY.out.below hb14)
                           have cv14 : w14.cell? ⟨pv, 0, none⟩ = some (.pointer (some ⟨gv, 0, none⟩)) := ((Rv13.out.kept hb14).cell 0).trans rfl
                           clear hb14 cv13 cps13)
                        | (go_at_call 16; refine (vchanges HV14.out HN13.out).mono ?_; rintro e w15 ⟨q2, A6, c6, rfl, hco, hpa, hb15⟩
                           have HB15 := Lib.hid (HB14.out.trans (hb15.out.mono HB14.out.size))
                           have HEQ := Lib.hid (p := chL q2 = chL qs) (ChOf.one hco.out (by rw [← HT2.out]; exact HCH.out)))
                        | (go_at_call 15; refine (puts_same A6 A5 c6 c5 q2 qs _ hpa.out (HPY14.out.below hb15.out) HEQ.out hpa.out.lim).mono ?_; rintro e w16 ⟨rfl, hb16⟩
                           have HB16 := Lib.hid (HB15.out.trans (hb16.mono HB15.out.size))
                           clear hb16 cv14))
                      go_ret
                      exact ⟨rfl, below_nxt HB16.out HB5.out⟩
                    · have HV13 := Lib.hid hv13
                      obtain ⟨h1, q, hq, hqa⟩ := runP_inr (show runP (byL (srcF Bs Ki)) ds (byL fun _ => none) [] = .inr a from hT)
                      have hra := HIR.out q hq
                      rw [hqa] at hra
                      obtain ⟨j, rfl⟩ := Int.eq_ofNat_of_zero_le hra.1
                      have hj : j < nB := by omega
                      have hkj := src_off HBN.out HO13.out.1.len hj (byL_none h1)
                      obtain ⟨ga, cc2, hrow, cga, fga, hBa, hset, hlt, cur, hcur⟩ := HO13.out.1.at_ hj
                      rw [show Ki.getD j false = false by rw [List.getD_eq_getElem?_getD, hkj]; rfl] at cga
                      have cg1 : w13.cell? ⟨go, 1, none⟩ = some (.slice (some ⟨ga, 0, none⟩) nB cc2) := (hrow.cell 1).trans rfl
                      have cg0 : w13.cell? ⟨ga, 0 + j, none⟩ = some (.bool false) := by rw [Nat.zero_add]; exact cga
                      have fg0 : w13.frozen? ⟨ga, 0 + j, none⟩ = false := by rw [Nat.zero_add]; exact fga
                      have hga : ga < w8.heap.size := HO13.out.2.2 _ _ cg1 ga rfl
                      have j1 : (j : Int) < (nB : Int) := by omega
                      have j2 : ¬ (nB : Int) ≤ (j : Int) := by omega
                      have j2' : decide ((nB : Int) ≤ (j : Int)) = false := decide_eq_false j2
                      have j3 : ¬ (j : Int) < 0 := by omega
                      have j3' : decide ((j : Int) < 0) = false := decide_eq_false j3
                      have HSET := Lib.hid hset
                      have HBA := Lib.hid hBa
                      have HGA := Lib.hid hga
                      have HCUR := Lib.hid hcur
                      have HCGA := Lib.hid cga
                      have HKJ := Lib.hid hkj
                      clear hv13 hT h1 hq hqa hra hj hkj hset hBa hga hcur hrow
                      go_wp2
                      go_roundw
                      case rel =>
                        have hF : Chg [ga] w13 (w13.setCell ⟨ga, j, none⟩ (.bool true)) := (Chg.refl [ga] w13).setCell (p := ⟨ga, j, none⟩) (.inl (by simp)) _
                        have hN : NoBytes w13 [ga] := fun k hk cs fr => by rw [List.mem_singleton] at hk; subst hk; exact row_noB HCUR.out (by decide) _ _
                        have hcnt := cnt_set HKJ.out
                        have hga := HGA.out
                        try simp only [Nat.zero_add]
                        refine ⟨i + 1, 0, Ki.set j true, fun _ => none, by go_num, Lib.hid (by have := HCN.out; omega), Lib.hid ?_, Lib.hid ?_, Lib.hid (by omega), Lib.hid ?_, Lib.hid ?_, Lib.hid ?_⟩
                        · exact Rv13.out.far (p := ⟨ga, j, none⟩) (Rv13.out.ne_ HCUR.out (by decide)) _
                        · exact HV13.out.keepN hF (by simp; omega) (by simp; omega) hN
                        · exact HO13.out.put HCUR.out HSET.out
                        · exact HK13.out.put HCUR.out HCGA.out _
                        · exact HB13.out.setCell HBA.out _
                      case measure => have := HCN.out; simp [intOf]; omega
                · exact absurd hT2.out (run_all HBN.out HIR.out _)
end Go.Proofs.Ytpobppoaidngeaa
