/- slices.Insert of one entry into a list of the call's own. Conditions: no more than 100000 entries. -/
import Derived.Test.YtijffkklhgnknaaDoorTk
import Derived.Lib.JoinLaws
set_option linter.unusedVariables false
set_option maxRecDepth 20000
namespace Go.Proofs.YtijffkklhgnknaaDoor
open Go.RowKit
def InsP (base : Nat) (w : World) (m : Nat) (L : List Ent) (e : Ending) (w' : World) : Prop :=
  ∃ A c, e = .returned (.slice A (m + 1) c) ∧ w'.ownsRow base 42 5 (.slice A (m + 1) c) (m + 1) (L.flatMap ecs) ∧ Below base w w'
set_option maxHeartbeats 4000000 in
theorem insert_end (A : Option Addr) (m c : Nat) (X : List Ent) (x : Ent) (g8 base : Nat) (w : World) (hX : X.length = m) (hown : w.ownsRow base 42 5 (.slice A m c) m (X.flatMap ecs)) (h8 : Row w g8 42 (ecs x)) (hm : m ≤ 100000) (hb : base ≤ w.heap.size) :
    Calls Tryd.prog 38 #[.slice A m c, .int .i64 (m : Int), .slice (some ⟨g8, 0, none⟩) 1 1] w (InsP base w m (X ++ [x])) := by
  obtain ⟨B, d, hrun, _, _⟩ := cut_ent A c m m (Nat.le_refl _) (own_cap hown)
  have HO := Lib.hid hown
  have H8 := Lib.hid h8
  have HM := Lib.hid hm
  have HB := Lib.hid hb
  obtain ⟨q, hq⟩ : ∃ q, m - m = q := ⟨_, rfl⟩
  rw [hq] at hrun
  clear hown h8 hm hb hq hX
  go_enter Tryd.func38, Tryd.ntmps38
  go_wp2_with (at_builtin
               refine wp_join rfl _ _ rfl rec_ent base (.slice A m c) m (X.flatMap ecs) rfl HO.out (some ⟨g8, 0, none⟩) 1 1 (ecs x) rfl rfl (.inr ⟨_, rfl, fun j u hu => by rw [Addr.add_lit]; exact H8.out.all j u hu⟩) (ecs_one x) (by have := HM.out; omega) HB.out ?_
               intro v1 w1 ho1 hg1 hat1
               have HO1 := Lib.hid ho1
               obtain ⟨A1, c1, rfl⟩ := own_sl ho1
               have HB1 := Lib.hid (p := Below base w w1) ((Below.refl _ _).grown hg1 HB.out (fun z hz => (HO.out.lt z hz).1))
               clear ho1 hg1 hat1)
  go_ret
  exact ⟨A1, c1, rfl, by rw [flat_snoc]; exact HO1.out, HB1.out⟩
set_option maxHeartbeats 8000000 in
theorem insert_mid (g m c i r cap : Nat) (LA LD LR : List Value) (X : List Ent) (x : Ent) (g8 base : Nat) (w : World) (hX : X.length = m) (hrow : Row w g 42 (LA ++ (LD ++ LR))) (hla : LA = (X.take i).flatMap ecs) (hld : LD = (X.drop i).flatMap ecs) (hlr : LR.length = (c - m) * 5) (hmc : m ≤ c) (hcm : c ≤ maxLen) (hlo : base ≤ g) (h8 : Row w g8 42 (ecs x)) (h8g : g8 ≠ g) (hi : i + r = m) (hr0 : 0 < r) (hm : m ≤ 100000) :
    Calls Tryd.prog 38 #[.slice (some ⟨g, 0, none⟩) m c, .int .i64 (i : Int), .slice (some ⟨g8, 0, none⟩) 1 1] w (InsP base w m (X.take i ++ x :: X.drop i)) := by
  have hin : ¬ ((i : Int) = (m : Int)) := by omega
  have hinb : ((i : Int) == (m : Int)) = false := by rw [beq_eq_false_iff_ne]; exact hin
  obtain ⟨m1, hm1⟩ : ∃ q, m + 1 = q := ⟨_, rfl⟩
  obtain ⟨i1, hi1⟩ : ∃ q, i + 1 = q := ⟨_, rfl⟩
  obtain ⟨r1, hr1⟩ : ∃ q, r + 1 = q := ⟨_, rfl⟩
  have wm : IntKind.i64.wrap ((m : Int) + 1) = (m1 : Int) := by rw [IntKind.wrap_i64]; omega
  have wi : IntKind.i64.wrap ((i : Int) + 1) = (i1 : Int) := by rw [IntKind.wrap_i64]; omega
  have wk : IntKind.i64.wrap ((m1 : Int) - (i : Int)) = (r1 : Int) := by rw [IntKind.wrap_i64]; omega
  have hk0 : g < w.heap.size := hrow.lt
  have HSZ := Lib.hid hk0
  have HLEN := Lib.hid (p := LA.length = i * 5 ∧ LD.length = r * 5 ∧ LR.length = (c - m) * 5) ⟨by rw [hla, flat_len ecs_len, List.length_take]; omega, by rw [hld, flat_len ecs_len, List.length_drop]; omega, hlr⟩
  have HONE := Lib.hid (p := (∀ v ∈ LA, v.oneCell' = true) ∧ (∀ v ∈ LD, v.oneCell' = true)) ⟨by rw [hla]; exact flat_one ecs_one _, by rw [hld]; exact flat_one ecs_one _⟩
  have HFL := Lib.hid (p := LA ++ (ecs x ++ LD) = (X.take i ++ x :: X.drop i).flatMap ecs) (by rw [hla, hld, List.flatMap_append, List.flatMap_cons])
  have HSRC := Lib.hid (p := ∀ j v, LD[j]? = some v → w.drew.cell? ((⟨g, i * 5, none⟩ : Addr).add j) = some v) (fun j v hj => by
    rw [Addr.add_lit]
    have h0 := (hrow.kept (below_drw w)).all (i * 5 + j) v
    rw [Nat.zero_add] at h0
    refine h0 ?_
    have h1 := HLEN.out.1
    rw [List.getElem?_append_right (by omega), h1, Nat.add_sub_cancel_left, List.getElem?_append_left (List.getElem?_eq_some_iff.1 hj).1]
    exact hj)
  have HLO := Lib.hid hlo
  have H8 := Lib.hid (h8.kept (below_drw w))
  have HN8 := Lib.hid (p := some g8 ≠ some g) (fun e => by injection e with e; exact h8g e)
  have HR := Lib.hid hrow
  obtain ⟨cc0, hcc0⟩ : ∃ q, c - i = q := ⟨_, rfl⟩
  have h0run := cut_head g c m i r cc0 (by omega) (by omega) (by omega) hcc0
  by_cases hroom : m1 ≤ c
  · have hrm : ¬ (c : Int) < (m1 : Int) := by omega
    obtain ⟨cc1, hcc1⟩ : ∃ q, c - i1 = q := ⟨_, rfl⟩
    have HC0 := Lib.hid (cut_head g c m1 i r1 cc0 (by omega) (by omega) (by omega) hcc0)
    have HC1 := Lib.hid (cut_head g c m1 i1 r cc1 (by omega) (by omega) (by omega) hcc1)
    have HF := front_ent (some ⟨g, 0, none⟩) c m m1 hroom
    have HRd := Lib.hid (p := Row w.drew g 42 (LA ++ (LD ++ LR))) (hrow.kept (below_drw w))
    have HNM := Lib.hid (p := r + 1 = r1 ∧ i + 1 = i1 ∧ m + 1 = m1 ∧ i + r = m ∧ 0 < r ∧ m1 ≤ c) ⟨hr1, hi1, hm1, hi, hr0, hroom⟩
    have hov : ∀ W : World, Below w.heap.size w W → (callFunc 57 #[.slice (some ⟨g8, 0, none⟩) 1 1, .slice (some ⟨g, i1 * 5, none⟩) r cc1]).run Tryd.prog W = .ok (.value (.bool false)) W := fun W hb => by
      have s8 : W.shape? g8 = some (42, 5) := by unfold World.shape?; rw [(h8.kept hb).heap]; rfl
      have sg : W.shape? g = some (42, (LA ++ (LD ++ LR)).toArray.size) := by unfold World.shape?; rw [(hrow.kept hb).heap]
      rw [run_callFunc_extern Tryd.func57 (by kernel_rfl) (by kernel_rfl) (by kernel_rfl) (e := Extern.SlicesOverlaps.overlaps #[22, 22] #[4]) (by kernel_rfl),
        Lib.run_overlaps_apart W 22 4 42 Tryd.underlying22 5 (size_of (info_ent x)) ⟨g8, 0, none⟩ ⟨g, i1 * 5, none⟩ 1 1 r cc1 h8g _ _ _ _ s8 sg (by have := HLEN.out; rw [List.size_toArray, List.length_append, List.length_append]; omega) (by unfold World.frozen?; rw [(h8.kept hb).heap]; rfl) (by unfold World.frozen?; rw [(h8.kept hb).heap]; rfl)]
      rfl
    have HBB := Lib.hid (below_drw w)
    have hova := hov w (Below.refl _ _)
    have HFIN := Lib.hid (p := ∀ w' : World, Row w' g 42 (splice (splice (LA ++ (LD ++ LR)) (i1 * 5) LD) (i * 5) (ecs x)) → Below base w w' → InsP base w m (X.take i ++ x :: X.drop i) (.returned (.slice (some ⟨g, 0, none⟩) m1 c)) w') (fun w' hr hb => by
      subst hm1
      have e1 : (splice (splice (LA ++ (LD ++ LR)) (i1 * 5) LD) (i * 5) (ecs x)).length = c * 5 := by
        have h1 := HLEN.out
        have h2 := HNM.out
        rw [splice_len (by rw [splice_len (by rw [List.length_append, List.length_append]; omega), List.length_append, List.length_append, ecs_len]; omega), splice_len (by rw [List.length_append, List.length_append]; omega), List.length_append, List.length_append]
        omega
      have e2 : (splice (splice (LA ++ (LD ++ LR)) (i1 * 5) LD) (i * 5) (ecs x)).take ((m + 1) * 5) = LA ++ (ecs x ++ LD) := by
        have h1 := HLEN.out
        have h2 := splice_in (a := LA) (e := ecs x) (d := LD) (r := LR) h1.1 (ecs_len x) h1.2.1 (by have := HNM.out; omega)
        rw [show i1 * 5 = i * 5 + 5 by omega, show (m + 1) * 5 = i * 5 + 5 + r * 5 by omega]
        exact h2
      exact ⟨_, _, rfl, ⟨by rw [← HFL.out, List.length_append, List.length_append, ecs_len]; have := HLEN.out; omega, .inr ⟨g, c, _, rfl, HLO.out, hr.heap, hroom, hcm, by rw [List.size_toArray, e1], by rw [← HFL.out, ← e2]⟩⟩, hb⟩)
    clear hrow h8 h8g hi hr0 hm hX hla hld hlr hmc hcm hlo hin hm1 hi1 hr1 hk0 hcc0 hcc1 hroom hov
    go_enter Tryd.func38, Tryd.ntmps38
    have HC1' := HC1.out
    have HC0' := HC0.out
    go_upto_region 15 with (simp only [hova])
    refine wp_region_held_drew (S := fun _ => True) (by kernel_rfl) trivial (fun hHeld => ?_)
    refine wpAnyH_take (i := 0) (oi := ⟨some 69, .move (.tmp 0), _, _, _, _⟩) (v := .slice (some ⟨g, 0, none⟩) m1 c) rfl (by kernel_rfl) (by kernel_rfl) (by kernel_rfl) (fun _ _ _ h => h) (.inl ⟨by rfl, fun w hSw => by go_simp⟩) (by assumption) ?_
    simp only [Act.put, List.setIfInBounds_toArray, List.set_cons_zero, List.set_cons_succ]
    refine wpAnyH_take (i := 1) (oi := ⟨some 70, .move (.tmp 1), _, _, _, _⟩) (v := .int .i64 (i : Int)) rfl (by kernel_rfl) (by kernel_rfl) (by kernel_rfl) (fun _ _ _ h => h) (.inl ⟨by rfl, fun w hSw => by go_simp⟩) (by assumption) ?_
    simp only [Act.put, List.setIfInBounds_toArray, List.set_cons_zero, List.set_cons_succ]
    refine wpAnyH_take (i := 2) (oi := ⟨some 71, .move (.tmp 7), _, _, _, _⟩) (v := .int .i64 1) rfl (by kernel_rfl) (by kernel_rfl) (by kernel_rfl) (fun _ _ _ h => h) (.inl ⟨by rfl, fun w hSw => by go_simp⟩) (by assumption) ?_
    simp only [Act.put, List.setIfInBounds_toArray, List.set_cons_zero, List.set_cons_succ]
    refine wpAnyH_take (i := 3) (oi := ⟨some 72, .binOp .add 3 (.tmp 70) (.tmp 71) 3, _, _, _, _⟩) (v := .int .i64 (i1 : Int)) rfl (by kernel_rfl) (by kernel_rfl) (by kernel_rfl) (fun _ _ _ h => h) (.inl ⟨by rfl, fun w hSw => by go_simp⟩) (by assumption) ?_
    simp only [Act.put, List.setIfInBounds_toArray, List.set_cons_zero, List.set_cons_succ]
    refine wpAnyH_take (i := 4) (oi := ⟨some 73, .slice 22 (.tmp 69) (some (.tmp 72)) none none, _, _, _, _⟩) (v := .slice (some ⟨g, i1 * 5, none⟩) r cc1) rfl (by kernel_rfl) (by kernel_rfl) (by kernel_rfl) (fun _ _ _ h => h) (.inl ⟨by rfl, fun w hSw => by have z := HC1.out w; go_simp⟩) (by assumption) ?_
    simp only [Act.put, List.setIfInBounds_toArray, List.set_cons_zero, List.set_cons_succ]
    refine wpAnyH_take (i := 5) (oi := ⟨some 74, .move (.tmp 0), _, _, _, _⟩) (v := .slice (some ⟨g, 0, none⟩) m1 c) rfl (by kernel_rfl) (by kernel_rfl) (by kernel_rfl) (fun _ _ _ h => h) (.inl ⟨by rfl, fun w hSw => by go_simp⟩) (by assumption) ?_
    simp only [Act.put, List.setIfInBounds_toArray, List.set_cons_zero, List.set_cons_succ]
    refine wpAnyH_take (i := 6) (oi := ⟨some 75, .move (.tmp 1), _, _, _, _⟩) (v := .int .i64 (i : Int)) rfl (by kernel_rfl) (by kernel_rfl) (by kernel_rfl) (fun _ _ _ h => h) (.inl ⟨by rfl, fun w hSw => by go_simp⟩) (by assumption) ?_
    simp only [Act.put, List.setIfInBounds_toArray, List.set_cons_zero, List.set_cons_succ]
    refine wpAnyH_take (i := 7) (oi := ⟨some 76, .slice 22 (.tmp 74) (some (.tmp 75)) none none, _, _, _, _⟩) (v := .slice (some ⟨g, i * 5, none⟩) r1 cc0) rfl (by kernel_rfl) (by kernel_rfl) (by kernel_rfl) (fun _ _ _ h => h) (.inl ⟨by rfl, fun w hSw => by have z := HC0.out w; go_simp⟩) (by assumption) ?_
    simp only [Act.put, List.setIfInBounds_toArray, List.set_cons_zero, List.set_cons_succ]
    refine wpAnyH_ready (rs := [8]) (by kernel_rfl) (by simp) ?_
    refine AllReadyH.cons (o := ⟨some 77, .call ⟨.builtin .copy, #[.tmp 73, .tmp 76], #[22, 22]⟩, _, _, _, _⟩) rfl (fun K hK => ?_) AllReadyH.nil
    refine st_copyk (by rfl) (.tmp 73) (.tmp 76) 22 22 rfl 42 5 r Tryd.underlying22 (info_ent x) g (i1 * 5) r cc1 ⟨g, i * 5, none⟩ r1 cc0 rfl rfl 42 (LA ++ (LD ++ LR)) LD HRd.out (by have := HNM.out; show r = min r1 r; omega) (by have := HLEN.out; omega) HSRC.out (by have h1 := HLEN.out; have h2 := HNM.out; rw [List.length_append, List.length_append]; omega) HONE.out.2 ?_
    intro w1 hr1 hg1
    have HR1 := Lib.hid hr1
    have HG1 := Lib.hid hg1
    clear hr1 hg1
    refine hK.out _ _ trivial (fun _hs => ?_)
    clear hK K
    refine wpAnyH_done (by kernel_rfl) ?_ _
    go_wp2_with (refine wp_copyk rfl (.tmp 80) (.tmp 81) 22 22 rfl 42 5 1 Tryd.underlying22 (info_ent x) g (i * 5) r1 cc0 ⟨g8, 0, none⟩ 1 1 rfl rfl 42 _ (ecs x) HR1.out (by have := HNM.out; show 1 = min 1 r1; omega) rfl (fun j v hj => by rw [Addr.add_lit]; exact (H8.out.grown HG1.out HN8.out).all j v hj) (by have h1 := HLEN.out; have h2 := HNM.out; rw [splice_len (by rw [List.length_append, List.length_append]; omega), List.length_append, List.length_append, ecs_len]; omega) (ecs_one x) ?_
                 intro w2 hr2 hg2
                 have HR2 := Lib.hid hr2
                 have HG2 := Lib.hid hg2
                 clear hr2 hg2)
    go_ret
    exact HFIN.out _ HR2.out (Below.grown (Below.grown (HBB.out.mono (by have := HLO.out; have := HSZ.out; omega)) HG1.out (by have := HBB.out.size; have := HLO.out; have := HSZ.out; omega) (fun k hk => by injection hk with hk; subst hk; exact HLO.out)) HG2.out (by have := HBB.out.size; have := HG1.out.size; have := HLO.out; have := HSZ.out; omega) (fun k hk => by injection hk with hk; subst hk; exact HLO.out))
  · have hrm : (c : Int) < (m1 : Int) := by omega
    obtain ⟨G, w1, rr, hz, hG1, hG2, hzr, hrl, hzb⟩ := run_zeros w (some ⟨g, 0, none⟩) i r1 c (X.take i) (by rw [List.length_take]; omega) (.inr ⟨g, 0, rfl, fun j e hj u y hy => by
      have h0 := hrow.all (j * 5 + u) y
      have e0 : 0 + j * 5 + u = 0 + (j * 5 + u) := by omega
      rw [e0]
      refine h0 ?_
      have h2 : ((X.take i).flatMap ecs)[j * 5 + u]? = some y := (flat_get ecs_len hj u (List.getElem?_eq_some_iff.1 hy).1).trans hy
      rw [hla, List.getElem?_append_left (List.getElem?_eq_some_iff.1 h2).1]
      exact h2⟩) (by omega) (by omega) (by omega) 22
    have e9 : i + r1 = m1 := by omega
    rw [e9] at hz hG1
    rw [← hla] at hzr
    obtain ⟨gn, hgn⟩ : ∃ q, w.heap.size = q := ⟨_, rfl⟩
    rw [hgn] at hz hzr
    obtain ⟨cG0, hcG0⟩ : ∃ q, G - i = q := ⟨_, rfl⟩
    obtain ⟨cG1, hcG1⟩ : ∃ q, G - i1 = q := ⟨_, rfl⟩
    have HGN := Lib.hid hgn
    have HG1R := Lib.hid (cut_head gn G m1 i1 r cG1 (by omega) (by omega) (by omega) hcG1)
    have hg0r := cut_head gn G m1 i r1 cG0 (by omega) (by omega) (by omega) hcG0
    have HG0S := Lib.hid h0run
    have HF := front_ent (some ⟨g, 0, none⟩) c m i (by omega)
    have HNM := Lib.hid (p := r + 1 = r1 ∧ i + 1 = i1 ∧ m + 1 = m1 ∧ i + r = m ∧ 0 < r ∧ m1 ≤ G ∧ rr.length = (G - i) * 5) ⟨hr1, hi1, hm1, hi, hr0, hG1, hrl⟩
    have HR1 := Lib.hid hzr
    have HB1 := Lib.hid hzb
    have H81 := Lib.hid (h8.kept hzb)
    have HSRC2 := Lib.hid (p := ∀ W, Below w.heap.size w W → ∀ j v, LD[j]? = some v → W.cell? ((⟨g, i * 5, none⟩ : Addr).add j) = some v) (fun W hb j v hj => by
      rw [Addr.add_lit]
      have h0 := (hrow.kept hb).all (i * 5 + j) v
      rw [Nat.zero_add] at h0
      refine h0 ?_
      have h1 := HLEN.out.1
      rw [List.getElem?_append_right (by omega), h1, Nat.add_sub_cancel_left, List.getElem?_append_left (List.getElem?_eq_some_iff.1 hj).1]
      exact hj)
    have HFIN := Lib.hid (p := ∀ w' : World, Row w' gn 42 (splice (splice (LA ++ rr) (i * 5) (ecs x)) (i1 * 5) LD) → Below w.heap.size w w' → InsP base w m (X.take i ++ x :: X.drop i) (.returned (.slice (some ⟨gn, 0, none⟩) m1 G)) w') (fun w' hr hb => by
      subst hm1
      have h1 := HLEN.out
      have h2 := HNM.out
      have e1 : (splice (splice (LA ++ rr) (i * 5) (ecs x)) (i1 * 5) LD).length = G * 5 := by
        rw [splice_len (by rw [splice_len (by rw [List.length_append, ecs_len]; omega), List.length_append]; omega), splice_len (by rw [List.length_append, ecs_len]; omega), List.length_append]
        omega
      have e2 : (splice (splice (LA ++ rr) (i * 5) (ecs x)) (i1 * 5) LD).take ((m + 1) * 5) = LA ++ (ecs x ++ LD) := by
        have h3 := splice_new (a := LA) (e := ecs x) (d := LD) (r := rr) h1.1 (ecs_len x) h1.2.1 (by omega)
        rw [show i1 * 5 = i * 5 + 5 by omega, show (m + 1) * 5 = i * 5 + 5 + r * 5 by omega]
        exact h3
      have hbs : base ≤ w.heap.size := by have := HLO.out; have := HSZ.out; omega
      exact ⟨_, _, rfl, ⟨by rw [← HFL.out, List.length_append, List.length_append, ecs_len]; omega, .inr ⟨gn, G, _, rfl, by rw [← HGN.out]; exact hbs, hr.heap, hG1, hG2, by rw [List.size_toArray, e1], by rw [← HFL.out, ← e2]⟩⟩, hb.mono hbs⟩)
    have HNG := Lib.hid (p := some g8 ≠ some gn) (fun e => by injection e with e; have := h8.lt; omega)
    clear hrow h8 h8g hi hr0 hm hX hla hld hlr hmc hcm hlo hin hm1 hi1 hr1 hk0 hcc0 hroom hG1 hG2 hzr hrl hzb e9 hcG0 hcG1 hgn
    go_enter Tryd.func38, Tryd.ntmps38
    go_upto_region 11 with (first
      | (refine Lib.wpList_append_run _ rfl _ _ _ _ rfl _ _ rfl rfl _ _ hz ?_)
      | (refine wp_copyk rfl (.tmp 43) (.tmp 44) 22 22 rfl 42 5 1 Tryd.underlying22 (info_ent x) gn (i * 5) r1 cG0 ⟨g8, 0, none⟩ 1 1 rfl rfl 42 _ (ecs x) HR1.out (by have := HNM.out; show 1 = min 1 r1; omega) rfl (fun j v hj => by rw [Addr.add_lit]; exact H81.out.all j v hj) (by have h1 := HLEN.out; have h2 := HNM.out; rw [List.length_append, ecs_len]; omega) (ecs_one x) ?_
         intro w2 hr2 hg2
         have HR2 := Lib.hid hr2
         have HB2 := Lib.hid (HB1.out.grown hg2 HB1.out.size (fun k hk => by injection hk with hk; subst hk; exact Nat.le_of_eq HGN.out))
         clear hr2 hg2))
    refine wp_region_held_drew (S := fun _ => True) (by kernel_rfl) trivial (fun hHeld => ?_)
    refine wpAnyH_take (i := 0) (oi := ⟨some 46, .move (.tmp 9), _, _, _, _⟩) (v := .slice (some ⟨gn, 0, none⟩) m1 G) rfl (by kernel_rfl) (by kernel_rfl) (by kernel_rfl) (fun _ _ _ h => h) (.inl ⟨by rfl, fun w hSw => by go_simp⟩) (by assumption) ?_
    simp only [Act.put, List.setIfInBounds_toArray, List.set_cons_zero, List.set_cons_succ]
    refine wpAnyH_take (i := 1) (oi := ⟨some 47, .move (.tmp 1), _, _, _, _⟩) (v := .int .i64 (i : Int)) rfl (by kernel_rfl) (by kernel_rfl) (by kernel_rfl) (fun _ _ _ h => h) (.inl ⟨by rfl, fun w hSw => by go_simp⟩) (by assumption) ?_
    simp only [Act.put, List.setIfInBounds_toArray, List.set_cons_zero, List.set_cons_succ]
    refine wpAnyH_take (i := 2) (oi := ⟨some 48, .move (.tmp 7), _, _, _, _⟩) (v := .int .i64 1) rfl (by kernel_rfl) (by kernel_rfl) (by kernel_rfl) (fun _ _ _ h => h) (.inl ⟨by rfl, fun w hSw => by go_simp⟩) (by assumption) ?_
    simp only [Act.put, List.setIfInBounds_toArray, List.set_cons_zero, List.set_cons_succ]
    refine wpAnyH_take (i := 3) (oi := ⟨some 49, .binOp .add 3 (.tmp 47) (.tmp 48) 3, _, _, _, _⟩) (v := .int .i64 (i1 : Int)) rfl (by kernel_rfl) (by kernel_rfl) (by kernel_rfl) (fun _ _ _ h => h) (.inl ⟨by rfl, fun w hSw => by go_simp⟩) (by assumption) ?_
    simp only [Act.put, List.setIfInBounds_toArray, List.set_cons_zero, List.set_cons_succ]
    refine wpAnyH_take (i := 4) (oi := ⟨some 50, .slice 22 (.tmp 46) (some (.tmp 49)) none none, _, _, _, _⟩) (v := .slice (some ⟨gn, i1 * 5, none⟩) r cG1) rfl (by kernel_rfl) (by kernel_rfl) (by kernel_rfl) (fun _ _ _ h => h) (.inl ⟨by rfl, fun w hSw => by have z := HG1R.out w; go_simp⟩) (by assumption) ?_
    simp only [Act.put, List.setIfInBounds_toArray, List.set_cons_zero, List.set_cons_succ]
    refine wpAnyH_take (i := 5) (oi := ⟨some 51, .move (.tmp 0), _, _, _, _⟩) (v := .slice (some ⟨g, 0, none⟩) m c) rfl (by kernel_rfl) (by kernel_rfl) (by kernel_rfl) (fun _ _ _ h => h) (.inl ⟨by rfl, fun w hSw => by go_simp⟩) (by assumption) ?_
    simp only [Act.put, List.setIfInBounds_toArray, List.set_cons_zero, List.set_cons_succ]
    refine wpAnyH_take (i := 6) (oi := ⟨some 52, .move (.tmp 1), _, _, _, _⟩) (v := .int .i64 (i : Int)) rfl (by kernel_rfl) (by kernel_rfl) (by kernel_rfl) (fun _ _ _ h => h) (.inl ⟨by rfl, fun w hSw => by go_simp⟩) (by assumption) ?_
    simp only [Act.put, List.setIfInBounds_toArray, List.set_cons_zero, List.set_cons_succ]
    refine wpAnyH_take (i := 7) (oi := ⟨some 53, .slice 22 (.tmp 51) (some (.tmp 52)) none none, _, _, _, _⟩) (v := .slice (some ⟨g, i * 5, none⟩) r cc0) rfl (by kernel_rfl) (by kernel_rfl) (by kernel_rfl) (fun _ _ _ h => h) (.inl ⟨by rfl, fun w hSw => by have z := HG0S.out w; go_simp⟩) (by assumption) ?_
    simp only [Act.put, List.setIfInBounds_toArray, List.set_cons_zero, List.set_cons_succ]
    refine wpAnyH_ready (rs := [8]) (by kernel_rfl) (by simp) ?_
    refine AllReadyH.cons (o := ⟨some 54, .call ⟨.builtin .copy, #[.tmp 50, .tmp 53], #[22, 22]⟩, _, _, _, _⟩) rfl (fun K hK => ?_) AllReadyH.nil
    refine st_copyk (by rfl) (.tmp 50) (.tmp 53) 22 22 rfl 42 5 r Tryd.underlying22 (info_ent x) gn (i1 * 5) r cG1 ⟨g, i * 5, none⟩ r cc0 rfl rfl 42 _ LD (HR2.out.kept (below_drw w2)) (by show r = min r r; omega) (by have := HLEN.out; omega) (fun j v hj => HSRC2.out w2.drew (below_nxt (below_drw w2) HB2.out) j v hj) (by have h1 := HLEN.out; have h2 := HNM.out; rw [splice_len (by rw [List.length_append, ecs_len]; omega), List.length_append]; omega) HONE.out.2 ?_
    intro w3 hr3 hg3
    have HR3 := Lib.hid hr3
    have HG3 := Lib.hid hg3
    clear hr3 hg3
    refine hK.out _ _ trivial (fun _hs => ?_)
    clear hK K
    refine wpAnyH_done (by kernel_rfl) ?_ _
    go_wp2_with fail
    go_ret
    exact HFIN.out _ HR3.out ((below_nxt (below_drw w2) HB2.out).grown HG3.out (below_nxt (below_drw w2) HB2.out).size (fun k hk => by injection hk with hk; subst hk; exact Nat.le_of_eq HGN.out))
end Go.Proofs.YtijffkklhgnknaaDoor
