/- dir.With: a list with an entry more. Conditions: no more than 100000 entries, names no longer than 2^32, the library's tables lie there. -/
import Derived.Test.YtijffkklhgnknaaDoorTl
import Derived.Test.YtijffkklhgnknaaDoorQv
import Derived.Test.YtijffkklhgnknaaDoorQr
set_option linter.unusedVariables false
set_option maxRecDepth 20000
namespace Go.Proofs.YtijffkklhgnknaaDoor
open Go.RowKit
theorem insert_any (A : Option Addr) (m c z : Nat) (R : List Ent) (x : Ent) (g8 base : Nat) (w : World) (hR : R.length = m) (hown : w.ownsRow base 42 5 (.slice A m c) m (R.flatMap ecs)) (h8 : Row w g8 42 (ecs x)) (hne : ∀ q, (Value.slice A m c).ownBlock = some q → q ≠ g8) (hz : z ≤ m) (hm : m ≤ 100000) (hb : base ≤ w.heap.size) :
    Calls Tryd.prog 38 #[.slice A m c, .int .i64 (z : Int), .slice (some ⟨g8, 0, none⟩) 1 1] w (InsP base w m (R.take z ++ x :: R.drop z)) := by
  by_cases hzm : z = m
  · subst hzm
    have h := insert_end A z c R x g8 base w hR hown h8 hm hb
    rw [List.take_of_length_le (by omega), List.drop_of_length_le (by omega)]
    exact h
  · obtain ⟨hl, hc⟩ := hown
    rcases hc with ⟨e0, h0⟩ | ⟨g, cap, cur, e0, hlo, hh, hnc, hcm, hsz, htk⟩
    · exact absurd h0 (by omega)
    · simp only [Value.slice.injEq] at e0
      obtain ⟨rfl, _, rfl⟩ := e0
      have e1 : cur.toList = R.flatMap ecs ++ cur.toList.drop (m * 5) := by
        conv => lhs; rw [← List.take_append_drop (m * 5) cur.toList]
        rw [htk]
      have e2 : R.flatMap ecs = (R.take z).flatMap ecs ++ (R.drop z).flatMap ecs := by rw [← List.flatMap_append, List.take_append_drop]
      have hrow : Row w g 42 ((R.take z).flatMap ecs ++ ((R.drop z).flatMap ecs ++ cur.toList.drop (m * 5))) := by
        unfold Row
        rw [← List.append_assoc, ← e2, ← e1, Array.toArray_toList]
        exact hh
      exact insert_mid g m c z (m - z) 0 _ _ _ R x g8 base w hR hrow rfl rfl (by rw [List.length_drop, Array.length_toList, hsz, Nat.sub_mul]) hnc hcm hlo h8 (fun e => hne g rfl e.symm) (by omega) (by omega) hm
def WithP (w : World) (R : List Ent) (x : Ent) (e : Ending) (w' : World) : Prop :=
  ∃ A c z, e = .returned (.slice A (R.length + 1) c) ∧ w'.ownsRow w.heap.size 42 5 (.slice A (R.length + 1) c) (R.length + 1) ((R.take z ++ x :: R.drop z).flatMap ecs) ∧ z ≤ R.length ∧ (z < R.length → notAt x.nm R z = true) ∧ (∀ q, q + 1 = z → notAt x.nm R q = false) ∧ Below w.heap.size w w'
set_option maxHeartbeats 4000000 in
theorem with_any (x : Ent) (A : Option Addr) (n c : Nat) (X : List Ent) (hmax : n ≤ 100000) (w : World) (h : Lies ecs 5 w A X) (hn : X.length = n) (hnm : ∀ e ∈ X, e.nm.size ≤ 4294967296) (hb : x.nm.size ≤ 9223372036854775807) (hT : Tabs w) :
    Calls Tryd.prog 20 #[.slice A n c, .agg (ecs x).toArray] w (WithP w (X.filter (fun e : Ent => !(e.nm.toList == x.nm.toList))) x) := by
  obtain ⟨p, hp⟩ : ∃ p : Ent → Bool, (fun e : Ent => !(e.nm.toList == x.nm.toList)) = p := ⟨_, rfl⟩
  have HWO := Lib.hid (p := ∀ W, Below w.heap.size w W → Calls Tryd.prog 21 #[.slice A n c, .string x.nm] W fun e w' => ∃ A' m c', e = .returned (.slice A' m c') ∧ w'.ownsRow W.heap.size 42 5 (.slice A' m c') m ((X.filter p).flatMap ecs) ∧ m ≤ n ∧ Below W.heap.size W w') (fun W hb => by
    have := without_any x.nm A n c X (by omega) W (h.below hb) hn
    rwa [hp] at this)
  rw [hp]
  have HMAX := Lib.hid hmax
  have HNM := Lib.hid (p := ∀ e ∈ X.filter p, e.nm.size ≤ 4294967296) (fun e he => hnm e (List.mem_filter.1 he).1)
  have HBN := Lib.hid (And.intro hb hT)
  clear h hmax hn hnm hb hT hp
  go_enter Tryd.func20, Tryd.ntmps20
  go_upto_region 2 with (first
    | (refine step_box rfl 3 rfl 42 (.tmp 1) rfl (ecs x) rfl ?_; intro g3 w2 hr2 hg2 hb2 hs2
       have R2 := Lib.hid hr2
       have B2 := Lib.hid hb2
       have c2 : w2.cell? ⟨g3, 0, none⟩ = some (.string x.nm) := (hr2.cell 0).trans rfl
       clear hr2 hg2 hb2 hs2)
    | (go_at_call 21; refine (HWO.out _ B2.out).mono ?_; rintro e w3 ⟨A3, m, c3, rfl, ho, hm, hb⟩
       have HO3 := Lib.hid ho
       have HB23 := Lib.hid hb
       have HM3 := Lib.hid hm
       have HR3 := Lib.hid (R2.out.kept hb)
       have HB3 := Lib.hid (below_nxt hb B2.out)
       clear ho hm hb))
  have HLN := Lib.hid (p := (X.filter p).length = m) (by have h1 := HO3.out.1; rw [flat_len ecs_len] at h1; omega)
  have HMM := Lib.hid (p := m ≤ 100000) (by have := HM3.out; have := HMAX.out; omega)
  have HSQ := Lib.hid (p := ∀ W, Below w3.heap.size w3 W → W.cell? ⟨g3, 0, none⟩ = some (.string x.nm) ∧ W.rangeAt g3 0 (ecs x)) (fun W hb => ⟨((HR3.out.kept hb).cell 0).trans rfl, (HR3.out.kept hb).all⟩)
  have HSI := Lib.hid (p := ∀ W, Below w2.heap.size w2 W → W.cell? ⟨g3, 0, none⟩ = some (.string x.nm) ∧ W.rangeAt g3 0 (ecs x)) (fun W hb => ⟨((R2.out.kept hb).cell 0).trans rfl, (R2.out.kept hb).all⟩)
  have HPL := Lib.hid (p := ∀ W, Below w3.heap.size w3 W → Calls Tryd.prog 39 #[.slice A3 m c3, .string x.nm] W fun e w' => ∃ z : Nat, e = .returned (.int .i64 (z : Int)) ∧ z ≤ m ∧ (z < m → notAt x.nm (X.filter p) z = true) ∧ (∀ q, q + 1 = z → notAt x.nm (X.filter p) q = false) ∧ Below W.heap.size W w') (fun W hb => place_any x.nm A3 m c3 (X.filter p) (by have := HMM.out; omega) W ((Lies.own (by decide) ecs_len HO3.out).below hb) HLN.out HNM.out HBN.out.1 (tabs_below HBN.out.2 (below_nxt hb HB3.out)))
  have HBd := Lib.hid (below_drw w3)
  clear c2
  refine wp_region_held_drew (S := fun W => W.cell? ⟨g3, 0, none⟩ = some (.string x.nm) ∧ W.rangeAt g3 0 (ecs x)) (by kernel_rfl) (HSQ.out _ (below_drw w3)) (fun hHeld => ?_)
  refine wpAnyH_take (i := 0) (oi := ⟨some 10, .move (.tmp 5), _, _, _, _⟩) (v := .slice A3 m c3) rfl (by kernel_rfl) (by kernel_rfl) (by kernel_rfl) (fun _ _ _ h => h) (.inl ⟨by rfl, fun w hSw => by go_simp⟩) (by assumption) ?_
  simp only [Act.put, List.setIfInBounds_toArray, List.set_cons_zero, List.set_cons_succ]
  refine wpAnyH_take (i := 1) (oi := ⟨some 11, .move (.tmp 5), _, _, _, _⟩) (v := .slice A3 m c3) rfl (by kernel_rfl) (by kernel_rfl) (by kernel_rfl) (fun _ _ _ h => h) (.inl ⟨by rfl, fun w hSw => by go_simp⟩) (by assumption) ?_
  simp only [Act.put, List.setIfInBounds_toArray, List.set_cons_zero, List.set_cons_succ]
  refine wpAnyH_take (i := 2) (oi := ⟨some 12, .fieldAddr 42 (.tmp 3) 0, _, _, _, _⟩) (v := .pointer (some ⟨g3, 0, none⟩)) rfl (by kernel_rfl) (by kernel_rfl) (by kernel_rfl) (fun _ _ _ h => h) (.inl ⟨by rfl, fun w hSw => by go_simp⟩) (by assumption) ?_
  simp only [Act.put, List.setIfInBounds_toArray, List.set_cons_zero, List.set_cons_succ]
  refine wpAnyH_take (i := 3) (oi := ⟨some 13, .load 9 (.tmp 12), _, _, _, _⟩) (v := .string x.nm) rfl (by kernel_rfl) (by kernel_rfl) (by kernel_rfl) (fun _ _ _ h => h) (.inl ⟨by rfl, fun w hSw => by have z := hSw.1; go_simp⟩) (by assumption) ?_
  simp only [Act.put, List.setIfInBounds_toArray, List.set_cons_zero, List.set_cons_succ]
  refine wpAnyH_take (i := 5) (oi := ⟨some 15, .load 42 (.tmp 3), _, _, _, _⟩) (v := .agg (ecs x).toArray) rfl (by kernel_rfl) (by kernel_rfl) (by kernel_rfl) (fun _ _ _ h => h) (yieldsIf_load_mid (by rfl) 42 (.tmp 3) rfl g3 0 rfl (ecs x) _ (fun w hSw => hSw.2) Tryd.underlying42 rfl (info_ent x)) (by assumption) ?_
  simp only [Act.put, List.setIfInBounds_toArray, List.set_cons_zero, List.set_cons_succ]
  refine wpAnyH_ready (rs := [4, 6]) (by kernel_rfl) (by simp) ?_
  refine AllReadyH.cons (o := ⟨some 14, .call ⟨.value (.func 39), #[.tmp 11, .tmp 13], _⟩, _, _, _, _⟩) rfl (fun K hK => ?_) (AllReadyH.cons (o := ⟨some 16, .buildSlice 22 1 #[(0, .tmp 15)], _, _, _, _⟩) rfl (fun K hK => ?_) AllReadyH.nil)
  · skip
    go_simp
    go_at_call 39
    refine (HPL.out _ HBd.out).mono ?_
    rintro e w4 ⟨z, rfl, hz1, hz2, hz3, hb⟩
    have HZ := Lib.hid (And.intro hz1 (And.intro hz2 hz3))
    have HBP := Lib.hid (below_nxt hb HBd.out)
    clear hz1 hz2 hz3 hb
    refine hK.out _ _ (HSQ.out _ HBP.out) (fun _hs => ?_)
    clear hK K
    refine wpAnyH_ready (rs := [6]) (by kernel_rfl) (by simp) ?_
    refine AllReadyH.cons (o := ⟨some 16, .buildSlice 22 1 #[(0, .tmp 15)], _, _, _, _⟩) rfl (fun K hK => ?_) AllReadyH.nil
    refine st_bs1 (by rfl) 22 42 _ rfl Tryd.underlying22 5 (info_ent x) (by decide) _ zero_ent (ecs x) rfl rfl ?_
    intro g8 w8 hr8 hg8 hb8
    have HBS8 := Lib.hid (below_nxt hb8 HBP.out)
    have HR8 := Lib.hid hr8
    have HG8 := Lib.hid (p := w3.heap.size ≤ g8) (by have h1 := hg8.out; have h2 := HBP.out.size; omega)
    clear hr8 hg8 hb8
    refine hK.out _ _ (HSQ.out _ HBS8.out) (fun _hs => ?_)
    clear hK K
    refine wpAnyH_ready (rs := [7]) (by kernel_rfl) (by simp) ?_
    refine AllReadyH.cons (o := ⟨some 17, .call ⟨.value (.func 38), #[.tmp 10, .tmp 14, .tmp 16], _⟩, _, _, _, _⟩) rfl (fun K hK => ?_) AllReadyH.nil
    go_simp
    go_at_call 38
    refine (insert_any A3 m c3 z (X.filter p) x g8 w2.heap.size _ HLN.out (own_kept HO3.out HBS8.out) HR8.out (fun q hq e => by have h1 := (HO3.out.lt q hq).2; have h2 := HG8.out; omega) HZ.out.1 HMM.out (by have h1 := HBS8.out.size; have h2 := HB23.out.size; omega)).mono ?_
    rintro e w9 ⟨A9, c9, rfl, ho, hb⟩
    have HO9 := Lib.hid (own_lower ho B2.out.size)
    have HB29 := Lib.hid (p := Below w2.heap.size w2 w9) ((below_nxt HBS8.out HB23.out).trans hb)
    have HB9 := Lib.hid (below_nxt HB29.out B2.out)
    clear ho hb
    refine hK.out _ _ (HSI.out _ HB29.out) (fun _hs => ?_)
    clear hK K
    refine wpAnyH_take (i := 8) (oi := ⟨some 4, .assign (.tmp 17), _, _, _, _⟩) (v := .slice A9 (m + 1) c9) rfl (by kernel_rfl) (by kernel_rfl) (by kernel_rfl) (fun _ _ _ h => h) (.inl ⟨by rfl, fun w hSw => by go_simp⟩) (by assumption) ?_
    simp only [Act.put, List.setIfInBounds_toArray, List.set_cons_zero, List.set_cons_succ]
    refine wpAnyH_done (by kernel_rfl) ?_ _
    go_wp2_with fail
    go_ret
    exact ⟨A9, c9, z, by rw [HLN.out]; rfl, by rw [HLN.out]; exact HO9.out, by rw [HLN.out]; exact HZ.out.1, by rw [HLN.out]; exact HZ.out.2.1, HZ.out.2.2, HB9.out⟩
  · skip
    refine st_bs1 (by rfl) 22 42 _ rfl Tryd.underlying22 5 (info_ent x) (by decide) _ zero_ent (ecs x) rfl rfl ?_
    intro g8 w8 hr8 hg8 hb8
    have HBS8 := Lib.hid (below_nxt hb8 HBd.out)
    have HR8 := Lib.hid hr8
    have HG8 := Lib.hid (p := w3.heap.size ≤ g8) (by have h1 := hg8.out; have h2 := HBd.out.size; omega)
    clear hr8 hg8 hb8
    refine hK.out _ _ (HSQ.out _ HBS8.out) (fun _hs => ?_)
    clear hK K
    refine wpAnyH_ready (rs := [4]) (by kernel_rfl) (by simp) ?_
    refine AllReadyH.cons (o := ⟨some 14, .call ⟨.value (.func 39), #[.tmp 11, .tmp 13], _⟩, _, _, _, _⟩) rfl (fun K hK => ?_) AllReadyH.nil
    go_simp
    go_at_call 39
    refine (HPL.out _ HBS8.out).mono ?_
    rintro e w4 ⟨z, rfl, hz1, hz2, hz3, hb⟩
    have HZ := Lib.hid (And.intro hz1 (And.intro hz2 hz3))
    have HBP := Lib.hid (below_nxt hb HBS8.out)
    have HR9 := Lib.hid (HR8.out.kept hb)
    clear hz1 hz2 hz3 hb
    refine hK.out _ _ (HSQ.out _ HBP.out) (fun _hs => ?_)
    clear hK K
    refine wpAnyH_ready (rs := [7]) (by kernel_rfl) (by simp) ?_
    refine AllReadyH.cons (o := ⟨some 17, .call ⟨.value (.func 38), #[.tmp 10, .tmp 14, .tmp 16], _⟩, _, _, _, _⟩) rfl (fun K hK => ?_) AllReadyH.nil
    go_simp
    go_at_call 38
    refine (insert_any A3 m c3 z (X.filter p) x g8 w2.heap.size _ HLN.out (own_kept HO3.out HBP.out) HR9.out (fun q hq e => by have h1 := (HO3.out.lt q hq).2; have h2 := HG8.out; omega) HZ.out.1 HMM.out (by have h1 := HBP.out.size; have h2 := HB23.out.size; omega)).mono ?_
    rintro e w9 ⟨A9, c9, rfl, ho, hb⟩
    have HO9 := Lib.hid (own_lower ho B2.out.size)
    have HB29 := Lib.hid (p := Below w2.heap.size w2 w9) ((below_nxt HBP.out HB23.out).trans hb)
    have HB9 := Lib.hid (below_nxt HB29.out B2.out)
    clear ho hb
    refine hK.out _ _ (HSI.out _ HB29.out) (fun _hs => ?_)
    clear hK K
    refine wpAnyH_take (i := 8) (oi := ⟨some 4, .assign (.tmp 17), _, _, _, _⟩) (v := .slice A9 (m + 1) c9) rfl (by kernel_rfl) (by kernel_rfl) (by kernel_rfl) (fun _ _ _ h => h) (.inl ⟨by rfl, fun w hSw => by go_simp⟩) (by assumption) ?_
    simp only [Act.put, List.setIfInBounds_toArray, List.set_cons_zero, List.set_cons_succ]
    refine wpAnyH_done (by kernel_rfl) ?_ _
    go_wp2_with fail
    go_ret
    exact ⟨A9, c9, z, by rw [HLN.out]; rfl, by rw [HLN.out]; exact HO9.out, by rw [HLN.out]; exact HZ.out.1, by rw [HLN.out]; exact HZ.out.2.1, HZ.out.2.2, HB9.out⟩
end Go.Proofs.YtijffkklhgnknaaDoor
