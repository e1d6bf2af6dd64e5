/- The reference's With. Conditions: no more than 100000 entries, names no longer than 2^32. -/
import Derived.Test.YtijffkklhgnknaaDoorTm
import Derived.Test.YtijffkklhgnknaaDoorQw
import Derived.Test.YtijffkklhgnknaaDoorMgFirst
set_option linter.unusedVariables false
set_option maxRecDepth 20000
namespace Go.Proofs.YtijffkklhgnknaaDoor
open Go.RowKit
/-- What has been put out. -/
def Ph (x : Ent) (R : List Ent) (k : Nat) (pt : Bool) (L : List Ent) : Prop :=
  (pt = false ∧ (∀ q, q < k → notAt x.nm R q = false) ∧ L = R.take k) ∨
  (pt = true ∧ ∃ z, z < k ∧ k ≤ R.length ∧ notAt x.nm R z = true ∧ (∀ q, q < z → notAt x.nm R q = false) ∧ L = R.take z ++ x :: (R.take k).drop z)
theorem Ph.len_f {x : Ent} {R : List Ent} {k : Nat} {L : List Ent} (h : Ph x R k false L) : L.length ≤ k := by
  rcases h with ⟨_, _, rfl⟩ | ⟨h, _⟩
  · rw [List.length_take]; omega
  · cases h
theorem Ph.more_t {x y : Ent} {R : List Ent} {k : Nat} {L : List Ent} (h : Ph x R k true L) (hy : R[k]? = some y) : Ph x R (k + 1) true (L ++ [y]) := by
  rcases h with ⟨h, _⟩ | ⟨_, z, h1, h2, h3, h4, rfl⟩
  · cases h
  · have hk := (List.getElem?_eq_some_iff.1 hy).1
    refine .inr ⟨rfl, z, by omega, hk, h3, h4, ?_⟩
    rw [List.take_add_one, hy, List.append_assoc, List.cons_append, List.drop_append_of_le_length (by rw [List.length_take]; omega)]
    rfl
theorem Ph.more_f {x y : Ent} {R : List Ent} {k : Nat} {L : List Ent} (h : Ph x R k false L) (hy : R[k]? = some y) (hb : lessD y.nm.data.toList x.nm.data.toList = true) : Ph x R (k + 1) false (L ++ [y]) := by
  rcases h with ⟨_, h1, rfl⟩ | ⟨h, _⟩
  · refine .inl ⟨rfl, fun q hq => ?_, by rw [List.take_add_one, hy]; rfl⟩
    by_cases hqk : q < k
    · exact h1 q hqk
    · obtain rfl : q = k := by omega
      unfold notAt notB
      rw [hy]
      simp [hb]
  · cases h
theorem Ph.put_f {x y : Ent} {R : List Ent} {k : Nat} {L : List Ent} (h : Ph x R k false L) (hy : R[k]? = some y) (hb : lessD y.nm.data.toList x.nm.data.toList = false) : Ph x R (k + 1) true (L ++ [x] ++ [y]) := by
  rcases h with ⟨_, h1, rfl⟩ | ⟨h, _⟩
  · have hk := (List.getElem?_eq_some_iff.1 hy).1
    refine .inr ⟨rfl, k, by omega, hk, ?_, h1, ?_⟩
    · unfold notAt notB
      rw [hy]
      simp [hb]
    · rw [List.take_add_one, hy, List.drop_append_of_le_length (by rw [List.length_take]; omega), List.drop_of_length_le (by rw [List.length_take]; omega)]
      simp
  · cases h
theorem with_len' {R : List Ent} {x : Ent} {z : Nat} (hz : z ≤ R.length) : (R.take z ++ x :: R.drop z).length = R.length + 1 := by
  rw [List.length_append, List.length_cons, List.length_take, List.length_drop]
  omega
/-- The end. -/
def RWithP (w : World) (R : List Ent) (x : Ent) (e : Ending) (w' : World) : Prop :=
  ∃ A c z, e = .returned (.slice A (R.length + 1) c) ∧ w'.ownsRow w.heap.size 42 5 (.slice A (R.length + 1) c) (R.length + 1) ((R.take z ++ x :: R.drop z).flatMap ecs) ∧ z ≤ R.length ∧ (z < R.length → notAt x.nm R z = true) ∧ (∀ q, q < z → notAt x.nm R q = false) ∧ Below w.heap.size w w'
set_option maxHeartbeats 8000000 in
theorem rwith_any (x : Ent) (A : Option Addr) (n c : Nat) (X : List Ent) (hmax : n ≤ 100000) (w : World) (h : Lies ecs 5 w A X) (hn : X.length = n) (hnm : ∀ e ∈ X, e.nm.size ≤ 4294967296) (hb : x.nm.size ≤ 4294967296) :
    Calls Tryd.prog 41 #[.slice A n c, .agg (ecs x).toArray] w (RWithP w (X.filter (fun e : Ent => !(e.nm.toList == x.nm.toList))) x) := by
  obtain ⟨R, hR⟩ : ∃ R, X.filter (fun e : Ent => !(e.nm.toList == x.nm.toList)) = R := ⟨_, rfl⟩
  have HWO := Lib.hid (p := ∀ W, Below w.heap.size w W → Calls Tryd.prog 24 #[.slice A n c, .string x.nm] W fun e w' => ∃ A' m c', e = .returned (.slice A' m c') ∧ w'.ownsRow W.heap.size 42 5 (.slice A' m c') m (R.flatMap ecs) ∧ m ≤ n ∧ Below W.heap.size W w') (fun W hb => by
    have := rwithout_any x.nm A n c X (by omega) W (h.below hb) hn
    rwa [hR] at this)
  have HRN := Lib.hid (p := ∀ e ∈ R, e.nm.size ≤ 4294967296) (fun e he => hnm e (by rw [← hR] at he; exact (List.mem_filter.1 he).1))
  rw [hR]
  have HMAX := Lib.hid hmax
  have HXN := Lib.hid hb
  clear h hmax hn hnm hb hR
  go_enter Tryd.func41, Tryd.ntmps41
  go_wp2_with (first
    | (refine step_box rfl 3 rfl 42 (.tmp 1) rfl (ecs x) rfl ?_; intro g3 w2 hr2 hg2 hb2 hs2
       have R2 := Lib.hid hr2
       have B2 := Lib.hid hb2
       have c2 : w2.cell? ⟨g3, 0, none⟩ = some (.string x.nm) := (hr2.cell 0).trans rfl
       clear hr2 hg2 hb2 hs2)
    | (go_at_call 24; refine (HWO.out _ B2.out).mono ?_; rintro e w3 ⟨A3, nr, cr, rfl, ho, hm, hb⟩
       have HO3 := Lib.hid ho
       have HM3 := Lib.hid hm
       have HR3 := Lib.hid (R2.out.kept hb)
       have HB3 := Lib.hid (below_nxt hb B2.out)
       clear ho hm hb c2))
  have HLN := Lib.hid (p := R.length = nr) (by have h1 := HO3.out.1; rw [flat_len ecs_len] at h1; omega)
  have HMM := Lib.hid (p := nr ≤ 100000) (by have := HM3.out; have := HMAX.out; omega)
  have HL3 := Lib.hid (p := Lies ecs 5 w3 A3 R) (Lies.own (by decide) ecs_len HO3.out)
  have HRX := Lib.hid (p := ∀ W, Below w3.heap.size w3 W → W.rangeAt g3 0 (ecs x)) (fun W hb => (HR3.out.kept hb).all)
  go_loopw [6, 7, 8] (fun s t u wr => ∃ (k m c' : Nat) (A' : Option Addr) (pt : Bool) (L : List Ent), u = .int .i64 (k : Int) ∧ t = .bool pt ∧ s = .slice A' m c' ∧ Hid (k ≤ nr) ∧ Hid (L.length = m ∧ m ≤ k + 1) ∧ Hid (wr.ownsRow w3.heap.size 42 5 (.slice A' m c') m (L.flatMap ecs)) ∧ Hid (Ph x R k pt L) ∧ Hid (Below w3.heap.size w3 wr)) (fun _ _ u _ => nr - (intOf u).toNat)
  case atStart => exact ⟨0, 0, 0, none, false, [], rfl, rfl, rfl, Lib.hid (Nat.zero_le _), Lib.hid ⟨rfl, Nat.zero_le _⟩, Lib.hid (World.ownsRow_nil _ _ _ _), Lib.hid (.inl ⟨rfl, fun q hq => by omega, by simp⟩), Lib.hid (Below.refl _ _)⟩
  case round =>
    obtain ⟨k, m, c', A', pt, L, rfl, rfl, rfl, HKL, HLM, HO, HPH, HB⟩ := hrel
    rename World => wr
    have HMB := Lib.hid (p := m ≤ 100001) (by have := HLM.out.2; have := HKL.out; have := HMM.out; omega)
    by_cases hk : k < nr
    · have hki : (k : Int) < (nr : Int) := by omega
      have hkw : IntKind.i64.wrap ((k : Int) + 1) = (k : Int) + 1 := by rw [IntKind.wrap_i64]; have := HMM.out; omega
      have hkx : k < R.length := by have := HLN.out; omega
      obtain ⟨gr, orr, rfl, hc⟩ := HL3.out.at_ hkx
      obtain ⟨y, hy⟩ : ∃ y, R[k] = y := ⟨_, rfl⟩
      rw [hy] at hc
      have HY := Lib.hid (p := R[k]? = some y) (by rw [List.getElem?_eq_getElem hkx, hy])
      have HRY := Lib.hid (p := ∀ W, Below w3.heap.size w3 W → W.rangeAt gr (orr + k * 5) (ecs y)) (fun W hb j u hu => (hb.cell (p := ⟨gr, orr + k * 5 + j, none⟩) (World.block_lt_of_cell? w3 _ (hc j u hu))).trans (hc j u hu))
      have HSQ := Lib.hid (p := ∀ W, Below wr.heap.size wr W → W.cell? ⟨gr, orr + k * 5, none⟩ = some (.string y.nm) ∧ W.cell? ⟨g3, 0, none⟩ = some (.string x.nm)) (fun W hb => ⟨HRY.out _ (below_nxt hb HB.out) 0 _ rfl, HRX.out _ (below_nxt hb HB.out) 0 _ rfl⟩)
      obtain ⟨b, hbb⟩ : ∃ b, lessD y.nm.data.toList x.nm.data.toList = b := ⟨_, rfl⟩
      have HLB := Lib.hid hbb
      have HLS := Lib.hid (p := ∀ W, Calls Tryd.prog 37 #[.string y.nm, .string x.nm] W fun e w' => e = .returned (.bool b) ∧ Below W.heap.size W w') (fun W => by
        have := rless_any y.nm x.nm W (by have := HRN.out y (List.mem_of_getElem? HY.out); omega) (by have := HXN.out; omega)
        rwa [hbb] at this)
      have HK := Lib.hid hk
      clear hc hy hkx hk hbb
      cases pt
      · cases b
        · go_upto_region 7 with fail
          refine wp_region_held_drew (S := fun W => W.cell? ⟨gr, orr + k * 5, none⟩ = some (.string y.nm) ∧ W.cell? ⟨g3, 0, none⟩ = some (.string x.nm)) (by kernel_rfl) (HSQ.out _ (below_drw wr)) (fun hHeld => ?_)
          refine wpAnyH_take (i := 0) (oi := ⟨some 19, .move (.tmp 7), _, _, _, _⟩) (v := .bool false) rfl (by kernel_rfl) (by kernel_rfl) (by kernel_rfl) (fun _ _ _ h => h) (.inl ⟨by rfl, fun w hSw => by go_simp⟩) (by assumption) ?_
          simp only [Act.put, List.setIfInBounds_toArray, List.set_cons_zero, List.set_cons_succ]
          refine wpAnyH_take (i := 1) (oi := ⟨some 20, .unOp .not 4 (.tmp 19), _, _, _, _⟩) (v := .bool true) rfl (by kernel_rfl) (by kernel_rfl) (by kernel_rfl) (fun _ _ _ h => h) (.inl ⟨by rfl, fun w hSw => by go_simp⟩) (by assumption) ?_
          simp only [Act.put, List.setIfInBounds_toArray, List.set_cons_zero, List.set_cons_succ]
          refine wpAnyH_take (i := 2) (oi := ⟨some 21, .move (.tmp 20), _, _, _, _⟩) (v := .bool true) rfl (by kernel_rfl) (by kernel_rfl) (by kernel_rfl) (fun _ _ _ h => h) (.inl ⟨by rfl, fun w hSw => by go_simp⟩) (by assumption) ?_
          simp only [Act.put, List.setIfInBounds_toArray, List.set_cons_zero, List.set_cons_succ]
          refine wpAnyH_take (i := 3) (oi := ⟨some 22, .move (.tmp 5), _, _, _, _⟩) (v := .slice (some ⟨gr, orr, none⟩) nr cr) rfl (by kernel_rfl) (by kernel_rfl) (by kernel_rfl) (fun _ _ _ h => h) (.inl ⟨by rfl, fun w hSw => by go_simp⟩) (by assumption) ?_
          simp only [Act.put, List.setIfInBounds_toArray, List.set_cons_zero, List.set_cons_succ]
          refine wpAnyH_take (i := 4) (oi := ⟨some 23, .move (.tmp 8), _, _, _, _⟩) (v := .int .i64 (k : Int)) rfl (by kernel_rfl) (by kernel_rfl) (by kernel_rfl) (fun _ _ _ h => h) (.inl ⟨by rfl, fun w hSw => by go_simp⟩) (by assumption) ?_
          simp only [Act.put, List.setIfInBounds_toArray, List.set_cons_zero, List.set_cons_succ]
          refine wpAnyH_take (i := 5) (oi := ⟨some 24, .indexAddr 22 (.tmp 22) (.tmp 23), _, _, _, _⟩) (v := .pointer (some ⟨gr, orr + k * 5, none⟩)) rfl (by kernel_rfl) (by kernel_rfl) (by kernel_rfl) (fun _ _ _ h => h) (.inl ⟨by rfl, fun w hSw => by go_simp⟩) (by assumption) ?_
          simp only [Act.put, List.setIfInBounds_toArray, List.set_cons_zero, List.set_cons_succ]
          refine wpAnyH_take (i := 6) (oi := ⟨some 25, .fieldAddr 42 (.tmp 24) 0, _, _, _, _⟩) (v := .pointer (some ⟨gr, orr + k * 5, none⟩)) rfl (by kernel_rfl) (by kernel_rfl) (by kernel_rfl) (fun _ _ _ h => h) (.inl ⟨by rfl, fun w hSw => by go_simp⟩) (by assumption) ?_
          simp only [Act.put, List.setIfInBounds_toArray, List.set_cons_zero, List.set_cons_succ]
          refine wpAnyH_take (i := 7) (oi := ⟨some 26, .load 9 (.tmp 25), _, _, _, _⟩) (v := .string y.nm) rfl (by kernel_rfl) (by kernel_rfl) (by kernel_rfl) (fun _ _ _ h => h) (.inl ⟨by rfl, fun w hSw => by have z := hSw.1; go_simp⟩) (by assumption) ?_
          simp only [Act.put, List.setIfInBounds_toArray, List.set_cons_zero, List.set_cons_succ]
          refine wpAnyH_take (i := 8) (oi := ⟨some 27, .fieldAddr 42 (.tmp 3) 0, _, _, _, _⟩) (v := .pointer (some ⟨g3, 0, none⟩)) rfl (by kernel_rfl) (by kernel_rfl) (by kernel_rfl) (fun _ _ _ h => h) (.inl ⟨by rfl, fun w hSw => by go_simp⟩) (by assumption) ?_
          simp only [Act.put, List.setIfInBounds_toArray, List.set_cons_zero, List.set_cons_succ]
          refine wpAnyH_take (i := 9) (oi := ⟨some 28, .load 9 (.tmp 27), _, _, _, _⟩) (v := .string x.nm) rfl (by kernel_rfl) (by kernel_rfl) (by kernel_rfl) (fun _ _ _ h => h) (.inl ⟨by rfl, fun w hSw => by have z := hSw.2; go_simp⟩) (by assumption) ?_
          simp only [Act.put, List.setIfInBounds_toArray, List.set_cons_zero, List.set_cons_succ]
          refine wpAnyH_ready (rs := [10]) (by kernel_rfl) (by simp) ?_
          refine AllReadyH.cons (o := ⟨some 29, .call ⟨.value (.func 37), #[.tmp 26, .tmp 28], _⟩, _, _, _, _⟩) rfl (fun K hK => ?_) AllReadyH.nil
          go_simp
          go_at_call 37
          refine (HLS.out _).mono ?_
          rintro e w4 ⟨rfl, hb⟩
          have HB4 := Lib.hid (below_nxt hb (below_drw wr))
          clear hb
          refine hK.out _ _ (HSQ.out _ HB4.out) (fun _hs => ?_)
          clear hK K
          refine wpAnyH_take (i := 11) (oi := ⟨some 30, .unOp .not 4 (.tmp 29), _, _, _, _⟩) (v := .bool true) rfl (by kernel_rfl) (by kernel_rfl) (by kernel_rfl) (fun _ _ _ h => h) (.inl ⟨by rfl, fun w hSw => by go_simp⟩) (by assumption) ?_
          simp only [Act.put, List.setIfInBounds_toArray, List.set_cons_zero, List.set_cons_succ]
          refine wpAnyH_take (i := 12) (oi := ⟨some 31, .pick (.tmp 21) (.tmp 30) (.const (.bool false)), _, _, _, _⟩) (v := .bool true) rfl (by kernel_rfl) (by kernel_rfl) (by kernel_rfl) (fun _ _ _ h => h) (.inl ⟨by rfl, fun w hSw => by go_simp⟩) (by assumption) ?_
          simp only [Act.put, List.setIfInBounds_toArray, List.set_cons_zero, List.set_cons_succ]
          refine wpAnyH_done (by kernel_rfl) ?_ _
          have HBX := Lib.hid (below_nxt HB4.out HB.out)
          have HOX := Lib.hid (own_kept HO.out HB4.out)
          go_wp2_with (first
            | (refine wpList_load_mid rfl 42 (.tmp 3) rfl g3 0 rfl (ecs x) _ (HRX.out _ HBX.out) Tryd.underlying42 rfl (info_ent x) ?_)
            | (refine step_bs1 rfl 22 42 _ rfl Tryd.underlying22 5 (info_ent x) (by decide) _ zero_ent (ecs x) rfl rfl ?_; intro g8b w8b hr8 hg8 hb8
               have HR8b := Lib.hid hr8
               have HO8b := Lib.hid (own_kept HOX.out hb8)
               have HB8b := Lib.hid (below_nxt hb8 HBX.out)
               clear hr8 hg8 hb8)
            | (at_builtin
               refine wp_join rfl _ _ rfl rec_ent w3.heap.size (.slice A' m c') m ((L).flatMap ecs) rfl HO8b.out (some ⟨g8b, 0, none⟩) 1 1 (ecs x) rfl rfl (.inr ⟨_, rfl, fun j u hu => by rw [Addr.add_lit]; exact HR8b.out.all j u hu⟩) (ecs_one x) (by have := HMB.out; omega) HB8b.out.size ?_
               intro v1 w9b ho1 hg1 hat1
               rw [← flat_snoc] at ho1
               have HO9b := Lib.hid ho1
               obtain ⟨A9b, c9b, rfl⟩ := own_sl ho1
               have HB9b := Lib.hid (HB8b.out.grown hg1 HB8b.out.size (fun z hz => (HO8b.out.lt z hz).1))
               clear ho1 hg1 hat1)
            | (refine wpList_load_mid rfl 42 (.tmp 39) rfl gr (orr + k * 5) rfl (ecs y) _ (HRY.out _ HB9b.out) Tryd.underlying42 rfl (info_ent y) ?_)
            | (refine step_bs1 rfl 22 42 _ rfl Tryd.underlying22 5 (info_ent y) (by decide) _ zero_ent (ecs y) rfl rfl ?_; intro g8a w8a hr8 hg8 hb8
               have HR8a := Lib.hid hr8
               have HO8a := Lib.hid (own_kept HO9b.out hb8)
               have HB8a := Lib.hid (below_nxt hb8 HB9b.out)
               clear hr8 hg8 hb8)
            | (at_builtin
               refine wp_join rfl _ _ rfl rec_ent w3.heap.size (.slice A9b (m + 1) c9b) (m + 1) ((L ++ [x]).flatMap ecs) rfl HO8a.out (some ⟨g8a, 0, none⟩) 1 1 (ecs y) rfl rfl (.inr ⟨_, rfl, fun j u hu => by rw [Addr.add_lit]; exact HR8a.out.all j u hu⟩) (ecs_one y) (by have := HMB.out; omega) HB8a.out.size ?_
               intro v1 w9a ho1 hg1 hat1
               rw [← flat_snoc] at ho1
               have HO9a := Lib.hid ho1
               obtain ⟨A9a, c9a, rfl⟩ := own_sl ho1
               have HB9a := Lib.hid (HB8a.out.grown hg1 HB8a.out.size (fun z hz => (HO8a.out.lt z hz).1))
               clear ho1 hg1 hat1))
          go_roundw
          case rel => exact ⟨k + 1, m + 1 + 1, c9a, A9a, true, L ++ [x] ++ [y], by go_num, rfl, rfl, Lib.hid HK.out, Lib.hid ⟨by rw [List.length_append, List.length_append, HLM.out.1]; rfl, by have := HPH.out.len_f; have := HLM.out.1; omega⟩, HO9a, Lib.hid (HPH.out.put_f HY.out HLB.out), HB9a⟩
          case measure => have := HK.out; simp [intOf]; omega
        · go_upto_region 7 with fail
          refine wp_region_held_drew (S := fun W => W.cell? ⟨gr, orr + k * 5, none⟩ = some (.string y.nm) ∧ W.cell? ⟨g3, 0, none⟩ = some (.string x.nm)) (by kernel_rfl) (HSQ.out _ (below_drw wr)) (fun hHeld => ?_)
          refine wpAnyH_take (i := 0) (oi := ⟨some 19, .move (.tmp 7), _, _, _, _⟩) (v := .bool false) rfl (by kernel_rfl) (by kernel_rfl) (by kernel_rfl) (fun _ _ _ h => h) (.inl ⟨by rfl, fun w hSw => by go_simp⟩) (by assumption) ?_
          simp only [Act.put, List.setIfInBounds_toArray, List.set_cons_zero, List.set_cons_succ]
          refine wpAnyH_take (i := 1) (oi := ⟨some 20, .unOp .not 4 (.tmp 19), _, _, _, _⟩) (v := .bool true) rfl (by kernel_rfl) (by kernel_rfl) (by kernel_rfl) (fun _ _ _ h => h) (.inl ⟨by rfl, fun w hSw => by go_simp⟩) (by assumption) ?_
          simp only [Act.put, List.setIfInBounds_toArray, List.set_cons_zero, List.set_cons_succ]
          refine wpAnyH_take (i := 2) (oi := ⟨some 21, .move (.tmp 20), _, _, _, _⟩) (v := .bool true) rfl (by kernel_rfl) (by kernel_rfl) (by kernel_rfl) (fun _ _ _ h => h) (.inl ⟨by rfl, fun w hSw => by go_simp⟩) (by assumption) ?_
          simp only [Act.put, List.setIfInBounds_toArray, List.set_cons_zero, List.set_cons_succ]
          refine wpAnyH_take (i := 3) (oi := ⟨some 22, .move (.tmp 5), _, _, _, _⟩) (v := .slice (some ⟨gr, orr, none⟩) nr cr) rfl (by kernel_rfl) (by kernel_rfl) (by kernel_rfl) (fun _ _ _ h => h) (.inl ⟨by rfl, fun w hSw => by go_simp⟩) (by assumption) ?_
          simp only [Act.put, List.setIfInBounds_toArray, List.set_cons_zero, List.set_cons_succ]
          refine wpAnyH_take (i := 4) (oi := ⟨some 23, .move (.tmp 8), _, _, _, _⟩) (v := .int .i64 (k : Int)) rfl (by kernel_rfl) (by kernel_rfl) (by kernel_rfl) (fun _ _ _ h => h) (.inl ⟨by rfl, fun w hSw => by go_simp⟩) (by assumption) ?_
          simp only [Act.put, List.setIfInBounds_toArray, List.set_cons_zero, List.set_cons_succ]
          refine wpAnyH_take (i := 5) (oi := ⟨some 24, .indexAddr 22 (.tmp 22) (.tmp 23), _, _, _, _⟩) (v := .pointer (some ⟨gr, orr + k * 5, none⟩)) rfl (by kernel_rfl) (by kernel_rfl) (by kernel_rfl) (fun _ _ _ h => h) (.inl ⟨by rfl, fun w hSw => by go_simp⟩) (by assumption) ?_
          simp only [Act.put, List.setIfInBounds_toArray, List.set_cons_zero, List.set_cons_succ]
          refine wpAnyH_take (i := 6) (oi := ⟨some 25, .fieldAddr 42 (.tmp 24) 0, _, _, _, _⟩) (v := .pointer (some ⟨gr, orr + k * 5, none⟩)) rfl (by kernel_rfl) (by kernel_rfl) (by kernel_rfl) (fun _ _ _ h => h) (.inl ⟨by rfl, fun w hSw => by go_simp⟩) (by assumption) ?_
          simp only [Act.put, List.setIfInBounds_toArray, List.set_cons_zero, List.set_cons_succ]
          refine wpAnyH_take (i := 7) (oi := ⟨some 26, .load 9 (.tmp 25), _, _, _, _⟩) (v := .string y.nm) rfl (by kernel_rfl) (by kernel_rfl) (by kernel_rfl) (fun _ _ _ h => h) (.inl ⟨by rfl, fun w hSw => by have z := hSw.1; go_simp⟩) (by assumption) ?_
          simp only [Act.put, List.setIfInBounds_toArray, List.set_cons_zero, List.set_cons_succ]
          refine wpAnyH_take (i := 8) (oi := ⟨some 27, .fieldAddr 42 (.tmp 3) 0, _, _, _, _⟩) (v := .pointer (some ⟨g3, 0, none⟩)) rfl (by kernel_rfl) (by kernel_rfl) (by kernel_rfl) (fun _ _ _ h => h) (.inl ⟨by rfl, fun w hSw => by go_simp⟩) (by assumption) ?_
          simp only [Act.put, List.setIfInBounds_toArray, List.set_cons_zero, List.set_cons_succ]
          refine wpAnyH_take (i := 9) (oi := ⟨some 28, .load 9 (.tmp 27), _, _, _, _⟩) (v := .string x.nm) rfl (by kernel_rfl) (by kernel_rfl) (by kernel_rfl) (fun _ _ _ h => h) (.inl ⟨by rfl, fun w hSw => by have z := hSw.2; go_simp⟩) (by assumption) ?_
          simp only [Act.put, List.setIfInBounds_toArray, List.set_cons_zero, List.set_cons_succ]
          refine wpAnyH_ready (rs := [10]) (by kernel_rfl) (by simp) ?_
          refine AllReadyH.cons (o := ⟨some 29, .call ⟨.value (.func 37), #[.tmp 26, .tmp 28], _⟩, _, _, _, _⟩) rfl (fun K hK => ?_) AllReadyH.nil
          go_simp
          go_at_call 37
          refine (HLS.out _).mono ?_
          rintro e w4 ⟨rfl, hb⟩
          have HB4 := Lib.hid (below_nxt hb (below_drw wr))
          clear hb
          refine hK.out _ _ (HSQ.out _ HB4.out) (fun _hs => ?_)
          clear hK K
          refine wpAnyH_take (i := 11) (oi := ⟨some 30, .unOp .not 4 (.tmp 29), _, _, _, _⟩) (v := .bool false) rfl (by kernel_rfl) (by kernel_rfl) (by kernel_rfl) (fun _ _ _ h => h) (.inl ⟨by rfl, fun w hSw => by go_simp⟩) (by assumption) ?_
          simp only [Act.put, List.setIfInBounds_toArray, List.set_cons_zero, List.set_cons_succ]
          refine wpAnyH_take (i := 12) (oi := ⟨some 31, .pick (.tmp 21) (.tmp 30) (.const (.bool false)), _, _, _, _⟩) (v := .bool false) rfl (by kernel_rfl) (by kernel_rfl) (by kernel_rfl) (fun _ _ _ h => h) (.inl ⟨by rfl, fun w hSw => by go_simp⟩) (by assumption) ?_
          simp only [Act.put, List.setIfInBounds_toArray, List.set_cons_zero, List.set_cons_succ]
          refine wpAnyH_done (by kernel_rfl) ?_ _
          have HBX := Lib.hid (below_nxt HB4.out HB.out)
          have HOX := Lib.hid (own_kept HO.out HB4.out)
          go_wp2_with (first
            | (refine wpList_load_mid rfl 42 (.tmp 39) rfl gr (orr + k * 5) rfl (ecs y) _ (HRY.out _ HBX.out) Tryd.underlying42 rfl (info_ent y) ?_)
            | (refine step_bs1 rfl 22 42 _ rfl Tryd.underlying22 5 (info_ent y) (by decide) _ zero_ent (ecs y) rfl rfl ?_; intro g8a w8a hr8 hg8 hb8
               have HR8a := Lib.hid hr8
               have HO8a := Lib.hid (own_kept HOX.out hb8)
               have HB8a := Lib.hid (below_nxt hb8 HBX.out)
               clear hr8 hg8 hb8)
            | (at_builtin
               refine wp_join rfl _ _ rfl rec_ent w3.heap.size (.slice A' m c') m ((L).flatMap ecs) rfl HO8a.out (some ⟨g8a, 0, none⟩) 1 1 (ecs y) rfl rfl (.inr ⟨_, rfl, fun j u hu => by rw [Addr.add_lit]; exact HR8a.out.all j u hu⟩) (ecs_one y) (by have := HMB.out; omega) HB8a.out.size ?_
               intro v1 w9a ho1 hg1 hat1
               rw [← flat_snoc] at ho1
               have HO9a := Lib.hid ho1
               obtain ⟨A9a, c9a, rfl⟩ := own_sl ho1
               have HB9a := Lib.hid (HB8a.out.grown hg1 HB8a.out.size (fun z hz => (HO8a.out.lt z hz).1))
               clear ho1 hg1 hat1))
          go_roundw
          case rel => exact ⟨k + 1, m + 1, c9a, A9a, _, L ++ [y], by go_num, rfl, rfl, Lib.hid HK.out, Lib.hid ⟨by rw [List.length_append, HLM.out.1]; rfl, by have := HLM.out.2; omega⟩, HO9a, Lib.hid (HPH.out.more_f HY.out HLB.out), HB9a⟩
          case measure => have := HK.out; simp [intOf]; omega
      · go_upto_region 7 with fail
        refine wp_region_held_drew (S := fun W => W.cell? ⟨gr, orr + k * 5, none⟩ = some (.string y.nm) ∧ W.cell? ⟨g3, 0, none⟩ = some (.string x.nm)) (by kernel_rfl) (HSQ.out _ (below_drw wr)) (fun hHeld => ?_)
        refine wpAnyH_take (i := 0) (oi := ⟨some 19, .move (.tmp 7), _, _, _, _⟩) (v := .bool true) rfl (by kernel_rfl) (by kernel_rfl) (by kernel_rfl) (fun _ _ _ h => h) (.inl ⟨by rfl, fun w hSw => by go_simp⟩) (by assumption) ?_
        simp only [Act.put, List.setIfInBounds_toArray, List.set_cons_zero, List.set_cons_succ]
        refine wpAnyH_take (i := 1) (oi := ⟨some 20, .unOp .not 4 (.tmp 19), _, _, _, _⟩) (v := .bool false) rfl (by kernel_rfl) (by kernel_rfl) (by kernel_rfl) (fun _ _ _ h => h) (.inl ⟨by rfl, fun w hSw => by go_simp⟩) (by assumption) ?_
        simp only [Act.put, List.setIfInBounds_toArray, List.set_cons_zero, List.set_cons_succ]
        refine wpAnyH_take (i := 2) (oi := ⟨some 21, .move (.tmp 20), _, _, _, _⟩) (v := .bool false) rfl (by kernel_rfl) (by kernel_rfl) (by kernel_rfl) (fun _ _ _ h => h) (.inl ⟨by rfl, fun w hSw => by go_simp⟩) (by assumption) ?_
        simp only [Act.put, List.setIfInBounds_toArray, List.set_cons_zero, List.set_cons_succ]
        refine wpAnyH_take (i := 3) (oi := ⟨some 22, .move (.tmp 5), _, _, _, _⟩) (v := undef) rfl (by kernel_rfl) (by kernel_rfl) (by kernel_rfl) (fun _ _ _ h => h) (.inr ⟨by rfl, rfl⟩) (by assumption) ?_
        simp only [Act.put, List.setIfInBounds_toArray, List.set_cons_zero, List.set_cons_succ]
        refine wpAnyH_take (i := 4) (oi := ⟨some 23, .move (.tmp 8), _, _, _, _⟩) (v := undef) rfl (by kernel_rfl) (by kernel_rfl) (by kernel_rfl) (fun _ _ _ h => h) (.inr ⟨by rfl, rfl⟩) (by assumption) ?_
        simp only [Act.put, List.setIfInBounds_toArray, List.set_cons_zero, List.set_cons_succ]
        refine wpAnyH_take (i := 5) (oi := ⟨some 24, .indexAddr 22 (.tmp 22) (.tmp 23), _, _, _, _⟩) (v := undef) rfl (by kernel_rfl) (by kernel_rfl) (by kernel_rfl) (fun _ _ _ h => h) (.inr ⟨by rfl, rfl⟩) (by assumption) ?_
        simp only [Act.put, List.setIfInBounds_toArray, List.set_cons_zero, List.set_cons_succ]
        refine wpAnyH_take (i := 6) (oi := ⟨some 25, .fieldAddr 42 (.tmp 24) 0, _, _, _, _⟩) (v := undef) rfl (by kernel_rfl) (by kernel_rfl) (by kernel_rfl) (fun _ _ _ h => h) (.inr ⟨by rfl, rfl⟩) (by assumption) ?_
        simp only [Act.put, List.setIfInBounds_toArray, List.set_cons_zero, List.set_cons_succ]
        refine wpAnyH_take (i := 7) (oi := ⟨some 26, .load 9 (.tmp 25), _, _, _, _⟩) (v := undef) rfl (by kernel_rfl) (by kernel_rfl) (by kernel_rfl) (fun _ _ _ h => h) (.inr ⟨by rfl, rfl⟩) (by assumption) ?_
        simp only [Act.put, List.setIfInBounds_toArray, List.set_cons_zero, List.set_cons_succ]
        refine wpAnyH_take (i := 8) (oi := ⟨some 27, .fieldAddr 42 (.tmp 3) 0, _, _, _, _⟩) (v := undef) rfl (by kernel_rfl) (by kernel_rfl) (by kernel_rfl) (fun _ _ _ h => h) (.inr ⟨by rfl, rfl⟩) (by assumption) ?_
        simp only [Act.put, List.setIfInBounds_toArray, List.set_cons_zero, List.set_cons_succ]
        refine wpAnyH_take (i := 9) (oi := ⟨some 28, .load 9 (.tmp 27), _, _, _, _⟩) (v := undef) rfl (by kernel_rfl) (by kernel_rfl) (by kernel_rfl) (fun _ _ _ h => h) (.inr ⟨by rfl, rfl⟩) (by assumption) ?_
        simp only [Act.put, List.setIfInBounds_toArray, List.set_cons_zero, List.set_cons_succ]
        refine wpAnyH_take (i := 10) (oi := ⟨some 29, .call ⟨.value (.func 37), #[.tmp 26, .tmp 28], _⟩, _, _, _, _⟩) (v := undef) rfl (by kernel_rfl) (by kernel_rfl) (by kernel_rfl) (fun _ _ _ h => h) (.inr ⟨by rfl, rfl⟩) (by assumption) ?_
        simp only [Act.put, List.setIfInBounds_toArray, List.set_cons_zero, List.set_cons_succ]
        refine wpAnyH_take (i := 11) (oi := ⟨some 30, .unOp .not 4 (.tmp 29), _, _, _, _⟩) (v := undef) rfl (by kernel_rfl) (by kernel_rfl) (by kernel_rfl) (fun _ _ _ h => h) (.inr ⟨by rfl, rfl⟩) (by assumption) ?_
        simp only [Act.put, List.setIfInBounds_toArray, List.set_cons_zero, List.set_cons_succ]
        refine wpAnyH_take (i := 12) (oi := ⟨some 31, .pick (.tmp 21) (.tmp 30) (.const (.bool false)), _, _, _, _⟩) (v := .bool false) rfl (by kernel_rfl) (by kernel_rfl) (by kernel_rfl) (fun _ _ _ h => h) (.inl ⟨by rfl, fun w hSw => by go_simp⟩) (by assumption) ?_
        simp only [Act.put, List.setIfInBounds_toArray, List.set_cons_zero, List.set_cons_succ]
        refine wpAnyH_done (by kernel_rfl) ?_ _
        have HBX := Lib.hid (below_nxt (below_drw wr) HB.out)
        have HOX := Lib.hid (own_kept HO.out (below_drw wr))
        go_wp2_with (first
          | (refine wpList_load_mid rfl 42 (.tmp 39) rfl gr (orr + k * 5) rfl (ecs y) _ (HRY.out _ HBX.out) Tryd.underlying42 rfl (info_ent y) ?_)
          | (refine step_bs1 rfl 22 42 _ rfl Tryd.underlying22 5 (info_ent y) (by decide) _ zero_ent (ecs y) rfl rfl ?_; intro g8a w8a hr8 hg8 hb8
             have HR8a := Lib.hid hr8
             have HO8a := Lib.hid (own_kept HOX.out hb8)
             have HB8a := Lib.hid (below_nxt hb8 HBX.out)
             clear hr8 hg8 hb8)
          | (at_builtin
             refine wp_join rfl _ _ rfl rec_ent w3.heap.size (.slice A' m c') m ((L).flatMap ecs) rfl HO8a.out (some ⟨g8a, 0, none⟩) 1 1 (ecs y) rfl rfl (.inr ⟨_, rfl, fun j u hu => by rw [Addr.add_lit]; exact HR8a.out.all j u hu⟩) (ecs_one y) (by have := HMB.out; omega) HB8a.out.size ?_
             intro v1 w9a ho1 hg1 hat1
             rw [← flat_snoc] at ho1
             have HO9a := Lib.hid ho1
             obtain ⟨A9a, c9a, rfl⟩ := own_sl ho1
             have HB9a := Lib.hid (HB8a.out.grown hg1 HB8a.out.size (fun z hz => (HO8a.out.lt z hz).1))
             clear ho1 hg1 hat1))
        go_roundw
        case rel => exact ⟨k + 1, m + 1, c9a, A9a, _, L ++ [y], by go_num, rfl, rfl, Lib.hid HK.out, Lib.hid ⟨by rw [List.length_append, HLM.out.1]; rfl, by have := HLM.out.2; omega⟩, HO9a, Lib.hid (HPH.out.more_t HY.out), HB9a⟩
        case measure => have := HK.out; simp [intOf]; omega
    · have hke : k = nr := by have := HKL.out; omega
      have hki : ¬ (k : Int) < (nr : Int) := by omega
      clear hk
      cases pt
      · have HLL := Lib.hid (p := L = R ∧ ∀ q, q < R.length → notAt x.nm R q = false) (by
          rcases HPH.out with ⟨_, h1, h2⟩ | ⟨h, _⟩
          · rw [hke, ← HLN.out, List.take_length] at h2
            exact ⟨h2, fun q hq => h1 q (by have := HLN.out; omega)⟩
          · cases h)
        go_wp2_with (first
          | (refine wpList_load_mid rfl 42 (.tmp 3) rfl g3 0 rfl (ecs x) _ (HRX.out _ HB.out) Tryd.underlying42 rfl (info_ent x) ?_)
          | (refine step_bs1 rfl 22 42 _ rfl Tryd.underlying22 5 (info_ent x) (by decide) _ zero_ent (ecs x) rfl rfl ?_; intro g8b w8b hr8 hg8 hb8
             have HR8b := Lib.hid hr8
             have HO8b := Lib.hid (own_kept HO.out hb8)
             have HB8b := Lib.hid (below_nxt hb8 HB.out)
             clear hr8 hg8 hb8)
          | (at_builtin
             refine wp_join rfl _ _ rfl rec_ent w3.heap.size (.slice A' m c') m ((L).flatMap ecs) rfl HO8b.out (some ⟨g8b, 0, none⟩) 1 1 (ecs x) rfl rfl (.inr ⟨_, rfl, fun j u hu => by rw [Addr.add_lit]; exact HR8b.out.all j u hu⟩) (ecs_one x) (by have := HMB.out; omega) HB8b.out.size ?_
             intro v1 w9b ho1 hg1 hat1
             rw [← flat_snoc] at ho1
             have HO9b := Lib.hid ho1
             obtain ⟨A9b, c9b, rfl⟩ := own_sl ho1
             have HB9b := Lib.hid (HB8b.out.grown hg1 HB8b.out.size (fun z hz => (HO8b.out.lt z hz).1))
             clear ho1 hg1 hat1))
        go_ret
        have e1 : m = R.length := by rw [← HLL.out.1]; exact HLM.out.1.symm
        subst e1
        exact ⟨A9b, c9b, R.length, rfl, by have h1 := own_lower HO9b.out HB3.out.size; rw [HLL.out.1] at h1; rw [List.take_length, List.drop_length]; exact h1, Nat.le_refl _, fun h => by omega, HLL.out.2, below_nxt HB9b.out HB3.out⟩
      · go_wp2
        go_ret
        rcases HPH.out with ⟨h, _⟩ | ⟨_, z, h1, h2, h3, h4, h5⟩
        · cases h
        · rw [hke, ← HLN.out, List.take_length] at h5
          have e1 : m = R.length + 1 := by rw [← HLM.out.1, h5, with_len' (by have := HLN.out; omega)]
          subst e1
          exact ⟨A', c', z, rfl, by rw [← h5]; exact own_lower HO.out HB3.out.size, by have := HLN.out; omega, fun _ => h3, h4, below_nxt HB.out HB3.out⟩
end Go.Proofs.YtijffkklhgnknaaDoor
