/- The program's order of numbers, the slots that there are, and the places above: what each call leaves. Conditions: those named. -/
import Derived.Test.YtpkmbgbglefcfaaPn
import Derived.Test.YtpkmbgbglefcfaaPw
import Derived.Test.YtpkmbgbglefcfaaPc
import Derived.Test.YtpkmbgbglefcfaaShelf
import Derived.Lib.OwnBridge
import Derived.Sort.OwnSortedInts
set_option linter.unusedVariables false
namespace Go.Proofs.Ytpkmbgbglefcfaa
open Go.RowKit Go.Sort

theorem below_grow {B : Nat} {w0 w : World} (h : Below B w0 w) (os : Array Obj) (hb : B ≤ w.heap.size) : Below B w0 (grow w os) :=
  ⟨h.os, h.tape, h.output, by have := h.size; simp; omega, fun k hk => by rw [heap_grow_old w os (by omega)]; exact h.block k hk⟩
theorem own_grow {w : World} {base : Nat} {e : TypeId} {size n : Nat} {v : Value} {xs : List Value} (h : w.ownsRow base e size v n xs) (os : Array Obj) : (grow w os).ownsRow base e size v n xs := by
  refine ⟨h.1, ?_⟩
  rcases h.2 with h0 | ⟨g, cap, cur, h1, h2, h3, h4⟩
  · exact .inl h0
  · exact .inr ⟨g, cap, cur, h1, h2, by rw [heap_grow_old w os (Array.getElem?_eq_some_iff.1 h3).1]; exact h3, h4⟩
/-- What is left of numbers put in order. -/
def OrdPost (W : World) (zs : List Int) (e : Ending) (w' : World) : Prop := ∃ A k c, e = .returned (.slice A k c) ∧ OwnI W.heap.size w' A k c (ordL zs) ∧ Below W.heap.size W w'
/-- Numbers sorted, in a row of the call's own. -/
theorem sort_own {W w : World} {A : Option Addr} {n c : Nat} {zs : List Int} (hown : OwnI W.heap.size w A n c zs) (hb : Below W.heap.size W w) (hz : zs.length ≤ 1000000) :
    Calls Try.prog 29 #[.slice A n c] w fun e w' => e = .returned (.tuple #[]) ∧ OwnI W.heap.size w' A n c (zs.mergeSort fun x y => decide (x ≤ y)) ∧ Below W.heap.size W w' := by
  have hl := hown.len
  by_cases h0 : n = 0
  · obtain rfl : zs = [] := List.eq_nil_of_length_eq_zero (by omega)
    subst h0
    refine (Try.slices_Sort_int_none A c w).mono ?_
    rintro e w' ⟨rfl, rfl⟩
    refine ⟨rfl, ?_, hb⟩
    simpa using hown
  · obtain ⟨g, cap, e0, hg, hgs, hnc, hcm, hzl, hH⟩ := Lib.holds_of_ownsRow (enc := Value.int .i64) (zs := zs) hown (by intro e; simp only [Value.slice.injEq] at e; exact h0 e.2.1)
    simp only [Value.slice.injEq] at e0
    obtain ⟨rfl, _, rfl⟩ := e0
    subst hzl
    refine (Try.slices_Sort_int g 0 c zs w hH hgs (by omega)).mono ?_
    rintro e w' ⟨rfl, q, os, rfl⟩
    refine ⟨rfl, ?_, ?_⟩
    · have h1 := Lib.ownsRow_putRow (q := q) (k := zs.length) (ys := zs.mergeSort fun x y => decide (x ≤ y)) (zs := zs) (enc := Value.int .i64) hown (by rw [List.length_mergeSort]) (Nat.le_refl _)
      rw [List.take_of_length_le (by rw [List.length_mergeSort]; exact Nat.le_refl _)] at h1
      exact own_grow h1 os
    · exact below_grow (Lib.below_putRow hb hg) os (by have := hb.size; simpa [putRow, mapBlock, Sort.ahead] using this)
/-- Runs cut to one, in a row of the call's own. -/
theorem compact_own {W w : World} {A : Option Addr} {n c : Nat} {zs : List Int} (hown : OwnI W.heap.size w A n c zs) (hb : Below W.heap.size W w) :
    Calls Try.prog 30 #[.slice A n c] w fun e w' => ∃ k, e = .returned (.slice A k c) ∧ OwnI W.heap.size w' A k c (Lib.compact zs) ∧ Below W.heap.size W w' := by
  have hl := hown.len
  by_cases h0 : n = 0
  · obtain rfl : zs = [] := List.eq_nil_of_length_eq_zero (by omega)
    subst h0
    refine (Try.slices_Compact_int_empty A c w).mono ?_
    rintro e w' ⟨rfl, rfl⟩
    refine ⟨0, rfl, ?_, hb⟩
    exact hown
  · obtain ⟨g, cap, e0, hg, hgs, hnc, hcm, hzl, hH⟩ := Lib.holds_of_ownsRow (enc := Value.int .i64) (zs := zs) hown (by intro e; simp only [Value.slice.injEq] at e; exact h0 e.2.1)
    simp only [Value.slice.injEq] at e0
    obtain ⟨rfl, _, rfl⟩ := e0
    subst hzl
    refine (Try.slices_Compact_int g 0 c zs w hH (by unfold maxLen at hcm; omega) hnc).mono ?_
    rintro e w' ⟨rfl, q, rfl⟩
    refine ⟨_, rfl, ?_, Lib.below_putRow hb hg⟩
    have hk := compact_len zs
    have h1 := Lib.ownsRow_putRow (q := q) (k := (Lib.compact zs).length) (ys := Lib.compact zs ++ List.replicate (zs.length - (Lib.compact zs).length) 0) (zs := zs) (enc := Value.int .i64) hown (by simp; omega) hk
    rw [List.take_append_of_le_length (Nat.le_refl _), List.take_length] at h1
    exact h1
theorem ordered_any {W w : World} {A : Option Addr} {n c : Nat} {zs : List Int} (hown : OwnI W.heap.size w A n c zs) (hb : Below W.heap.size W w) (hz : zs.length ≤ 1000000) :
    Calls Try.prog 28 #[.slice A n c] w (OrdPost W zs) := by
  have HO := Lib.hid hown
  have HB := Lib.hid hb
  have HZ := Lib.hid hz
  clear hown hb hz
  go_enter Try.func28, Try.ntmps28
  go_wp2_with (first
    | (go_at_call 29; refine (sort_own HO.out HB.out HZ.out).mono ?_; rintro e w1 ⟨rfl, hO1, hB1⟩
       have HO1 := Lib.hid hO1
       have HB1 := Lib.hid hB1
       clear hO1 hB1)
    | (go_at_call 30; refine (compact_own HO1.out HB1.out).mono ?_; rintro e w2 ⟨k, rfl, hO2, hB2⟩
       have HO2 := Lib.hid hO2
       have HB2 := Lib.hid hB2
       clear hO2 hB2))
  go_ret
  exact ⟨A, k, c, rfl, HO2.out, HB2.out⟩

/-- What is left of the slots that there are. -/
def TherePost (W : World) (zs : List Int) (e : Ending) (w' : World) : Prop := ∃ A k c, e = .returned (.slice A k c) ∧ OwnI W.heap.size w' A k c zs ∧ Below W.heap.size W w'
set_option maxHeartbeats 400000 in
theorem there_any (d : Int) (A : Option Addr) (c : Nat) (zs : List Int) (w : World) (hA : HolI w A zs) (hz : zs.length ≤ 1000000) :
    Calls Try.prog 25 #[.int .i64 d, .slice A zs.length c] w (TherePost w (thr (sl d) zs)) := by
  have HA := Lib.hid hA
  clear hA
  go_enter Try.func25, Try.ntmps25
  go_wp2
  go_loopw [5, 10] (fun v i wr => ∃ k : Nat, k ≤ zs.length ∧ i = .int .i64 k ∧ ∃ B m b, v = .slice B m b ∧ Hid (OwnI w.heap.size wr B m b (thr (sl d) (zs.take k))) ∧ Hid (Below w.heap.size w wr)) (fun _ i _ => zs.length - (intOf i).toNat)
  case atStart => exact ⟨0, Nat.zero_le _, rfl, none, 0, 0, rfl, Lib.hid (OwnI.nil _ _), Lib.hid (Below.refl _ _)⟩
  case round =>
    obtain ⟨k, hk, rfl, B, m, b, rfl, HO, HB⟩ := hrel
    by_cases hlt : k < zs.length
    · obtain ⟨g, o, rfl, hgs, hc⟩ := (HA.out.below HB.out).at_ hlt
      obtain ⟨x, hx⟩ : ∃ x, zs[k] = x := ⟨_, rfl⟩
      rw [hx] at hc
      have hts := List.take_succ_eq_append_getElem hlt
      rw [hx] at hts
      have HM := Lib.hid (p := m ≤ 1000000) (by have h1 := HO.out.len; have h2 : (thr (sl d) (zs.take k)).length ≤ (zs.take k).length := List.length_filter_le _ _; have h3 := List.length_take_le k zs; omega)
      by_cases hT : (decide (0 ≤ x) && decide (x < (sl d : Int))) = true
      · have HT := Lib.hid hT
        have HN : Hid (thr (sl d) (zs.take (k + 1)) = thr (sl d) (zs.take k) ++ [x]) := Lib.hid (by unfold thr; rw [hts, List.filter_append]; congr 1; simpa using hT)
        clear hx hts hT
        go_wp2_with (first
          | (go_at_call 24; refine (has_any _ _ _).mono ?_; rintro e w' ⟨rfl, rfl⟩; rw [HT.out])
          | (at_builtin; refine wp_join rfl _ _ rfl rec_int w.heap.size (.slice B m b) m (ic (thr (sl d) (zs.take k))) rfl (HO.out.alloc _) (some ⟨wr.heap.size, 0, none⟩) 1 1 [.int .i64 x] rfl rfl (made_src wr [.int .i64 x] _) (by intro u hu; simp at hu; subst hu; rfl) (by have := HM.out; omega) (Nat.le_trans HB.out.size (below_al wr _).size) ?_
             intro v5 w2 hr2 hg2 hat2
             obtain ⟨A5, c5, rfl, hO5, hB5⟩ := int_more HB.out HO.out hr2 hg2
             have HO5 := Lib.hid hO5
             have HB5 := Lib.hid hB5
             clear hr2 hg2 hat2 hO5 hB5))
        go_roundw
        case rel => exact ⟨k + 1, by omega, by go_num, A5, m + 1, c5, rfl, by rw [HN.out]; exact HO5, HB5⟩
        case measure => simp [intOf]; omega
      · have HT := Lib.hid (show (decide (0 ≤ x) && decide (x < (sl d : Int))) = false by simpa using hT)
        have HN : Hid (thr (sl d) (zs.take (k + 1)) = thr (sl d) (zs.take k)) := Lib.hid (by
          unfold thr
          rw [hts, List.filter_append]
          have h9 := HT.out
          simp [h9])
        clear hx hts hT
        go_wp2_with (first
          | (go_at_call 24; refine (has_any _ _ _).mono ?_; rintro e w' ⟨rfl, rfl⟩; rw [HT.out]))
        go_roundw
        case rel => exact ⟨k + 1, by omega, by go_num, B, m, b, rfl, by rw [HN.out]; exact HO, HB⟩
        case measure => simp [intOf]; omega
    · obtain rfl : k = zs.length := by omega
      rw [List.take_length] at HO
      go_wp2
      go_ret
      exact ⟨B, m, b, rfl, HO.out, HB.out⟩
theorem row_ownI0 {w : World} {b g n : Nat} (h : Row w g 3 (half [] n)) (hb : b ≤ g) (hn : n ≤ maxLen) : OwnI b w (some ⟨g, 0, none⟩) 0 n [] :=
  ⟨by simp [ic], .inr ⟨g, n, (half [] n).toArray, rfl, hb, h, Nat.zero_le _, hn, by simp [half_nil], by simp [ic]⟩⟩
set_option maxHeartbeats 400000 in
theorem up_any (A : Option Addr) (c : Nat) (zs : List Int) (w : World) (hA : HolI w A zs) (hz : zs.length ≤ 1000000) (hp : ∀ z ∈ zs, 0 ≤ z ∧ z ≤ 1000000) :
    Calls Try.prog 26 #[.slice A zs.length c] w (OrdPost w (zs.map (· / 4))) := by
  have HA := Lib.hid hA
  have HP := Lib.hid hp
  clear hA hp
  go_enter Try.func26, Try.ntmps26
  go_wp2_with (first
    | (refine step_make_ints rfl _ _ rfl zs.length 0 rfl rfl (Nat.zero_le _) (by omega) ?_; intro g w3 hr3 hg3 hb3 hs3))
  have HB3 := Lib.hid hb3
  have HO3 := Lib.hid (row_ownI0 (b := w.heap.size) hr3 (by rw [hg3.out]; exact Nat.le_refl _) (by unfold maxLen; omega))
  clear hr3 hg3 hb3 hs3
  go_loopw [3, 11] (fun v i wr => ∃ k : Nat, k ≤ zs.length ∧ i = .int .i64 k ∧ ∃ B m b, v = .slice B m b ∧ Hid (OwnI w.heap.size wr B m b ((zs.take k).map (· / 4))) ∧ Hid (Below w.heap.size w wr)) (fun _ i _ => zs.length - (intOf i).toNat)
  case atStart => exact ⟨0, Nat.zero_le _, rfl, _, 0, _, rfl, HO3, HB3⟩
  case round =>
    clear HO3 HB3
    obtain ⟨k, hk, rfl, B, m, b, rfl, HO, HB⟩ := hrel
    by_cases hlt : k < zs.length
    · obtain ⟨g, o, rfl, hgs, hc⟩ := (HA.out.below HB.out).at_ hlt
      obtain ⟨x, hx⟩ : ∃ x, zs[k] = x := ⟨_, rfl⟩
      have hx0 := (HP.out zs[k] (List.getElem_mem hlt)).1
      have hx1 := (HP.out zs[k] (List.getElem_mem hlt)).2
      rw [hx] at hc hx0 hx1
      have hts := List.take_succ_eq_append_getElem hlt
      rw [hx] at hts
      have HM := Lib.hid (p := m ≤ 1000000) (by have h1 := HO.out.len; rw [List.length_map] at h1; have h3 := List.length_take_le k zs; omega)
      have HN : Hid ((zs.take (k + 1)).map (· / 4) = (zs.take k).map (· / 4) ++ [x / 4]) := Lib.hid (by rw [hts, List.map_append]; rfl)
      clear hx hts
      go_wp2_with (first
        | (at_builtin; refine wp_join rfl _ _ rfl rec_int w.heap.size (.slice B m b) m (ic ((zs.take k).map (· / 4))) rfl (HO.out.alloc _) (some ⟨wr.heap.size, 0, none⟩) 1 1 [.int .i64 (x / 4)] rfl rfl (made_src wr [.int .i64 (x / 4)] _) (by intro u hu; simp at hu; subst hu; rfl) (by have := HM.out; omega) (Nat.le_trans HB.out.size (below_al wr _).size) ?_
           intro v5 w2 hr2 hg2 hat2
           obtain ⟨A5, c5, rfl, hO5, hB5⟩ := int_more HB.out HO.out hr2 hg2
           have HO5 := Lib.hid hO5
           have HB5 := Lib.hid hB5
           clear hr2 hg2 hat2 hO5 hB5))
      go_roundw
      case rel => exact ⟨k + 1, by omega, by go_num, A5, m + 1, c5, rfl, by rw [HN.out]; exact HO5, HB5⟩
      case measure => simp [intOf]; omega
    · obtain rfl : k = zs.length := by omega
      rw [List.take_length] at HO
      go_wp2_with (first
        | (go_at_call 28; refine (ordered_any HO.out HB.out (by rw [List.length_map]; exact hz)).mono ?_; rintro e w2 ⟨B2, k2, c2, rfl, hO2, hB2⟩
           have HO2 := Lib.hid hO2
           have HB2 := Lib.hid hB2
           clear hO2 hB2))
      go_ret
      exact ⟨B2, k2, c2, rfl, HO2.out, HB2.out⟩
end Go.Proofs.Ytpkmbgbglefcfaa
