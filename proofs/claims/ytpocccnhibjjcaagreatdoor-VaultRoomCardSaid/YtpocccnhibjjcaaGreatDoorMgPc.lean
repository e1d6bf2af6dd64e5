/- Plain facts: numbers in order, each once; the nodes above slots. No program is in sight here, and no conditions. -/
import Derived.Test.YtpocccnhibjjcaaGreatDoorMgPm
import Derived.Lib.SlicesCompact
import Derived.Test.YtpocccnhibjjcaaGreatDoorShelf
import Derived.Lib.OwnBridge
import Derived.Sort.OwnSortedInts
import Derived.Test.YtpocccnhibjjcaaGreatDoorMgDisk
import Derived.Test.YtpocccnhibjjcaaGreatDoorIter
set_option linter.unusedVariables false
namespace Go.Proofs.YtpocccnhibjjcaaGreatDoor.P7

def ordL (zs : List Int) : List Int := Lib.compact (zs.mergeSort fun x y => decide (x ≤ y))
theorem comp_inv (d : Array Int) (hs : ∀ j, j + 1 < d.size → d[j]! ≤ d[j + 1]!) : ∀ m, m ≤ d.size →
    (Lib.compactUpTo d m).Pairwise (· < ·) ∧ (∀ x ∈ Lib.compactUpTo d m, 0 < m ∧ x ≤ d[m - 1]!) ∧ (∀ x, x ∈ Lib.compactUpTo d m ↔ ∃ j, j < m ∧ d[j]! = x)
  | 0, _ => by simp [Lib.compactUpTo]
  | m + 1, hm => by
    obtain ⟨h1, h2, h3⟩ := comp_inv d hs m (by omega)
    rw [Lib.compactUpTo_succ]
    by_cases hk : Lib.keeps d m = true
    · rw [if_pos hk]
      have hlt : ∀ x ∈ Lib.compactUpTo d m, x < d[m]! := by
        intro x hx
        obtain ⟨h0, hle⟩ := h2 x hx
        have hk' : d[m]! ≠ d[m - 1]! := by
          unfold Lib.keeps at hk
          have := of_decide_eq_true hk
          rcases this with h | h
          · omega
          · exact h
        have := hs (m - 1) (by omega)
        rw [show m - 1 + 1 = m by omega] at this
        omega
      refine ⟨List.pairwise_append.2 ⟨h1, by simp, fun x hx y hy => by simp at hy; rw [hy]; exact hlt x hx⟩, ?_, ?_⟩
      · intro x hx
        refine ⟨by omega, ?_⟩
        rw [Nat.add_sub_cancel]
        rcases List.mem_append.1 hx with h | h
        · have := hlt x h
          omega
        · simp at h
          rw [h]
          exact Int.le_refl _
      · intro x
        rw [List.mem_append, h3]
        constructor
        · rintro (⟨j, hj, e⟩ | h)
          · exact ⟨j, by omega, e⟩
          · simp at h
            exact ⟨m, by omega, h.symm⟩
        · rintro ⟨j, hj, e⟩
          by_cases hjm : j = m
          · right
            subst hjm
            simp [e]
          · exact .inl ⟨j, by omega, e⟩
    · rw [if_neg hk, List.append_nil]
      have hk' : m ≠ 0 ∧ d[m]! = d[m - 1]! := by
        unfold Lib.keeps at hk
        simp only [decide_eq_true_eq, not_or, Decidable.not_not, ne_eq] at hk
        exact hk
      refine ⟨h1, ?_, ?_⟩
      · intro x hx
        obtain ⟨h0, hle⟩ := h2 x hx
        refine ⟨by omega, ?_⟩
        rw [Nat.add_sub_cancel, hk'.2]
        exact hle
      · intro x
        rw [h3]
        constructor
        · rintro ⟨j, hj, e⟩
          exact ⟨j, by omega, e⟩
        · rintro ⟨j, hj, e⟩
          by_cases hjm : j = m
          · subst hjm
            exact ⟨j - 1, by omega, by rw [← hk'.2]; exact e⟩
          · exact ⟨j, by omega, e⟩
theorem sort_steps (zs : List Int) : ∀ j, j + 1 < (zs.mergeSort fun x y => decide (x ≤ y)).toArray.size → (zs.mergeSort fun x y => decide (x ≤ y)).toArray[j]! ≤ (zs.mergeSort fun x y => decide (x ≤ y)).toArray[j + 1]! := by
  intro j hj
  have hp := List.pairwise_mergeSort (le := fun x y : Int => decide (x ≤ y)) (fun a b c h1 h2 => by simp at *; omega) (fun a b => by simp; omega) zs
  generalize (zs.mergeSort fun x y => decide (x ≤ y)) = l at *
  have hj' : j + 1 < l.length := by simpa using hj
  have := List.pairwise_iff_getElem.1 hp j (j + 1) (by omega) hj' (by omega)
  rw [getElem!_pos _ _ (by simpa using (by omega : j < l.length)), getElem!_pos _ _ (by simpa using hj')]
  simpa using this
theorem ordL_lt (zs : List Int) : (ordL zs).Pairwise (· < ·) := by
  have h := (comp_inv _ (sort_steps zs) _ (Nat.le_refl _)).1
  unfold ordL Lib.compact
  simpa using h
theorem mem_ordL {zs : List Int} {x : Int} : x ∈ ordL zs ↔ x ∈ zs := by
  have h := (comp_inv _ (sort_steps zs) _ (Nat.le_refl _)).2.2 x
  have e : x ∈ ordL zs ↔ x ∈ Lib.compactUpTo (zs.mergeSort fun x y => decide (x ≤ y)).toArray (zs.mergeSort fun x y => decide (x ≤ y)).toArray.size := by
    unfold ordL Lib.compact
    simp
  rw [e, h, ← List.mem_mergeSort (le := fun x y : Int => decide (x ≤ y))]
  generalize (zs.mergeSort fun x y => decide (x ≤ y)) = l
  constructor
  · rintro ⟨j, hj, rfl⟩
    have hj' : j < l.length := by simpa using hj
    rw [getElem!_pos l.toArray j hj]
    simp
  · intro hx
    obtain ⟨j, hj, rfl⟩ := List.getElem_of_mem hx
    exact ⟨j, by simpa using hj, by rw [getElem!_pos l.toArray j (by simpa using hj)]; simp⟩
theorem compact_len (zs : List Int) : (Lib.compact zs).length ≤ zs.length := by
  unfold Lib.compact Lib.compactUpTo
  rw [List.length_map]
  exact Nat.le_trans (List.length_filter_le _ _) (by simp)
theorem ordL_len (zs : List Int) : (ordL zs).length ≤ zs.length := by
  have := compact_len (zs.mergeSort fun x y => decide (x ≤ y))
  rw [List.length_mergeSort] at this
  exact this
theorem lt_ext : ∀ {a b : List Int}, a.Pairwise (· < ·) → b.Pairwise (· < ·) → (∀ x, x ∈ a ↔ x ∈ b) → a = b
  | [], [], _, _, _ => rfl
  | [], y :: b, _, _, h => by have := (h y).2 (by simp); simp at this
  | x :: a, [], _, _, h => by have := (h x).1 (by simp); simp at this
  | x :: a, y :: b, ha, hb, h => by
    obtain ⟨ha1, ha2⟩ := List.pairwise_cons.1 ha
    obtain ⟨hb1, hb2⟩ := List.pairwise_cons.1 hb
    have hxy : x = y := by
      have h1 := (h x).1 (by simp)
      have h2 := (h y).2 (by simp)
      rcases List.mem_cons.1 h1 with e | h1
      · exact e
      · rcases List.mem_cons.1 h2 with e | h2
        · exact e.symm
        · have := hb1 x h1
          have := ha1 y h2
          omega
    subst hxy
    rw [lt_ext ha2 hb2]
    intro z
    constructor
    · intro hz
      have := ha1 z hz
      rcases List.mem_cons.1 ((h z).1 (by simp [hz])) with e | e
      · omega
      · exact e
    · intro hz
      have := hb1 z hz
      rcases List.mem_cons.1 ((h z).2 (by simp [hz])) with e | e
      · omega
      · exact e

def thr (S : Nat) (zs : List Int) : List Int := zs.filter fun z => decide (0 ≤ z) && decide (z < (S : Int))
theorem mem_thr {S : Nat} {zs : List Int} {z : Int} : z ∈ thr S zs ↔ z ∈ zs ∧ 0 ≤ z ∧ z < S := by simp [thr]
def pl (S : Nat) (zs : List Int) : Nat → List Int
  | 0 => thr S zs
  | k + 1 => ordL ((pl S zs k).map (· / 4))
theorem pl_len (S : Nat) (zs : List Int) : ∀ k, (pl S zs k).length ≤ zs.length
  | 0 => List.length_filter_le _ _
  | k + 1 => Nat.le_trans (ordL_len _) (by rw [List.length_map]; exact pl_len S zs k)
theorem mem_pl {S : Nat} {zs : List Int} {x : Int} : ∀ k, x ∈ pl S zs k ↔ ∃ z, z ∈ zs ∧ 0 ≤ z ∧ z < S ∧ z / (pw k : Int) = x
  | 0 => by
    rw [show pl S zs 0 = thr S zs from rfl, mem_thr]
    constructor
    · rintro ⟨h1, h2, h3⟩
      exact ⟨x, h1, h2, h3, by rw [pw_zero]; simp⟩
    · rintro ⟨z, h1, h2, h3, h4⟩
      rw [pw_zero] at h4
      simp at h4
      subst h4
      exact ⟨h1, h2, h3⟩
  | k + 1 => by
    rw [show pl S zs (k + 1) = ordL ((pl S zs k).map (· / 4)) from rfl, mem_ordL, List.mem_map]
    constructor
    · rintro ⟨y, hy, rfl⟩
      obtain ⟨z, h1, h2, h3, rfl⟩ := (mem_pl k).1 hy
      refine ⟨z, h1, h2, h3, ?_⟩
      rw [pw_succ, Int.natCast_mul, ← Int.ediv_ediv_of_nonneg (by omega)]
      rfl
    · rintro ⟨z, h1, h2, h3, rfl⟩
      refine ⟨z / (pw k : Int), (mem_pl k).2 ⟨z, h1, h2, h3, rfl⟩, ?_⟩
      rw [pw_succ, Int.natCast_mul, ← Int.ediv_ediv_of_nonneg (by omega)]
      rfl
theorem pl_pos {S : Nat} {zs : List Int} {k : Nat} {x : Int} (h : x ∈ pl S zs k) : 0 ≤ x ∧ x < S := by
  obtain ⟨z, _, h2, h3, rfl⟩ := (mem_pl k).1 h
  have h1 : (0 : Int) ≤ (pw k : Int) := by omega
  exact ⟨Int.ediv_nonneg h2 h1, Int.lt_of_le_of_lt (Int.ediv_le_self _ h2) h3⟩
theorem pl_lt (S : Nat) (zs : List Int) (k : Nat) : (pl S zs (k + 1)).Pairwise (· < ·) := ordL_lt _
def abv (n : Nat) (zs : List Int) (r : Nat) : List (Int × Int) := (List.range r).flatMap fun p => (pl (pw n) zs (p + 1)).map fun i => (((n - 1 - p : Nat) : Int), i)
theorem abv_zero (n : Nat) (zs : List Int) : abv n zs 0 = [] := rfl
theorem abv_succ (n : Nat) (zs : List Int) (r : Nat) : abv n zs (r + 1) = abv n zs r ++ (pl (pw n) zs (r + 1)).map fun i => (((n - 1 - r : Nat) : Int), i) := by
  unfold abv
  rw [List.range_succ, List.flatMap_append]
  simp
theorem abv_len (n : Nat) (zs : List Int) : ∀ r, (abv n zs r).length ≤ r * zs.length
  | 0 => by simp [abv_zero]
  | r + 1 => by
    rw [abv_succ, List.length_append, List.length_map, Nat.add_mul, Nat.one_mul]
    exact Nat.add_le_add (abv_len n zs r) (pl_len _ _ _)

end Go.Proofs.YtpocccnhibjjcaaGreatDoor.P7
/- The program's order of numbers, the slots that there are, and the places above: what each call leaves. Conditions: those named. -/
set_option linter.unusedVariables false
namespace Go.Proofs.YtpocccnhibjjcaaGreatDoor.P7
open Go.RowKit Go.Sort

theorem below_grow {B : Nat} {w0 w : World} (h : Below B w0 w) (os : Array Obj) (hb : B ≤ w.heap.size) : Below B w0 (grow w os) :=
  ⟨h.os, h.tape, h.output, by have := h.size; simp; omega, fun k hk => by rw [heap_grow_old w os (by omega)]; exact h.block k hk⟩
theorem own_grow {w : World} {base : Nat} {e : TypeId} {size n : Nat} {v : Value} {xs : List Value} (h : w.ownsRow base e size v n xs) (os : Array Obj) : (grow w os).ownsRow base e size v n xs := by
  refine ⟨h.1, ?_⟩
  rcases h.2 with h0 | ⟨g, cap, cur, h1, h2, h3, h4⟩
  · exact .inl h0
  · exact .inr ⟨g, cap, cur, h1, h2, by rw [heap_grow_old w os (Array.getElem?_eq_some_iff.1 h3).1]; exact h3, h4⟩
def OrdPost (W : World) (zs : List Int) (e : Ending) (w' : World) : Prop := ∃ A k c, e = .returned (.slice A k c) ∧ OwnI W.heap.size w' A k c (ordL zs) ∧ Below W.heap.size W w'
theorem sort_own {W w : World} {A : Option Addr} {n c : Nat} {zs : List Int} (hown : OwnI W.heap.size w A n c zs) (hb : Below W.heap.size W w) (hz : zs.length ≤ 1000000) :
    Calls Tryz.prog 81 #[.slice A n c] w fun e w' => e = .returned (.tuple #[]) ∧ OwnI W.heap.size w' A n c (zs.mergeSort fun x y => decide (x ≤ y)) ∧ Below W.heap.size W w' := by
  have hl := hown.len
  by_cases h0 : n = 0
  · obtain rfl : zs = [] := List.eq_nil_of_length_eq_zero (by omega)
    subst h0
    refine (Tryz.slices_Sort_int_none A c w).mono ?_
    rintro e w' ⟨rfl, rfl⟩
    refine ⟨rfl, ?_, hb⟩
    simpa using hown
  · obtain ⟨g, cap, e0, hg, hgs, hnc, hcm, hzl, hH⟩ := Lib.holds_of_ownsRow (enc := Value.int .i64) (zs := zs) hown (by intro e; simp only [Value.slice.injEq] at e; exact h0 e.2.1)
    simp only [Value.slice.injEq] at e0
    obtain ⟨rfl, _, rfl⟩ := e0
    subst hzl
    refine (Tryz.slices_Sort_int g 0 c zs w hH hgs (by omega)).mono ?_
    rintro e w' ⟨rfl, q, os, rfl⟩
    refine ⟨rfl, ?_, ?_⟩
    · have h1 := Lib.ownsRow_putRow (q := q) (k := zs.length) (ys := zs.mergeSort fun x y => decide (x ≤ y)) (zs := zs) (enc := Value.int .i64) hown (by rw [List.length_mergeSort]) (Nat.le_refl _)
      rw [List.take_of_length_le (by rw [List.length_mergeSort]; exact Nat.le_refl _)] at h1
      exact own_grow h1 os
    · exact below_grow (Lib.below_putRow hb hg) os (by have := hb.size; simpa [putRow, mapBlock, Sort.ahead] using this)
theorem compact_own {W w : World} {A : Option Addr} {n c : Nat} {zs : List Int} (hown : OwnI W.heap.size w A n c zs) (hb : Below W.heap.size W w) :
    Calls Tryz.prog 140 #[.slice A n c] w fun e w' => ∃ k, e = .returned (.slice A k c) ∧ OwnI W.heap.size w' A k c (Lib.compact zs) ∧ Below W.heap.size W w' := by
  have hl := hown.len
  by_cases h0 : n = 0
  · obtain rfl : zs = [] := List.eq_nil_of_length_eq_zero (by omega)
    subst h0
    refine (Tryz.slices_Compact_int_empty A c w).mono ?_
    rintro e w' ⟨rfl, rfl⟩
    refine ⟨0, rfl, ?_, hb⟩
    exact hown
  · obtain ⟨g, cap, e0, hg, hgs, hnc, hcm, hzl, hH⟩ := Lib.holds_of_ownsRow (enc := Value.int .i64) (zs := zs) hown (by intro e; simp only [Value.slice.injEq] at e; exact h0 e.2.1)
    simp only [Value.slice.injEq] at e0
    obtain ⟨rfl, _, rfl⟩ := e0
    subst hzl
    refine (Tryz.slices_Compact_int g 0 c zs w hH (by unfold maxLen at hcm; omega) hnc).mono ?_
    rintro e w' ⟨rfl, q, rfl⟩
    refine ⟨_, rfl, ?_, Lib.below_putRow hb hg⟩
    have hk := compact_len zs
    have h1 := Lib.ownsRow_putRow (q := q) (k := (Lib.compact zs).length) (ys := Lib.compact zs ++ List.replicate (zs.length - (Lib.compact zs).length) 0) (zs := zs) (enc := Value.int .i64) hown (by simp; omega) hk
    rw [List.take_append_of_le_length (Nat.le_refl _), List.take_length] at h1
    exact h1
theorem ordered_any {W w : World} {A : Option Addr} {n c : Nat} {zs : List Int} (hown : OwnI W.heap.size w A n c zs) (hb : Below W.heap.size W w) (hz : zs.length ≤ 1000000) :
    Calls Tryz.prog 109 #[.slice A n c] w (OrdPost W zs) := by
  have HO := Lib.hid hown
  have HB := Lib.hid hb
  have HZ := Lib.hid hz
  clear hown hb hz
  go_enter Tryz.func109, Tryz.ntmps109
  go_wp2_with (first
    | (go_at_call 81; refine (sort_own HO.out HB.out HZ.out).mono ?_; rintro e w1 ⟨rfl, hO1, hB1⟩
       have HO1 := Lib.hid hO1
       have HB1 := Lib.hid hB1
       clear hO1 hB1)
    | (go_at_call 140; refine (compact_own HO1.out HB1.out).mono ?_; rintro e w2 ⟨k, rfl, hO2, hB2⟩
       have HO2 := Lib.hid hO2
       have HB2 := Lib.hid hB2
       clear hO2 hB2))
  go_ret
  exact ⟨A, k, c, rfl, HO2.out, HB2.out⟩

def TherePost (W : World) (zs : List Int) (e : Ending) (w' : World) : Prop := ∃ A k c, e = .returned (.slice A k c) ∧ OwnI W.heap.size w' A k c zs ∧ Below W.heap.size W w'
set_option maxHeartbeats 400000 in
theorem there_any (d : Int) (A : Option Addr) (c : Nat) (zs : List Int) (w : World) (hA : HolI w A zs) (hz : zs.length ≤ 1000000) :
    Calls Tryz.prog 83 #[.int .i64 d, .slice A zs.length c] w (TherePost w (thr (sl d) zs)) := by
  have HA := Lib.hid hA
  clear hA
  go_enter Tryz.func83, Tryz.ntmps83
  go_wp2
  go_loopw [5, 10] (fun v i wr => ∃ k : Nat, k ≤ zs.length ∧ i = .int .i64 k ∧ ∃ B m b, v = .slice B m b ∧ Hid (OwnI w.heap.size wr B m b (thr (sl d) (zs.take k))) ∧ Hid (Below w.heap.size w wr)) (fun _ i _ => zs.length - (intOf i).toNat)
  case atStart => exact ⟨0, Nat.zero_le _, rfl, none, 0, 0, rfl, Lib.hid (OwnI.nil _ _), Lib.hid (Below.refl _ _)⟩
  case round =>
    obtain ⟨k, hk, rfl, B, m, b, rfl, HO, HB⟩ := hrel
    by_cases hlt : k < zs.length
    · obtain ⟨g, o, rfl, hgs, hc⟩ := (HA.out.below HB.out).at_ hlt
      obtain ⟨x, hx⟩ : ∃ x, zs[k] = x := ⟨_, rfl⟩
      rw [hx] at hc
      have hts := List.take_succ_eq_append_getElem hlt
      rw [hx] at hts
      have HM := Lib.hid (p := m ≤ 1000000) (by have h1 := HO.out.len; have h2 : (thr (sl d) (zs.take k)).length ≤ (zs.take k).length := List.length_filter_le _ _; have h3 := List.length_take_le k zs; omega)
      by_cases hT : (decide (0 ≤ x) && decide (x < (sl d : Int))) = true
      · have HT := Lib.hid hT
        have HN : Hid (thr (sl d) (zs.take (k + 1)) = thr (sl d) (zs.take k) ++ [x]) := Lib.hid (by unfold thr; rw [hts, List.filter_append]; congr 1; simpa using hT)
        clear hx hts hT
        go_wp2_with (first
          | (go_at_call 108; refine (has_any _ _ _).mono ?_; rintro e w' ⟨rfl, rfl⟩; rw [HT.out])
          | (at_builtin; refine wp_join rfl _ _ rfl rec_int w.heap.size (.slice B m b) m (ic (thr (sl d) (zs.take k))) rfl (HO.out.alloc _) (some ⟨wr.heap.size, 0, none⟩) 1 1 [.int .i64 x] rfl rfl (made_src wr [.int .i64 x] _) (by intro u hu; simp at hu; subst hu; rfl) (by have := HM.out; omega) (Nat.le_trans HB.out.size (below_al wr _).size) ?_
             intro v5 w2 hr2 hg2 hat2
             obtain ⟨A5, c5, rfl, hO5, hB5⟩ := int_more HB.out HO.out hr2 hg2
             have HO5 := Lib.hid hO5
             have HB5 := Lib.hid hB5
             clear hr2 hg2 hat2 hO5 hB5))
        go_roundw
        case rel => exact ⟨k + 1, by omega, by go_num, A5, m + 1, c5, rfl, by rw [HN.out]; exact HO5, HB5⟩
        case measure => simp [intOf]; omega
      · have HT := Lib.hid (show (decide (0 ≤ x) && decide (x < (sl d : Int))) = false by simpa using hT)
        have HN : Hid (thr (sl d) (zs.take (k + 1)) = thr (sl d) (zs.take k)) := Lib.hid (by
          unfold thr
          rw [hts, List.filter_append]
          have h9 := HT.out
          simp [h9])
        clear hx hts hT
        go_wp2_with (first
          | (go_at_call 108; refine (has_any _ _ _).mono ?_; rintro e w' ⟨rfl, rfl⟩; rw [HT.out]))
        go_roundw
        case rel => exact ⟨k + 1, by omega, by go_num, B, m, b, rfl, by rw [HN.out]; exact HO, HB⟩
        case measure => simp [intOf]; omega
    · obtain rfl : k = zs.length := by omega
      rw [List.take_length] at HO
      go_wp2
      go_ret
      exact ⟨B, m, b, rfl, HO.out, HB.out⟩
theorem row_ownI0 {w : World} {b g n : Nat} (h : Row w g 3 (half [] n)) (hb : b ≤ g) (hn : n ≤ maxLen) : OwnI b w (some ⟨g, 0, none⟩) 0 n [] :=
  ⟨by simp [ic], .inr ⟨g, n, (half [] n).toArray, rfl, hb, h, Nat.zero_le _, hn, by simp [half_nil], by simp [ic]⟩⟩
set_option maxHeartbeats 400000 in
theorem up_any (A : Option Addr) (c : Nat) (zs : List Int) (w : World) (hA : HolI w A zs) (hz : zs.length ≤ 1000000) (hp : ∀ z ∈ zs, 0 ≤ z ∧ z ≤ 1000000) :
    Calls Tryz.prog 84 #[.slice A zs.length c] w (OrdPost w (zs.map (· / 4))) := by
  have HA := Lib.hid hA
  have HP := Lib.hid hp
  clear hA hp
  go_enter Tryz.func84, Tryz.ntmps84
  go_wp2_with (first
    | (refine step_make_ints rfl _ _ rfl zs.length 0 rfl rfl (Nat.zero_le _) (by omega) ?_; intro g w3 hr3 hg3 hb3 hs3))
  have HB3 := Lib.hid hb3
  have HO3 := Lib.hid (row_ownI0 (b := w.heap.size) hr3 (by rw [hg3.out]; exact Nat.le_refl _) (by unfold maxLen; omega))
  clear hr3 hg3 hb3 hs3
  go_loopw [3, 11] (fun v i wr => ∃ k : Nat, k ≤ zs.length ∧ i = .int .i64 k ∧ ∃ B m b, v = .slice B m b ∧ Hid (OwnI w.heap.size wr B m b ((zs.take k).map (· / 4))) ∧ Hid (Below w.heap.size w wr)) (fun _ i _ => zs.length - (intOf i).toNat)
  case atStart => exact ⟨0, Nat.zero_le _, rfl, _, 0, _, rfl, HO3, HB3⟩
  case round =>
    clear HO3 HB3
    obtain ⟨k, hk, rfl, B, m, b, rfl, HO, HB⟩ := hrel
    by_cases hlt : k < zs.length
    · obtain ⟨g, o, rfl, hgs, hc⟩ := (HA.out.below HB.out).at_ hlt
      obtain ⟨x, hx⟩ : ∃ x, zs[k] = x := ⟨_, rfl⟩
      have hx0 := (HP.out zs[k] (List.getElem_mem hlt)).1
      have hx1 := (HP.out zs[k] (List.getElem_mem hlt)).2
      rw [hx] at hc hx0 hx1
      have hts := List.take_succ_eq_append_getElem hlt
      rw [hx] at hts
      have HM := Lib.hid (p := m ≤ 1000000) (by have h1 := HO.out.len; rw [List.length_map] at h1; have h3 := List.length_take_le k zs; omega)
      have HN : Hid ((zs.take (k + 1)).map (· / 4) = (zs.take k).map (· / 4) ++ [x / 4]) := Lib.hid (by rw [hts, List.map_append]; rfl)
      clear hx hts
      go_wp2_with (first
        | (at_builtin; refine wp_join rfl _ _ rfl rec_int w.heap.size (.slice B m b) m (ic ((zs.take k).map (· / 4))) rfl (HO.out.alloc _) (some ⟨wr.heap.size, 0, none⟩) 1 1 [.int .i64 (x / 4)] rfl rfl (made_src wr [.int .i64 (x / 4)] _) (by intro u hu; simp at hu; subst hu; rfl) (by have := HM.out; omega) (Nat.le_trans HB.out.size (below_al wr _).size) ?_
           intro v5 w2 hr2 hg2 hat2
           obtain ⟨A5, c5, rfl, hO5, hB5⟩ := int_more HB.out HO.out hr2 hg2
           have HO5 := Lib.hid hO5
           have HB5 := Lib.hid hB5
           clear hr2 hg2 hat2 hO5 hB5))
      go_roundw
      case rel => exact ⟨k + 1, by omega, by go_num, A5, m + 1, c5, rfl, by rw [HN.out]; exact HO5, HB5⟩
      case measure => simp [intOf]; omega
    · obtain rfl : k = zs.length := by omega
      rw [List.take_length] at HO
      go_wp2_with (first
        | (go_at_call 109; refine (ordered_any HO.out HB.out (by rw [List.length_map]; exact hz)).mono ?_; rintro e w2 ⟨B2, k2, c2, rfl, hO2, hB2⟩
           have HO2 := Lib.hid hO2
           have HB2 := Lib.hid hB2
           clear hO2 hB2))
      go_ret
      exact ⟨B2, k2, c2, rfl, HO2.out, HB2.out⟩
end Go.Proofs.YtpocccnhibjjcaaGreatDoor.P7
/- A map in memory from slots to bytes: what is looked up, laid in, cleared, cloned; its keys in order. Conditions: those named. -/
set_option linter.unusedVariables false
namespace Go.Proofs.YtpocccnhibjjcaaGreatDoor
open Go.RowKit Go.Maps Go.Shelf

def bvo : Option BV → Value
  | some x => bvv x
  | none => .slice none 0 0
def MI (w : World) (b n : Nat) (C : Nat → Option BV) : Prop :=
  ∃ D : DataW Value, w.ownsMap Tryz.prog 3 itself b n D ∧ (∀ a : Nat, a ≤ 1024 → D.atKey (.int .i64 (a : Int)) (.held nos) = .held (bvo (C a)) ∧ Maps.has D (.int .i64 (a : Int)) = (C a).isSome) ∧
    ∀ kl, Maps.has D kl = true → ∃ a : Nat, a < 256 ∧ kl = .int .i64 (a : Int)
def upC (C : Nat → Option BV) (a : Nat) (x : BV) : Nat → Option BV := fun a' => if a' = a then some x else C a'
theorem upC_same (C : Nat → Option BV) (a : Nat) (x : BV) : upC C a x a = some x := if_pos rfl
theorem upC_other (C : Nat → Option BV) {a a' : Nat} (x : BV) (h : a' ≠ a) : upC C a x a' = C a' := if_neg h
theorem same_self {k : Lit} (h : WideAt.IsKeyLit k) : k.sameKey k = true := by
  cases hs : k.sameKey k with
  | true => rfl
  | false =>
    have := (Maps.notKey_iff (H := Value) (k := k) (p := (k, .held nos)) h).1 (by simp [ChangeMaps.notKey, hs])
    exact absurd rfl this
theorem same_eq {x y : Int} (h : (Lit.int .i64 x).sameKey (Lit.int .i64 y) = true) : Lit.int .i64 x = Lit.int .i64 y := by
  by_cases e : Lit.int .i64 x = Lit.int .i64 y
  · exact e
  · rw [sameKey_ne e] at h
    cases h
theorem nodup_sub_len {α : Type} [DecidableEq α] : ∀ {l m : List α}, l.Nodup → (∀ x ∈ l, x ∈ m) → l.length ≤ m.length
  | [], m, _, _ => Nat.zero_le _
  | a :: l, m, hn, hs => by
    have ha : a ∈ m := hs a (by simp)
    have h1 := nodup_sub_len (m := m.erase a) (List.nodup_cons.1 hn).2 (fun x hx => by
      have hne : x ≠ a := fun e => (List.nodup_cons.1 hn).1 (e ▸ hx)
      exact (List.mem_erase_of_ne hne).2 (hs x (List.mem_cons_of_mem _ hx)))
    rw [List.length_erase_of_mem ha] at h1
    have := List.length_pos_of_mem ha
    simp only [List.length_cons]
    omega
section
variable {w w' : World} {b n : Nat} {C : Nat → Option BV}
theorem MI.lt (h : MI w b n C) : b < w.heap.size := by obtain ⟨D, h, _⟩ := h; exact h.lt
theorem MI.grown {row : Option Nat} (h : MI w b n C) (hg : w.grownBy w' row) (hne : some b ≠ row) : MI w' b n C := by
  obtain ⟨D, h, k⟩ := h
  exact ⟨D, h.kept hg hne, k⟩
theorem MI.below (h : MI w b n C) (hb : Below w.heap.size w w') : MI w' b n C := h.grown (row := none) (grown_of_below hb) (by simp)
theorem MI.chg {F : List Nat} (h : MI w b n C) (hc : Chg F w w') (hn : b ∉ F) : MI w' b n C := by
  have hlt := h.lt
  obtain ⟨D, ⟨es, clock, hb, r⟩, k⟩ := h
  exact ⟨D, ⟨es, clock, (hc.block b hlt hn).trans hb, r⟩, k⟩
theorem MI.mono (h : MI w b n C) {n' : Nat} (hn : n ≤ n') : MI w b n' C := by
  obtain ⟨D, h, k⟩ := h
  exact ⟨D, h.mono hn, k⟩
theorem MI.made (w : World) : MI (w.alloc (.map #[] 0)) w.heap.size 0 fun _ => none :=
  ⟨_, World.ownsMap_made w _ _ _, fun a ha => ⟨rfl, rfl⟩, fun kl h => by cases h⟩
theorem MI.no_cells (h : MI w b n C) : ∀ cs t fr, w.heap[b]? ≠ some (.cells cs t fr) := by
  obtain ⟨D, ⟨es, clock, hb, r⟩, k⟩ := h
  intro cs t fr e
  rw [hb] at e
  cases e
theorem bytes_zero (w : World) : (zeroValue 35).run Tryz.prog w = .ok nos w := by kernel_rfl
theorem MI.look (h : MI w b n C) {a : Nat} (ha : a ≤ 1024) : (Instr.lookup 83 (.map (some b)) (.int .i64 (a : Int)) false).run Tryz.prog w = .ok (bvo (C a)) w := by
  obtain ⟨D, h, k, _⟩ := h
  obtain ⟨v, ps, hrun, hv⟩ := h.lookup int_key Tryz.underlying83 (bytes_zero w) (zd := .held nos) (zp := []) rfl (key_of ha)
  rw [(k a ha).1] at hv
  simp only [itself, Option.some.injEq, Prod.mk.injEq, DataW.held.injEq] at hv
  rw [hrun, hv.1]
theorem MI.look_ok (h : MI w b n C) {a : Nat} (ha : a ≤ 1024) : (Instr.lookup 83 (.map (some b)) (.int .i64 (a : Int)) true).run Tryz.prog w = .ok (.tuple #[bvo (C a), .bool (C a).isSome]) w := by
  obtain ⟨D, h, k, _⟩ := h
  obtain ⟨v, ps, hrun, hv⟩ := h.look_ok int_key Tryz.underlying83 (bytes_zero w) (zd := .held nos) (zp := []) rfl (key_of ha)
  rw [(k a ha).1] at hv
  simp only [itself, Option.some.injEq, Prod.mk.injEq, DataW.held.injEq] at hv
  rw [hrun, hv.1, (k a ha).2]
theorem MI.put (h : MI w b n C) {a : Nat} (ha : a < 256) (hn : n < maxLen) (x : BV) :
    ∃ w', (Instr.mapUpdate 83 (.map (some b)) (.int .i64 (a : Int)) (bvv x)).run Tryz.prog w = .ok () w' ∧ MI w' b (n + 1) (upC C a x) ∧ w.grownBy w' (some b) := by
  obtain ⟨D, h, k, q⟩ := h
  obtain ⟨w', hrun, hown, hg⟩ := h.update int_key Tryz.underlying83 hn (key_of (by omega : a ≤ 1024)) (val := bvv x) (d := .held (bvv x)) (ps := []) rfl
  have hm := h.isMap
  have hkey := int_key.key (key_of (by omega : a ≤ 1024))
  refine ⟨w', hrun, ⟨_, hown, fun a' ha' => ?_, fun kl hkl => ?_⟩, hg⟩
  · by_cases hes : a' = a
    · subst hes
      rw [atKey_put_same hm hkey, has_put_same hm hkey, upC_same]
      exact ⟨rfl, rfl⟩
    · rw [atKey_put_other (key_ne hes), has_put_other (key_ne hes), upC_other _ _ hes]
      exact k a' ha'
  · by_cases e : kl = .int .i64 (a : Int)
    · exact ⟨a, ha, e⟩
    · rw [has_put_other e] at hkl
      exact q kl hkl
theorem MI.clear_ (h : MI w b n C) (ty : TypeId) : ∃ w', (Builtin.clear_ #[83] ty #[.map (some b)]).run Tryz.prog w = .ok (.tuple #[]) w' ∧ MI w' b 0 (fun _ => none) ∧ w.grownBy w' (some b) := by
  obtain ⟨D, ⟨es, clock, hb, F, hs, hD⟩, k, q⟩ := h
  have hlt : b < w.heap.size := (Array.getElem?_eq_some_iff.1 hb).1
  refine ⟨ChangeMaps.setBlock w b (.map #[] clock), ?_, ⟨.map [], ⟨#[], clock, (MapKept.heap_set hb).1, ⟨by simp, MapKept.stamped_empty _, by simp⟩, Nat.le_refl _, rfl⟩, fun a ha => ⟨rfl, rfl⟩, fun kl h => by cases h⟩, ?_⟩
  · simp [Builtin.clear_, run_underlying Tryz.underlying83, MapKept.run_getObj_map hb, MapKept.run_setObj_map _ hb, Result.andThen]
    rfl
  · exact ⟨rfl, rfl, rfl, by simp [ChangeMaps.setBlock], fun j hj hne => (MapKept.heap_set hb).2 j (fun e => hne (by rw [e]))⟩
theorem MI.len_ (h : MI w b n C) (ty : TypeId) : ∃ m : Nat, (Builtin.len_ #[83] ty #[.map (some b)]).run Tryz.prog w = .ok (.int .i64 (m : Int)) w ∧ (m = 0 ↔ ∀ a, a < 256 → C a = none) ∧ m ≤ n := by
  obtain ⟨D, h, k, q⟩ := h
  refine ⟨Maps.size D, h.len Tryz.underlying83 ty, ?_, h.size_le⟩
  obtain ⟨es, rfl, _, hkk⟩ := h.entries int_key
  rw [size_eq]
  constructor
  · intro e a ha
    have : es = [] := List.eq_nil_of_length_eq_zero e
    subst this
    have := (k a (by omega)).2
    cases hc : C a with
    | none => rfl
    | some x => rw [hc] at this; cases this
  · intro e
    cases es with
    | nil => rfl
    | cons p r =>
      have hs := same_self (hkk p (by simp))
      obtain ⟨a, ha, he⟩ := q p.1 (by rw [has_eq]; simp [hs])
      have h2 := (k a (by omega)).2
      rw [e a ha, ← he, has_eq] at h2
      simp [hs] at h2
def keysL (C : Nat → Option BV) : List Int := ((List.range 256).filter fun a => (C a).isSome).map Int.ofNat
theorem mem_keysL {C : Nat → Option BV} {z : Int} : z ∈ keysL C ↔ ∃ a : Nat, a < 256 ∧ (C a).isSome = true ∧ z = (a : Int) := by
  unfold keysL
  simp only [List.mem_map, List.mem_filter, List.mem_range]
  constructor
  · rintro ⟨a, ⟨h1, h2⟩, rfl⟩
    exact ⟨a, h1, h2, rfl⟩
  · rintro ⟨a, h1, h2, rfl⟩
    exact ⟨a, ⟨h1, h2⟩, rfl⟩
theorem keysL_lt (C : Nat → Option BV) : (keysL C).Pairwise (· < ·) := by
  unfold keysL
  refine List.pairwise_map.2 (List.Pairwise.imp ?_ (List.pairwise_lt_range.filter _))
  intro a b h
  exact Int.ofNat_lt.2 h
theorem keysL_len (C : Nat → Option BV) : (keysL C).length ≤ 256 := by
  unfold keysL
  rw [List.length_map]
  exact Nat.le_trans (List.length_filter_le _ _) (by simp)
theorem sorts_in (m : Nat) : AnyZI.SortsIn Tryz.prog Tryz.sorted53_ren Fence.wide m :=
  ⟨fun blk off cap ss W hH hblk hsz => callsIn_wide.2 (Tryz.slices_Sort_int blk off cap ss W hH hblk hsz),
   fun p cap W => callsIn_wide.2 (Tryz.slices_Sort_int_none p cap W)⟩
theorem keys_call (mb : Option Nat) (W : World) : Calls Tryz.prog 54 #[.map mb] W fun e w' => e = .returned (.func (.func 82) #[] #[.pointer (some ⟨W.heap.size, 0, none⟩)]) ∧ w' = W.alloc (.cells #[.map mb] 83) :=
  callsIn_wide.1 (AnyZI.keys_in Tryz.keys54 Fence.wide 5 trivial rfl mb W)
def SortedKeys (C : Nat → Option BV) (w : World) (e : Ending) (w' : World) : Prop := ∃ A c, e = .returned (.slice A (keysL C).length c) ∧ Hid (P7.OwnI w.heap.size w' A (keysL C).length c (keysL C)) ∧ Hid (Below w.heap.size w w')
set_option maxHeartbeats 1000000 in
theorem MI.sorted (h : MI w b n C) : Calls Tryz.prog 53 #[.func (.func 82) #[] #[.pointer (some ⟨w.heap.size, 0, none⟩)]] (w.alloc (.cells #[.map (some b)] 83)) (SortedKeys C (w.alloc (.cells #[.map (some b)] 83))) := by
  obtain ⟨D, hown, k, q⟩ := h
  have hbl := hown.lt
  obtain ⟨es, hD, hpw, hkk⟩ := hown.entries int_key
  subst hD
  have hnum : ∀ p ∈ es, ∃ a : Nat, a < 256 ∧ p.1 = .int .i64 (a : Int) := fun p hp => q p.1 (by rw [has_eq]; exact List.any_eq_true.2 ⟨p, hp, same_self (hkk p hp)⟩)
  have hsz : es.length ≤ 256 := by
    have hnd : (es.map fun p => Go.intOf p.1).Nodup := by
      refine List.pairwise_map.2 (hpw.imp_of_mem fun {p q} hp' hq' hne e => hne ?_)
      obtain ⟨a, _, ha⟩ := hnum p hp'
      obtain ⟨c, _, hc⟩ := hnum q hq'
      rw [ha, hc] at e ⊢
      simp only [Go.intOf] at e
      rw [e]
    have hsub : ∀ x ∈ es.map (fun p => Go.intOf p.1), x ∈ (List.range 256).map Int.ofNat := by
      intro x hx
      obtain ⟨p, hp, rfl⟩ := List.mem_map.1 hx
      obtain ⟨a, ha, e⟩ := hnum p hp
      exact List.mem_map.2 ⟨a, List.mem_range.2 ha, by rw [e]; rfl⟩
    have := nodup_sub_len hnd hsub
    simpa using this
  have hseq : SeqGives Fence.wide 2 Tryz.prog 82 #[.pointer (some ⟨w.heap.size, 0, none⟩)] encZ (fun ss => ss.Perm (intKeys (.map es))) (Maps.size (.map es)) (w.alloc (.cells #[.map (some b)] 83)) :=
    AnyZI.keys_gives (ρ := Tryz.keys54_ren) { Tryz.keys54 with } Fence.wide _ trivial rfl (by omega) w.heap.size b n (.map es) _ (by simp) (by simp) (by
      obtain ⟨es', clock, hb, Ft, hs, hD⟩ := hown
      exact ⟨es', clock, (Below.heap_alloc _ _ b hbl).trans hb, Ft, hs, hD⟩)
  have hS := AnyZI.sorted_in Tryz.sorted53 Fence.wide 5 trivial trivial trivial trivial rfl (by omega) (sorts_in _) (enters_of Tryz.func81 (by kernel_rfl) rfl) 82 #[.pointer (some ⟨w.heap.size, 0, none⟩)] trivial (enters_of Tryz.func82 (by kernel_rfl) rfl) _ _ (by rw [size_eq]; unfold maxLen; omega) (by rw [size_eq]; omega) _ hseq
  refine (callsIn_wide.1 hS).mono ?_
  rintro e w' ⟨v, ss, rfl, hp, hrow, _, hb⟩
  have hss : ss.mergeSort (fun x y => decide (x ≤ y)) = keysL C := by
    refine P7.lt_ext ?_ (keysL_lt C) ?_
    · have h1 : (ss.mergeSort fun x y => decide (x ≤ y)).Pairwise (fun x y => decide (x ≤ y) = true) := List.pairwise_mergeSort (fun a b c h1 h2 => by simp only [decide_eq_true_eq] at *; omega) (fun a b => by simp only [Bool.or_eq_true, decide_eq_true_eq]; omega) ss
      have hnd : (ss.mergeSort fun x y => decide (x ≤ y)).Nodup := by
        refine ((List.mergeSort_perm ss _).trans hp).nodup_iff.2 ?_
        show (es.map fun p => Go.intOf p.1).Nodup
        refine List.pairwise_map.2 (hpw.imp_of_mem fun {p q} hp' hq' hne e => hne ?_)
        obtain ⟨a, _, ha⟩ := hnum p hp'
        obtain ⟨c, _, hc⟩ := hnum q hq'
        rw [ha, hc] at e ⊢
        simp only [Go.intOf] at e
        rw [e]
      refine List.Pairwise.imp ?_ (h1.and hnd)
      rintro a c ⟨h2, h3⟩
      simp only [decide_eq_true_eq] at h2
      omega
    · intro x
      rw [((List.mergeSort_perm ss _).trans hp).mem_iff, mem_keysL]
      show x ∈ es.map (fun p => Go.intOf p.1) ↔ _
      constructor
      · intro hx
        obtain ⟨p, hp', rfl⟩ := List.mem_map.1 hx
        obtain ⟨a, ha, e⟩ := hnum p hp'
        refine ⟨a, ha, ?_, by rw [e]; rfl⟩
        rw [← (k a (by omega)).2, has_eq, ← e]
        exact List.any_eq_true.2 ⟨p, hp', same_self (hkk p hp')⟩
      · rintro ⟨a, ha, h1, rfl⟩
        rw [← (k a (by omega)).2, has_eq] at h1
        obtain ⟨p, hp', h2⟩ := List.any_eq_true.1 h1
        obtain ⟨c, _, hc⟩ := hnum p hp'
        refine List.mem_map.2 ⟨p, hp', ?_⟩
        rw [hc] at h2 ⊢
        have := same_eq h2
        injection this with _ this
  rw [hss] at hrow
  have hl := hrow.1
  have hl2 : ss.length = (keysL C).length := by rw [← hss, List.length_mergeSort]
  rw [hl2] at hrow
  obtain ⟨A, c, rfl⟩ := own_sl hrow
  exact ⟨A, c, rfl, Lib.hid hrow, Lib.hid hb⟩
theorem MI.clone (h : MI w b n C) : Calls Tryz.prog 52 #[.map (some b)] w fun e w' => e = .returned (.map (some w.heap.size)) ∧ Hid (MI w' w.heap.size n C) ∧ Hid (Below w.heap.size w w') := by
  obtain ⟨D, hown, k⟩ := h
  refine (AnyW.maps_Clone_owns Tryz.clone52 3 itself b n D w hown).mono ?_
  rintro e w' ⟨rfl, h1, _, hb⟩
  exact ⟨rfl, Lib.hid ⟨D, h1, k⟩, Lib.hid hb⟩
end
end Go.Proofs.YtpocccnhibjjcaaGreatDoor
