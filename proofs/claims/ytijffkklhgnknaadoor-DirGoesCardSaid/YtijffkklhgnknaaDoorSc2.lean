/- The walk of DirGoes. Conditions: the library's tables lie there, lengths are within the reach. -/
import Derived.Test.YtijffkklhgnknaaDoorSc1
import Derived.Test.YtijffkklhgnknaaDoorSb1
set_option linter.unusedVariables false
set_option maxRecDepth 20000
namespace Go.Proofs.YtijffkklhgnknaaDoor
open Go.RowKit
theorem may_size {e : Ent} (h : MayE e) : e.nm.size ≤ 32 := by
  have h1 := h.1
  have h2 : e.nm.data.toList.length = e.nm.size := Array.length_toList
  unfold nameR at h1
  split at h1
  · cases h1
  · split at h1
    · split at h1
      · cases h1
      · omega
    · cases h1
theorem fit_all : ∀ (L : List Ent) (r : Int), (∀ e ∈ L, e.nm.size ≤ 32) → 56 * (L.length : Int) ≤ r → fit r L = L.length
  | [], r, _, _ => fit_nil r
  | x :: L, r, h, hr => by
    have hx := h x (by simp)
    have h1 := fit_yes (L := x :: L) (k := 0) (r := r) rfl (by simp at hr; omega)
    simp only [List.drop_zero, Nat.zero_add, List.drop_succ_cons] at h1
    rw [h1, fit_all L _ (fun e he => h e (by simp [he])) (by simp at hr; omega)]
    simp
theorem fit_pos {L : List Ent} {r : Int} (hne : L ≠ []) (h : ∀ e ∈ L, e.nm.size ≤ 32) (hr : 56 ≤ r) : 1 ≤ fit r L := by
  cases L with
  | nil => exact absurd rfl hne
  | cons x L =>
    have hx := h x (by simp)
    have h1 := fit_yes (L := x :: L) (k := 0) (r := r) rfl (by omega)
    simp only [List.drop_zero] at h1
    omega
theorem sk_filter {X L : List Ent} (h : SameK Ent.ck X L) (p : Ent → Bool) : SameK Ent.ck (X.filter p) (L.filter p) := fun c => by
  have h1 := h c
  have e : ∀ M : List Ent, (M.filter p).filter (fun x => x.ck == c) = (M.filter (fun x => x.ck == c)).filter p := fun M => by
    rw [List.filter_filter, List.filter_filter]
    congr 1
    funext x
    exact Bool.and_comm _ _
  rw [e, e, h1]
/-- What is known of the entries in the order of their cookies. -/
structure Row0 (X L : List Ent) (n : Nat) : Prop where
  ord : Ord Ent.ck L
  same : SameK Ent.ck X L
  len : L.length = n
  strict : L.Pairwise (fun x y => x.ck < y.ck)
  size : ∀ e ∈ L, e.nm.size ≤ 32
  pos : ∀ e ∈ L, 0 < e.ck
theorem row0_of {X L : List Ent} {n : Nat} (h : MayL X) (hn : X.length = n) (ho : Ord Ent.ck L) (hs : SameK Ent.ck X L) : Row0 X L n := by
  have ha := pw_apart ((apart_same hs).1 h.2.2.2)
  refine ⟨ho, hs, by rw [← hn]; exact hs.len.symm, ?_, fun e he => may_size (h.2.1 e ((hs.mem e).1 he)), fun e he => Nat.pos_of_ne_zero (h.2.1 e ((hs.mem e).1 he)).2.2.2.2.2.2⟩
  refine List.pairwise_iff_getElem.2 fun i j hi hj hij => ?_
  have h1 := List.pairwise_iff_getElem.1 ha i j hi hj hij
  have h2 := List.pairwise_iff_getElem.1 ho i j hi hj hij
  omega
/-- So far all before the place have cookies up to it, all behind it greater ones. -/
structure At (L : List Ent) (j after : Nat) : Prop where
  low : ∀ x ∈ L.take j, x.ck ≤ after
  high : ∀ x ∈ L.drop j, after < x.ck
theorem At.zero {X L : List Ent} {n : Nat} (h : Row0 X L n) : At L 0 0 := ⟨fun x hx => by simp at hx, fun x hx => h.pos x (by simpa using hx)⟩
theorem At.filter {L : List Ent} {j after : Nat} (h : At L j after) : L.filter (fun e : Ent => decide (after < e.ck)) = L.drop j := by
  have e1 : L.filter (fun e : Ent => decide (after < e.ck)) = (L.take j ++ L.drop j).filter (fun e : Ent => decide (after < e.ck)) := by rw [List.take_append_drop]
  rw [e1, List.filter_append, List.filter_eq_nil_iff.2 (fun x hx => by have := h.low x hx; simp; omega), List.filter_eq_self.2 (fun x hx => decide_eq_true (h.high x hx)), List.nil_append]
theorem At.told {X L M : List Ent} {n j after : Nat} (h : Row0 X L n) (ha : At L j after) (ho : Ord Ent.ck M) (hs : SameK Ent.ck (X.filter (fun e : Ent => decide (after < e.ck))) M) : M = L.drop j := by
  have h1 := sk_filter h.same (fun e : Ent => decide (after < e.ck))
  rw [ha.filter] at h1
  have hd : Ord Ent.ck (L.drop j) := by
    have := h.ord
    rw [← List.take_append_drop j L] at this
    exact this.right
  exact ord_one M (L.drop j) ho hd (hs.symm.trans h1)
theorem At.next {X L : List Ent} {n j : Nat} (h : Row0 X L n) {y : Ent} (hy : L[j]? = some y) : At L (j + 1) y.ck := by
  obtain ⟨hj, he⟩ := List.getElem?_eq_some_iff.1 hy
  constructor
  · intro x hx
    obtain ⟨i, hi, rfl⟩ := List.mem_iff_getElem.1 hx
    have hi2 : i < j + 1 := by rw [List.length_take] at hi; omega
    exact h.ord.get (by rw [List.getElem_take, List.getElem?_eq_getElem]) hy (by omega)
  · intro x hx
    obtain ⟨i, hi, rfl⟩ := List.mem_iff_getElem.1 hx
    have hi2 : j + 1 + i < L.length := by rw [List.length_drop] at hi; omega
    have h1 := List.pairwise_iff_getElem.1 h.strict j (j + 1 + i) hj hi2 (by omega)
    rw [List.getElem_drop, ← he]
    exact h1
theorem take_drop {L : List Ent} (j k : Nat) : L.take j ++ (L.drop j).take k = L.take (j + k) := (List.take_add).symm
theorem place_ex : ∀ {R : List Ent} (x : Ent), Ord Ent.ck R → ∃ k, (∀ j z, j < k → R[j]? = some z → z.ck ≤ x.ck) ∧ ∀ z ∈ R.drop k, x.ck < z.ck
  | [], x, _ => ⟨0, fun j z hj => absurd hj (Nat.not_lt_zero _), fun z hz => by simp at hz⟩
  | y :: R, x, h => by
    have h2 := List.pairwise_cons.1 h
    by_cases hy : y.ck ≤ x.ck
    · obtain ⟨k, h3, h4⟩ := place_ex x h2.2
      refine ⟨k + 1, fun j z hj hz => ?_, fun z hz => h4 z (by simpa using hz)⟩
      cases j with
      | zero => simp at hz; subst hz; exact hy
      | succ j => exact h3 j z (by omega) (by simpa using hz)
    · refine ⟨0, fun j z hj => absurd hj (Nat.not_lt_zero _), fun z hz => ?_⟩
      rcases List.mem_cons.1 (by simpa using hz : z ∈ y :: R) with rfl | hz
      · omega
      · have := h2.1 z hz
        omega
theorem sort_ex (X : List Ent) : ∀ n, ∃ L, Ord Ent.ck L ∧ SameK Ent.ck (X.take n) L
  | 0 => ⟨[], Ord.nil, by rw [List.take_zero]; exact SameK.refl _⟩
  | n + 1 => by
    obtain ⟨L, h1, h2⟩ := sort_ex X n
    rw [List.take_add_one]
    cases hx : X[n]? with
    | none => exact ⟨L, h1, by simpa using h2⟩
    | some x =>
      obtain ⟨k, h3, h4⟩ := place_ex x h1
      exact ⟨L.take k ++ x :: L.drop k, ins_ord h1 h3 h4, ins_same h2 h4⟩
theorem row0_ex {X : List Ent} {n : Nat} (h : MayL X) (hn : X.length = n) : ∃ L, Row0 X L n := by
  obtain ⟨L, h1, h2⟩ := sort_ex X X.length
  rw [List.take_length] at h2
  exact ⟨L, row0_of h hn h1 h2⟩
set_option maxHeartbeats 8000000 in
theorem goesW (A : Option Addr) (n c rm : Nat) (X : List Ent) (w : World) (hT : Tabs w) (I : InE w A n c X) (hrm : rm < 256) : Calls Tryd.prog 6 #[.slice A n c, .int .u8 (rm : Int)] w fun e w' => e = .returned (.bool true) ∧ Below w.heap.size w w' := by
  have HT := Lib.hid hT
  have HI := Lib.hid I
  have HN := Lib.hid (p := n ≤ 9223372036854775807 ∧ ∀ e ∈ X, e.nm.size ≤ 140737488355328) ⟨by have := I.reach; have := reach_lt; omega, fun e he => Nat.le_trans (I.ok e he).1 reach_lt⟩
  have rw1 : IntKind.i64.wrap (rm : Int) = (rm : Int) := by rw [IntKind.wrap_i64]; omega
  obtain ⟨r2, hr2⟩ : ∃ r2 : Nat, 56 + rm = r2 := ⟨_, rfl⟩
  have rw2 : IntKind.i64.wrap (56 + (rm : Int)) = (r2 : Int) := by rw [IntKind.wrap_i64]; omega
  have HR := Lib.hid (p := 56 ≤ r2 ∧ r2 < 1000) (by omega)
  clear hT I hrm hr2
  go_enter Tryd.func6, Tryd.ntmps6
  go_wp2_with (first
    | (go_at_call 9; refine (awake_any _ HT.out).mono ?_; rintro e w2 ⟨rfl, hb⟩
       have B2 := Lib.hid hb
       clear hb)
    | (go_at_call 10; refine (small_any A n c X HN.out.1 _ (HI.out.lies.below B2.out) HI.out.len_ HN.out.2).mono ?_; rintro e w3 ⟨⟨z, rfl, hz⟩, hb⟩
       have HZ := Lib.hid hz
       have B3 := Lib.hid (below_nxt hb B2.out)
       clear hz hb
       cases z)
    | (go_at_call 19; refine (rmay_any A n c X (by have := (HZ.out (by trivial)).1; omega) _ (HI.out.lies.below B3.out) HI.out.len_ (fun e he => by have := (HZ.out (by trivial)).2 e he; omega)).mono ?_; rintro e w4 ⟨⟨z, rfl, hz⟩, hb⟩
       have HMY := Lib.hid hz
       have B4 := Lib.hid (below_nxt hb B3.out)
       clear hz hb
       cases z))
  · go_ret
    exact ⟨rfl, B3.out⟩
  · go_ret
    exact ⟨rfl, B4.out⟩
  · have HM := Lib.hid (p := MayL X) (HMY.out.1 (by trivial))
    have HSZ := Lib.hid (p := n ≤ 32 ∧ ∀ e ∈ X, e.nm.size ≤ 4294967296) ⟨by have := HM.out.1; have := HI.out.len_; omega, fun e he => by have := may_size (HM.out.2.1 e he); omega⟩
    clear HMY HZ
    obtain ⟨L, hL⟩ := row0_ex HM.out HI.out.len_
    have HL := Lib.hid hL
    clear hL
    go_loopw [5, 6, 7] (fun x y z wr => ∃ (i j after cq : Nat) (Aq : Option Addr), z = .int .i64 (i : Int) ∧ y = .int .u32 (after : Int) ∧ x = .slice Aq j cq ∧ Hid (i ≤ j ∧ j ≤ n) ∧ Hid (At L j after) ∧ Hid (wr.ownsRow w.heap.size 42 5 (.slice Aq j cq) j ((L.take j).flatMap ecs)) ∧ Hid (Below w.heap.size w wr)) (fun _ _ z _ => n + 1 - (intOf z).toNat)
    case atStart => exact ⟨0, 0, 0, 0, none, rfl, rfl, rfl, Lib.hid ⟨Nat.le_refl _, Nat.zero_le _⟩, Lib.hid (At.zero HL.out), Lib.hid (World.ownsRow_nil _ _ _ _), B4⟩
    case round =>
      obtain ⟨i, j, after, cq, Aq, rfl, rfl, rfl, HIJ, HA, HO, HB⟩ := hrel
      rename World => wo
      have hin : (i : Int) ≤ (n : Int) := by have := HIJ.out; omega
      have hiw : IntKind.i64.wrap ((i : Int) + 1) = (i : Int) + 1 := by rw [IntKind.wrap_i64]; have := HIJ.out; have := HSZ.out; omega
      have HTOLD := Lib.hid (p := ∀ w', Below w.heap.size w w' → Calls Tryd.prog 17 #[.slice A n c, .int .u32 (after : Int), .int .i64 (r2 : Int)] w' fun e w2 => ∃ A' c' k, e = .returned (.slice A' k c') ∧ w2.ownsRow w'.heap.size 42 5 (.slice A' k c') k (((L.drop j).take k).flatMap ecs) ∧ k = fit (r2 : Int) (L.drop j) ∧ Below w'.heap.size w' w2) (fun w' hb => by
        refine (told_any A n c after (r2 : Int) X (by have := HSZ.out.1; omega) w' (HI.out.lies.below hb) HI.out.len_ HSZ.out.2 (by omega) (by have := HR.out.2; omega)).mono ?_
        rintro e w2 ⟨A', c', k, M, rfl, ho, hk, h1, h2, hb2⟩
        obtain rfl := HA.out.told HL.out h1 h2
        exact ⟨A', c', k, rfl, ho, hk, hb2⟩)
      by_cases hj : j < n
      · have HJ := Lib.hid hj
        clear hj
        go_wp2_with (first
          | (go_at_call 17; refine (HTOLD.out _ HB.out).mono ?_; rintro e w5 ⟨A5, c5, k5, rfl, ho, hk, hb⟩
             have hk1 : 1 ≤ k5 := by
               rw [hk]
               exact fit_pos (fun h0 => by have h1 := congrArg List.length h0; rw [List.length_drop, HL.out.len] at h1; simp at h1; have := HJ.out; omega) (fun e he => HL.out.size e (List.mem_of_mem_drop he)) (by have := HR.out.1; omega)
             have hk2 : k5 ≤ n - j := by have h1 := fit_le (r2 : Int) (L.drop j); rw [List.length_drop, HL.out.len] at h1; omega
             obtain ⟨kk, hkk⟩ : ∃ kk, kk + 1 = k5 := ⟨k5 - 1, by omega⟩
             have hkx : kk < ((L.drop j).take k5).length := by rw [List.length_take, List.length_drop, HL.out.len]; omega
             obtain ⟨g5, o5, hA5, hc5⟩ := (Lies.own (f := ecs) (by decide) ecs_len ho).at_ hkx
             have hjk : j + kk < L.length := by rw [HL.out.len]; have := HJ.out; omega
             have hyy : ((L.drop j).take k5)[kk] = L[j + kk] := by rw [List.getElem_take, List.getElem_drop]
             rw [hyy] at hc5
             obtain ⟨y, hy⟩ : ∃ y, L[j + kk] = y := ⟨_, rfl⟩
             rw [hy] at hc5
             have HY := Lib.hid (p := L[j + kk]? = some y) (by rw [List.getElem?_eq_getElem hjk, hy])
             have HO5 := Lib.hid (own_lower ho HB.out.size)
             have HG5 := Lib.hid (p := wo.heap.size ≤ g5) (by subst hA5; exact (ho.lt _ rfl).1)
             have HC5 := Lib.hid (p := w5.cell? ⟨g5, o5 + kk * 5 + 4, none⟩ = some (.int .u32 (y.ck : Int))) (hc5 4 _ rfl)
             have HOW5 := Lib.hid (own_kept HO.out hb)
             have HB5 := Lib.hid (below_nxt hb HB.out)
             have HKB := Lib.hid (And.intro hkk (And.intro hk1 hk2))
             have hk0 : ((k5 : Int) == 0) = false := beq_false_of_ne (by omega)
             have hk00 : (k5 == 0) = false := beq_false_of_ne (by omega)
             have hkw : IntKind.i64.wrap ((k5 : Int) - 1) = (kk : Int) := by rw [IntKind.wrap_i64]; have := HSZ.out; omega
             have hkl : (kk : Int) < (k5 : Int) := by omega
             have hkl2 : kk < k5 := by omega
             subst hA5
             clear ho hb hk hk1 hk2 hkk hkx hc5 hyy hy hjk)
          | (at_builtin
             refine wp_join rfl _ _ rfl rec_ent w.heap.size (.slice Aq j cq) j ((L.take j).flatMap ecs) rfl HOW5.out (some ⟨g5, o5, none⟩) k5 c5 (((L.drop j).take k5).flatMap ecs) rfl (by rw [flat_len ecs_len, List.length_take, List.length_drop, HL.out.len]; have := HKB.out; omega) (own_src HO5.out) (flat_one ecs_one _) (by have := HKB.out; have := HSZ.out; omega) HB5.out.size ?_
             intro v1 w6 ho1 hg1 hat1
             have HO6 := Lib.hid ho1
             obtain ⟨A6, c6, rfl⟩ := own_sl ho1
             have HB6 := Lib.hid (HB5.out.grown hg1 HB5.out.size (fun z hz => (HOW5.out.lt z hz).1))
             have c5y : w6.cell? ⟨g5, o5 + kk * 5 + 4, none⟩ = some (.int .u32 (y.ck : Int)) := hg1.cell HC5.out (fun he => by have h1 := (HO.out.lt g5 he.symm).2; have h2 := HG5.out; omega)
             clear ho1 hg1 hat1))
        go_roundw
        case rel =>
          refine ⟨i + 1, j + k5, y.ck, c6, A6, by go_num, rfl, rfl, Lib.hid (by have := HIJ.out; have := HKB.out; have := HJ.out; omega), Lib.hid ?_, Lib.hid ?_, HB6⟩
          · have h1 := At.next HL.out HY.out
            rwa [show j + kk + 1 = j + k5 by have := HKB.out; omega] at h1
          · rw [← take_drop, List.flatMap_append]; exact HO6.out
        case measure => have := HIJ.out; simp [intOf]; omega
      · have hje : j = n := by have := HIJ.out; omega
        have HJE := Lib.hid hje
        have HRT := Lib.hid (p := ∀ w', Below w.heap.size w w' → Calls Tryd.prog 18 #[.slice A n c, .int .u32 0, .int .i64 1048576] w' fun e w2 => ∃ A' c', e = .returned (.slice A' n c') ∧ w2.ownsRow w'.heap.size 42 5 (.slice A' n c') n (L.flatMap ecs) ∧ Below w'.heap.size w' w2) (fun w' hb => by
          refine (rtold_any A n c 0 1048576 X (by have := HSZ.out.1; omega) w' (HI.out.lies.below hb) HI.out.len_ HSZ.out.2 (by decide) (by decide)).mono ?_
          rintro e w2 ⟨A', c', k, M, rfl, ho, hk, h1, h2, hb2⟩
          have h3 := (At.zero HL.out).told HL.out h1 h2
          rw [List.drop_zero] at h3
          subst h3
          have h4 := fit_all M 1048576 HL.out.size (by rw [HL.out.len]; have := HSZ.out.1; omega)
          rw [h4, HL.out.len] at hk
          subst hk
          rw [List.take_of_length_le (by rw [HL.out.len]; exact Nat.le_refl _)] at ho
          exact ⟨A', c', rfl, ho, hb2⟩)
        have HO2 := Lib.hid (p := wo.ownsRow w.heap.size 42 5 (.slice Aq j cq) j (L.flatMap ecs)) (by
          have h1 := HO.out
          rwa [List.take_of_length_le (by rw [HL.out.len, hje]; exact Nat.le_refl _)] at h1)
        have HT0 := Lib.hid (p := ∀ k, k = fit (r2 : Int) (L.drop j) → k = 0) (fun k hk => by rw [hk, List.drop_of_length_le (by rw [HL.out.len, hje]; exact Nat.le_refl _)]; exact fit_nil _)
        clear hj
        subst hje
        go_wp2_with (first
          | (go_at_call 17; refine (HTOLD.out _ HB.out).mono ?_; rintro e w5 ⟨A5, c5, k5, rfl, ho, hk, hb⟩
             obtain rfl := HT0.out k5 hk
             have HO5 := Lib.hid (own_kept HO2.out hb)
             have HB5 := Lib.hid (below_nxt hb HB.out)
             clear ho hk hb)
          | (go_at_call 18; refine (HRT.out _ HB5.out).mono ?_; rintro e w6 ⟨A6, c6, rfl, ho, hb⟩
             have HO6 := Lib.hid (own_kept HO5.out hb)
             have HO66 := Lib.hid ho
             have HB6 := Lib.hid (below_nxt hb HB5.out)
             clear ho hb)
          | (go_at_call 14; refine (lists_same Aq A6 j cq c6 L (by have := HSZ.out.1; omega) HL.out.len _ (Lies.own (by decide) ecs_len HO6.out) (Lies.own (by decide) ecs_len HO66.out)).mono ?_; rintro e w7 ⟨rfl, hb⟩
             have HB7 := Lib.hid (below_nxt hb HB6.out)
             clear hb))
        go_ret
        exact ⟨rfl, HB7.out⟩
end Go.Proofs.YtijffkklhgnknaaDoor
