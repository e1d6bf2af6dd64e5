/- The reference's May. Conditions: no more than a million entries, names no longer than 2^32. -/
import Derived.Test.YtijffkklhgnknaaDoorRb
import Derived.Test.YtijffkklhgnknaaDoorMgFirst
import Derived.Test.YtijffkklhgnknaaDoorRh
set_option linter.unusedVariables false
set_option maxRecDepth 20000
namespace Go.Proofs.YtijffkklhgnknaaDoor
open Go.RowKit

/-- Of each two the first one is ahead, and the cookies differ. -/
def Pairs (X : List Ent) (i : Nat) : Prop := ∀ j k x y, j < k → k < i → X[j]? = some x → X[k]? = some y → x.ck ≠ y.ck ∧ lessD x.nm.data.toList y.nm.data.toList = true
theorem apart_pw : ∀ {X : List Ent}, X.Pairwise (fun x y => x.ck ≠ y.ck) → Apart X
  | [], _, c => by simp
  | x :: L, h, c => by
    rw [List.pairwise_cons] at h
    by_cases hx : (x.ck == c) = true
    · have h0 : L.filter (fun e => e.ck == c) = [] := List.filter_eq_nil_iff.2 fun y hy hk => h.1 y hy (by rw [beq_iff_eq] at hk hx; omega)
      rw [List.filter_cons, if_pos hx, h0]
      simp
    · rw [List.filter_cons, if_neg hx]
      exact apart_pw h.2 c
theorem pw_apart : ∀ {X : List Ent}, Apart X → X.Pairwise (fun x y => x.ck ≠ y.ck)
  | [], _ => List.Pairwise.nil
  | x :: L, h => by
    refine List.Pairwise.cons (fun y hy he => ?_) (pw_apart fun c => ?_)
    · have h1 := h x.ck
      rw [List.filter_cons, if_pos (by simp)] at h1
      have h2 : y ∈ L.filter (fun e => e.ck == x.ck) := List.mem_filter.2 ⟨hy, by simp [he]⟩
      have h3 := List.length_pos_of_mem h2
      simp only [List.length_cons] at h1
      omega
    · have h1 := h c
      rw [List.filter_cons] at h1
      split at h1
      · simp only [List.length_cons] at h1
        omega
      · exact h1
theorem lessD_trans {a b c : List UInt8} (h : lessD a b = true) (k : lessD b c = true) : lessD a c = true := lex_trans _ _ _ h k
theorem rises_far {X : List Ent} (h : Rises X) : ∀ (d j : Nat) (x y : Ent), X[j]? = some x → X[j + 1 + d]? = some y → lessD x.nm.data.toList y.nm.data.toList = true
  | 0, j, x, y, hx, hy => h j x y hx hy
  | d + 1, j, x, y, hx, hy => by
    have hl := (List.getElem?_eq_some_iff.1 hy).1
    have hz : X[j + 1 + d]? = some (X[j + 1 + d]'(by omega)) := List.getElem?_eq_getElem (by omega)
    exact lessD_trans (rises_far h d j x _ hx hz) (h (j + 1 + d) _ y hz hy)
theorem pairs_may {X : List Ent} (h : MayL X) : Pairs X X.length := fun j k x y hjk hk hx hy => by
  constructor
  · have h1 := List.pairwise_iff_getElem.1 (pw_apart h.2.2.2) j k (by omega) hk hjk
    obtain ⟨_, rfl⟩ := List.getElem?_eq_some_iff.1 hx
    obtain ⟨_, rfl⟩ := List.getElem?_eq_some_iff.1 hy
    exact h1
  · exact rises_far h.2.2.1 (k - j - 1) j x y hx (by rw [show j + 1 + (k - j - 1) = k by omega]; exact hy)
theorem may_pairs {X : List Ent} (h1 : X.length ≤ 32) (h2 : ∀ e ∈ X, MayE e) (h3 : Pairs X X.length) : MayL X :=
  ⟨h1, h2, fun q x y hx hy => (h3 q (q + 1) x y (by omega) (List.getElem?_eq_some_iff.1 hy).1 hx hy).2, apart_pw (List.pairwise_iff_getElem.2 fun j k hj hk hjk => (h3 j k _ _ hjk hk (List.getElem?_eq_getElem hj) (List.getElem?_eq_getElem hk)).1)⟩
theorem pairs_more {X : List Ent} {i : Nat} {y : Ent} (h : Pairs X i) (hy : X[i]? = some y) (h2 : ∀ j x, j < i → X[j]? = some x → x.ck ≠ y.ck ∧ lessD x.nm.data.toList y.nm.data.toList = true) : Pairs X (i + 1) := fun j k x z hjk hk hx hz => by
  by_cases hki : k < i
  · exact h j k x z hjk hki hx hz
  · obtain rfl : k = i := by omega
    rw [hy] at hz
    injection hz with hz
    subst hz
    exact h2 j x hjk hx
set_option maxHeartbeats 8000000 in
theorem rmay_any (A : Option Addr) (n c : Nat) (X : List Ent) (hmax : n ≤ 1000000) (w : World) (h : Lies ecs 5 w A X) (hn : X.length = n) (hnm : ∀ e ∈ X, e.nm.size ≤ 4294967296) :
    Calls Tryd.prog 19 #[.slice A n c] w fun e w' => MayP X e ∧ Below w.heap.size w w' := by
  have H := Lib.hid h
  have HN := Lib.hid (And.intro hmax hn)
  have HNM := Lib.hid hnm
  clear h hmax hn hnm
  by_cases hbig : 32 < n
  · have hbi : (32 : Int) < (n : Int) := by omega
    have HBG := Lib.hid hbig
    clear hbig
    go_enter Tryd.func19, Tryd.ntmps19
    go_wp2
    go_ret
    exact ⟨⟨false, rfl, ⟨(fun h => by cases h), fun h => absurd h.1 (by have := HBG.out; have := HN.out; omega)⟩⟩, Below.refl _ _⟩
  have hbi : ¬ (32 : Int) < (n : Int) := by omega
  have HBG := Lib.hid (p := n ≤ 32) (by omega)
  clear hbig
  go_enter Tryd.func19, Tryd.ntmps19
  go_wp2
  go_loopw [3] (fun y wr => ∃ (i : Nat), y = .int .i64 (i : Int) ∧ Hid (i ≤ n) ∧ Hid (∀ e ∈ X.take i, MayE e) ∧ Hid (Pairs X i) ∧ Hid (Below w.heap.size w wr)) (fun y _ => n - (intOf y).toNat)
  case atStart => exact ⟨0, rfl, Lib.hid (Nat.zero_le _), Lib.hid (fun e he => by simp at he), Lib.hid (fun j k x y _ hk => absurd hk (Nat.not_lt_zero _)), Lib.hid (Below.refl _ _)⟩
  case round =>
    obtain ⟨i, rfl, HIL, HP, HQ, HB⟩ := hrel
    rename World => wo
    by_cases hi : i < n
    · have hii : (i : Int) < (n : Int) := by omega
      have hiw : IntKind.i64.wrap ((i : Int) + 1) = (i : Int) + 1 := by rw [IntKind.wrap_i64]; have := HN.out; omega
      have hix : i < X.length := by have := HN.out; omega
      obtain ⟨ga, oa, rfl, hc⟩ := (H.out.below HB.out).at_ hix
      obtain ⟨x, hx⟩ : ∃ x, X[i] = x := ⟨_, rfl⟩
      rw [hx] at hc
      have HX := Lib.hid (p := X[i]? = some x) (by rw [List.getElem?_eq_getElem hix, hx])
      have HSZ := Lib.hid (p := x.nm.size ≤ 1099511627776) (by have := HNM.out x (List.mem_of_getElem? HX.out); omega)
      have HR := Lib.hid (p := wo.rangeAt ga (oa + i * 5) (ecs x)) (fun j u hu => hc j u hu)
      have HI := Lib.hid hi
      clear hc hx hix hi
      obtain ⟨nm, ino, ser, kind, ck⟩ := x
      dsimp only at HSZ
      obtain ⟨r, hr⟩ : ∃ r : Int, nameR nm.data.toList = r := ⟨_, rfl⟩
      have HNR := Lib.hid hr
      have HME := Lib.hid (p := MayE ⟨nm, ino, ser, kind, ck⟩ ↔ (r = 0 ∧ 1 ≤ kind ∧ kind ≤ 3 ∧ 1 ≤ ino ∧ ino ≤ 64 ∧ ser ≠ 0 ∧ ck ≠ 0)) (by rw [← hr]; rfl)
      clear hr
      by_cases a0 : r = 0
      case neg =>
        have d0 : (r != 0) = true := bne_iff_ne.2 a0
        have e0 : (r == 0) = false := beq_false_of_ne a0
        have HBAD := Lib.hid (p := ¬ (r = 0 ∧ 1 ≤ kind ∧ kind ≤ 3 ∧ 1 ≤ ino ∧ ino ≤ 64 ∧ ser ≠ 0 ∧ ck ≠ 0)) (fun h => a0 h.1)
        clear a0
        go_wp2_with (first
          | (refine wpList_load_mid rfl 42 (.tmp 17) rfl ga (oa + i * 5) rfl (ecs ⟨nm, ino, ser, kind, ck⟩) _ HR.out Tryd.underlying42 rfl (info_ent _) ?_)
          | (refine step_alloc rfl 4 rfl 42 rfl (ecs ent0) zero_ent ?_; intro g4 w2 hr2 hg2 hb2 hs2
             have HR2 := Lib.hid hr2
             have HB2 := Lib.hid hb2
             have HG2 := hg2
             clear hr2 hg2 hb2 hs2)
          | (refine step_store rfl 42 _ _ rfl g4 rfl 42 (ecs ent0) (ecs ⟨nm, ino, ser, kind, ck⟩) rfl HR2.out rfl (info_ent _) (ecs_one _) ?_; intro w3 hr3 hg3 hs3
             have HR3 := Lib.hid hr3
             have HB3 := Lib.hid (HB2.out.grown hg3 HB2.out.size (fun q hq => by injection hq with hq; subst hq; exact Nat.le_of_eq HG2.out.symm))
             have c0 : w3.cell? ⟨g4, 0, none⟩ = some (.string nm) := (hr3.cell 0).trans rfl
             clear hr3 hg3 hs3)
          | (go_at_call 36; refine (rname_any nm _ HSZ.out).mono ?_; rintro e w4 ⟨rfl, hb⟩
             have HB4 := Lib.hid (below_nxt hb HB3.out)
             have HR4 := Lib.hid (HR3.out.kept hb)
             have c1 : w4.cell? ⟨g4, 1, none⟩ = some (.int .i64 ino) := (HR4.out.cell 1).trans rfl
             have c2 : w4.cell? ⟨g4, 2, none⟩ = some (.int .u64 (ser : Int)) := (HR4.out.cell 2).trans rfl
             have c3 : w4.cell? ⟨g4, 3, none⟩ = some (.int .i64 kind) := (HR4.out.cell 3).trans rfl
             have c4 : w4.cell? ⟨g4, 4, none⟩ = some (.int .u32 (ck : Int)) := (HR4.out.cell 4).trans rfl
             rw [HNR.out]
             clear hb))
        go_ret
        exact ⟨⟨false, rfl, ⟨(fun h => by cases h), fun h => absurd (HME.out.1 (h.2.1 _ (List.mem_of_getElem? HX.out))) HBAD.out⟩⟩, below_nxt HB4.out HB.out⟩
      have d0 : (r != 0) = false := by rw [a0]; rfl
      have e0 : (r == 0) = true := by rw [a0]; rfl
      by_cases a1 : 1 ≤ kind
      case neg =>
        have d1 : kind < 1 := by omega
        have HBAD := Lib.hid (p := ¬ (r = 0 ∧ 1 ≤ kind ∧ kind ≤ 3 ∧ 1 ≤ ino ∧ ino ≤ 64 ∧ ser ≠ 0 ∧ ck ≠ 0)) (fun h => a1 h.2.1)
        clear a0 a1
        go_wp2_with (first
          | (refine wpList_load_mid rfl 42 (.tmp 17) rfl ga (oa + i * 5) rfl (ecs ⟨nm, ino, ser, kind, ck⟩) _ HR.out Tryd.underlying42 rfl (info_ent _) ?_)
          | (refine step_alloc rfl 4 rfl 42 rfl (ecs ent0) zero_ent ?_; intro g4 w2 hr2 hg2 hb2 hs2
             have HR2 := Lib.hid hr2
             have HB2 := Lib.hid hb2
             have HG2 := hg2
             clear hr2 hg2 hb2 hs2)
          | (refine step_store rfl 42 _ _ rfl g4 rfl 42 (ecs ent0) (ecs ⟨nm, ino, ser, kind, ck⟩) rfl HR2.out rfl (info_ent _) (ecs_one _) ?_; intro w3 hr3 hg3 hs3
             have HR3 := Lib.hid hr3
             have HB3 := Lib.hid (HB2.out.grown hg3 HB2.out.size (fun q hq => by injection hq with hq; subst hq; exact Nat.le_of_eq HG2.out.symm))
             have c0 : w3.cell? ⟨g4, 0, none⟩ = some (.string nm) := (hr3.cell 0).trans rfl
             clear hr3 hg3 hs3)
          | (go_at_call 36; refine (rname_any nm _ HSZ.out).mono ?_; rintro e w4 ⟨rfl, hb⟩
             have HB4 := Lib.hid (below_nxt hb HB3.out)
             have HR4 := Lib.hid (HR3.out.kept hb)
             have c1 : w4.cell? ⟨g4, 1, none⟩ = some (.int .i64 ino) := (HR4.out.cell 1).trans rfl
             have c2 : w4.cell? ⟨g4, 2, none⟩ = some (.int .u64 (ser : Int)) := (HR4.out.cell 2).trans rfl
             have c3 : w4.cell? ⟨g4, 3, none⟩ = some (.int .i64 kind) := (HR4.out.cell 3).trans rfl
             have c4 : w4.cell? ⟨g4, 4, none⟩ = some (.int .u32 (ck : Int)) := (HR4.out.cell 4).trans rfl
             rw [HNR.out]
             clear hb))
        go_ret
        exact ⟨⟨false, rfl, ⟨(fun h => by cases h), fun h => absurd (HME.out.1 (h.2.1 _ (List.mem_of_getElem? HX.out))) HBAD.out⟩⟩, below_nxt HB4.out HB.out⟩
      have d1 : ¬ kind < 1 := by omega
      by_cases a2 : kind ≤ 3
      case neg =>
        have d2 : (3 : Int) < kind := by omega
        have HBAD := Lib.hid (p := ¬ (r = 0 ∧ 1 ≤ kind ∧ kind ≤ 3 ∧ 1 ≤ ino ∧ ino ≤ 64 ∧ ser ≠ 0 ∧ ck ≠ 0)) (fun h => a2 h.2.2.1)
        clear a0 a1 a2
        go_wp2_with (first
          | (refine wpList_load_mid rfl 42 (.tmp 17) rfl ga (oa + i * 5) rfl (ecs ⟨nm, ino, ser, kind, ck⟩) _ HR.out Tryd.underlying42 rfl (info_ent _) ?_)
          | (refine step_alloc rfl 4 rfl 42 rfl (ecs ent0) zero_ent ?_; intro g4 w2 hr2 hg2 hb2 hs2
             have HR2 := Lib.hid hr2
             have HB2 := Lib.hid hb2
             have HG2 := hg2
             clear hr2 hg2 hb2 hs2)
          | (refine step_store rfl 42 _ _ rfl g4 rfl 42 (ecs ent0) (ecs ⟨nm, ino, ser, kind, ck⟩) rfl HR2.out rfl (info_ent _) (ecs_one _) ?_; intro w3 hr3 hg3 hs3
             have HR3 := Lib.hid hr3
             have HB3 := Lib.hid (HB2.out.grown hg3 HB2.out.size (fun q hq => by injection hq with hq; subst hq; exact Nat.le_of_eq HG2.out.symm))
             have c0 : w3.cell? ⟨g4, 0, none⟩ = some (.string nm) := (hr3.cell 0).trans rfl
             clear hr3 hg3 hs3)
          | (go_at_call 36; refine (rname_any nm _ HSZ.out).mono ?_; rintro e w4 ⟨rfl, hb⟩
             have HB4 := Lib.hid (below_nxt hb HB3.out)
             have HR4 := Lib.hid (HR3.out.kept hb)
             have c1 : w4.cell? ⟨g4, 1, none⟩ = some (.int .i64 ino) := (HR4.out.cell 1).trans rfl
             have c2 : w4.cell? ⟨g4, 2, none⟩ = some (.int .u64 (ser : Int)) := (HR4.out.cell 2).trans rfl
             have c3 : w4.cell? ⟨g4, 3, none⟩ = some (.int .i64 kind) := (HR4.out.cell 3).trans rfl
             have c4 : w4.cell? ⟨g4, 4, none⟩ = some (.int .u32 (ck : Int)) := (HR4.out.cell 4).trans rfl
             rw [HNR.out]
             clear hb))
        go_ret
        exact ⟨⟨false, rfl, ⟨(fun h => by cases h), fun h => absurd (HME.out.1 (h.2.1 _ (List.mem_of_getElem? HX.out))) HBAD.out⟩⟩, below_nxt HB4.out HB.out⟩
      have d2 : ¬ (3 : Int) < kind := by omega
      by_cases a3 : 1 ≤ ino
      case neg =>
        have d3 : ino < 1 := by omega
        have HBAD := Lib.hid (p := ¬ (r = 0 ∧ 1 ≤ kind ∧ kind ≤ 3 ∧ 1 ≤ ino ∧ ino ≤ 64 ∧ ser ≠ 0 ∧ ck ≠ 0)) (fun h => a3 h.2.2.2.1)
        clear a0 a1 a2 a3
        go_wp2_with (first
          | (refine wpList_load_mid rfl 42 (.tmp 17) rfl ga (oa + i * 5) rfl (ecs ⟨nm, ino, ser, kind, ck⟩) _ HR.out Tryd.underlying42 rfl (info_ent _) ?_)
          | (refine step_alloc rfl 4 rfl 42 rfl (ecs ent0) zero_ent ?_; intro g4 w2 hr2 hg2 hb2 hs2
             have HR2 := Lib.hid hr2
             have HB2 := Lib.hid hb2
             have HG2 := hg2
             clear hr2 hg2 hb2 hs2)
          | (refine step_store rfl 42 _ _ rfl g4 rfl 42 (ecs ent0) (ecs ⟨nm, ino, ser, kind, ck⟩) rfl HR2.out rfl (info_ent _) (ecs_one _) ?_; intro w3 hr3 hg3 hs3
             have HR3 := Lib.hid hr3
             have HB3 := Lib.hid (HB2.out.grown hg3 HB2.out.size (fun q hq => by injection hq with hq; subst hq; exact Nat.le_of_eq HG2.out.symm))
             have c0 : w3.cell? ⟨g4, 0, none⟩ = some (.string nm) := (hr3.cell 0).trans rfl
             clear hr3 hg3 hs3)
          | (go_at_call 36; refine (rname_any nm _ HSZ.out).mono ?_; rintro e w4 ⟨rfl, hb⟩
             have HB4 := Lib.hid (below_nxt hb HB3.out)
             have HR4 := Lib.hid (HR3.out.kept hb)
             have c1 : w4.cell? ⟨g4, 1, none⟩ = some (.int .i64 ino) := (HR4.out.cell 1).trans rfl
             have c2 : w4.cell? ⟨g4, 2, none⟩ = some (.int .u64 (ser : Int)) := (HR4.out.cell 2).trans rfl
             have c3 : w4.cell? ⟨g4, 3, none⟩ = some (.int .i64 kind) := (HR4.out.cell 3).trans rfl
             have c4 : w4.cell? ⟨g4, 4, none⟩ = some (.int .u32 (ck : Int)) := (HR4.out.cell 4).trans rfl
             rw [HNR.out]
             clear hb))
        go_ret
        exact ⟨⟨false, rfl, ⟨(fun h => by cases h), fun h => absurd (HME.out.1 (h.2.1 _ (List.mem_of_getElem? HX.out))) HBAD.out⟩⟩, below_nxt HB4.out HB.out⟩
      have d3 : ¬ ino < 1 := by omega
      by_cases a4 : ino ≤ 64
      case neg =>
        have d4 : (64 : Int) < ino := by omega
        have HBAD := Lib.hid (p := ¬ (r = 0 ∧ 1 ≤ kind ∧ kind ≤ 3 ∧ 1 ≤ ino ∧ ino ≤ 64 ∧ ser ≠ 0 ∧ ck ≠ 0)) (fun h => a4 h.2.2.2.2.1)
        clear a0 a1 a2 a3 a4
        go_wp2_with (first
          | (refine wpList_load_mid rfl 42 (.tmp 17) rfl ga (oa + i * 5) rfl (ecs ⟨nm, ino, ser, kind, ck⟩) _ HR.out Tryd.underlying42 rfl (info_ent _) ?_)
          | (refine step_alloc rfl 4 rfl 42 rfl (ecs ent0) zero_ent ?_; intro g4 w2 hr2 hg2 hb2 hs2
             have HR2 := Lib.hid hr2
             have HB2 := Lib.hid hb2
             have HG2 := hg2
             clear hr2 hg2 hb2 hs2)
          | (refine step_store rfl 42 _ _ rfl g4 rfl 42 (ecs ent0) (ecs ⟨nm, ino, ser, kind, ck⟩) rfl HR2.out rfl (info_ent _) (ecs_one _) ?_; intro w3 hr3 hg3 hs3
             have HR3 := Lib.hid hr3
             have HB3 := Lib.hid (HB2.out.grown hg3 HB2.out.size (fun q hq => by injection hq with hq; subst hq; exact Nat.le_of_eq HG2.out.symm))
             have c0 : w3.cell? ⟨g4, 0, none⟩ = some (.string nm) := (hr3.cell 0).trans rfl
             clear hr3 hg3 hs3)
          | (go_at_call 36; refine (rname_any nm _ HSZ.out).mono ?_; rintro e w4 ⟨rfl, hb⟩
             have HB4 := Lib.hid (below_nxt hb HB3.out)
             have HR4 := Lib.hid (HR3.out.kept hb)
             have c1 : w4.cell? ⟨g4, 1, none⟩ = some (.int .i64 ino) := (HR4.out.cell 1).trans rfl
             have c2 : w4.cell? ⟨g4, 2, none⟩ = some (.int .u64 (ser : Int)) := (HR4.out.cell 2).trans rfl
             have c3 : w4.cell? ⟨g4, 3, none⟩ = some (.int .i64 kind) := (HR4.out.cell 3).trans rfl
             have c4 : w4.cell? ⟨g4, 4, none⟩ = some (.int .u32 (ck : Int)) := (HR4.out.cell 4).trans rfl
             rw [HNR.out]
             clear hb))
        go_ret
        exact ⟨⟨false, rfl, ⟨(fun h => by cases h), fun h => absurd (HME.out.1 (h.2.1 _ (List.mem_of_getElem? HX.out))) HBAD.out⟩⟩, below_nxt HB4.out HB.out⟩
      have d4 : ¬ (64 : Int) < ino := by omega
      by_cases a5 : ser ≠ 0
      case neg =>
        have d5 : ((ser : Int) == 0) = true := by rw [beq_iff_eq]; omega
        have HBAD := Lib.hid (p := ¬ (r = 0 ∧ 1 ≤ kind ∧ kind ≤ 3 ∧ 1 ≤ ino ∧ ino ≤ 64 ∧ ser ≠ 0 ∧ ck ≠ 0)) (fun h => a5 h.2.2.2.2.2.1)
        clear a0 a1 a2 a3 a4 a5
        go_wp2_with (first
          | (refine wpList_load_mid rfl 42 (.tmp 17) rfl ga (oa + i * 5) rfl (ecs ⟨nm, ino, ser, kind, ck⟩) _ HR.out Tryd.underlying42 rfl (info_ent _) ?_)
          | (refine step_alloc rfl 4 rfl 42 rfl (ecs ent0) zero_ent ?_; intro g4 w2 hr2 hg2 hb2 hs2
             have HR2 := Lib.hid hr2
             have HB2 := Lib.hid hb2
             have HG2 := hg2
             clear hr2 hg2 hb2 hs2)
          | (refine step_store rfl 42 _ _ rfl g4 rfl 42 (ecs ent0) (ecs ⟨nm, ino, ser, kind, ck⟩) rfl HR2.out rfl (info_ent _) (ecs_one _) ?_; intro w3 hr3 hg3 hs3
             have HR3 := Lib.hid hr3
             have HB3 := Lib.hid (HB2.out.grown hg3 HB2.out.size (fun q hq => by injection hq with hq; subst hq; exact Nat.le_of_eq HG2.out.symm))
             have c0 : w3.cell? ⟨g4, 0, none⟩ = some (.string nm) := (hr3.cell 0).trans rfl
             clear hr3 hg3 hs3)
          | (go_at_call 36; refine (rname_any nm _ HSZ.out).mono ?_; rintro e w4 ⟨rfl, hb⟩
             have HB4 := Lib.hid (below_nxt hb HB3.out)
             have HR4 := Lib.hid (HR3.out.kept hb)
             have c1 : w4.cell? ⟨g4, 1, none⟩ = some (.int .i64 ino) := (HR4.out.cell 1).trans rfl
             have c2 : w4.cell? ⟨g4, 2, none⟩ = some (.int .u64 (ser : Int)) := (HR4.out.cell 2).trans rfl
             have c3 : w4.cell? ⟨g4, 3, none⟩ = some (.int .i64 kind) := (HR4.out.cell 3).trans rfl
             have c4 : w4.cell? ⟨g4, 4, none⟩ = some (.int .u32 (ck : Int)) := (HR4.out.cell 4).trans rfl
             rw [HNR.out]
             clear hb))
        go_ret
        exact ⟨⟨false, rfl, ⟨(fun h => by cases h), fun h => absurd (HME.out.1 (h.2.1 _ (List.mem_of_getElem? HX.out))) HBAD.out⟩⟩, below_nxt HB4.out HB.out⟩
      have d5 : ((ser : Int) == 0) = false := beq_false_of_ne (by omega)
      by_cases a6 : ck ≠ 0
      case neg =>
        have d6 : ((ck : Int) == 0) = true := by rw [beq_iff_eq]; omega
        have HBAD := Lib.hid (p := ¬ (r = 0 ∧ 1 ≤ kind ∧ kind ≤ 3 ∧ 1 ≤ ino ∧ ino ≤ 64 ∧ ser ≠ 0 ∧ ck ≠ 0)) (fun h => a6 h.2.2.2.2.2.2)
        clear a0 a1 a2 a3 a4 a5 a6
        go_wp2_with (first
          | (refine wpList_load_mid rfl 42 (.tmp 17) rfl ga (oa + i * 5) rfl (ecs ⟨nm, ino, ser, kind, ck⟩) _ HR.out Tryd.underlying42 rfl (info_ent _) ?_)
          | (refine step_alloc rfl 4 rfl 42 rfl (ecs ent0) zero_ent ?_; intro g4 w2 hr2 hg2 hb2 hs2
             have HR2 := Lib.hid hr2
             have HB2 := Lib.hid hb2
             have HG2 := hg2
             clear hr2 hg2 hb2 hs2)
          | (refine step_store rfl 42 _ _ rfl g4 rfl 42 (ecs ent0) (ecs ⟨nm, ino, ser, kind, ck⟩) rfl HR2.out rfl (info_ent _) (ecs_one _) ?_; intro w3 hr3 hg3 hs3
             have HR3 := Lib.hid hr3
             have HB3 := Lib.hid (HB2.out.grown hg3 HB2.out.size (fun q hq => by injection hq with hq; subst hq; exact Nat.le_of_eq HG2.out.symm))
             have c0 : w3.cell? ⟨g4, 0, none⟩ = some (.string nm) := (hr3.cell 0).trans rfl
             clear hr3 hg3 hs3)
          | (go_at_call 36; refine (rname_any nm _ HSZ.out).mono ?_; rintro e w4 ⟨rfl, hb⟩
             have HB4 := Lib.hid (below_nxt hb HB3.out)
             have HR4 := Lib.hid (HR3.out.kept hb)
             have c1 : w4.cell? ⟨g4, 1, none⟩ = some (.int .i64 ino) := (HR4.out.cell 1).trans rfl
             have c2 : w4.cell? ⟨g4, 2, none⟩ = some (.int .u64 (ser : Int)) := (HR4.out.cell 2).trans rfl
             have c3 : w4.cell? ⟨g4, 3, none⟩ = some (.int .i64 kind) := (HR4.out.cell 3).trans rfl
             have c4 : w4.cell? ⟨g4, 4, none⟩ = some (.int .u32 (ck : Int)) := (HR4.out.cell 4).trans rfl
             rw [HNR.out]
             clear hb))
        go_ret
        exact ⟨⟨false, rfl, ⟨(fun h => by cases h), fun h => absurd (HME.out.1 (h.2.1 _ (List.mem_of_getElem? HX.out))) HBAD.out⟩⟩, below_nxt HB4.out HB.out⟩
      have d6 : ((ck : Int) == 0) = false := beq_false_of_ne (by omega)
      have HGOOD := Lib.hid (p := MayE ⟨nm, ino, ser, kind, ck⟩) (HME.out.2 ⟨a0, a1, a2, a3, a4, a5, a6⟩)
      clear a0 a1 a2 a3 a4 a5 a6
      go_wp2_with (first
        | (refine wpList_load_mid rfl 42 (.tmp 17) rfl ga (oa + i * 5) rfl (ecs ⟨nm, ino, ser, kind, ck⟩) _ HR.out Tryd.underlying42 rfl (info_ent _) ?_)
        | (refine step_alloc rfl 4 rfl 42 rfl (ecs ent0) zero_ent ?_; intro g4 w2 hr2 hg2 hb2 hs2
           have HR2 := Lib.hid hr2
           have HB2 := Lib.hid hb2
           have HG2 := hg2
           clear hr2 hg2 hb2 hs2)
        | (refine step_store rfl 42 _ _ rfl g4 rfl 42 (ecs ent0) (ecs ⟨nm, ino, ser, kind, ck⟩) rfl HR2.out rfl (info_ent _) (ecs_one _) ?_; intro w3 hr3 hg3 hs3
           have HR3 := Lib.hid hr3
           have HB3 := Lib.hid (HB2.out.grown hg3 HB2.out.size (fun q hq => by injection hq with hq; subst hq; exact Nat.le_of_eq HG2.out.symm))
           have c0 : w3.cell? ⟨g4, 0, none⟩ = some (.string nm) := (hr3.cell 0).trans rfl
           clear hr3 hg3 hs3)
        | (go_at_call 36; refine (rname_any nm _ HSZ.out).mono ?_; rintro e w4 ⟨rfl, hb⟩
           have HB4 := Lib.hid (below_nxt hb HB3.out)
           have HR4 := Lib.hid (HR3.out.kept hb)
           have c1 : w4.cell? ⟨g4, 1, none⟩ = some (.int .i64 ino) := (HR4.out.cell 1).trans rfl
           have c2 : w4.cell? ⟨g4, 2, none⟩ = some (.int .u64 (ser : Int)) := (HR4.out.cell 2).trans rfl
           have c3 : w4.cell? ⟨g4, 3, none⟩ = some (.int .i64 kind) := (HR4.out.cell 3).trans rfl
           have c4 : w4.cell? ⟨g4, 4, none⟩ = some (.int .u32 (ck : Int)) := (HR4.out.cell 4).trans rfl
           rw [HNR.out]
           clear hb))
      clear c0 c1 c2 c3 c4 d0 e0 d1 d2 d3 d4 d5 d6
      go_loopw [5] (fun y wr => ∃ k : Nat, Hid (k ≤ i) ∧ y = .int .i64 (k : Int) ∧ Hid (∀ j z, j < k → X[j]? = some z → z.ck ≠ ck ∧ lessD z.nm.data.toList nm.data.toList = true) ∧ Hid (Row wr g4 42 (ecs ⟨nm, ino, ser, kind, ck⟩)) ∧ Hid (Below wo.heap.size wo wr)) (fun y _ => i - (intOf y).toNat)
      case atStart => exact ⟨0, Lib.hid (Nat.zero_le _), rfl, Lib.hid (fun j z hj => by omega), HR4, HB4⟩
      case round =>
        obtain ⟨k, HKL, rfl, HLE, HRW, HBI⟩ := hrel
        by_cases hk : k < i
        · have hki : (k : Int) < (i : Int) := by omega
          have hkd : decide (k < i) = true := decide_eq_true hk
          have hkn : (k : Int) < (n : Int) := by omega
          have hkw : IntKind.i64.wrap ((k : Int) + 1) = (k : Int) + 1 := by rw [IntKind.wrap_i64]; have := HN.out; omega
          have hkx : k < X.length := by have := HN.out; have := HI.out; omega
          obtain ⟨gb, ob, he, hcb⟩ := (H.out.below (below_nxt HBI.out HB.out)).at_ hkx
          injection he with he
          injection he with he1 he2
          subst he1 he2
          obtain ⟨z, hz⟩ : ∃ z, X[k] = z := ⟨_, rfl⟩
          rw [hz] at hcb
          have HZ := Lib.hid (p := X[k]? = some z) (by rw [List.getElem?_eq_getElem hkx, hz])
          obtain ⟨nm2, ino2, ser2, kind2, ck2⟩ := z
          have b0 : wr.cell? ⟨ga, oa + k * 5, none⟩ = some (.string nm2) := hcb 0 _ rfl
          have b4 : wr.cell? ⟨ga, oa + k * 5 + 4, none⟩ = some (.int .u32 (ck2 : Int)) := hcb 4 _ rfl
          have c0 : wr.cell? ⟨g4, 0, none⟩ = some (.string nm) := (HRW.out.cell 0).trans rfl
          have c4 : wr.cell? ⟨g4, 4, none⟩ = some (.int .u32 (ck : Int)) := (HRW.out.cell 4).trans rfl
          have HK := Lib.hid hk
          have HLS := Lib.hid (p := ∀ w, Calls Tryd.prog 37 #[.string nm2, .string nm] w fun e w' => e = .returned (.bool (lessD nm2.data.toList nm.data.toList)) ∧ Below w.heap.size w w') (fun w => rless_any nm2 nm w (by have := HNM.out _ (List.mem_of_getElem? HZ.out); dsimp only at this; omega) HSZ.out)
          clear hcb hz hkx hk
          by_cases hcc : ck2 = ck
          · have hce : ((ck2 : Int) == (ck : Int)) = true := by rw [beq_iff_eq]; omega
            have hcn : (ck2 == ck) = true := by rw [beq_iff_eq]; exact hcc
            have HCC := Lib.hid hcc
            clear hcc
            go_wp2
            go_quiet (fail)
            go_wp2
            go_ret
            refine ⟨⟨false, rfl, ⟨(fun h => by cases h), fun h => ?_⟩⟩, below_drewN (below_nxt HBI.out HB.out) _⟩
            exact absurd HCC.out (pairs_may h k i _ _ HK.out (by have := HI.out; have := HN.out; omega) HZ.out HX.out).1
          · have hce : ((ck2 : Int) == (ck : Int)) = false := beq_false_of_ne (by omega)
            have hcn : (ck2 == ck) = false := beq_false_of_ne hcc
            have HCC := Lib.hid hcc
            clear hcc
            obtain ⟨zz, hzz⟩ : ∃ zz, lessD nm2.data.toList nm.data.toList = zz := ⟨_, rfl⟩
            have HZZ := Lib.hid hzz
            rw [hzz] at HLS
            clear hzz
            cases zz
            · go_wp2
              go_still_tail 16, (by kernel_rfl)
              change wpList _ _ _ _ _ wr.drew
              go_wp2_with (go_at_call 37; refine (HLS.out _).mono ?_; rintro e w5 ⟨rfl, hb⟩
                           have HB5 := Lib.hid (below_nxt (below_nxt hb (below_drw wr)) HBI.out)
                           clear hb)
              go_ret
              refine ⟨⟨false, rfl, ⟨(fun h => by cases h), fun h => ?_⟩⟩, below_nxt HB5.out HB.out⟩
              have h1 := (pairs_may h k i _ _ HK.out (by have := HI.out; have := HN.out; omega) HZ.out HX.out).2
              rw [HZZ.out] at h1
              cases h1
            · go_wp2
              go_still_tail 16, (by kernel_rfl)
              change wpList _ _ _ _ _ wr.drew
              go_wp2_with (go_at_call 37; refine (HLS.out _).mono ?_; rintro e w5 ⟨rfl, hb⟩
                           have HB5 := Lib.hid (below_nxt (below_nxt hb (below_drw wr)) HBI.out)
                           have HR5 := Lib.hid ((HRW.out.kept (below_drw wr)).kept hb)
                           clear hb)
              go_roundw
              case rel =>
                refine ⟨k + 1, Lib.hid HK.out, by go_num, Lib.hid (fun j z hj hz => ?_), HR5, HB5⟩
                by_cases hjk : j < k
                · exact HLE.out j z hjk hz
                · obtain rfl : j = k := by omega
                  have h1 := HZ.out
                  rw [hz] at h1
                  injection h1 with h1
                  subst h1
                  exact ⟨HCC.out, HZZ.out⟩
              case measure => have := HK.out; simp [intOf]; omega
        · have hki : ¬ (k : Int) < (i : Int) := by omega
          have hke : k = i := by have := HKL.out; omega
          have HKE := Lib.hid hke
          clear hk hke
          go_wp2
          go_roundw
          case rel =>
            refine ⟨i + 1, by go_num, Lib.hid HI.out, Lib.hid (fun e he => ?_), Lib.hid (pairs_more HQ.out HX.out (fun j x hj hx => HLE.out j x (by rw [HKE.out]; exact hj) hx)), Lib.hid (below_nxt HBI.out HB.out)⟩
            rw [List.take_add_one, HX.out] at he
            rcases List.mem_append.1 he with he | he
            · exact HP.out e he
            · simp at he
              subst he
              exact HGOOD.out
          case measure => have := HI.out; simp [intOf]; omega
    · have hii : ¬ (i : Int) < (n : Int) := by omega
      have hie : i = n := by have := HIL.out; omega
      have HALL := Lib.hid (p := MayL X) (by
        have h1 := HP.out
        rw [List.take_of_length_le (by have := HN.out; omega)] at h1
        have h2 := HQ.out
        rw [show i = X.length by have := HN.out; omega] at h2
        exact may_pairs (by have := HBG.out; have := HN.out; omega) h1 h2)
      clear hi hie
      go_wp2
      go_ret
      exact ⟨⟨true, rfl, ⟨fun _ => HALL.out, fun _ => rfl⟩⟩, HB.out⟩
end Go.Proofs.YtijffkklhgnknaaDoor
