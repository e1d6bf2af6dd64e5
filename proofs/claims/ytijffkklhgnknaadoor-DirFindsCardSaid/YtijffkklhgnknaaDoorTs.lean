/- The walk of DirFinds. Conditions: the library's tables lie there, lengths are within the reach. -/
import Derived.Test.YtijffkklhgnknaaDoorTr
import Derived.Test.YtijffkklhgnknaaDoorTm
import Derived.Test.YtijffkklhgnknaaDoorTq
import Derived.Test.YtijffkklhgnknaaDoorRh
import Derived.Test.YtijffkklhgnknaaDoorRj
import Derived.Test.YtijffkklhgnknaaDoorRm
import Derived.Test.YtijffkklhgnknaaDoorSb1
import Derived.Test.YtijffkklhgnknaaDoorSd3
set_option linter.unusedVariables false
set_option maxRecDepth 20000
namespace Go.Proofs.YtijffkklhgnknaaDoor
open Go.RowKit
theorem step_neq_ent {ops : Array Oper} {rest : List Oper} {o : Oper} {a : Act} {w : World} {Q : Exit → Act → World → Prop} (hw : Region.wanted o (yielded ops a.tmps) = true) (t' : TypeId) (x y : Operand) (ho : o.op = .binOp .neq 42 x y t') (p : Ent) (hx : a.eval x = .agg (ecs p).toArray) (hy : a.eval y = .agg (ecs p).toArray)
    (h : wpList Tryd.prog ops Q rest (a.put o.dst (.bool false)) w) : wpList Tryd.prog ops Q (o :: rest) a w := by
  refine wpList_step fun K hK => ?_
  rw [if_pos hw]
  unfold Oper.wp
  rw [neq_same w o t' x y ho p hx hy]
  exact hK _ _ h
set_option maxHeartbeats 4000000 in
theorem finds_long (A : Option Addr) (n c : Nat) (X : List Ent) (x : Ent) (nm : ByteArray) (w : World) (hT : Tabs w) (I : InE w A n c X) (hx : 1000 < x.nm.size) : Calls Tryd.prog 8 #[.slice A n c, .agg (ecs x).toArray, .string nm] w fun e w' => e = .returned (.bool true) ∧ Below w.heap.size w w' := by
  have HT := Lib.hid hT
  have HI := Lib.hid I
  have HN := Lib.hid (p := n ≤ 9223372036854775807 ∧ ∀ e ∈ X, e.nm.size ≤ 140737488355328) ⟨by have := I.reach; have := reach_lt; omega, fun e he => Nat.le_trans (I.ok e he).1 reach_lt⟩
  have hx1 : (1000 : Int) < (x.nm.size : Int) := by omega
  clear hT I hx
  go_enter Tryd.func8, Tryd.ntmps8
  go_wp2_with (first
    | (refine step_box rfl 4 rfl 42 (.tmp 1) rfl (ecs x) rfl ?_; intro g3 w1 hr1 hg1 hb1 hs1
       have R1 := Lib.hid hr1
       have B1 := Lib.hid hb1
       clear hr1 hg1 hb1 hs1)
    | (go_at_call 9; refine (awake_any _ (tabs_below HT.out B1.out)).mono ?_; rintro e w2 ⟨rfl, hb⟩
       have R2 := Lib.hid (R1.out.kept hb)
       have B2 := Lib.hid (below_nxt hb B1.out)
       clear hb)
    | (go_at_call 10; refine (small_any A n c X HN.out.1 _ (HI.out.lies.below B2.out) HI.out.len_ HN.out.2).mono ?_; rintro e w3 ⟨⟨z, rfl, hz⟩, hb⟩
       have HZ := Lib.hid hz
       have R3 := Lib.hid (R2.out.kept hb)
       have B3 := Lib.hid (below_nxt hb B2.out)
       have c3 : w3.cell? ⟨g3, 0, none⟩ = some (.string x.nm) := (R3.out.cell 0).trans rfl
       clear hz hb
       cases z))
  · go_ret
    exact ⟨rfl, B3.out⟩
  · go_ret
    exact ⟨rfl, B3.out⟩
set_option maxHeartbeats 4000000 in
theorem finds_name (A : Option Addr) (n c : Nat) (X : List Ent) (x : Ent) (nm : ByteArray) (w : World) (hT : Tabs w) (I : InE w A n c X) (hx : x.nm.size ≤ 1000) (hn : 1000 < nm.size) : Calls Tryd.prog 8 #[.slice A n c, .agg (ecs x).toArray, .string nm] w fun e w' => e = .returned (.bool true) ∧ Below w.heap.size w w' := by
  have HT := Lib.hid hT
  have HI := Lib.hid I
  have HN := Lib.hid (p := n ≤ 9223372036854775807 ∧ ∀ e ∈ X, e.nm.size ≤ 140737488355328) ⟨by have := I.reach; have := reach_lt; omega, fun e he => Nat.le_trans (I.ok e he).1 reach_lt⟩
  have hx1 : ¬ (1000 : Int) < (x.nm.size : Int) := by omega
  have hn1 : (1000 : Int) < (nm.size : Int) := by omega
  clear hT I hx hn
  go_enter Tryd.func8, Tryd.ntmps8
  go_wp2_with (first
    | (refine step_box rfl 4 rfl 42 (.tmp 1) rfl (ecs x) rfl ?_; intro g3 w1 hr1 hg1 hb1 hs1
       have R1 := Lib.hid hr1
       have B1 := Lib.hid hb1
       clear hr1 hg1 hb1 hs1)
    | (go_at_call 9; refine (awake_any _ (tabs_below HT.out B1.out)).mono ?_; rintro e w2 ⟨rfl, hb⟩
       have R2 := Lib.hid (R1.out.kept hb)
       have B2 := Lib.hid (below_nxt hb B1.out)
       clear hb)
    | (go_at_call 10; refine (small_any A n c X HN.out.1 _ (HI.out.lies.below B2.out) HI.out.len_ HN.out.2).mono ?_; rintro e w3 ⟨⟨z, rfl, hz⟩, hb⟩
       have HZ := Lib.hid hz
       have R3 := Lib.hid (R2.out.kept hb)
       have B3 := Lib.hid (below_nxt hb B2.out)
       have c3 : w3.cell? ⟨g3, 0, none⟩ = some (.string x.nm) := (R3.out.cell 0).trans rfl
       clear hz hb
       cases z))
  · go_ret
    exact ⟨rfl, B3.out⟩
  · go_ret
    exact ⟨rfl, B3.out⟩
set_option maxHeartbeats 8000000 in
theorem finds_true (A : Option Addr) (n c : Nat) (X : List Ent) (x : Ent) (nm : ByteArray) (w : World) (hT : Tabs w) (I : InE w A n c X) (hx : x.nm.size ≤ 1000) (hn : nm.size ≤ 1000) (hq : (nm.toList == x.nm.toList) = true) : Calls Tryd.prog 8 #[.slice A n c, .agg (ecs x).toArray, .string nm] w fun e w' => e = .returned (.bool true) ∧ Below w.heap.size w w' := by
  have HT := Lib.hid hT
  have HI := Lib.hid I
  have HN := Lib.hid (p := n ≤ 9223372036854775807 ∧ ∀ e ∈ X, e.nm.size ≤ 140737488355328) ⟨by have := I.reach; have := reach_lt; omega, fun e he => Nat.le_trans (I.ok e he).1 reach_lt⟩
  have hx1 : ¬ (1000 : Int) < (x.nm.size : Int) := by omega
  have hn1 : ¬ (1000 : Int) < (nm.size : Int) := by omega
  obtain ⟨R, hR⟩ : ∃ R, X.filter (fun e : Ent => !(e.nm.toList == x.nm.toList)) = R := ⟨_, rfl⟩
  obtain ⟨r, hr⟩ : ∃ r, R.length = r := ⟨_, rfl⟩
  obtain ⟨m, hm⟩ : ∃ m, r + 1 = m := ⟨_, rfl⟩
  obtain ⟨ov, hov⟩ : ∃ o, X.find? (fun e : Ent => e.nm.toList == nm.toList) = o := ⟨_, rfl⟩
  obtain ⟨y, hy⟩ : ∃ y, ov.getD ent0 = y := ⟨_, rfl⟩
  obtain ⟨bs, hbs⟩ : ∃ b, ov.isSome = b := ⟨_, rfl⟩
  have HFV := Lib.hid (p := foundV ov = .tuple #[.agg (ecs y).toArray, .bool bs]) (by unfold foundV; rw [hy, hbs])
  have HOV := Lib.hid hov
  have HRX := Lib.hid hR
  have HRR := Lib.hid hr
  have HRN := Lib.hid (p := r ≤ n) (by rw [← hr, ← hR, ← I.len_]; exact List.length_filter_le _ _)
  have HMM := Lib.hid hm
  have hrw : IntKind.i64.wrap ((r : Int) + 1) = (m : Int) := by rw [IntKind.wrap_i64]; have := HRN.out; have := HN.out.1; have := I.reach; have := reach_lt; omega
  have hbb : (bs != bs) = false := by simp
  have HNI := Lib.hid (p := ∀ W, Below w.heap.size w W → n ≤ 201 → (∀ e ∈ X, e.nm.size ≤ 16384) → Calls Tryd.prog 20 #[.slice A n c, .agg (ecs x).toArray] W fun e w' => ∃ A' c' z, e = .returned (.slice A' m c') ∧ w'.ownsRow W.heap.size 42 5 (.slice A' m c') m ((R.take z ++ x :: R.drop z).flatMap ecs) ∧ z ≤ r ∧ Below W.heap.size W w') (fun W hb hn hs => by
    have h1 := with_any x A n c X (by omega) W (I.lies.below hb) I.len_ (fun e he => by have := hs e he; omega) (by omega) (tabs_below HT.out hb)
    rw [hR] at h1
    unfold WithP at h1
    rw [hr, hm] at h1
    refine h1.mono ?_
    rintro e w' ⟨A', c', z, h2, h3, h4, _, _, h5⟩
    exact ⟨A', c', z, h2, h3, h4, h5⟩)
  have HWO := Lib.hid (p := ∀ W, Below w.heap.size w W → n ≤ 201 → Calls Tryd.prog 21 #[.slice A n c, .string x.nm] W fun e w' => ∃ A' c', e = .returned (.slice A' r c') ∧ w'.ownsRow W.heap.size 42 5 (.slice A' r c') r (R.flatMap ecs) ∧ Below W.heap.size W w') (fun W hb hn => by
    have h1 := without_any x.nm A n c X (by omega) W (I.lies.below hb) I.len_
    rw [hR] at h1
    refine h1.mono ?_
    rintro e w' ⟨A', m', c', rfl, ho, _, h5⟩
    have e1 : m' = r := by have h6 := ho.1; rw [flat_len ecs_len, hr] at h6; omega
    subst e1
    exact ⟨A', c', rfl, ho, h5⟩)
  have HRW := Lib.hid (p := ∀ W, Below w.heap.size w W → n ≤ 201 → Calls Tryd.prog 24 #[.slice A n c, .string x.nm] W fun e w' => ∃ A' c', e = .returned (.slice A' r c') ∧ Below W.heap.size W w') (fun W hb hn => by
    have h1 := rwithout_any x.nm A n c X (by omega) W (I.lies.below hb) I.len_
    rw [hR] at h1
    refine h1.mono ?_
    rintro e w' ⟨A', m', c', rfl, ho, _, h5⟩
    have e1 : m' = r := by have h6 := ho.1; rw [flat_len ecs_len, hr] at h6; omega
    subst e1
    exact ⟨A', c', rfl, h5⟩)
  have HFL := Lib.hid (p := ∀ W, Below w.heap.size w W → n ≤ 201 → Calls Tryd.prog 23 #[.slice A n c, .string nm] W fun e w' => e = .returned (.tuple #[.agg (ecs y).toArray, .bool bs]) ∧ Below W.heap.size W w') (fun W hb hn => by
    have h1 := find_any nm A n c X (by omega) W (I.lies.below hb) I.len_
    rw [hov, HFV.out] at h1
    exact h1)
  have HFG := Lib.hid (p := n ≤ 201 → ∀ b0 W A' c', W.ownsRow b0 42 5 (.slice A' r c') r (R.flatMap ecs) → Calls Tryd.prog 23 #[.slice A' r c', .string x.nm] W fun e w' => e = .returned (.tuple #[.agg (ecs ent0).toArray, .bool false]) ∧ Below W.heap.size W w') (fun hn b0 W A' c' ho => by
    have h1 := find_any x.nm A' r c' R (by have := HRN.out; omega) W (Lies.own (by decide) ecs_len ho) hr
    rw [find_gone hR] at h1
    exact h1)
  have hq2 : (nm.toList != x.nm.toList) = false := by unfold bne; rw [hq]; rfl
  clear hT I hx hn hR hr hm hov hy hbs
  go_enter Tryd.func8, Tryd.ntmps8
  go_wp2_with (first
    | (refine step_box rfl 4 rfl 42 (.tmp 1) rfl (ecs x) rfl ?_; intro g3 w1 hr1 hg1 hb1 hs1
       have R1 := Lib.hid hr1
       have B1 := Lib.hid hb1
       clear hr1 hg1 hb1 hs1)
    | (go_at_call 9; refine (awake_any _ (tabs_below HT.out B1.out)).mono ?_; rintro e w2 ⟨rfl, hb⟩
       have R2 := Lib.hid (R1.out.kept hb)
       have B2 := Lib.hid (below_nxt hb B1.out)
       clear hb)
    | (go_at_call 10; refine (small_any A n c X HN.out.1 _ (HI.out.lies.below B2.out) HI.out.len_ HN.out.2).mono ?_; rintro e w3 ⟨⟨z, rfl, hz⟩, hb⟩
       have HZ := Lib.hid hz
       have R3 := Lib.hid (R2.out.kept hb)
       have B3 := Lib.hid (below_nxt hb B2.out)
       have c3 : w3.cell? ⟨g3, 0, none⟩ = some (.string x.nm) := (R3.out.cell 0).trans rfl
       clear hz hb
       cases z)
    | (go_at_call 22; refine (rising_any A n c X (by have := (HZ.out (by trivial)).1; omega) w3 (HI.out.lies.below B3.out) HI.out.len_ (fun e he => by have := (HZ.out (by trivial)).2 e he; omega)).mono ?_; rintro e w4 ⟨⟨z, rfl⟩, hb⟩
       have R4 := Lib.hid (R3.out.kept hb)
       have B4 := Lib.hid (below_nxt hb B3.out)
       clear hb c3
       cases z)
    | (refine wpList_load_mid rfl 42 (.tmp 4) rfl g3 0 rfl (ecs x) _ R4.out.all Tryd.underlying42 rfl (info_ent x) ?_)
    | (go_at_call 20; refine (HNI.out w4 B4.out (HZ.out (by trivial)).1 (HZ.out (by trivial)).2).mono ?_; rintro e w5 ⟨A5, c5, z5, rfl, ho, hz, hb⟩
       obtain ⟨M, hM⟩ : ∃ M, R.take z5 ++ x :: R.drop z5 = M := ⟨_, rfl⟩
       rw [hM] at ho
       have HZN := Lib.hid (p := n ≤ 201) (HZ.out (by trivial)).1
       have HOM5 := Lib.hid ho
       have HML := Lib.hid (p := M.length = m) (by have h6 := ho.1; rw [flat_len ecs_len] at h6; omega)
       have HM3 := Lib.hid (p := m ≤ 1000) (by have := HMM.out; have := HRN.out; have := HZN.out; omega)
       have HFA := Lib.hid (p := ∀ W, Below w5.heap.size w5 W → Calls Tryd.prog 23 #[.slice A5 m c5, .string x.nm] W fun e w' => e = .returned (.tuple #[.agg (ecs x).toArray, .bool true]) ∧ Below W.heap.size W w') (fun W hb => by
         have h1 := find_any x.nm A5 m c5 M (by have := HM3.out; omega) W ((Lies.own (by decide) ecs_len HOM5.out).below hb) HML.out
         rw [← hM, find_with HRX.out] at h1
         exact h1)
       have HWD := Lib.hid (p := ∀ b0 W, W.ownsRow b0 42 5 (.slice A5 m c5) m (M.flatMap ecs) → Calls Tryd.prog 21 #[.slice A5 m c5, .string x.nm] W fun e w' => ∃ A' c', e = .returned (.slice A' r c') ∧ w'.ownsRow W.heap.size 42 5 (.slice A' r c') r (R.flatMap ecs) ∧ Below W.heap.size W w') (fun b0 W ho => by
         have h1 := without_any x.nm A5 m c5 M (by have := HM3.out; omega) W (Lies.own (by decide) ecs_len ho) HML.out
         rw [← hM, filter_with HRX.out] at h1
         refine h1.mono ?_
         rintro e w' ⟨A', m', c', rfl, ho, _, h5⟩
         have e1 : m' = r := by have h6 := ho.1; rw [flat_len ecs_len, HRR.out] at h6; omega
         subst e1
         exact ⟨A', c', rfl, ho, h5⟩)
       have R5 := Lib.hid (R4.out.kept hb)
       have B5 := Lib.hid (below_nxt hb B4.out)
       have cc5 : w5.cell? ⟨g3, 0, none⟩ = some (.string x.nm) := (R5.out.cell 0).trans rfl
       clear ho hz hb hM)
    | (go_at_call 23; refine (HFA.out _ (Below.refl _ _)).mono ?_; rintro e w6 ⟨rfl, hb⟩
       have R6 := Lib.hid (R5.out.kept hb)
       have B56 := Lib.hid hb
       clear hb cc5 HFA)
    | (refine step_alloc rfl 8 rfl 42 rfl (ecs ent0) zero_ent ?_; intro g8 w7 hr2 hg2 hb2 hs2
       have R87 := Lib.hid hr2
       have B67 := Lib.hid hb2
       have G87 := Lib.hid (p := w6.heap.size ≤ g8) (Nat.le_of_eq hg2.out.symm)
       clear hr2 hg2 hb2 hs2)
    | (refine step_store rfl 42 (.tmp 8) (.tmp 43) rfl g8 rfl 42 (ecs ent0) (ecs x) rfl R87.out rfl (info_ent x) (ecs_one x) ?_; intro w8 hr9 hg9 hs9
       have hb := B67.out.grown hg9 B67.out.size (fun q hq => by injection hq with hq; subst hq; exact G87.out)
       have R88 := Lib.hid hr9
       have R8 := Lib.hid (R6.out.kept hb)
       have B58 := Lib.hid (below_nxt hb B56.out)
       have cc8 : w8.cell? ⟨g3, 0, none⟩ = some (.string x.nm) := (R8.out.cell 0).trans rfl
       clear hr9 hg9 hs9 hb)
    | (refine step_load_gm (by rfl) 42 (.tmp 8) rfl g8 0 rfl (ecs x) _ R88.out.all Tryd.underlying42 rfl (info_ent x) ?_)
    | (refine step_load_gm (by rfl) 42 (.tmp 4) rfl g3 0 rfl (ecs x) _ R8.out.all Tryd.underlying42 rfl (info_ent x) ?_)
    | (refine step_neq_ent (by rfl) 42 (.tmp 48) (.tmp 49) rfl x rfl rfl ?_)
    | (go_at_call 24; refine (HRW.out _ (below_nxt B58.out B5.out) HZN.out).mono ?_; rintro e w9 ⟨A9, c9, rfl, hb⟩
       have R9 := Lib.hid (R8.out.kept hb)
       have B59 := Lib.hid (below_nxt hb B58.out)
       have cc9 : w9.cell? ⟨g3, 0, none⟩ = some (.string x.nm) := (R9.out.cell 0).trans rfl
       clear hb cc8))
  · go_ret
    exact ⟨rfl, B3.out⟩
  · go_ret
    exact ⟨rfl, B4.out⟩
  have HOM := Lib.hid (own_kept HOM5.out B59.out)
  have BM := Lib.hid (below_nxt B59.out B5.out)
  have HSQ := Lib.hid (p := ∀ W, Below w9.heap.size w9 W → W.cell? ⟨g3, 0, none⟩ = some (.string x.nm)) (fun W hb => ((R9.out.kept hb).cell 0).trans rfl)
  have HD := Lib.hid (below_drw w9)
  clear cc9
  refine wp_region_held_drew (S := fun W => W.cell? ⟨g3, 0, none⟩ = some (.string x.nm)) (by kernel_rfl) (HSQ.out _ HD.out) (fun hHeld => ?_)
  refine wpAnyH_take (i := 0) (oi := ⟨some 88, .move (.tmp 7), _, _, _, _⟩) (v := .slice A5 m c5) rfl (by kernel_rfl) (by kernel_rfl) (by kernel_rfl) (fun _ _ _ h => h) (.inl ⟨by rfl, fun w hSw => by go_simp⟩) (by assumption) ?_
  simp only [Act.put, List.setIfInBounds_toArray, List.set_cons_zero, List.set_cons_succ]
  refine wpAnyH_take (i := 1) (oi := ⟨some 89, .fieldAddr 42 (.tmp 4) 0, _, _, _, _⟩) (v := .pointer (some ⟨g3, 0, none⟩)) rfl (by kernel_rfl) (by kernel_rfl) (by kernel_rfl) (fun _ _ _ h => h) (.inl ⟨by rfl, fun w hSw => by go_simp⟩) (by assumption) ?_
  simp only [Act.put, List.setIfInBounds_toArray, List.set_cons_zero, List.set_cons_succ]
  refine wpAnyH_take (i := 2) (oi := ⟨some 90, .load 9 (.tmp 89), _, _, _, _⟩) (v := .string x.nm) rfl (by kernel_rfl) (by kernel_rfl) (by kernel_rfl) (fun _ _ _ h => h) (.inl ⟨by rfl, fun w hSw => by have z := hSw; go_simp⟩) (by assumption) ?_
  simp only [Act.put, List.setIfInBounds_toArray, List.set_cons_zero, List.set_cons_succ]
  refine wpAnyH_take (i := 4) (oi := ⟨some 92, .fieldAddr 42 (.tmp 4) 0, _, _, _, _⟩) (v := .pointer (some ⟨g3, 0, none⟩)) rfl (by kernel_rfl) (by kernel_rfl) (by kernel_rfl) (fun _ _ _ h => h) (.inl ⟨by rfl, fun w hSw => by go_simp⟩) (by assumption) ?_
  simp only [Act.put, List.setIfInBounds_toArray, List.set_cons_zero, List.set_cons_succ]
  refine wpAnyH_take (i := 5) (oi := ⟨some 93, .load 9 (.tmp 92), _, _, _, _⟩) (v := .string x.nm) rfl (by kernel_rfl) (by kernel_rfl) (by kernel_rfl) (fun _ _ _ h => h) (.inl ⟨by rfl, fun w hSw => by have z := hSw; go_simp⟩) (by assumption) ?_
  simp only [Act.put, List.setIfInBounds_toArray, List.set_cons_zero, List.set_cons_succ]
  refine wpAnyH_ready (rs := [3]) (by kernel_rfl) (by simp) ?_
  refine AllReadyH.cons (o := ⟨some 91, .call ⟨.value (.func 21), #[.tmp 88, .tmp 90], _⟩, _, _, _, _⟩) rfl (fun K hK => ?_) AllReadyH.nil
  go_simp
  go_at_call 21
  refine (HWD.out _ _ (own_kept HOM.out HD.out)).mono ?_
  rintro e w16 ⟨A16, c16, rfl, ho, hb⟩
  have HO16 := Lib.hid ho
  have HB16 := Lib.hid (below_nxt hb HD.out)
  clear ho hb
  refine hK.out _ _ (HSQ.out _ HB16.out) (fun _hs => ?_)
  clear hK K
  refine wpAnyH_ready (rs := [6]) (by kernel_rfl) (by simp) ?_
  refine AllReadyH.cons (o := ⟨some 94, .call ⟨.value (.func 23), #[.tmp 91, .tmp 93], _⟩, _, _, _, _⟩) rfl (fun K hK => ?_) AllReadyH.nil
  go_simp
  go_at_call 23
  refine (HFG.out HZN.out _ _ A16 c16 HO16.out).mono ?_
  rintro e w17 ⟨rfl, hb⟩
  have HB17 := Lib.hid (below_nxt hb HB16.out)
  clear hb
  refine hK.out _ _ (HSQ.out _ HB17.out) (fun _hs => ?_)
  clear hK K
  refine wpAnyH_take (i := 7) (oi := ⟨some 87, .move (.tmp 94), _, _, _, _⟩) (v := .tuple #[.agg (ecs ent0).toArray, .bool false]) rfl (by kernel_rfl) (by kernel_rfl) (by kernel_rfl) (fun _ _ _ h => h) (.inl ⟨by rfl, fun w hSw => by go_simp⟩) (by assumption) ?_
  simp only [Act.put, List.setIfInBounds_toArray, List.set_cons_zero, List.set_cons_succ]
  refine wpAnyH_take (i := 8) (oi := ⟨some 95, .extract (.tmp 87) 0, _, _, _, _⟩) (v := .agg (ecs ent0).toArray) rfl (by kernel_rfl) (by kernel_rfl) (by kernel_rfl) (fun _ _ _ h => h) (.inl ⟨by rfl, fun w hSw => by go_simp⟩) (by assumption) ?_
  simp only [Act.put, List.setIfInBounds_toArray, List.set_cons_zero, List.set_cons_succ]
  refine wpAnyH_take (i := 9) (oi := ⟨some 96, .extract (.tmp 87) 1, _, _, _, _⟩) (v := .bool false) rfl (by kernel_rfl) (by kernel_rfl) (by kernel_rfl) (fun _ _ _ h => h) (.inl ⟨by rfl, fun w hSw => by go_simp⟩) (by assumption) ?_
  simp only [Act.put, List.setIfInBounds_toArray, List.set_cons_zero, List.set_cons_succ]
  refine wpAnyH_take (i := 10) (oi := ⟨some 9, .assign (.tmp 96), _, _, _, _⟩) (v := .bool false) rfl (by kernel_rfl) (by kernel_rfl) (by kernel_rfl) (fun _ _ _ h => h) (.inl ⟨by rfl, fun w hSw => by go_simp⟩) (by assumption) ?_
  simp only [Act.put, List.setIfInBounds_toArray, List.set_cons_zero, List.set_cons_succ]
  refine wpAnyH_done (by kernel_rfl) ?_ _
  go_upto_region 15 with fail
  have HD2 := Lib.hid (below_nxt (below_drw w17) HB17.out)
  refine wp_region_held_drew (S := fun W => W.cell? ⟨g3, 0, none⟩ = some (.string x.nm)) (by kernel_rfl) (HSQ.out _ HD2.out) (fun hHeld => ?_)
  refine wpAnyH_take (i := 0) (oi := ⟨some 97, .move (.tmp 9), _, _, _, _⟩) (v := .bool false) rfl (by kernel_rfl) (by kernel_rfl) (by kernel_rfl) (fun _ _ _ h => h) (.inl ⟨by rfl, fun w hSw => by go_simp⟩) (by assumption) ?_
  simp only [Act.put, List.setIfInBounds_toArray, List.set_cons_zero, List.set_cons_succ]
  refine wpAnyH_take (i := 1) (oi := ⟨some 98, .unOp .not 4 (.tmp 97), _, _, _, _⟩) (v := .bool true) rfl (by kernel_rfl) (by kernel_rfl) (by kernel_rfl) (fun _ _ _ h => h) (.inl ⟨by rfl, fun w hSw => by go_simp⟩) (by assumption) ?_
  simp only [Act.put, List.setIfInBounds_toArray, List.set_cons_zero, List.set_cons_succ]
  refine wpAnyH_take (i := 2) (oi := ⟨some 99, .move (.tmp 98), _, _, _, _⟩) (v := .bool true) rfl (by kernel_rfl) (by kernel_rfl) (by kernel_rfl) (fun _ _ _ h => h) (.inl ⟨by rfl, fun w hSw => by go_simp⟩) (by assumption) ?_
  simp only [Act.put, List.setIfInBounds_toArray, List.set_cons_zero, List.set_cons_succ]
  refine wpAnyH_take (i := 3) (oi := ⟨some 100, .move (.tmp 7), _, _, _, _⟩) (v := .slice A5 m c5) rfl (by kernel_rfl) (by kernel_rfl) (by kernel_rfl) (fun _ _ _ h => h) (.inl ⟨by rfl, fun w hSw => by go_simp⟩) (by assumption) ?_
  simp only [Act.put, List.setIfInBounds_toArray, List.set_cons_zero, List.set_cons_succ]
  refine wpAnyH_take (i := 4) (oi := ⟨some 101, .fieldAddr 42 (.tmp 4) 0, _, _, _, _⟩) (v := .pointer (some ⟨g3, 0, none⟩)) rfl (by kernel_rfl) (by kernel_rfl) (by kernel_rfl) (fun _ _ _ h => h) (.inl ⟨by rfl, fun w hSw => by go_simp⟩) (by assumption) ?_
  simp only [Act.put, List.setIfInBounds_toArray, List.set_cons_zero, List.set_cons_succ]
  refine wpAnyH_take (i := 5) (oi := ⟨some 102, .load 9 (.tmp 101), _, _, _, _⟩) (v := .string x.nm) rfl (by kernel_rfl) (by kernel_rfl) (by kernel_rfl) (fun _ _ _ h => h) (.inl ⟨by rfl, fun w hSw => by have z := hSw; go_simp⟩) (by assumption) ?_
  simp only [Act.put, List.setIfInBounds_toArray, List.set_cons_zero, List.set_cons_succ]
  refine wpAnyH_take (i := 7) (oi := ⟨some 104, .move (.tmp 0), _, _, _, _⟩) (v := .slice A n c) rfl (by kernel_rfl) (by kernel_rfl) (by kernel_rfl) (fun _ _ _ h => h) (.inl ⟨by rfl, fun w hSw => by go_simp⟩) (by assumption) ?_
  simp only [Act.put, List.setIfInBounds_toArray, List.set_cons_zero, List.set_cons_succ]
  refine wpAnyH_take (i := 8) (oi := ⟨some 105, .fieldAddr 42 (.tmp 4) 0, _, _, _, _⟩) (v := .pointer (some ⟨g3, 0, none⟩)) rfl (by kernel_rfl) (by kernel_rfl) (by kernel_rfl) (fun _ _ _ h => h) (.inl ⟨by rfl, fun w hSw => by go_simp⟩) (by assumption) ?_
  simp only [Act.put, List.setIfInBounds_toArray, List.set_cons_zero, List.set_cons_succ]
  refine wpAnyH_take (i := 9) (oi := ⟨some 106, .load 9 (.tmp 105), _, _, _, _⟩) (v := .string x.nm) rfl (by kernel_rfl) (by kernel_rfl) (by kernel_rfl) (fun _ _ _ h => h) (.inl ⟨by rfl, fun w hSw => by have z := hSw; go_simp⟩) (by assumption) ?_
  simp only [Act.put, List.setIfInBounds_toArray, List.set_cons_zero, List.set_cons_succ]
  refine wpAnyH_ready (rs := [6]) (by kernel_rfl) (by simp) ?_
  refine AllReadyH.cons (o := ⟨some 103, .call ⟨.value (.func 21), #[.tmp 100, .tmp 102], _⟩, _, _, _, _⟩) rfl (fun K hK => ?_) AllReadyH.nil
  go_simp
  go_at_call 21
  refine (HWD.out _ _ (own_kept HOM.out HD2.out)).mono ?_
  rintro e w18 ⟨A18, c18, rfl, ho, hb⟩
  have HO18 := Lib.hid ho
  have HB18 := Lib.hid (below_nxt hb HD2.out)
  clear ho hb
  refine hK.out _ _ (HSQ.out _ HB18.out) (fun _hs => ?_)
  clear hK K
  refine wpAnyH_ready (rs := [10]) (by kernel_rfl) (by simp) ?_
  refine AllReadyH.cons (o := ⟨some 107, .call ⟨.value (.func 21), #[.tmp 104, .tmp 106], _⟩, _, _, _, _⟩) rfl (fun K hK => ?_) AllReadyH.nil
  go_simp
  go_at_call 21
  refine (HWO.out _ (below_nxt HB18.out BM.out) HZN.out).mono ?_
  rintro e w19 ⟨A19, c19, rfl, ho, hb⟩
  have HO19 := Lib.hid ho
  have HO189 := Lib.hid (own_kept HO18.out hb)
  have HB19 := Lib.hid (below_nxt hb HB18.out)
  clear ho hb
  refine hK.out _ _ (HSQ.out _ HB19.out) (fun _hs => ?_)
  clear hK K
  refine wpAnyH_ready (rs := [11]) (by kernel_rfl) (by simp) ?_
  refine AllReadyH.cons (o := ⟨some 108, .call ⟨.value (.func 14), #[.tmp 103, .tmp 107], _⟩, _, _, _, _⟩) rfl (fun K hK => ?_) AllReadyH.nil
  go_simp
  go_at_call 14
  refine (lists_same A18 A19 r c18 c19 R (by have := HRN.out; have := HZN.out; omega) HRR.out _ (Lies.own (by decide) ecs_len HO189.out) (Lies.own (by decide) ecs_len HO19.out)).mono ?_
  rintro e w20 ⟨rfl, hb⟩
  have HB20 := Lib.hid (below_nxt hb HB19.out)
  clear hb
  refine hK.out _ _ (HSQ.out _ HB20.out) (fun _hs => ?_)
  clear hK K
  refine wpAnyH_take (i := 12) (oi := ⟨some 109, .pick (.tmp 99) (.tmp 108) (.const (.bool false)), _, _, _, _⟩) (v := .bool true) rfl (by kernel_rfl) (by kernel_rfl) (by kernel_rfl) (fun _ _ _ h => h) (.inl ⟨by rfl, fun w hSw => by go_simp⟩) (by assumption) ?_
  simp only [Act.put, List.setIfInBounds_toArray, List.set_cons_zero, List.set_cons_succ]
  refine wpAnyH_take (i := 13) (oi := ⟨some 6, .assign (.tmp 109), _, _, _, _⟩) (v := .bool true) rfl (by kernel_rfl) (by kernel_rfl) (by kernel_rfl) (fun _ _ _ h => h) (.inl ⟨by rfl, fun w hSw => by go_simp⟩) (by assumption) ?_
  simp only [Act.put, List.setIfInBounds_toArray, List.set_cons_zero, List.set_cons_succ]
  refine wpAnyH_done (by kernel_rfl) ?_ _
  go_wp2_with fail
  go_ret
  exact ⟨rfl, below_nxt HB20.out BM.out⟩
set_option maxHeartbeats 8000000 in
theorem finds_false (A : Option Addr) (n c : Nat) (X : List Ent) (x : Ent) (nm : ByteArray) (w : World) (hT : Tabs w) (I : InE w A n c X) (hx : x.nm.size ≤ 1000) (hn : nm.size ≤ 1000) (hq : (nm.toList == x.nm.toList) = false) : Calls Tryd.prog 8 #[.slice A n c, .agg (ecs x).toArray, .string nm] w fun e w' => e = .returned (.bool true) ∧ Below w.heap.size w w' := by
  have HT := Lib.hid hT
  have HI := Lib.hid I
  have HN := Lib.hid (p := n ≤ 9223372036854775807 ∧ ∀ e ∈ X, e.nm.size ≤ 140737488355328) ⟨by have := I.reach; have := reach_lt; omega, fun e he => Nat.le_trans (I.ok e he).1 reach_lt⟩
  have hx1 : ¬ (1000 : Int) < (x.nm.size : Int) := by omega
  have hn1 : ¬ (1000 : Int) < (nm.size : Int) := by omega
  obtain ⟨R, hR⟩ : ∃ R, X.filter (fun e : Ent => !(e.nm.toList == x.nm.toList)) = R := ⟨_, rfl⟩
  obtain ⟨r, hr⟩ : ∃ r, R.length = r := ⟨_, rfl⟩
  obtain ⟨m, hm⟩ : ∃ m, r + 1 = m := ⟨_, rfl⟩
  obtain ⟨ov, hov⟩ : ∃ o, X.find? (fun e : Ent => e.nm.toList == nm.toList) = o := ⟨_, rfl⟩
  obtain ⟨y, hy⟩ : ∃ y, ov.getD ent0 = y := ⟨_, rfl⟩
  obtain ⟨bs, hbs⟩ : ∃ b, ov.isSome = b := ⟨_, rfl⟩
  have HFV := Lib.hid (p := foundV ov = .tuple #[.agg (ecs y).toArray, .bool bs]) (by unfold foundV; rw [hy, hbs])
  have HOV := Lib.hid hov
  have HRX := Lib.hid hR
  have HRR := Lib.hid hr
  have HRN := Lib.hid (p := r ≤ n) (by rw [← hr, ← hR, ← I.len_]; exact List.length_filter_le _ _)
  have HMM := Lib.hid hm
  have hrw : IntKind.i64.wrap ((r : Int) + 1) = (m : Int) := by rw [IntKind.wrap_i64]; have := HRN.out; have := HN.out.1; have := I.reach; have := reach_lt; omega
  have hbb : (bs != bs) = false := by simp
  have HNI := Lib.hid (p := ∀ W, Below w.heap.size w W → n ≤ 201 → (∀ e ∈ X, e.nm.size ≤ 16384) → Calls Tryd.prog 20 #[.slice A n c, .agg (ecs x).toArray] W fun e w' => ∃ A' c' z, e = .returned (.slice A' m c') ∧ w'.ownsRow W.heap.size 42 5 (.slice A' m c') m ((R.take z ++ x :: R.drop z).flatMap ecs) ∧ z ≤ r ∧ Below W.heap.size W w') (fun W hb hn hs => by
    have h1 := with_any x A n c X (by omega) W (I.lies.below hb) I.len_ (fun e he => by have := hs e he; omega) (by omega) (tabs_below HT.out hb)
    rw [hR] at h1
    unfold WithP at h1
    rw [hr, hm] at h1
    refine h1.mono ?_
    rintro e w' ⟨A', c', z, h2, h3, h4, _, _, h5⟩
    exact ⟨A', c', z, h2, h3, h4, h5⟩)
  have HWO := Lib.hid (p := ∀ W, Below w.heap.size w W → n ≤ 201 → Calls Tryd.prog 21 #[.slice A n c, .string x.nm] W fun e w' => ∃ A' c', e = .returned (.slice A' r c') ∧ w'.ownsRow W.heap.size 42 5 (.slice A' r c') r (R.flatMap ecs) ∧ Below W.heap.size W w') (fun W hb hn => by
    have h1 := without_any x.nm A n c X (by omega) W (I.lies.below hb) I.len_
    rw [hR] at h1
    refine h1.mono ?_
    rintro e w' ⟨A', m', c', rfl, ho, _, h5⟩
    have e1 : m' = r := by have h6 := ho.1; rw [flat_len ecs_len, hr] at h6; omega
    subst e1
    exact ⟨A', c', rfl, ho, h5⟩)
  have HRW := Lib.hid (p := ∀ W, Below w.heap.size w W → n ≤ 201 → Calls Tryd.prog 24 #[.slice A n c, .string x.nm] W fun e w' => ∃ A' c', e = .returned (.slice A' r c') ∧ Below W.heap.size W w') (fun W hb hn => by
    have h1 := rwithout_any x.nm A n c X (by omega) W (I.lies.below hb) I.len_
    rw [hR] at h1
    refine h1.mono ?_
    rintro e w' ⟨A', m', c', rfl, ho, _, h5⟩
    have e1 : m' = r := by have h6 := ho.1; rw [flat_len ecs_len, hr] at h6; omega
    subst e1
    exact ⟨A', c', rfl, h5⟩)
  have HFL := Lib.hid (p := ∀ W, Below w.heap.size w W → n ≤ 201 → Calls Tryd.prog 23 #[.slice A n c, .string nm] W fun e w' => e = .returned (.tuple #[.agg (ecs y).toArray, .bool bs]) ∧ Below W.heap.size W w') (fun W hb hn => by
    have h1 := find_any nm A n c X (by omega) W (I.lies.below hb) I.len_
    rw [hov, HFV.out] at h1
    exact h1)
  have HFG := Lib.hid (p := n ≤ 201 → ∀ b0 W A' c', W.ownsRow b0 42 5 (.slice A' r c') r (R.flatMap ecs) → Calls Tryd.prog 23 #[.slice A' r c', .string x.nm] W fun e w' => e = .returned (.tuple #[.agg (ecs ent0).toArray, .bool false]) ∧ Below W.heap.size W w') (fun hn b0 W A' c' ho => by
    have h1 := find_any x.nm A' r c' R (by have := HRN.out; omega) W (Lies.own (by decide) ecs_len ho) hr
    rw [find_gone hR] at h1
    exact h1)
  have hq2 : (nm.toList != x.nm.toList) = true := by unfold bne; rw [hq]; rfl
  clear hT I hx hn hR hr hm hov hy hbs
  go_enter Tryd.func8, Tryd.ntmps8
  go_wp2_with (first
    | (refine step_box rfl 4 rfl 42 (.tmp 1) rfl (ecs x) rfl ?_; intro g3 w1 hr1 hg1 hb1 hs1
       have R1 := Lib.hid hr1
       have B1 := Lib.hid hb1
       clear hr1 hg1 hb1 hs1)
    | (go_at_call 9; refine (awake_any _ (tabs_below HT.out B1.out)).mono ?_; rintro e w2 ⟨rfl, hb⟩
       have R2 := Lib.hid (R1.out.kept hb)
       have B2 := Lib.hid (below_nxt hb B1.out)
       clear hb)
    | (go_at_call 10; refine (small_any A n c X HN.out.1 _ (HI.out.lies.below B2.out) HI.out.len_ HN.out.2).mono ?_; rintro e w3 ⟨⟨z, rfl, hz⟩, hb⟩
       have HZ := Lib.hid hz
       have R3 := Lib.hid (R2.out.kept hb)
       have B3 := Lib.hid (below_nxt hb B2.out)
       have c3 : w3.cell? ⟨g3, 0, none⟩ = some (.string x.nm) := (R3.out.cell 0).trans rfl
       clear hz hb
       cases z)
    | (go_at_call 22; refine (rising_any A n c X (by have := (HZ.out (by trivial)).1; omega) w3 (HI.out.lies.below B3.out) HI.out.len_ (fun e he => by have := (HZ.out (by trivial)).2 e he; omega)).mono ?_; rintro e w4 ⟨⟨z, rfl⟩, hb⟩
       have R4 := Lib.hid (R3.out.kept hb)
       have B4 := Lib.hid (below_nxt hb B3.out)
       clear hb c3
       cases z)
    | (refine wpList_load_mid rfl 42 (.tmp 4) rfl g3 0 rfl (ecs x) _ R4.out.all Tryd.underlying42 rfl (info_ent x) ?_)
    | (go_at_call 20; refine (HNI.out w4 B4.out (HZ.out (by trivial)).1 (HZ.out (by trivial)).2).mono ?_; rintro e w5 ⟨A5, c5, z5, rfl, ho, hz, hb⟩
       obtain ⟨M, hM⟩ : ∃ M, R.take z5 ++ x :: R.drop z5 = M := ⟨_, rfl⟩
       rw [hM] at ho
       have HZN := Lib.hid (p := n ≤ 201) (HZ.out (by trivial)).1
       have HOM5 := Lib.hid ho
       have HML := Lib.hid (p := M.length = m) (by have h6 := ho.1; rw [flat_len ecs_len] at h6; omega)
       have HM3 := Lib.hid (p := m ≤ 1000) (by have := HMM.out; have := HRN.out; have := HZN.out; omega)
       have HFA := Lib.hid (p := ∀ W, Below w5.heap.size w5 W → Calls Tryd.prog 23 #[.slice A5 m c5, .string x.nm] W fun e w' => e = .returned (.tuple #[.agg (ecs x).toArray, .bool true]) ∧ Below W.heap.size W w') (fun W hb => by
         have h1 := find_any x.nm A5 m c5 M (by have := HM3.out; omega) W ((Lies.own (by decide) ecs_len HOM5.out).below hb) HML.out
         rw [← hM, find_with HRX.out] at h1
         exact h1)
       have HWD := Lib.hid (p := ∀ b0 W, W.ownsRow b0 42 5 (.slice A5 m c5) m (M.flatMap ecs) → Calls Tryd.prog 21 #[.slice A5 m c5, .string x.nm] W fun e w' => ∃ A' c', e = .returned (.slice A' r c') ∧ w'.ownsRow W.heap.size 42 5 (.slice A' r c') r (R.flatMap ecs) ∧ Below W.heap.size W w') (fun b0 W ho => by
         have h1 := without_any x.nm A5 m c5 M (by have := HM3.out; omega) W (Lies.own (by decide) ecs_len ho) HML.out
         rw [← hM, filter_with HRX.out] at h1
         refine h1.mono ?_
         rintro e w' ⟨A', m', c', rfl, ho, _, h5⟩
         have e1 : m' = r := by have h6 := ho.1; rw [flat_len ecs_len, HRR.out] at h6; omega
         subst e1
         exact ⟨A', c', rfl, ho, h5⟩)
       have HFB := Lib.hid (p := ∀ W, Below w5.heap.size w5 W → Calls Tryd.prog 23 #[.slice A5 m c5, .string nm] W fun e w' => e = .returned (.tuple #[.agg (ecs y).toArray, .bool bs]) ∧ Below W.heap.size W w') (fun W hb => by
         have h1 := find_any nm A5 m c5 M (by have := HM3.out; omega) W ((Lies.own (by decide) ecs_len HOM5.out).below hb) HML.out
         rw [← hM, find_other HRX.out hq, HOV.out, HFV.out] at h1
         exact h1)
       have R5 := Lib.hid (R4.out.kept hb)
       have B5 := Lib.hid (below_nxt hb B4.out)
       have cc5 : w5.cell? ⟨g3, 0, none⟩ = some (.string x.nm) := (R5.out.cell 0).trans rfl
       clear ho hz hb hM)
    | (go_at_call 23; refine (HFA.out _ (Below.refl _ _)).mono ?_; rintro e w6 ⟨rfl, hb⟩
       have R6 := Lib.hid (R5.out.kept hb)
       have B56 := Lib.hid hb
       clear hb cc5 HFA)
    | (refine step_alloc rfl 8 rfl 42 rfl (ecs ent0) zero_ent ?_; intro g8 w7 hr2 hg2 hb2 hs2
       have R87 := Lib.hid hr2
       have B67 := Lib.hid hb2
       have G87 := Lib.hid (p := w6.heap.size ≤ g8) (Nat.le_of_eq hg2.out.symm)
       clear hr2 hg2 hb2 hs2)
    | (refine step_store rfl 42 (.tmp 8) (.tmp 43) rfl g8 rfl 42 (ecs ent0) (ecs x) rfl R87.out rfl (info_ent x) (ecs_one x) ?_; intro w8 hr9 hg9 hs9
       have hb := B67.out.grown hg9 B67.out.size (fun q hq => by injection hq with hq; subst hq; exact G87.out)
       have R88 := Lib.hid hr9
       have R8 := Lib.hid (R6.out.kept hb)
       have B58 := Lib.hid (below_nxt hb B56.out)
       have cc8 : w8.cell? ⟨g3, 0, none⟩ = some (.string x.nm) := (R8.out.cell 0).trans rfl
       clear hr9 hg9 hs9 hb)
    | (refine step_load_gm (by rfl) 42 (.tmp 8) rfl g8 0 rfl (ecs x) _ R88.out.all Tryd.underlying42 rfl (info_ent x) ?_)
    | (refine step_load_gm (by rfl) 42 (.tmp 4) rfl g3 0 rfl (ecs x) _ R8.out.all Tryd.underlying42 rfl (info_ent x) ?_)
    | (refine step_neq_ent (by rfl) 42 (.tmp 48) (.tmp 49) rfl x rfl rfl ?_)
    | (go_at_call 24; refine (HRW.out _ (below_nxt B58.out B5.out) HZN.out).mono ?_; rintro e w9 ⟨A9, c9, rfl, hb⟩
       have R9 := Lib.hid (R8.out.kept hb)
       have B59 := Lib.hid (below_nxt hb B58.out)
       have cc9 : w9.cell? ⟨g3, 0, none⟩ = some (.string x.nm) := (R9.out.cell 0).trans rfl
       clear hb cc8)
    | (go_at_call 23; refine (HFL.out _ (below_nxt B59.out B5.out) HZN.out).mono ?_; rintro e w10 ⟨rfl, hb⟩
       have R10 := Lib.hid (R9.out.kept hb)
       have B510 := Lib.hid (below_nxt hb B59.out)
       clear hb cc9 HFL)
    | (refine step_alloc rfl 10 rfl 42 rfl (ecs ent0) zero_ent ?_; intro g10 w11 hr2 hg2 hb2 hs2
       have R111 := Lib.hid hr2
       have B1011 := Lib.hid hb2
       have G10 := Lib.hid (p := w10.heap.size ≤ g10) (Nat.le_of_eq hg2.out.symm)
       clear hr2 hg2 hb2 hs2)
    | (refine step_store rfl 42 (.tmp 10) (.tmp 71) rfl g10 rfl 42 (ecs ent0) (ecs y) rfl R111.out rfl (info_ent y) (ecs_one y) ?_; intro w12 hr9 hg9 hs9
       have hb := B1011.out.grown hg9 B1011.out.size (fun q hq => by injection hq with hq; subst hq; exact G10.out)
       have R112 := Lib.hid hr9
       have R12 := Lib.hid (R10.out.kept hb)
       have B512 := Lib.hid (below_nxt hb B510.out)
       clear hr9 hg9 hs9 hb)
    | (go_at_call 23; refine (HFB.out _ B512.out).mono ?_; rintro e w13 ⟨rfl, hb⟩
       have R13 := Lib.hid (R12.out.kept hb)
       have R113 := Lib.hid (R112.out.kept hb)
       have B513 := Lib.hid (below_nxt hb B512.out)
       clear hb HFB)
    | (refine step_alloc rfl 12 rfl 42 rfl (ecs ent0) zero_ent ?_; intro g12 w14 hr2 hg2 hb2 hs2
       have R214 := Lib.hid hr2
       have B1314 := Lib.hid hb2
       have G12 := Lib.hid (p := w13.heap.size ≤ g12) (Nat.le_of_eq hg2.out.symm)
       clear hr2 hg2 hb2 hs2)
    | (refine step_store rfl 42 (.tmp 12) (.tmp 77) rfl g12 rfl 42 (ecs ent0) (ecs y) rfl R214.out rfl (info_ent y) (ecs_one y) ?_; intro w15 hr9 hg9 hs9
       have hb := B1314.out.grown hg9 B1314.out.size (fun q hq => by injection hq with hq; subst hq; exact G12.out)
       have R215 := Lib.hid hr9
       have R115 := Lib.hid (R113.out.kept hb)
       have R15 := Lib.hid (R13.out.kept hb)
       have B515 := Lib.hid (below_nxt hb B513.out)
       clear hr9 hg9 hs9 hb)
    | (refine step_load_gm (by rfl) 42 (.tmp 10) rfl g10 0 rfl (ecs y) _ R115.out.all Tryd.underlying42 rfl (info_ent y) ?_)
    | (refine step_load_gm (by rfl) 42 (.tmp 12) rfl g12 0 rfl (ecs y) _ R215.out.all Tryd.underlying42 rfl (info_ent y) ?_)
    | (refine step_neq_ent (by rfl) 42 (.tmp 79) (.tmp 80) rfl y rfl rfl ?_))
  · go_ret
    exact ⟨rfl, B3.out⟩
  · go_ret
    exact ⟨rfl, B4.out⟩
  have HOM := Lib.hid (own_kept HOM5.out B515.out)
  have BM := Lib.hid (below_nxt B515.out B5.out)
  have HSQ := Lib.hid (p := ∀ W, Below w15.heap.size w15 W → W.cell? ⟨g3, 0, none⟩ = some (.string x.nm)) (fun W hb => ((R15.out.kept hb).cell 0).trans rfl)
  have HD := Lib.hid (below_drw w15)

  refine wp_region_held_drew (S := fun W => W.cell? ⟨g3, 0, none⟩ = some (.string x.nm)) (by kernel_rfl) (HSQ.out _ HD.out) (fun hHeld => ?_)
  refine wpAnyH_take (i := 0) (oi := ⟨some 88, .move (.tmp 7), _, _, _, _⟩) (v := .slice A5 m c5) rfl (by kernel_rfl) (by kernel_rfl) (by kernel_rfl) (fun _ _ _ h => h) (.inl ⟨by rfl, fun w hSw => by go_simp⟩) (by assumption) ?_
  simp only [Act.put, List.setIfInBounds_toArray, List.set_cons_zero, List.set_cons_succ]
  refine wpAnyH_take (i := 1) (oi := ⟨some 89, .fieldAddr 42 (.tmp 4) 0, _, _, _, _⟩) (v := .pointer (some ⟨g3, 0, none⟩)) rfl (by kernel_rfl) (by kernel_rfl) (by kernel_rfl) (fun _ _ _ h => h) (.inl ⟨by rfl, fun w hSw => by go_simp⟩) (by assumption) ?_
  simp only [Act.put, List.setIfInBounds_toArray, List.set_cons_zero, List.set_cons_succ]
  refine wpAnyH_take (i := 2) (oi := ⟨some 90, .load 9 (.tmp 89), _, _, _, _⟩) (v := .string x.nm) rfl (by kernel_rfl) (by kernel_rfl) (by kernel_rfl) (fun _ _ _ h => h) (.inl ⟨by rfl, fun w hSw => by have z := hSw; go_simp⟩) (by assumption) ?_
  simp only [Act.put, List.setIfInBounds_toArray, List.set_cons_zero, List.set_cons_succ]
  refine wpAnyH_take (i := 4) (oi := ⟨some 92, .fieldAddr 42 (.tmp 4) 0, _, _, _, _⟩) (v := .pointer (some ⟨g3, 0, none⟩)) rfl (by kernel_rfl) (by kernel_rfl) (by kernel_rfl) (fun _ _ _ h => h) (.inl ⟨by rfl, fun w hSw => by go_simp⟩) (by assumption) ?_
  simp only [Act.put, List.setIfInBounds_toArray, List.set_cons_zero, List.set_cons_succ]
  refine wpAnyH_take (i := 5) (oi := ⟨some 93, .load 9 (.tmp 92), _, _, _, _⟩) (v := .string x.nm) rfl (by kernel_rfl) (by kernel_rfl) (by kernel_rfl) (fun _ _ _ h => h) (.inl ⟨by rfl, fun w hSw => by have z := hSw; go_simp⟩) (by assumption) ?_
  simp only [Act.put, List.setIfInBounds_toArray, List.set_cons_zero, List.set_cons_succ]
  refine wpAnyH_ready (rs := [3]) (by kernel_rfl) (by simp) ?_
  refine AllReadyH.cons (o := ⟨some 91, .call ⟨.value (.func 21), #[.tmp 88, .tmp 90], _⟩, _, _, _, _⟩) rfl (fun K hK => ?_) AllReadyH.nil
  go_simp
  go_at_call 21
  refine (HWD.out _ _ (own_kept HOM.out HD.out)).mono ?_
  rintro e w16 ⟨A16, c16, rfl, ho, hb⟩
  have HO16 := Lib.hid ho
  have HB16 := Lib.hid (below_nxt hb HD.out)
  clear ho hb
  refine hK.out _ _ (HSQ.out _ HB16.out) (fun _hs => ?_)
  clear hK K
  refine wpAnyH_ready (rs := [6]) (by kernel_rfl) (by simp) ?_
  refine AllReadyH.cons (o := ⟨some 94, .call ⟨.value (.func 23), #[.tmp 91, .tmp 93], _⟩, _, _, _, _⟩) rfl (fun K hK => ?_) AllReadyH.nil
  go_simp
  go_at_call 23
  refine (HFG.out HZN.out _ _ A16 c16 HO16.out).mono ?_
  rintro e w17 ⟨rfl, hb⟩
  have HB17 := Lib.hid (below_nxt hb HB16.out)
  clear hb
  refine hK.out _ _ (HSQ.out _ HB17.out) (fun _hs => ?_)
  clear hK K
  refine wpAnyH_take (i := 7) (oi := ⟨some 87, .move (.tmp 94), _, _, _, _⟩) (v := .tuple #[.agg (ecs ent0).toArray, .bool false]) rfl (by kernel_rfl) (by kernel_rfl) (by kernel_rfl) (fun _ _ _ h => h) (.inl ⟨by rfl, fun w hSw => by go_simp⟩) (by assumption) ?_
  simp only [Act.put, List.setIfInBounds_toArray, List.set_cons_zero, List.set_cons_succ]
  refine wpAnyH_take (i := 8) (oi := ⟨some 95, .extract (.tmp 87) 0, _, _, _, _⟩) (v := .agg (ecs ent0).toArray) rfl (by kernel_rfl) (by kernel_rfl) (by kernel_rfl) (fun _ _ _ h => h) (.inl ⟨by rfl, fun w hSw => by go_simp⟩) (by assumption) ?_
  simp only [Act.put, List.setIfInBounds_toArray, List.set_cons_zero, List.set_cons_succ]
  refine wpAnyH_take (i := 9) (oi := ⟨some 96, .extract (.tmp 87) 1, _, _, _, _⟩) (v := .bool false) rfl (by kernel_rfl) (by kernel_rfl) (by kernel_rfl) (fun _ _ _ h => h) (.inl ⟨by rfl, fun w hSw => by go_simp⟩) (by assumption) ?_
  simp only [Act.put, List.setIfInBounds_toArray, List.set_cons_zero, List.set_cons_succ]
  refine wpAnyH_take (i := 10) (oi := ⟨some 9, .assign (.tmp 96), _, _, _, _⟩) (v := .bool false) rfl (by kernel_rfl) (by kernel_rfl) (by kernel_rfl) (fun _ _ _ h => h) (.inl ⟨by rfl, fun w hSw => by go_simp⟩) (by assumption) ?_
  simp only [Act.put, List.setIfInBounds_toArray, List.set_cons_zero, List.set_cons_succ]
  refine wpAnyH_done (by kernel_rfl) ?_ _
  go_upto_region 15 with fail
  have HD2 := Lib.hid (below_nxt (below_drw w17) HB17.out)
  refine wp_region_held_drew (S := fun W => W.cell? ⟨g3, 0, none⟩ = some (.string x.nm)) (by kernel_rfl) (HSQ.out _ HD2.out) (fun hHeld => ?_)
  refine wpAnyH_take (i := 0) (oi := ⟨some 97, .move (.tmp 9), _, _, _, _⟩) (v := .bool false) rfl (by kernel_rfl) (by kernel_rfl) (by kernel_rfl) (fun _ _ _ h => h) (.inl ⟨by rfl, fun w hSw => by go_simp⟩) (by assumption) ?_
  simp only [Act.put, List.setIfInBounds_toArray, List.set_cons_zero, List.set_cons_succ]
  refine wpAnyH_take (i := 1) (oi := ⟨some 98, .unOp .not 4 (.tmp 97), _, _, _, _⟩) (v := .bool true) rfl (by kernel_rfl) (by kernel_rfl) (by kernel_rfl) (fun _ _ _ h => h) (.inl ⟨by rfl, fun w hSw => by go_simp⟩) (by assumption) ?_
  simp only [Act.put, List.setIfInBounds_toArray, List.set_cons_zero, List.set_cons_succ]
  refine wpAnyH_take (i := 2) (oi := ⟨some 99, .move (.tmp 98), _, _, _, _⟩) (v := .bool true) rfl (by kernel_rfl) (by kernel_rfl) (by kernel_rfl) (fun _ _ _ h => h) (.inl ⟨by rfl, fun w hSw => by go_simp⟩) (by assumption) ?_
  simp only [Act.put, List.setIfInBounds_toArray, List.set_cons_zero, List.set_cons_succ]
  refine wpAnyH_take (i := 3) (oi := ⟨some 100, .move (.tmp 7), _, _, _, _⟩) (v := .slice A5 m c5) rfl (by kernel_rfl) (by kernel_rfl) (by kernel_rfl) (fun _ _ _ h => h) (.inl ⟨by rfl, fun w hSw => by go_simp⟩) (by assumption) ?_
  simp only [Act.put, List.setIfInBounds_toArray, List.set_cons_zero, List.set_cons_succ]
  refine wpAnyH_take (i := 4) (oi := ⟨some 101, .fieldAddr 42 (.tmp 4) 0, _, _, _, _⟩) (v := .pointer (some ⟨g3, 0, none⟩)) rfl (by kernel_rfl) (by kernel_rfl) (by kernel_rfl) (fun _ _ _ h => h) (.inl ⟨by rfl, fun w hSw => by go_simp⟩) (by assumption) ?_
  simp only [Act.put, List.setIfInBounds_toArray, List.set_cons_zero, List.set_cons_succ]
  refine wpAnyH_take (i := 5) (oi := ⟨some 102, .load 9 (.tmp 101), _, _, _, _⟩) (v := .string x.nm) rfl (by kernel_rfl) (by kernel_rfl) (by kernel_rfl) (fun _ _ _ h => h) (.inl ⟨by rfl, fun w hSw => by have z := hSw; go_simp⟩) (by assumption) ?_
  simp only [Act.put, List.setIfInBounds_toArray, List.set_cons_zero, List.set_cons_succ]
  refine wpAnyH_take (i := 7) (oi := ⟨some 104, .move (.tmp 0), _, _, _, _⟩) (v := .slice A n c) rfl (by kernel_rfl) (by kernel_rfl) (by kernel_rfl) (fun _ _ _ h => h) (.inl ⟨by rfl, fun w hSw => by go_simp⟩) (by assumption) ?_
  simp only [Act.put, List.setIfInBounds_toArray, List.set_cons_zero, List.set_cons_succ]
  refine wpAnyH_take (i := 8) (oi := ⟨some 105, .fieldAddr 42 (.tmp 4) 0, _, _, _, _⟩) (v := .pointer (some ⟨g3, 0, none⟩)) rfl (by kernel_rfl) (by kernel_rfl) (by kernel_rfl) (fun _ _ _ h => h) (.inl ⟨by rfl, fun w hSw => by go_simp⟩) (by assumption) ?_
  simp only [Act.put, List.setIfInBounds_toArray, List.set_cons_zero, List.set_cons_succ]
  refine wpAnyH_take (i := 9) (oi := ⟨some 106, .load 9 (.tmp 105), _, _, _, _⟩) (v := .string x.nm) rfl (by kernel_rfl) (by kernel_rfl) (by kernel_rfl) (fun _ _ _ h => h) (.inl ⟨by rfl, fun w hSw => by have z := hSw; go_simp⟩) (by assumption) ?_
  simp only [Act.put, List.setIfInBounds_toArray, List.set_cons_zero, List.set_cons_succ]
  refine wpAnyH_ready (rs := [6]) (by kernel_rfl) (by simp) ?_
  refine AllReadyH.cons (o := ⟨some 103, .call ⟨.value (.func 21), #[.tmp 100, .tmp 102], _⟩, _, _, _, _⟩) rfl (fun K hK => ?_) AllReadyH.nil
  go_simp
  go_at_call 21
  refine (HWD.out _ _ (own_kept HOM.out HD2.out)).mono ?_
  rintro e w18 ⟨A18, c18, rfl, ho, hb⟩
  have HO18 := Lib.hid ho
  have HB18 := Lib.hid (below_nxt hb HD2.out)
  clear ho hb
  refine hK.out _ _ (HSQ.out _ HB18.out) (fun _hs => ?_)
  clear hK K
  refine wpAnyH_ready (rs := [10]) (by kernel_rfl) (by simp) ?_
  refine AllReadyH.cons (o := ⟨some 107, .call ⟨.value (.func 21), #[.tmp 104, .tmp 106], _⟩, _, _, _, _⟩) rfl (fun K hK => ?_) AllReadyH.nil
  go_simp
  go_at_call 21
  refine (HWO.out _ (below_nxt HB18.out BM.out) HZN.out).mono ?_
  rintro e w19 ⟨A19, c19, rfl, ho, hb⟩
  have HO19 := Lib.hid ho
  have HO189 := Lib.hid (own_kept HO18.out hb)
  have HB19 := Lib.hid (below_nxt hb HB18.out)
  clear ho hb
  refine hK.out _ _ (HSQ.out _ HB19.out) (fun _hs => ?_)
  clear hK K
  refine wpAnyH_ready (rs := [11]) (by kernel_rfl) (by simp) ?_
  refine AllReadyH.cons (o := ⟨some 108, .call ⟨.value (.func 14), #[.tmp 103, .tmp 107], _⟩, _, _, _, _⟩) rfl (fun K hK => ?_) AllReadyH.nil
  go_simp
  go_at_call 14
  refine (lists_same A18 A19 r c18 c19 R (by have := HRN.out; have := HZN.out; omega) HRR.out _ (Lies.own (by decide) ecs_len HO189.out) (Lies.own (by decide) ecs_len HO19.out)).mono ?_
  rintro e w20 ⟨rfl, hb⟩
  have HB20 := Lib.hid (below_nxt hb HB19.out)
  clear hb
  refine hK.out _ _ (HSQ.out _ HB20.out) (fun _hs => ?_)
  clear hK K
  refine wpAnyH_take (i := 12) (oi := ⟨some 109, .pick (.tmp 99) (.tmp 108) (.const (.bool false)), _, _, _, _⟩) (v := .bool true) rfl (by kernel_rfl) (by kernel_rfl) (by kernel_rfl) (fun _ _ _ h => h) (.inl ⟨by rfl, fun w hSw => by go_simp⟩) (by assumption) ?_
  simp only [Act.put, List.setIfInBounds_toArray, List.set_cons_zero, List.set_cons_succ]
  refine wpAnyH_take (i := 13) (oi := ⟨some 6, .assign (.tmp 109), _, _, _, _⟩) (v := .bool true) rfl (by kernel_rfl) (by kernel_rfl) (by kernel_rfl) (fun _ _ _ h => h) (.inl ⟨by rfl, fun w hSw => by go_simp⟩) (by assumption) ?_
  simp only [Act.put, List.setIfInBounds_toArray, List.set_cons_zero, List.set_cons_succ]
  refine wpAnyH_done (by kernel_rfl) ?_ _
  go_wp2_with fail
  go_ret
  exact ⟨rfl, below_nxt HB20.out BM.out⟩
theorem findsW (A : Option Addr) (n c : Nat) (X : List Ent) (x : Ent) (nm : ByteArray) (w : World) (hT : Tabs w) (I : InE w A n c X) : Calls Tryd.prog 8 #[.slice A n c, .agg (ecs x).toArray, .string nm] w fun e w' => e = .returned (.bool true) ∧ Below w.heap.size w w' := by
  by_cases hx : x.nm.size ≤ 1000
  · by_cases hn : nm.size ≤ 1000
    · cases hq : (nm.toList == x.nm.toList)
      · exact finds_false A n c X x nm w hT I hx hn hq
      · exact finds_true A n c X x nm w hT I hx hn hq
    · exact finds_name A n c X x nm w hT I hx (by omega)
  · exact finds_long A n c X x nm w hT I (by omega)
end Go.Proofs.YtijffkklhgnknaaDoor
