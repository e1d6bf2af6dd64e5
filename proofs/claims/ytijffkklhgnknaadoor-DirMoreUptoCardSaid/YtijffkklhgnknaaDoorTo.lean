/- The walk of DirMore. Conditions: the library's tables lie there, lengths are within the reach, the new entry's name isn't longer than 2^32 bytes. -/
import Derived.Test.YtijffkklhgnknaaDoorTm
import Derived.Test.YtijffkklhgnknaaDoorTn
import Derived.Test.YtijffkklhgnknaaDoorRj
import Derived.Test.YtijffkklhgnknaaDoorRm
import Derived.Test.YtijffkklhgnknaaDoorSb1
import Derived.Test.YtijffkklhgnknaaDoorSd3
set_option linter.unusedVariables false
set_option maxRecDepth 20000
namespace Go.Proofs.YtijffkklhgnknaaDoor
open Go.RowKit
theorem step_bs1_gm {P : Program} {ops : Array Oper} {rest : List Oper} {o : Oper} {a : Act} {w : World} {Q : Exit → Act → World → Prop} (hw : Region.wanted o (yielded ops a.tmps) = true) (t e : TypeId) (x : Operand) (ho : o.op = .buildSlice t 1 #[(0, x)]) (hu : P.underlying t = some (.slice e)) (k : Nat) (hs : (P.info? e).map (·.size) = some k) (hk : 0 < k ∧ k ≤ 1000) (z : Value) (hz : ∀ w, (zeroValue e).run P w = .ok z w) (cs : List Value) (hcs : cs.length = k) (hx : a.eval x = .agg cs.toArray)
    (h : ∀ g w', Row w' g e cs → Hid (g = w.heap.size) → Below w.heap.size w w' → wpList P ops Q rest (a.put o.dst (.slice (some ⟨g, 0, none⟩) 1 1)) w') : wpList P ops Q (o :: rest) a w := by
  refine wpList_step fun K hK => ?_
  exact st_bs1 hw t e x ho hu k hs hk z hz cs hcs hx fun g w' h1 h2 h3 => hK _ _ (h g w' h1 h2 h3)
theorem lies_one {w : World} {g : Nat} {x : Ent} (h : Row w g 42 (ecs x)) : Lies ecs 5 w (some ⟨g, 0, none⟩) [x] := by
  have e1 : [x].flatMap ecs = ecs x := by simp
  have h1 : w.ownsRow 0 42 5 (.slice (some ⟨g, 0, none⟩) 1 1) 1 ([x].flatMap ecs) := own_row (cs := [x].flatMap ecs) (by rw [e1]; exact h) (by rw [e1]; rfl) (Nat.zero_le _) (by decide)
  exact Lies.own (by decide) ecs_len h1
theorem with_mem {R : List Ent} {x : Ent} {z : Nat} {P : Ent → Prop} (hR : ∀ e ∈ R, P e) (hx : P x) : ∀ e ∈ R.take z ++ x :: R.drop z, P e := fun e he => by
  rcases List.mem_append.1 he with he | he
  · exact hR e (List.mem_of_mem_take he)
  · rcases List.mem_cons.1 he with rfl | he
    · exact hx
    · exact hR e (List.mem_of_mem_drop he)
theorem with_len {R : List Ent} {x : Ent} {z : Nat} (hz : z ≤ R.length) : (R.take z ++ x :: R.drop z).length = R.length + 1 := by
  rw [List.length_append, List.length_cons, List.length_take, List.length_drop]
  omega
theorem lvs_most : ∀ (X : List Ent), Thin X → ∀ r, lvs r X ≤ X.length
  | [], _, r => by simp [lvs]
  | x :: L, ht, r => by
    unfold lvs
    split
    · have := lvs_most L ht.tail (r - (enb x).length)
      simp
      omega
    · have := lvs_most L ht.tail (255 - (enb x).length)
      simp
      omega
theorem leaves_fewN {X : List Ent} (h : MayL X) : (leaves X).length ≤ 1000000 := by
  have h1 := lvs_most X (thin_may h) 0
  rw [leaves_len (thin_may h)]
  have := h.1
  omega
/-- Leaves of a list that may be. -/
def MoreP (w : World) (k : Nat) (e : Ending) (w' : World) : Prop := ∃ A c, e = .returned (.tuple #[.slice A k c, .int .i64 0]) ∧ Below w.heap.size w w'
theorem more_leaves (A : Option Addr) (n c : Nat) (X : List Ent) (hmax : n ≤ 1000000) (w : World) (h : Lies ecs 5 w A X) (hn : X.length = n) (hcap : n ≤ c) (hnm : ∀ e ∈ X, e.nm.size ≤ 4294967296) (hw : Wide X) (hT : Tabs w) (hm : MayL X) (k : Nat) (hk : (leaves X).length = k) : Calls Tryd.prog 11 #[.slice A n c] w (MoreP w k) := by
  refine (leaves_any A n c X hmax w h hn hcap hnm hw hT).mono ?_
  rintro e w' ⟨A', m, c', P, rfl, ho, hl, _, hb⟩
  have e1 : lvL X = leaves X := by unfold lvL; rw [if_pos hm]
  have e2 : lvE X = 0 := by unfold lvE; rw [if_pos hm]
  have e3 : m = k := by rw [← hk, ← e1, ← hl, List.length_map]; exact ho.2.1.symm
  rw [e2, e3]
  exact ⟨A', c', rfl, hb⟩
set_option maxHeartbeats 8000000 in
theorem moreW (A : Option Addr) (n c : Nat) (X : List Ent) (x : Ent) (w : World) (hT : Tabs w) (I : InE w A n c X) (O : EntOk x) (hx : x.nm.size ≤ 4294967296) : Calls Tryd.prog 7 #[.slice A n c, .agg (ecs x).toArray] w fun e w' => e = .returned (.bool true) ∧ Below w.heap.size w w' := by
  have HT := Lib.hid hT
  have HI := Lib.hid I
  have HN := Lib.hid (p := n ≤ 9223372036854775807 ∧ ∀ e ∈ X, e.nm.size ≤ 140737488355328) ⟨by have := I.reach; have := reach_lt; omega, fun e he => Nat.le_trans (I.ok e he).1 reach_lt⟩
  have HX := Lib.hid hx
  have HW := Lib.hid (EntOk.wide I.ok)
  have HWX := Lib.hid (p := x.ser < 18446744073709551616 ∧ x.ck < 4294967296) ⟨O.2.1, O.2.2.1⟩
  obtain ⟨R, hR⟩ : ∃ R, X.filter (fun e : Ent => !(e.nm.toList == x.nm.toList)) = R := ⟨_, rfl⟩
  obtain ⟨r, hr⟩ : ∃ r, R.length = r := ⟨_, rfl⟩
  obtain ⟨m, hm⟩ : ∃ m, r + 1 = m := ⟨_, rfl⟩
  have HRR := Lib.hid hr
  have HMM := Lib.hid hm
  have HRS := Lib.hid (p := R.Sublist X) (by rw [← hR]; exact List.filter_sublist)
  have HRM := Lib.hid (p := MayL X → MayL R) (fun h => by rw [← hR]; exact may_filter _ h)
  have HRN := Lib.hid (p := r ≤ n) (by rw [← I.len_, ← hr]; exact HRS.out.length_le)
  have HWI := Lib.hid (p := ∀ W, Below w.heap.size w W → n ≤ 201 → (∀ e ∈ X, e.nm.size ≤ 16384) → Calls Tryd.prog 20 #[.slice A n c, .agg (ecs x).toArray] W fun e w' => ∃ A' c' z, e = .returned (.slice A' m c') ∧ w'.ownsRow W.heap.size 42 5 (.slice A' m c') m ((R.take z ++ x :: R.drop z).flatMap ecs) ∧ z ≤ R.length ∧ (z < R.length → notAt x.nm R z = true) ∧ (∀ q, q + 1 = z → notAt x.nm R q = false) ∧ Below W.heap.size W w') (fun W hb hn hs => by
    have h1 := with_any x A n c X (by omega) W (I.lies.below hb) I.len_ (fun e he => by have := hs e he; omega) (by have := HX.out; omega) (tabs_below HT.out hb)
    rw [hR] at h1
    unfold WithP at h1
    rw [hr, hm] at h1
    rw [hr]
    exact h1)
  have HWI2 := HWI
  have HWO := Lib.hid (p := ∀ W, Below w.heap.size w W → n ≤ 201 → Calls Tryd.prog 21 #[.slice A n c, .string x.nm] W fun e w' => ∃ A' c', e = .returned (.slice A' r c') ∧ w'.ownsRow W.heap.size 42 5 (.slice A' r c') r (R.flatMap ecs) ∧ Below W.heap.size W w') (fun W hb hn => by
    have h1 := without_any x.nm A n c X (by omega) W (I.lies.below hb) I.len_
    rw [hR] at h1
    refine h1.mono ?_
    rintro e w' ⟨A', m', c', rfl, ho, _, h5⟩
    have e1 : m' = r := by have h6 := ho.1; rw [flat_len ecs_len, hr] at h6; omega
    subst e1
    exact ⟨A', c', rfl, ho, h5⟩)
  have HMA := Lib.hid (p := ∀ W, Below w.heap.size w W → n ≤ 201 ∧ (∀ e ∈ X, e.nm.size ≤ 16384) → Calls Tryd.prog 19 #[.slice A n c] W fun e w' => MayP X e ∧ Below W.heap.size W w') (fun W hb hz => rmay_any A n c X (by omega) W (I.lies.below hb) I.len_ (fun e he => by have := hz.2 e he; omega))
  have HRNM := Lib.hid (p := (∀ e ∈ X, e.nm.size ≤ 16384) → ∀ e ∈ R, e.nm.size ≤ 4294967296) (fun hs e he => by have := hs e (HRS.out.subset he); omega)
  have HRW := Lib.hid (p := Wide R) (fun e he => HW.out e (HRS.out.subset he))
  clear hT I O hR hx hr hm
  go_enter Tryd.func7, Tryd.ntmps7
  go_wp2_with (first
    | (refine step_box rfl 3 rfl 42 (.tmp 1) rfl (ecs x) rfl ?_; intro g3 w1 hr1 hg1 hb1 hs1
       have R1 := Lib.hid hr1
       have B1 := Lib.hid hb1
       clear hr1 hg1 hb1 hs1)
    | (go_at_call 9; refine (awake_any _ (tabs_below HT.out B1.out)).mono ?_; rintro e w2 ⟨rfl, hb⟩
       have R2 := Lib.hid (R1.out.kept hb)
       have B2 := Lib.hid (below_nxt hb B1.out)
       clear hb)
    | (go_at_call 10; refine (small_any A n c X HN.out.1 _ (HI.out.lies.below B2.out) HI.out.len_ HN.out.2).mono ?_; rintro e w3 ⟨⟨z, rfl, hz⟩, hb⟩
       have HZ := Lib.hid hz
       have R3 := Lib.hid (R2.out.kept hb)
       have B3 := Lib.hid (below_nxt hb B2.out)
       clear hz hb
       cases z)
    | (go_at_call 19; go_loud (refine (HMA.out w3 B3.out (HZ.out (by trivial))).mono ?_); rintro e w4 ⟨⟨z, rfl, hz⟩, hb⟩
       have HM1 := Lib.hid hz
       have HZZ := Lib.hid (HZ.out (by trivial))
       have R4 := Lib.hid (R3.out.kept hb)
       have B4 := Lib.hid (below_nxt hb B3.out)
       clear hz hb HMA
       cases z)
    | (refine step_load_gm (by rfl) 42 (.tmp 3) rfl g3 0 rfl (ecs x) _ R4.out.all Tryd.underlying42 rfl (info_ent x) ?_
       have HWJ := HWI
       clear HWI)
    | (go_at_call 20; refine (HWJ.out _ B4.out HZZ.out.1 HZZ.out.2).mono ?_; rintro e w5 ⟨A5, c5, z5, rfl, ho, hz1, hz2, hz3, hb⟩
       obtain ⟨M, hM⟩ : ∃ M, R.take z5 ++ x :: R.drop z5 = M := ⟨_, rfl⟩
       have HML := Lib.hid hM
       have HZ5 := Lib.hid (And.intro hz1 (And.intro hz2 hz3))
       rw [hM] at ho
       have HMLEN := Lib.hid (p := M.length = m) (by rw [← hM, with_len hz1]; have := HRR.out; have := HMM.out; omega)
       have HMNM := Lib.hid (p := ∀ e ∈ M, e.nm.size ≤ 4294967296) (by rw [← hM]; exact with_mem (HRNM.out HZZ.out.2) HX.out)
       have HMW := Lib.hid (p := Wide M) (by rw [← hM]; exact with_mem HRW.out HWX.out)
       have HMB := Lib.hid (p := Calls Tryd.prog 19 #[.slice A5 m c5] w5 fun e w' => MayP M e ∧ Below w5.heap.size w5 w') (rmay_any A5 m c5 M (by have := HMM.out; have := HRN.out; have := HZZ.out.1; omega) w5 (Lies.own (by decide) ecs_len ho) HMLEN.out HMNM.out)
       have R5 := Lib.hid (R4.out.kept hb)
       have B5 := Lib.hid (below_nxt hb B4.out)
       clear ho hz1 hz2 hz3 hb hM HWJ)
    | (go_at_call 19; refine HMB.out.mono ?_; rintro e w6 ⟨⟨z, rfl, hz⟩, hb⟩
       have HM2 := Lib.hid hz
       have R6 := Lib.hid (R5.out.kept hb)
       have B6 := Lib.hid (below_nxt hb B5.out)
       clear hz hb HMB R4
       cases z)
    | (refine step_load_gm (by rfl) 42 (.tmp 3) rfl g3 0 rfl (ecs x) _ R6.out.all Tryd.underlying42 rfl (info_ent x) ?_)
    | (refine step_bs1_gm (by rfl) 22 42 _ rfl Tryd.underlying22 5 (info_ent x) (by decide) _ zero_ent (ecs x) rfl rfl ?_; intro g8 w8 hr8 hg8 hb8
       have R8 := Lib.hid (R6.out.kept hb8)
       have B8 := Lib.hid (below_nxt hb8 B6.out)
       have HMC := Lib.hid (p := Calls Tryd.prog 19 #[.slice (some ⟨g8, 0, none⟩) 1 1] w8 fun e w' => MayP [x] e ∧ Below w8.heap.size w8 w') (rmay_any (some ⟨g8, 0, none⟩) 1 1 [x] (by decide) w8 (lies_one hr8) rfl (fun e he => by rw [List.mem_singleton.1 he]; exact HX.out))
       clear hr8 hg8 hb8 R6)
    | (go_at_call 19; refine HMC.out.mono ?_; rintro e w9 ⟨⟨z, rfl, hz⟩, hb⟩
       have R9 := Lib.hid (R8.out.kept hb)
       have B9 := Lib.hid (below_nxt hb B8.out)
       have c9 : w9.cell? ⟨g3, 0, none⟩ = some (.string x.nm) := (R9.out.cell 0).trans rfl
       clear hz hb HMC
       cases z)
    | (go_at_call 21; refine (HWO.out _ B9.out HZZ.out.1).mono ?_; rintro e w10 ⟨A10, c10, rfl, ho, hb⟩
       have hML := HML.out
       obtain ⟨ka, hka⟩ : ∃ k, (leaves R).length = k := ⟨_, rfl⟩
       obtain ⟨kb, hkb⟩ : ∃ k, (leaves M).length = k := ⟨_, rfl⟩
       obtain ⟨kc, hkc⟩ : ∃ k, (leaves X).length = k := ⟨_, rfl⟩
       have hmx := HM1.out.1 (by trivial)
       have hmm := HM2.out.1 (by trivial)
       have hins := leaves_ins (R := R) (x := x) (z := z5) (by rw [hML]; exact hmm)
       rw [hML, hka, hkb] at hins
       have hsub := leaves_sub HRS.out hmx
       rw [hka, hkc] at hsub
       have R10 := Lib.hid (R9.out.kept hb)
       have B10 := Lib.hid (below_nxt hb B9.out)
       have HLA := Lib.hid (p := Calls Tryd.prog 11 #[.slice A10 r c10] w10 (MoreP w10 ka)) (more_leaves A10 r c10 R (by have := HRN.out; have := HZZ.out.1; omega) w10 (Lies.own (by decide) ecs_len ho) HRR.out (own_cap ho) (HRNM.out HZZ.out.2) HRW.out (tabs_below HT.out B10.out) (HRM.out hmx) ka hka)
       have HLB := Lib.hid (p := ∀ W b0 A' c', Below w.heap.size w W → W.ownsRow b0 42 5 (.slice A' m c') m (M.flatMap ecs) → Calls Tryd.prog 11 #[.slice A' m c'] W (MoreP W kb)) (fun W b0 A' c' hb ho => more_leaves A' m c' M (by have := HMM.out; have := HRN.out; have := HZZ.out.1; omega) W (Lies.own (by decide) ecs_len ho) HMLEN.out (own_cap ho) HMNM.out HMW.out (tabs_below HT.out hb) hmm kb hkb)
       have HLC := Lib.hid (p := ∀ W, Below w.heap.size w W → Calls Tryd.prog 11 #[.slice A n c] W (MoreP W kc)) (fun W hb => more_leaves A n c X (by have := HZZ.out.1; omega) W (HI.out.lies.below hb) HI.out.len_ HI.out.cap_ (fun e he => by have := HZZ.out.2 e he; omega) HW.out (tabs_below HT.out hb) hmx kc hkc)
       have HKA := Lib.hid (p := ka ≤ 1000000) (by have h1 := leaves_fewN (HRM.out hmx); omega)
       have hwa : IntKind.i64.wrap ((ka : Int) + 1) = (ka : Int) + 1 := by rw [IntKind.wrap_i64]; have := HKA.out; omega
       have hba : (kb : Int) ≤ (ka : Int) + 1 := by have := hins.2; omega
       have hab : (ka : Int) ≤ (kb : Int) := by have := hins.1; omega
       have hac : (ka : Int) ≤ (kc : Int) := by omega
       have HRMX := Lib.hid (HRM.out hmx)
       clear hML hka hkb hkc hins hsub ho hb c9 hmm hmx)
    | (go_at_call 11; refine HLA.out.mono ?_; rintro e w11 ⟨A11, c11, rfl, hb⟩
       have R11 := Lib.hid (R10.out.kept hb)
       have B11 := Lib.hid (below_nxt hb B10.out)
       clear hb HLA)
    | (refine wpList_load_mid rfl 42 (.tmp 3) rfl g3 0 rfl (ecs x) _ R11.out.all Tryd.underlying42 rfl (info_ent x) ?_)
    | (go_at_call 20; refine (HWI2.out _ B11.out HZZ.out.1 HZZ.out.2).mono ?_; rintro e w12 ⟨A12, c12, z12, rfl, ho, hz1, hz2, hz3, hb⟩
       have hzz : z12 = z5 := Nat.le_antisymm (place_one HRMX.out HZ5.out.1 hz1 HZ5.out.2.1 hz3) (place_one HRMX.out hz1 HZ5.out.1 hz2 HZ5.out.2.2)
       rw [hzz, HML.out] at ho
       have B12 := Lib.hid (below_nxt hb B11.out)
       have HLB2 := Lib.hid (HLB.out w12 _ A12 c12 B12.out ho)
       clear ho hz1 hz2 hz3 hb hzz HWI2 HLB)
    | (go_at_call 11; refine HLB2.out.mono ?_; rintro e w13 ⟨A13, c13, rfl, hb⟩
       have B13 := Lib.hid (below_nxt hb B12.out)
       clear hb HLB2)
    | (go_at_call 11; refine (HLC.out _ B13.out).mono ?_; rintro e w15 ⟨A15, c15, rfl, hb⟩
       have B15 := Lib.hid (below_nxt hb B13.out)
       clear hb))
  · go_ret
    exact ⟨rfl, B3.out⟩
  · go_ret
    exact ⟨rfl, B4.out⟩
  · go_ret
    exact ⟨rfl, B6.out⟩
  · go_ret
    exact ⟨rfl, B9.out⟩
  · go_ret
    exact ⟨rfl, B15.out⟩
end Go.Proofs.YtijffkklhgnknaaDoor
