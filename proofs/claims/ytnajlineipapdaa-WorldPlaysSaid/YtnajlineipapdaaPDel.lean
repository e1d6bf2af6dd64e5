/- The library's DeleteFunc at waiting writes: those of one block go, the rest stays in its order. Conditions: the row lies there, of the call's own. -/
import Derived.Test.YtnajlineipapdaaPDelP
import Derived.Test.YtnajlineipapdaaPLast
set_option linter.unusedVariables false
namespace Go.Proofs.Ytnajlineipapdaa
open Go.RowKit

/-- The writes that aren't of block a. -/
def gone (a : Nat) (rs : List (Nat × BV)) : List (Nat × BV) := rs.filter fun p => !(p.1 == a)
theorem gone_none {a : Nat} {rs : List (Nat × BV)} (h : ∀ p ∈ rs, p.1 ≠ a) : gone a rs = rs := by
  unfold gone
  rw [List.filter_eq_self]
  intro p hp
  have := h p hp
  simp [this]
theorem first_of {a : Nat} : ∀ {rs : List (Nat × BV)}, (∃ p ∈ rs, p.1 = a) → ∃ (m : Nat) (q : Nat × BV), rs[m]? = some q ∧ q.1 = a ∧ ∀ (j : Nat) (p : Nat × BV), j < m → rs[j]? = some p → p.1 ≠ a
  | [], h => by simp at h
  | x :: t, h => by
    by_cases hx : x.1 = a
    · exact ⟨0, x, rfl, hx, fun j p hj => by omega⟩
    · obtain ⟨p, hp, hpa⟩ := h
      obtain ⟨m, q, h1, h2, h3⟩ := first_of (rs := t) (by
        rcases List.mem_cons.1 hp with rfl | hp
        · exact absurd hpa hx
        · exact ⟨p, hp, hpa⟩)
      refine ⟨m + 1, q, by simpa using h1, h2, fun j p hj hp => ?_⟩
      cases j with
      | zero =>
        simp at hp
        subst hp
        exact hx
      | succ j => exact h3 j p (by omega) (by simpa using hp)
/-- The row in the midst: the first i are what stays of the first j. -/
structure Mid (a : Nat) (rs L : List (Nat × BV)) (i j : Nat) : Prop where
  len : L.length = rs.length
  front : L.take i = gone a (rs.take j)
  back : ∀ k, j ≤ k → L[k]? = rs[k]?
  lt : i < j
  le : j ≤ rs.length
theorem gone_snoc (a : Nat) (l : List (Nat × BV)) (p : Nat × BV) : gone a (l ++ [p]) = gone a l ++ (if p.1 = a then [] else [p]) := by
  unfold gone
  rw [List.filter_append]
  by_cases h : p.1 = a <;> simp [h]
theorem take_snoc {rs : List (Nat × BV)} {j : Nat} {p : Nat × BV} (h : rs[j]? = some p) : rs.take (j + 1) = rs.take j ++ [p] := by rw [List.take_add_one, h]; rfl
theorem Mid.start {a m : Nat} {rs : List (Nat × BV)} {q : Nat × BV} (hm : rs[m]? = some q) (hq : q.1 = a) (hno : ∀ j p, j < m → rs[j]? = some p → p.1 ≠ a) : Mid a rs rs m (m + 1) where
  len := rfl
  front := by
    rw [take_snoc hm, gone_snoc, if_pos hq, List.append_nil, gone_none]
    intro p hp
    obtain ⟨j, hj⟩ := List.mem_iff_getElem?.1 hp
    rw [List.getElem?_take] at hj
    split at hj
    · exact hno j p ‹_› hj
    · cases hj
  back := fun _ _ => rfl
  lt := by omega
  le := (List.getElem?_eq_some_iff.1 hm).1
theorem Mid.skip {a i j : Nat} {rs L : List (Nat × BV)} {p : Nat × BV} (h : Mid a rs L i j) (hp : rs[j]? = some p) (hpa : p.1 = a) : Mid a rs L i (j + 1) where
  len := h.len
  front := by rw [take_snoc hp, gone_snoc, if_pos hpa, List.append_nil]; exact h.front
  back := fun k hk => h.back k (by omega)
  lt := by have := h.lt; omega
  le := (List.getElem?_eq_some_iff.1 hp).1
theorem Mid.stay {a i j : Nat} {rs L : List (Nat × BV)} {p : Nat × BV} (h : Mid a rs L i j) (hp : rs[j]? = some p) (hpa : p.1 ≠ a) : Mid a rs (L.set i p) (i + 1) (j + 1) where
  len := by rw [List.length_set]; exact h.len
  front := by
    have h1 : (L.set i p)[i]? = some p := by rw [List.getElem?_set_self (by have := h.lt; have := h.le; have := h.len; omega)]
    rw [take_snoc hp, gone_snoc, if_neg hpa, take_snoc h1, List.take_set_of_le (Nat.le_refl _), h.front]
  back := fun k hk => by rw [List.getElem?_set_ne (by have := h.lt; omega)]; exact h.back k (by omega)
  lt := by have := h.lt; omega
  le := (List.getElem?_eq_some_iff.1 hp).1
theorem Mid.done {a i : Nat} {rs L : List (Nat × BV)} (h : Mid a rs L i rs.length) : L.take i = gone a rs ∧ i = (gone a rs).length := by
  have h1 := h.front
  rw [List.take_length] at h1
  refine ⟨h1, ?_⟩
  rw [← h1, List.length_take, Nat.min_eq_left]
  have := h.lt
  have := h.len
  omega

theorem own_there {w : World} {b g n c : Nat} {L : List (Nat × BV)} (h : w.ownsRow b 79 2 (.slice (some ⟨g, 0, none⟩) n c) n (L.flatMap wcs)) (i : Nat) (hi : i < n) : w.there g (i * 2) 2 := by
  obtain ⟨cur, hr, hl, _, hnc, _, _⟩ := own_row h
  exact hr.is_there (i * 2) 2 (by rw [hl]; omega)
theorem own_cells {w : World} {b g n c : Nat} {L : List (Nat × BV)} (h : w.ownsRow b 79 2 (.slice (some ⟨g, 0, none⟩) n c) n (L.flatMap wcs)) (o : Nat) (cs : List Value) : w.grownBy (w.setCells g o cs) (some g) := by
  obtain ⟨cur, hr, _⟩ := own_row h
  obtain ⟨_, _, _, _, h4⟩ := row_cells2 cs o w cur hr
  exact h4
section
variable {ops : Array Oper} {rest : List Oper} {op : Oper} {a : Act} {w : World} {Q : Exit → Act → World → Prop}
/-- The builtin clear at a slice, as its run says. -/
theorem wp_clear (hgd : op.guard = none) (s : Operand) (sT : TypeId) (ho : op.op = .call { callee := .builtin .clear, args := #[s], argTypes := #[sT] }) (v : Value) (hv : a.eval s = v) (R : World → Prop)
    (hr : ∃ w', (Builtin.clear_ #[sT] op.type #[v]).run Try.prog w = .ok (.tuple #[]) w' ∧ R w') (h : ∀ w', R w' → wpList Try.prog ops Q rest (a.put op.dst (.tuple #[])) w') : wpList Try.prog ops Q (op :: rest) a w := by
  refine wpList_plain hgd fun K hK => ?_
  obtain ⟨w', hr, hR⟩ := hr
  unfold Oper.wp execOp
  simp only [ho, resolve, invoke, builtin, Sem.run_bind, Sem.run_pure, Result.andThen_ok, List.map_toArray, List.map_cons, List.map_nil, hv, hr]
  exact hK _ _ (h w' hR)
end
section
variable {b : Nat} {w : World} {A : Option Addr} {c gc a : Nat} {rs : List (Nat × BV)}
set_option maxRecDepth 20000 in
set_option maxHeartbeats 2000000 in
theorem del_any (hbig : rs.length ≤ 1000000) (h : w.ownsRow b 79 2 (.slice A rs.length c) rs.length (rs.flatMap wcs)) (hgc : w.cell? ⟨gc, 0, none⟩ = some (.int .i64 (a : Int))) (hne : ∀ k, A = some ⟨k, 0, none⟩ → k ≠ gc) :
    Calls Try.prog 54 #[.slice A rs.length c, .func (.func 62) #[] #[.pointer (some ⟨gc, 0, none⟩)]] w fun e w' =>
      e = .returned (.slice A (gone a rs).length c) ∧ w'.ownsRow b 79 2 (.slice A (gone a rs).length c) (gone a rs).length ((gone a rs).flatMap wcs) ∧ w.grownBy w' (Value.slice A rs.length c).ownBlock := by
  have HBIG := Lib.hid hbig
  have H := Lib.hid h
  have HGC := Lib.hid hgc
  have HW := Lib.hid (writes_of h)
  by_cases hex : ∃ p ∈ rs, p.1 = a
  · obtain ⟨m, q, hm, hq, hno⟩ := first_of hex
    have HML := Lib.hid (List.getElem?_eq_some_iff.1 hm).1
    obtain ⟨g, c', e1, _, hbg, _⟩ := own_rec wcs_len h hm (by omega)
    simp only [Value.slice.injEq] at e1
    obtain ⟨rfl, _, rfl⟩ := e1
    have HNE := Lib.hid (hne g rfl)
    have HST := Lib.hid (Mid.start hm hq hno)
    have HM := Lib.hid hm
    have HQ := Lib.hid hq
    have HNO := Lib.hid hno
    have hmw : IntKind.i64.wrap ((m : Int) + 1) = (m : Int) + 1 := by rw [IntKind.wrap_i64]; have := HBIG.out; have := HML.out; omega
    have hm0 : ((m : Int) == -1) = false := beq_false_of_ne (by omega)
    have hz := Lib.hid (p := ∀ w : World, (zeroValue 79).run Try.prog w = .ok (.agg [Value.int .i64 0, .slice none 0 0].toArray) w) fun w => by kernel_rfl
    have i2 := Lib.hid (p := (Try.prog.info? 79).map (·.size) = some 2) (by kernel_rfl)
    clear hbig h hgc hex hm hq hno hne hbg
    go_enter Try.func54, Try.ntmps54
    go_wp2_with (first
      | (go_at_call 63; refine (idx_some HBIG.out HW.out HGC.out m q HM.out HQ.out HNO.out).mono ?_; rintro e1 w1 ⟨rfl, hb1⟩
         have HB1 := Lib.hid hb1
         clear hb1))
    go_loopw [5, 6] (fun x y wr => ∃ (i j : Nat) (L : List (Nat × BV)), x = .int .i64 (i : Int) ∧ y = .int .i64 (j : Int) ∧ Hid (Mid a rs L i j) ∧ Hid (wr.ownsRow b 79 2 (.slice (some ⟨g, 0, none⟩) rs.length c) rs.length (L.flatMap wcs)) ∧ Hid (w.grownBy wr (some g))) (fun _ y _ => rs.length - (intOf y).toNat)
    case atStart => exact ⟨m, m + 1, rs, rfl, by go_num, HST, Lib.hid (own_kept H.out HB1.out), Lib.hid (grown_of_below HB1.out)⟩
    case round =>
      obtain ⟨i, j, L, rfl, rfl, HI, HO, HGR⟩ := hrel
      have hil : i < j := HI.out.lt
      have hjl : j ≤ rs.length := HI.out.le
      have hLl : L.length = rs.length := HI.out.len
      have hiw : IntKind.i64.wrap ((i : Int) + 1) = (i : Int) + 1 := by rw [IntKind.wrap_i64]; have := HBIG.out; omega
      have hjw : IntKind.i64.wrap ((j : Int) + 1) = (j : Int) + 1 := by rw [IntKind.wrap_i64]; have := HBIG.out; omega
      have HIL := Lib.hid hil
      have HLL := Lib.hid hLl
      by_cases hlt : j < rs.length
      · have hji : (j : Int) < (rs.length : Int) := by omega
        have hj0 : (0 : Int) ≤ (j : Int) := by omega
        have hi0 : (0 : Int) ≤ (i : Int) := by omega
        have hii : (i : Int) < (rs.length : Int) := by omega
        obtain ⟨p, hp⟩ : ∃ p, rs[j]? = some p := ⟨_, List.getElem?_eq_getElem hlt⟩
        have hpL : L[j]? = some p := by rw [HI.out.back j (Nat.le_refl _)]; exact hp
        obtain ⟨_, _, e2, hgl, _, hc2⟩ := own_rec wcs_len HO.out hpL (by omega)
        simp only [Value.slice.injEq, Option.some.injEq, Addr.mk.injEq] at e2
        obtain ⟨⟨rfl, _⟩, _, rfl⟩ := e2
        have p0 := hc2 0 _ rfl
        have p1 := hc2 1 _ rfl
        rw [Nat.add_zero] at p0
        unfold bvv at p1
        have HP := Lib.hid hp
        have HGL := Lib.hid hgl
        have HLT := Lib.hid hlt
        by_cases hpa : p.1 = a
        · have hpb : ((p.1 : Int) == (a : Int)) = true := by rw [hpa]; simp
          have HPA := Lib.hid hpa
          clear hp hpL hc2 hil hjl hLl hlt hpa hgl
          go_wp2_with (first
            | (refine step_alloc rfl 7 rfl 79 rfl _ hz.out ?_; intro g5 w5 hr5 hg5 hb5 hs5
               have HB5 := Lib.hid hb5
               have HG5 := Lib.hid hg5
               clear hg5 hb5 hs5)
            | (refine step_store rfl 79 _ _ rfl g5 rfl _ _ (wcs p) rfl hr5 rfl i2.out (wcs_one _) ?_; intro w6 hr6 hg6 hs6
               have hb6 : Below wr.heap.size wr w6 := HB5.out.grown hg6 HB5.out.size (fun q hq => by injection hq with hq; rw [← hq, HG5.out]; exact Nat.le_refl _)
               have HB6 := Lib.hid hb6
               have q0 := hr6.cell 0
               have q1 := hr6.cell 1
               simp [wcs, bvv] at q0 q1
               have cgc : w6.cell? ⟨gc, 0, none⟩ = some (.int .i64 (a : Int)) := by
                 rw [← HGC.out]
                 exact World.cell?_of_block ((hb6.block gc (Nat.lt_of_lt_of_le (World.block_lt_of_cell? _ _ HGC.out) HGR.out.size)).trans (HGR.out.block gc (World.block_lt_of_cell? _ _ HGC.out) (by intro e; injection e with e; exact HNE.out e.symm)))
               have HCG := Lib.hid cgc
               clear hr5 hr6 hg6 hs6 hb6 cgc)
            | (go_at_call 62; refine (of1_any (p.1 : Int) (a : Int) _ gc _ HCG.out).mono ?_; rintro e5 w7 ⟨rfl, hw7⟩; rw [hpb]
               have HB7 := Lib.hid (p := Below wr.heap.size wr w7) (by rw [hw7]; exact HB6.out.alloc HB6.out.size _)
               clear hw7))
          go_roundw
          case rel => exact ⟨i, j + 1, L, rfl, by go_num, Lib.hid (HI.out.skip HP.out HPA.out), Lib.hid (own_kept HO.out HB7.out), Lib.hid (grown_trans HGR.out (grown_of_below HB7.out))⟩
          case measure => have := HLT.out; simp [intOf]; omega
        · have hpb : ((p.1 : Int) == (a : Int)) = false := beq_false_of_ne (by omega)
          have HPA := Lib.hid hpa
          clear hp hpL hc2 hil hjl hLl hlt hpa hgl
          go_wp2_with (first
            | (refine step_alloc rfl 7 rfl 79 rfl _ hz.out ?_; intro g5 w5 hr5 hg5 hb5 hs5
               have HB5 := Lib.hid hb5
               have HG5 := Lib.hid hg5
               clear hg5 hb5 hs5)
            | (refine step_store rfl 79 _ _ rfl g5 rfl _ _ (wcs p) rfl hr5 rfl i2.out (wcs_one _) ?_; intro w6 hr6 hg6 hs6
               have hb6 : Below wr.heap.size wr w6 := HB5.out.grown hg6 HB5.out.size (fun q hq => by injection hq with hq; rw [← hq, HG5.out]; exact Nat.le_refl _)
               have HB6 := Lib.hid hb6
               have q0 := hr6.cell 0
               have q1 := hr6.cell 1
               have HR6 := Lib.hid hr6
               simp [wcs, bvv] at q0 q1
               have cgc : w6.cell? ⟨gc, 0, none⟩ = some (.int .i64 (a : Int)) := by
                 rw [← HGC.out]
                 exact World.cell?_of_block ((hb6.block gc (Nat.lt_of_lt_of_le (World.block_lt_of_cell? _ _ HGC.out) HGR.out.size)).trans (HGR.out.block gc (World.block_lt_of_cell? _ _ HGC.out) (by intro e; injection e with e; exact HNE.out e.symm)))
               have HCG := Lib.hid cgc
               clear hr5 hr6 hg6 hs6 hb6 cgc p0 p1)
            | (go_at_call 62; refine (of1_any (p.1 : Int) (a : Int) _ gc _ HCG.out).mono ?_; rintro e5 w7 ⟨rfl, hw7⟩; rw [hpb]
               have HB7 := Lib.hid (p := Below wr.heap.size wr w7) (by rw [hw7]; exact HB6.out.alloc HB6.out.size _)
               have hr7 : Row w7 g5 79 (wcs p) := by rw [hw7]; exact HR6.out.grown (World.grownBy_alloc _ _ none) (by simp)
               have q0 := hr7.cell 0
               have q1 := hr7.cell 1
               have HO7 := Lib.hid (own_kept HO.out HB7.out)
               have HT7 := Lib.hid (p := w7.there g (i * 2) 2) (own_there HO7.out i (by have := HIL.out; have := HLT.out; omega))
               simp [wcs, bvv] at q0 q1
               clear hw7 hr7)
            | (refine wpList_store_mid rfl 79 _ _ rfl g (i * 2) (wcs p).toArray rfl rfl HT7.out i2.out (all_oneCell_toArray (wcs_one _)) ?_
               have HO8 := Lib.hid (p := (w7.setCells g (i * 2) (wcs p).toArray.toList).ownsRow b 79 2 (.slice (some ⟨g, 0, none⟩) rs.length c) rs.length ((L.set i p).flatMap wcs)) (own_set2 HO7.out i p)
               have HG8 := Lib.hid (p := w7.grownBy (w7.setCells g (i * 2) (wcs p).toArray.toList) (some g)) (own_cells HO7.out (i * 2) (wcs p))
               clear q0 q1))
          go_roundw
          case rel => exact ⟨i + 1, j + 1, L.set i p, by go_num, by go_num, Lib.hid (HI.out.stay HP.out HPA.out), HO8, Lib.hid (grown_trans (grown_trans HGR.out (grown_of_below HB7.out)) HG8.out)⟩
          case measure => have := HLT.out; simp [intOf]; omega
      · obtain rfl : j = rs.length := by omega
        have hin : i < rs.length := by omega
        have hi0 : (0 : Int) ≤ (i : Int) := by omega
        have hii : (i : Int) ≤ (rs.length : Int) := by omega
        have hcap : rs.length ≤ c := by
          obtain ⟨_, _, _, _, hnc, _, _⟩ := own_row HO.out
          exact hnc
        have hcc : (i : Int) ≤ (c : Int) := by omega
        obtain ⟨hd1, hd2⟩ := HI.out.done
        have HD1 := Lib.hid hd1
        have HD2 := Lib.hid hd2
        have HIN := Lib.hid hin
        clear hd1 hd2 hLl hil hjl
        go_wp2_with (first
          | (refine wp_clear rfl _ _ rfl _ rfl _ (run_clear_tail wr _ b g rs.length c i L HLL.out HO.out HIN.out) ?_; rintro w9 ⟨ho9, hg9⟩
             rw [HD1.out] at ho9
             have HO9 := Lib.hid ho9
             have HG9 := Lib.hid hg9
             clear ho9 hg9))
        go_ret
        rw [← HD2.out]
        exact ⟨rfl, HO9.out, grown_trans HGR.out HG9.out⟩
  · have hno : ∀ p ∈ rs, p.1 ≠ a := fun p hp e => hex ⟨p, hp, e⟩
    have HG := Lib.hid (gone_none hno)
    have HNO := Lib.hid hno
    clear hbig h hgc hex hno hne
    go_enter Try.func54, Try.ntmps54
    go_wp2_with (first
      | (go_at_call 63; refine (idx_none HBIG.out HW.out HGC.out HNO.out).mono ?_; rintro e1 w1 ⟨rfl, hb1⟩
         have HB1 := Lib.hid hb1
         clear hb1))
    go_ret
    rw [HG.out]
    exact ⟨rfl, own_kept H.out HB1.out, grown_of_below HB1.out⟩
end
end Go.Proofs.Ytnajlineipapdaa
