/- The program's anchor: what Get tells, and what Set leaves, for any record. Conditions: the anchor lies there; the record's numbers fit. -/
import Derived.Test.YtpocccnhibjjcaaGreatDoorMgPNewD
set_option linter.unusedVariables false
set_option maxRecDepth 20000
namespace Go.Proofs.YtpocccnhibjjcaaGreatDoor
open Go.RowKit

def rtC (e : Nat) (r : RecV) : List Value := .int .u32 (e : Int) :: r.cs
def anC (e : Nat) (r : RecV) (v : Value) : List Value := rtC e r ++ [v]
theorem rtC_len (e : Nat) (r : RecV) : (rtC e r).length = 36 := by simp [rtC, RecV.cs_len]
theorem rtC_one (e : Nat) (r : RecV) : ∀ v ∈ rtC e r, v.oneCell' = true := by
  intro v hv
  rcases List.mem_cons.1 hv with rfl | hv
  · rfl
  · exact r.cs_one v hv
theorem anC_len (e : Nat) (r : RecV) (v : Value) : (anC e r v).length = 37 := by simp [anC, rtC_len]
theorem anC_36 (e : Nat) (r : RecV) (v : Value) : (anC e r v)[36]? = some v := by
  unfold anC
  rw [List.getElem?_append_right (by rw [rtC_len]; omega), rtC_len]
  rfl
theorem rt_rec {w : World} {g e : Nat} {t : TypeId} {r : RecV} (h : Row w g t (rtC e r)) : w.rangeAt g 1 r.cs := fun j v hv => by
  rw [h.cell]
  unfold rtC
  rw [Nat.add_comm, List.getElem?_cons_succ]
  exact hv
def AnAt (b : Nat) (w : World) (ga : Nat) (FA : List Nat) (e : Nat) (r : RecV) (k : Nat) : Prop :=
  ∃ v xs, Row w ga 94 (anC e r v) ∧ w.ownsRow b 157 3 v k xs ∧ (∀ j, j ∈ FA ↔ j = ga ∨ v.ownBlock = some j) ∧ b ≤ ga
section
variable {b : Nat} {w w' : World} {ga : Nat} {FA : List Nat} {e : Nat} {r : RecV} {k : Nat}
theorem AnAt.chg {G : List Nat} (h : AnAt b w ga FA e r k) (hc : Chg G w w') (hG : ∀ j ∈ G, j ∉ FA) : AnAt b w' ga FA e r k := by
  obtain ⟨v, xs, h1, h2, h3, h4⟩ := h
  exact ⟨v, xs, hc.row h1 (fun hx => hG _ hx ((h3 _).2 (.inl rfl))), hc.own h2 (fun j hj hx => hG _ hx ((h3 _).2 (.inr hj))), h3, h4⟩
theorem AnAt.kept (h : AnAt b w ga FA e r k) (hb : Below w.heap.size w w') : AnAt b w' ga FA e r k := h.chg (G := []) (.of hb) (fun j hj => by cases hj)
theorem AnAt.lt (h : AnAt b w ga FA e r k) : ∀ j ∈ FA, b ≤ j ∧ j < w.heap.size := fun j hj => by
  obtain ⟨v, xs, h1, h2, h3, h4⟩ := h
  rcases (h3 j).1 hj with rfl | hj
  · exact ⟨h4, h1.lt⟩
  · exact ⟨(h2.lt j hj).1, (h2.lt j hj).2⟩
theorem AnAt.noBytes (h : AnAt b w ga FA e r k) : NoBytes w FA := fun j hj => by
  obtain ⟨v, xs, h1, h2, h3, h4⟩ := h
  rcases (h3 j).1 hj with rfl | hj
  · exact (NotT.row h1 (by decide)).no
  · have := NotT.own (e := 5) h2 (by decide)
    rw [hj] at this
    exact this.no
end
theorem aget {b : Nat} {w : World} {ga : Nat} {FA : List Nat} {e : Nat} {r : RecV} {k : Nat} (h : AnAt b w ga FA e r k) : Calls Tryz.prog 68 #[.pointer (some ⟨ga, 0, none⟩)] w fun x w' => x = .returned (.agg (rtC e r).toArray) ∧ Below w.heap.size w w' := by
  obtain ⟨v, xs, h1, h2, h3, h4⟩ := h
  have HR := Lib.hid h1
  have i36 := Lib.hid (p := (Tryz.prog.info? 92).map (·.size) = some (rtC e r).length) (by rw [rtC_len]; exact info_root)
  have hz := Lib.hid (p := ∀ w : World, (zeroValue 92).run Tryz.prog w = .ok (.agg (rtC 0 rec0).toArray) w) fun w => by kernel_rfl
  clear h1 h2 h3 h4
  go_enter Tryz.func68, Tryz.ntmps68
  go_wp2_with (first
    | (refine step_alloc rfl 2 rfl 92 rfl _ hz.out ?_; intro g2 w2 hr2 hg2 hb2 hs2; have HR2 := Lib.hid hr2; have HB := Lib.hid hb2; have Q2 := Lib.hid (p := w.heap.size ≤ g2) (by rw [hg2.out]; exact Nat.le_refl _); clear hr2 hg2 hb2 hs2)
    | (refine wpList_load_mid rfl 92 (.tmp 8) rfl ga 0 rfl (rtC e r) _ (fun j u hu => by rw [(HR.out.kept HB.out).cell, Nat.zero_add]; unfold anC; rw [List.getElem?_append_left (List.getElem?_eq_some_iff.1 hu).1]; exact hu) Tryz.underlying92 rfl i36.out ?_)
    | (refine step_store rfl 92 (.tmp 2) (.tmp 9) rfl g2 rfl _ _ (rtC e r) rfl HR2.out (by rw [rtC_len, rtC_len]) i36.out (rtC_one _ _) ?_; intro w3 hr3 hg3 hs3))
  refine bodyPost_ret (results_cell_row rfl _ _ g2 _ _ _ _ rfl hr3 Tryz.underlying92 rfl (by simpa using i36.out)) rfl ?_
  exact ⟨rfl, HB.out.grown hg3 HB.out.size (fun q hq => by injection hq with hq; subst hq; exact Q2.out)⟩
theorem put_four (A : Option Addr) (n c : Nat) (l : List UInt8) (x : Nat) (hx : x < 4294967296) (hn : n = l.length) (w : World) (hA : Hol w A l) (hl : l.length ≤ 100) :
    Calls Tryz.prog 118 #[.slice A n c, .int .i64 4, .int .u64 (x : Int)] w fun e w' => ∃ A' c' m l', e = .returned (.tuple #[.slice A' m c', .int .i64 0]) ∧ Hid (m = l.length + 4) ∧ Hid (l'.length = l.length + 4) ∧ Hid (w'.ownsRow w.heap.size 5 1 (.slice A' m c') m (bc l')) ∧ Hid (Below w.heap.size w w') := by
  subst hn
  refine (put_any A c l 4 x w hA (by omega) (by omega)).mono ?_
  rintro e w' ⟨v, rfl, hown, hb⟩
  have hr : putR l 4 x = (l ++ leb x 4, 0) := by
    have h1 : x / 256 ^ (4 : Int).toNat = 0 := Nat.div_eq_of_lt hx
    unfold putR; rw [if_neg (by decide), if_neg (by rw [h1]; simp)]; rfl
  rw [hr] at hown ⊢
  obtain ⟨A', c', rfl⟩ := own_sl hown
  exact ⟨A', c', _, _, rfl, Lib.hid (by rw [List.length_append, leb_len]), Lib.hid (by rw [List.length_append, leb_len]), Lib.hid hown, Lib.hid hb⟩
set_option maxHeartbeats 2000000 in
theorem arecord (r : RecV) (a : Nat) (ha : r.a = (a : Int)) (ha2 : a < 65536) (hr : r.Ok) (w : World) : Calls Tryz.prog 96 #[.agg r.cs.toArray] w (SomeB w) := by
  obtain ⟨i, U⟩ := u8_tab
  have wk : IntKind.u32.wrap (a : Int) = (a : Int) := by rw [IntKind.wrap_u32]; omega
  have HA2 := Lib.hid ha2
  have HE := Lib.hid hr
  clear ha2 hr
  go_enter Tryz.func96, Tryz.ntmps96
  go_wp2_with (first
    | (refine step_box rfl 1 rfl 87 _ rfl r.cs rfl ?_; intro g3 w1 hr1 hg1 hb1 hs1
       have c0 : w1.cell? ⟨g3, 0, none⟩ = some (.int .i64 (a : Int)) := by rw [RecV.c0 hr1, ha]
       have c1 := RecV.c1 hr1
       have c2 := RecV.c2 hr1
       have HR := Lib.hid hr1
       have HB := Lib.hid hb1
       clear hr1 hb1 hg1 hs1 ha))
  obtain ⟨T3, hT3⟩ : ∃ T3 : Nat → Nat, T3 = fun k => if k = 0 then a else if k = 1 then r.e else r.s := ⟨_, rfl⟩
  have hT3b := Lib.hid (p := ∀ k, T3 k < 4294967296) (fun k => by
    rw [hT3]
    show (if k = 0 then a else if k = 1 then r.e else r.s) < _
    have := HA2.out
    have := HE.out.e
    have := HE.out.s
    split
    · omega
    · split <;> omega)
  have hidx : ∀ k : Nat, k < 3 → ∀ W : World, (Instr.index 175 (.agg #[Value.int .u32 (a : Int), .int .u32 (r.e : Int), .int .u32 (r.s : Int)]) (.int .i64 (k : Int))).run Tryz.prog W = .ok (.int .u32 ((T3 k : Nat) : Int)) W := fun k hk W => by
    rw [hT3]
    match k, hk with
    | 0, _ => simp [Instr.index, go_sem, run_underlying Tryz.underlying175]
    | 1, _ => simp [Instr.index, go_sem, run_underlying Tryz.underlying175]
    | 2, _ => simp [Instr.index, go_sem, run_underlying Tryz.underlying175]
  have HIX := Lib.hid hidx
  clear hidx hT3
  go_loopw [3, 14] (fun x y wr => ∃ (k : Nat) (A : Option Addr) (n c : Nat) (l : List UInt8), k ≤ 3 ∧ y = .int .i64 (k : Int) ∧ x = .slice A n c ∧ Hid (n = l.length) ∧ Hid (l.length = 4 * k) ∧ Hid (wr.ownsRow w.heap.size 5 1 (.slice A n c) n (bc l)) ∧ Hid (Below w1.heap.size w1 wr)) (fun _ y _ => 3 - (intOf y).toNat)
  case atStart => exact ⟨0, none, 0, 0, [], by omega, rfl, rfl, Lib.hid rfl, Lib.hid rfl, Lib.hid (World.ownsRow_nil _ _ _ _), Lib.hid (Below.refl _ _)⟩
  case round =>
    obtain ⟨k, A, n, c, l, hk, rfl, rfl, HN, HL, HO, HB2⟩ := hrel
    by_cases h3 : k = 3
    · subst h3
      have HA8 := Lib.hid (p := Hol wr (some ⟨g3, 3, none⟩) r.l) (RecV.hol_l (HR.out.kept HB2.out))
      have HSZ := Lib.hid (p := w.heap.size ≤ wr.heap.size) (Nat.le_trans HB.out.size HB2.out.size)
      go_wp2_with (at_builtin; refine wpList_app _ rfl _ _ _ rfl 5 i U w.heap.size _ n (bc l) rfl HO.out (some ⟨g3, 3, none⟩) 32 32 r.l rfl r.l_len.symm HA8.out (by have := HL.out; have := HN.out; omega) HSZ.out ?_
                   intro v6 w6 hr6 hg6 hat6
                   obtain ⟨A6, c6, rfl⟩ := own_sl hr6)
      go_ret
      exact ⟨A6, _, c6, rfl, (below_nxt HB2.out HB.out).grown hg6 HSZ.out (fun q hq => (HO.out.lt q hq).1)⟩
    · have hki : (k : Int) < 3 := by omega
      have hkw : IntKind.i64.wrap ((k : Int) + 1) = (k : Int) + 1 := by rw [IntKind.wrap_i64]; omega
      have hidx := HIX.out k (by omega)
      have hb3 := hT3b.out k
      obtain ⟨t3, ht3⟩ : ∃ t3, T3 k = t3 := ⟨_, rfl⟩
      rw [ht3] at hidx hb3
      have hw4 : IntKind.u64.wrap (t3 : Int) = (t3 : Int) := by rw [IntKind.wrap_u64]; omega
      have HT4 := Lib.hid hb3
      have HK3 := Lib.hid (p := k < 3) (by omega)
      clear h3 hk hb3 ht3
      go_wp2_with (go_at_call 118; refine (put_four A n c l t3 HT4.out HN.out _ (Hol.own HO.out) (by have := HL.out; have := HK3.out; omega)).mono ?_; rintro e w5 ⟨A5, c5, m5, l5, rfl, HN5, HL5, HO5, HB5⟩)
      go_roundw
      case rel => exact ⟨k + 1, A5, m5, c5, l5, HK3.out, by go_num, rfl, Lib.hid (by rw [HN5.out, HL5.out]), Lib.hid (by rw [HL5.out, HL.out]; omega), Lib.hid (World.ownsRow.mono HO5.out (Nat.le_trans HB.out.size HB2.out.size)), Lib.hid (below_nxt HB5.out HB2.out)⟩
      case measure => have := HK3.out; simp [intOf]; omega
def RtS (g3 e : Nat) (r : RecV) (W : World) : Prop := W.cell? ⟨g3, 0, none⟩ = some (.int .u32 (e : Int)) ∧ W.rangeAt g3 1 r.cs
theorem RtS.far {g3 ga e : Nat} {r : RecV} {W : World} (h : RtS g3 e r W) (hne : g3 ≠ ga) (u : Value) : RtS g3 e r (W.setCell ⟨ga, 36, none⟩ u) :=
  ⟨(World.cell?_of_block (w := W) (Below.heap_setCell W ⟨ga, 36, none⟩ u g3 hne)).trans h.1, fun j v hv => (World.cell?_of_block (w := W) (Below.heap_setCell W ⟨ga, 36, none⟩ u g3 hne)).trans (h.2 j v hv)⟩
def SetPost (b : Nat) (w : World) (ga : Nat) (FA : List Nat) (e : Nat) (r : RecV) (k : Nat) (x : Ending) (w' : World) : Prop :=
  ∃ FA', x = .returned (.int .i64 0) ∧ Hid (AnAt b w' ga FA' e r k) ∧ Hid (Chg FA w w') ∧ Hid (Wider w FA FA')
theorem grown_setsA {g : Nat} : ∀ (vs : List Value) (w : World) (o : Nat), w.grownBy (w.setCells g o vs) (some g)
  | [], w, o => ⟨rfl, rfl, rfl, Nat.le_refl _, fun _ _ _ => rfl⟩
  | v :: r, w, o => grown_trans (grown_set w ⟨g, o, none⟩ v) (grown_setsA r (w.setCell ⟨g, o, none⟩ v) (o + 1))
theorem row_cellsAt {g : Nat} {t : TypeId} : ∀ (cs : List Value) (o : Nat) (w : World) (ol : List Value), Row w g t ol → o + cs.length ≤ ol.length →
    Row (w.setCells g o cs) g t (ol.take o ++ (cs ++ ol.drop (o + cs.length)))
  | [], o, w, ol, h, _ => by
    rw [List.nil_append, List.length_nil, Nat.add_zero, List.take_append_drop]
    exact h
  | v :: r, o, w, ol, h, hl => by
    simp only [List.length_cons] at hl
    have h1 := row_cellsAt r (o + 1) (w.setCell ⟨g, o, none⟩ v) _ (h.put o v) (by simp; omega)
    have e1 : (ol.set o v).take (o + 1) = ol.take o ++ [v] := by
      rw [List.take_add_one, List.take_set_of_le (Nat.le_refl _), List.getElem?_set_self (by omega)]
      rfl
    have e2 : (ol.set o v).drop (o + 1 + r.length) = ol.drop (o + (r.length + 1)) := by
      rw [List.drop_set_of_lt (by omega), show o + 1 + r.length = o + (r.length + 1) by omega]
    rw [e1, e2, List.append_assoc] at h1
    exact h1
theorem row_cells2 {g : Nat} {t : TypeId} (cs : List Value) (w : World) (ol : List Value) (h : Row w g t ol) (hl : cs.length ≤ ol.length) :
    ∃ ol', Row (w.setCells g 0 cs) g t ol' ∧ ol' = cs ++ ol.drop cs.length ∧ w.grownBy (w.setCells g 0 cs) (some g) := by
  refine ⟨_, row_cellsAt cs 0 w ol h (by omega), ?_, grown_setsA cs w 0⟩
  rw [List.take_zero, List.nil_append, Nat.zero_add]
theorem own_drewN {w : World} {b size n : Nat} {e : TypeId} {v : Value} {xs : List Value} (h : w.ownsRow b e size v n xs) (q : Nat) : (w.drewN q).ownsRow b e size v n xs := own_kept h (below_drewN (Below.refl _ _) q)
theorem set_end {b : Nat} {w w2 w6 : World} {ga : Nat} {FA : List Nat} {E : Nat} {r0 r : RecV} {k e0 : Nat} {v v6 : Value} {ys : List Value} (hA : Row w ga 94 (anC e0 r0 v)) (hF : ∀ j, j ∈ FA ↔ j = ga ∨ v.ownBlock = some j) (hbga : b ≤ ga) (hC2 : Chg FA w w2) (hRW : Row w2 ga 94 (anC E r v))
    (hg : w2.grownBy w6 v.ownBlock) (hr6 : w6.ownsRow b 157 3 v6 (k + 1) ys) (hat : v6.ownBlock = v.ownBlock ∨ ∃ q, v6.ownBlock = some q ∧ w2.heap.size ≤ q) (hn : some ga ≠ v.ownBlock) :
    SetPost b w ga FA E r (k + 1) (.returned (.int .i64 0)) (w6.setCell ⟨ga, 36, none⟩ v6) := by
  have hr : Row (w6.setCell ⟨ga, 36, none⟩ v6) ga 94 (anC E r v6) := by
    have h1 := (hRW.grown hg hn).put 36 v6
    have h2 : (anC E r v).set 36 v6 = anC E r v6 := by
      unfold anC
      rw [List.set_append_right _ _ (by rw [rtC_len]; omega), rtC_len]
      rfl
    rw [h2] at h1
    exact h1
  have hga6 : some ga ≠ v6.ownBlock := (row_parted (hRW.grown hg hn) hr6 (by decide)).symm
  refine ⟨ga :: v6.ownBlock.toList, rfl, Lib.hid ⟨v6, ys, hr, World.ownsRow.kept hr6 (grown_set w6 ⟨ga, 36, none⟩ v6) (.inr hga6.symm), fun j => by simp [Option.mem_toList], hbga⟩, Lib.hid ?_, Lib.hid ?_⟩
  · exact (hC2.grown hg (fun j hj => .inl ((hF j).2 (.inr hj)))).setCell (p := ⟨ga, 36, none⟩) (.inl ((hF _).2 (.inl rfl))) _
  · intro j hj
    rcases List.mem_cons.1 hj with rfl | hj
    · exact .inl ((hF _).2 (.inl rfl))
    · rcases hat with h | ⟨q, h, hq⟩
      · rw [h] at hj
        exact .inl ((hF j).2 (.inr (by simpa [Option.mem_toList] using hj)))
      · rw [h] at hj
        simp at hj
        subst hj
        exact .inr (Nat.le_trans hC2.size hq)
set_option maxHeartbeats 1000000 in
theorem aset {b : Nat} {w : World} {ga : Nat} {FA : List Nat} {e0 : Nat} {r0 : RecV} {k : Nat} (h : AnAt b w ga FA e0 r0 k) (hk : k ≤ 1000000) (he : e0 + 1 < 4294967296) (r : RecV) (a : Nat) (ha : r.a = (a : Int)) (ha2 : a < 65536) (hr : r.Ok) :
    Calls Tryz.prog 69 #[.pointer (some ⟨ga, 0, none⟩), .agg (rtC (e0 + 1) r).toArray] w (SetPost b w ga FA (e0 + 1) r (k + 1)) := by
  obtain ⟨v, xs, hA, hO, hF, hbga⟩ := h
  have HA := Lib.hid hA
  have HO := Lib.hid hO
  have HF := Lib.hid hF
  have HBG := Lib.hid hbga
  have HREC := Lib.hid (p := ∀ w : World, Calls Tryz.prog 96 #[.agg r.cs.toArray] w (SomeB w)) (fun w => arecord r a ha ha2 hr w)
  obtain ⟨E, hE⟩ : ∃ E, e0 + 1 = E := ⟨_, rfl⟩
  have e1 : IntKind.u64.wrap (E : Int) = (E : Int) := by rw [IntKind.wrap_u64]; omega
  have e2 : IntKind.u64.wrap (e0 : Int) = (e0 : Int) := by rw [IntKind.wrap_u64]; omega
  have e3 : IntKind.u64.wrap ((e0 : Int) + 1) = (E : Int) := by rw [IntKind.wrap_u64]; omega
  have e4 : IntKind.i64.wrap (E : Int) = (E : Int) := by rw [IntKind.wrap_i64]; omega
  have HK := Lib.hid hk
  rw [hE]
  clear hA hO hF hbga ha ha2 hr he hE hk
  go_enter Tryz.func69, Tryz.ntmps69
  go_wp2_with (first
    | (refine step_box rfl 3 rfl 92 _ rfl (rtC E r) rfl ?_; intro g3 w1 hr1 hg1 hb1 hs1))
  have c0 : w1.cell? ⟨g3, 0, none⟩ = some (.int .u32 (E : Int)) := by rw [hr1.cell]; rfl
  have c1 : w1.cell? ⟨ga, 0, none⟩ = some (.int .u32 (e0 : Int)) := by rw [(HA.out.kept hb1).cell]; rfl
  have HR1 := Lib.hid hr1
  have HB1 := Lib.hid hb1
  have HG3 := Lib.hid (p := w.heap.size = g3) hg1.out.symm
  have HA1 := Lib.hid (HA.out.kept hb1)
  have HO1 := Lib.hid (own_kept HO.out hb1)
  clear hr1 hb1 hg1 hs1
  go_quiet (fail)
  go_wp2_with (first
    | (refine step_load rfl 21 rfl 92 (.tmp 3) rfl g3 rfl (rtC E r) _ (HR1.out.drewN nq).all Tryz.underlying92 rfl (by rw [rtC_len]; exact info_root) ?_)
    | (refine wpList_store_mid rfl 92 (.tmp 23) (.tmp 21) rfl ga 0 (rtC E r).toArray rfl rfl (by have h0 := (HA1.out.drewN nq).is_there 0 36 (by rw [anC_len]; omega); rw [List.size_toArray, rtC_len]; exact h0) (by rw [List.size_toArray, rtC_len]; exact info_root) (all_oneCell_toArray (rtC_one E r)) ?_))
  obtain ⟨ol, h1, h2, h3⟩ := row_cells2 (rtC E r) _ _ (HA1.out.drewN nq) (by rw [rtC_len, anC_len]; omega)
  obtain rfl : ol = anC E r v := by
    rw [h2]
    unfold anC
    rw [rtC_len, List.drop_append_of_le_length (by rw [rtC_len]; exact Nat.le_refl _), List.drop_eq_nil_of_le (by rw [rtC_len]; exact Nat.le_refl _)]
    rfl
  have HB1d : Below w.heap.size w (w1.drewN nq) := below_drewN HB1.out nq
  have hr3 : Row (w1.drewN nq) g3 92 (rtC E r) := HR1.out.drewN nq
  have hne : g3 ≠ ga := (HR1.out.ne_ HA1.out (by decide))
  obtain ⟨w2, hw2⟩ : ∃ w2, (w1.drewN nq).setCells ga 0 (rtC E r) = w2 := ⟨_, rfl⟩
  rw [hw2] at h1 h3 ⊢
  have HC2 := Lib.hid (p := Chg FA w w2) ((Chg.of HB1d).grown h3 (fun k hk => by injection hk with hk; subst hk; exact .inl ((HF.out _).2 (.inl rfl))))
  have hr4 := hr3.grown h3 (fun e => hne (by injection e))
  have HO2 := Lib.hid (p := w2.ownsRow b 157 3 v k xs) (World.ownsRow.kept (own_drewN HO1.out nq) h3 (.inr (row_parted HA1.out HO1.out (by decide))))
  have HRW := Lib.hid h1
  have c36 : w2.cell? ⟨ga, 36, none⟩ = some v := by rw [h1.cell, anC_36]
  have HR4 := Lib.hid hr4
  have i35 : (Tryz.prog.info? 87).map (·.size) = some r.cs.length := by rw [r.cs_len]; exact info_rec
  have HSZ := Lib.hid (p := w.heap.size ≤ w2.heap.size) HC2.out.size
  have HNG3 := Lib.hid (p := some g3 ≠ v.ownBlock) (row_parted HR4.out HO2.out (by decide)).symm
  have HNGA := Lib.hid (p := some ga ≠ v.ownBlock) (row_parted HRW.out HO2.out (by decide)).symm
  have Q36 := Lib.hid (p := ∀ w5 : World, w2.grownBy w5 v.ownBlock → w5.cell? ⟨ga, 36, none⟩ = some v ∧ w5.frozen? ⟨ga, 36, none⟩ = false ∧ RtS g3 E r w5) fun w5 hb => by
    have r1 := HRW.out.grown hb HNGA.out
    have r2 := HR4.out.grown hb HNG3.out
    exact ⟨by rw [r1.cell, anC_36], r1.free 36, by rw [r2.cell]; rfl, rt_rec r2⟩
  have HGN := Lib.hid (p := ga < w2.heap.size) HRW.out.lt
  have HBS := Lib.hid (p := b ≤ w2.heap.size) (by have := HBG.out; have := HRW.out.lt; omega)
  clear h1 h2 h3 hr3 hw2 HB1d c0 c1 hr4
  go_wp2
  refine wp_region_held_drew (S := RtS g3 E r) (by kernel_rfl) (Q36.out _ (grown_of_below (below_drw _))).2.2 (fun hHeld => ?_)
  refine wpAnyH_take (i := 0) (oi := ⟨some 24, .move (.tmp 0), _, _, _, none⟩) (v := (.pointer (some ⟨ga, 0, none⟩))) rfl (by kernel_rfl) (by kernel_rfl) (by kernel_rfl) (fun _ _ _ h => h) (.inl ⟨by rfl, fun w hSw => by (try obtain ⟨z1, z2⟩ := hSw); go_simp⟩) (by assumption) ?_
  try simp only [Act.put, List.setIfInBounds_toArray, List.set_cons_zero, List.set_cons_succ]
  refine wpAnyH_take (i := 1) (oi := ⟨some 25, .move (.tmp 0), _, _, _, none⟩) (v := (.pointer (some ⟨ga, 0, none⟩))) rfl (by kernel_rfl) (by kernel_rfl) (by kernel_rfl) (fun _ _ _ h => h) (.inl ⟨by rfl, fun w hSw => by (try obtain ⟨z1, z2⟩ := hSw); go_simp⟩) (by assumption) ?_
  try simp only [Act.put, List.setIfInBounds_toArray, List.set_cons_zero, List.set_cons_succ]
  refine wpAnyH_take (i := 5) (oi := ⟨some 29, .fieldAddr 92 (.tmp 3) 0, _, _, _, none⟩) (v := (.pointer (some ⟨g3, 0, none⟩))) rfl (by kernel_rfl) (by kernel_rfl) (by kernel_rfl) (fun _ _ _ h => h) (.inl ⟨by rfl, fun w hSw => by (try obtain ⟨z1, z2⟩ := hSw); go_simp⟩) (by assumption) ?_
  try simp only [Act.put, List.setIfInBounds_toArray, List.set_cons_zero, List.set_cons_succ]
  refine wpAnyH_take (i := 8) (oi := ⟨some 32, .fieldAddr 92 (.tmp 3) 1, _, _, _, none⟩) (v := (.pointer (some ⟨g3, 1, none⟩))) rfl (by kernel_rfl) (by kernel_rfl) (by kernel_rfl) (fun _ _ _ h => h) (.inl ⟨by rfl, fun w hSw => by (try obtain ⟨z1, z2⟩ := hSw); go_simp⟩) (by assumption) ?_
  try simp only [Act.put, List.setIfInBounds_toArray, List.set_cons_zero, List.set_cons_succ]
  refine wpAnyH_take (i := 2) (oi := ⟨some 26, .nilCheck (.tmp 25), _, _, _, none⟩) (v := (.pointer (some ⟨ga, 0, none⟩))) rfl (by kernel_rfl) (by kernel_rfl) (by kernel_rfl) (fun _ _ _ h => h) (.inl ⟨by rfl, fun w hSw => by (try obtain ⟨z1, z2⟩ := hSw); go_simp⟩) (by assumption) ?_
  try simp only [Act.put, List.setIfInBounds_toArray, List.set_cons_zero, List.set_cons_succ]
  refine wpAnyH_take (i := 3) (oi := ⟨some 27, .fieldAddr 94 (.tmp 26) 1, _, _, _, none⟩) (v := (.pointer (some ⟨ga, 36, none⟩))) rfl (by kernel_rfl) (by kernel_rfl) (by kernel_rfl) (fun _ _ _ h => h) (.inl ⟨by rfl, fun w hSw => by (try obtain ⟨z1, z2⟩ := hSw); go_simp⟩) (by assumption) ?_
  try simp only [Act.put, List.setIfInBounds_toArray, List.set_cons_zero, List.set_cons_succ]
  refine wpAnyH_take (i := 6) (oi := ⟨some 30, .load 44 (.tmp 29), _, _, _, none⟩) (v := (.int .u32 (E : Int))) rfl (by kernel_rfl) (by kernel_rfl) (by kernel_rfl) (fun _ _ _ h => h) (.inl ⟨by rfl, fun w hSw => by (try obtain ⟨z1, z2⟩ := hSw); go_simp⟩) (by assumption) ?_
  try simp only [Act.put, List.setIfInBounds_toArray, List.set_cons_zero, List.set_cons_succ]
  refine wpAnyH_take (i := 7) (oi := ⟨some 31, .convert 44 3 (.tmp 30), _, _, _, none⟩) (v := (.int .i64 (E : Int))) rfl (by kernel_rfl) (by kernel_rfl) (by kernel_rfl) (fun _ _ _ h => h) (.inl ⟨by rfl, fun w hSw => by (try obtain ⟨z1, z2⟩ := hSw); go_simp⟩) (by assumption) ?_
  try simp only [Act.put, List.setIfInBounds_toArray, List.set_cons_zero, List.set_cons_succ]
  refine wpAnyH_take (i := 9) (oi := ⟨some 33, .load 87 (.tmp 32), _, _, _, none⟩) (v := (.agg r.cs.toArray)) rfl (by kernel_rfl) (by kernel_rfl) (by kernel_rfl) (fun _ _ _ h => h) (yieldsIf_load_mid (by rfl) 87 (.tmp 32) rfl g3 1 rfl r.cs _ (fun w hSw => hSw.2) Tryz.underlying87 rfl i35) (by assumption) ?_
  try simp only [Act.put, List.setIfInBounds_toArray, List.set_cons_zero, List.set_cons_succ]
  refine wpAnyH_ready (rs := [4, 10]) (by kernel_rfl) (by simp) ?_
  refine AllReadyH.cons (o := ⟨some 28, .load 75 (.tmp 27), _, _, _, none⟩) rfl (fun K hK => ?_) (AllReadyH.cons (o := ⟨some 34, .call ⟨.value (.func 96), #[.tmp 33], _⟩, _, _, _, none⟩) rfl (fun K hK => ?_) AllReadyH.nil)
  · skip
    go_simp
    refine hK.out _ _ hHeld (fun hH1 => ?_)
    clear hK K
    refine wpAnyH_ready (rs := [10]) (by kernel_rfl) (by simp) ?_
    refine AllReadyH.cons (o := ⟨some 34, .call ⟨.value (.func 96), #[.tmp 33], _⟩, _, _, _, none⟩) rfl (fun K hK => ?_) AllReadyH.nil
    go_simp
    refine (HREC.out _).mono ?_
    rintro x4 w4 ⟨A4, n4, c4, rfl, hb4⟩
    have hb24 : Below w2.heap.size w2 w4 := below_nxt hb4 (below_drw _)
    obtain ⟨d4, f4, s4⟩ := Q36.out _ (grown_of_below hb24)
    have HB24 := Lib.hid hb24
    clear hb24 hb4
    refine hK.out _ _ s4 (fun hH2 => ?_)
    clear hK K
    refine wpAnyH_take (i := 11) (oi := ⟨some 35, .build 157 #[(0, .const (.int .i64 4)), (1, .tmp 31), (2, .tmp 34)], _, _, _, none⟩) (v := (.agg #[.int .i64 4, .int .i64 (E : Int), .slice A4 n4 c4])) rfl (by kernel_rfl) (by kernel_rfl) (by kernel_rfl) (fun _ _ _ h => h) (.inl ⟨by rfl, fun w hSw => by (try obtain ⟨z1, z2⟩ := hSw); go_simp⟩) (by assumption) ?_
    try simp only [Act.put, List.setIfInBounds_toArray, List.set_cons_zero, List.set_cons_succ]
    refine wpAnyH_ready (rs := [12]) (by kernel_rfl) (by simp) ?_
    refine AllReadyH.cons (o := ⟨some 36, .buildSlice 75 1 #[(0, .tmp 35)], _, _, _, none⟩) rfl (fun K hK => ?_) AllReadyH.nil
    go_simp
    have hb25 : Below w2.heap.size w2 (w4.alloc (.cells #[.int .i64 4, .int .i64 (E : Int), .slice A4 n4 c4] 157)) := HB24.out.alloc HB24.out.size _
    obtain ⟨d5, f5, s5⟩ := Q36.out _ (grown_of_below hb25)
    have HB25 := Lib.hid hb25
    clear hb25
    refine hK.out _ _ s5 (fun hH3 => ?_)
    clear hK K
    refine wpAnyH_ready (rs := [13]) (by kernel_rfl) (by simp) ?_
    refine AllReadyH.cons (o := ⟨some 37, .call ⟨.builtin .append, #[.tmp 28, .tmp 36], #[75, 75]⟩, _, _, _, none⟩) rfl (fun K hK => ?_) AllReadyH.nil
    refine step_join rfl (.tmp 28) (.tmp 36) rfl rec_touch b v k xs rfl (own_kept HO2.out HB25.out) (some ⟨w4.heap.size, 0, none⟩) 1 1 [.int .i64 4, .int .i64 (E : Int), .slice A4 n4 c4] rfl rfl (made_src w4 _ _) (three_one _ _ _ _ _) (by have := HK.out; omega) (Nat.le_trans HBS.out HB25.out.size) ?_
    intro v6 w6 hr6 hg6 hat6
    obtain ⟨A6, k6, rfl⟩ := own_sl hr6
    have hg26 : w2.grownBy w6 v.ownBlock := grown_trans (grown_of_below HB25.out) hg6
    obtain ⟨d6, f6, s6⟩ := Q36.out _ hg26
    have HG26 := Lib.hid hg26
    have HR6 := Lib.hid hr6
    have HAT := Lib.hid (p := (Value.slice A6 (k + 1) k6).ownBlock = v.ownBlock ∨ ∃ q, (Value.slice A6 (k + 1) k6).ownBlock = some q ∧ w2.heap.size ≤ q) (by rcases hat6 with h | h; exact .inl h; exact .inr ⟨_, h, HB25.out.size⟩)
    clear hg26 hr6 hg6 hat6
    refine hK.out _ _ s6 (fun hH4 => ?_)
    clear hK K
    try simp only [Act.put, List.setIfInBounds_toArray, List.set_cons_zero, List.set_cons_succ]
    refine wpAnyH_take (i := 14) (oi := ⟨some 38, .nilCheck (.tmp 24), _, _, _, none⟩) (v := (.pointer (some ⟨ga, 0, none⟩))) rfl (by kernel_rfl) (by kernel_rfl) (by kernel_rfl) (fun _ _ _ h => h) (.inl ⟨by rfl, fun w hSw => by go_simp⟩) (by assumption) ?_
    try simp only [Act.put, List.setIfInBounds_toArray, List.set_cons_zero, List.set_cons_succ]
    refine wpAnyH_take (i := 15) (oi := ⟨some 39, .fieldAddr 94 (.tmp 38) 1, _, _, _, none⟩) (v := (.pointer (some ⟨ga, 36, none⟩))) rfl (by kernel_rfl) (by kernel_rfl) (by kernel_rfl) (fun _ _ _ h => h) (.inl ⟨by rfl, fun w hSw => by go_simp⟩) (by assumption) ?_
    try simp only [Act.put, List.setIfInBounds_toArray, List.set_cons_zero, List.set_cons_succ]
    refine wpAnyH_ready (rs := [16]) (by kernel_rfl) (by simp) ?_
    refine AllReadyH.cons (o := ⟨none, .store 75 (.tmp 39) (.tmp 37), _, _, _, none⟩) rfl (fun K hK => ?_) AllReadyH.nil
    go_simp
    refine hK.out _ _ (s6.far hne _) (fun hH5 => ?_)
    clear hK K
    refine wpAnyH_done (by kernel_rfl) ?_ _
    go_wp2
    go_ret
    exact set_end HA.out HF.out HBG.out HC2.out HRW.out HG26.out HR6.out HAT.out HNGA.out
  · skip
    go_simp
    refine (HREC.out _).mono ?_
    rintro x4 w4 ⟨A4, n4, c4, rfl, hb4⟩
    have hb24 : Below w2.heap.size w2 w4 := below_nxt hb4 (below_drw _)
    obtain ⟨d4, f4, s4⟩ := Q36.out _ (grown_of_below hb24)
    have HB24 := Lib.hid hb24
    clear hb24 hb4
    refine hK.out _ _ s4 (fun hH2 => ?_)
    clear hK K
    refine wpAnyH_take (i := 11) (oi := ⟨some 35, .build 157 #[(0, .const (.int .i64 4)), (1, .tmp 31), (2, .tmp 34)], _, _, _, none⟩) (v := (.agg #[.int .i64 4, .int .i64 (E : Int), .slice A4 n4 c4])) rfl (by kernel_rfl) (by kernel_rfl) (by kernel_rfl) (fun _ _ _ h => h) (.inl ⟨by rfl, fun w hSw => by (try obtain ⟨z1, z2⟩ := hSw); go_simp⟩) (by assumption) ?_
    try simp only [Act.put, List.setIfInBounds_toArray, List.set_cons_zero, List.set_cons_succ]
    refine wpAnyH_ready (rs := [4, 12]) (by kernel_rfl) (by simp) ?_
    refine AllReadyH.cons (o := ⟨some 28, .load 75 (.tmp 27), _, _, _, none⟩) rfl (fun K hK => ?_) (AllReadyH.cons (o := ⟨some 36, .buildSlice 75 1 #[(0, .tmp 35)], _, _, _, none⟩) rfl (fun K hK => ?_) AllReadyH.nil)
    · skip
      go_simp
      refine hK.out _ _ s4 (fun hH1 => ?_)
      clear hK K
      refine wpAnyH_ready (rs := [12]) (by kernel_rfl) (by simp) ?_
      refine AllReadyH.cons (o := ⟨some 36, .buildSlice 75 1 #[(0, .tmp 35)], _, _, _, none⟩) rfl (fun K hK => ?_) AllReadyH.nil
      go_simp
      have hb25 : Below w2.heap.size w2 (w4.alloc (.cells #[.int .i64 4, .int .i64 (E : Int), .slice A4 n4 c4] 157)) := HB24.out.alloc HB24.out.size _
      obtain ⟨d5, f5, s5⟩ := Q36.out _ (grown_of_below hb25)
      have HB25 := Lib.hid hb25
      clear hb25
      refine hK.out _ _ s5 (fun hH3 => ?_)
      clear hK K
      refine wpAnyH_ready (rs := [13]) (by kernel_rfl) (by simp) ?_
      refine AllReadyH.cons (o := ⟨some 37, .call ⟨.builtin .append, #[.tmp 28, .tmp 36], #[75, 75]⟩, _, _, _, none⟩) rfl (fun K hK => ?_) AllReadyH.nil
      refine step_join rfl (.tmp 28) (.tmp 36) rfl rec_touch b v k xs rfl (own_kept HO2.out HB25.out) (some ⟨w4.heap.size, 0, none⟩) 1 1 [.int .i64 4, .int .i64 (E : Int), .slice A4 n4 c4] rfl rfl (made_src w4 _ _) (three_one _ _ _ _ _) (by have := HK.out; omega) (Nat.le_trans HBS.out HB25.out.size) ?_
      intro v6 w6 hr6 hg6 hat6
      obtain ⟨A6, k6, rfl⟩ := own_sl hr6
      have hg26 : w2.grownBy w6 v.ownBlock := grown_trans (grown_of_below HB25.out) hg6
      obtain ⟨d6, f6, s6⟩ := Q36.out _ hg26
      have HG26 := Lib.hid hg26
      have HR6 := Lib.hid hr6
      have HAT := Lib.hid (p := (Value.slice A6 (k + 1) k6).ownBlock = v.ownBlock ∨ ∃ q, (Value.slice A6 (k + 1) k6).ownBlock = some q ∧ w2.heap.size ≤ q) (by rcases hat6 with h | h; exact .inl h; exact .inr ⟨_, h, HB25.out.size⟩)
      clear hg26 hr6 hg6 hat6
      refine hK.out _ _ s6 (fun hH4 => ?_)
      clear hK K
      try simp only [Act.put, List.setIfInBounds_toArray, List.set_cons_zero, List.set_cons_succ]
      refine wpAnyH_take (i := 14) (oi := ⟨some 38, .nilCheck (.tmp 24), _, _, _, none⟩) (v := (.pointer (some ⟨ga, 0, none⟩))) rfl (by kernel_rfl) (by kernel_rfl) (by kernel_rfl) (fun _ _ _ h => h) (.inl ⟨by rfl, fun w hSw => by go_simp⟩) (by assumption) ?_
      try simp only [Act.put, List.setIfInBounds_toArray, List.set_cons_zero, List.set_cons_succ]
      refine wpAnyH_take (i := 15) (oi := ⟨some 39, .fieldAddr 94 (.tmp 38) 1, _, _, _, none⟩) (v := (.pointer (some ⟨ga, 36, none⟩))) rfl (by kernel_rfl) (by kernel_rfl) (by kernel_rfl) (fun _ _ _ h => h) (.inl ⟨by rfl, fun w hSw => by go_simp⟩) (by assumption) ?_
      try simp only [Act.put, List.setIfInBounds_toArray, List.set_cons_zero, List.set_cons_succ]
      refine wpAnyH_ready (rs := [16]) (by kernel_rfl) (by simp) ?_
      refine AllReadyH.cons (o := ⟨none, .store 75 (.tmp 39) (.tmp 37), _, _, _, none⟩) rfl (fun K hK => ?_) AllReadyH.nil
      go_simp
      refine hK.out _ _ (s6.far hne _) (fun hH5 => ?_)
      clear hK K
      refine wpAnyH_done (by kernel_rfl) ?_ _
      go_wp2
      go_ret
      exact set_end HA.out HF.out HBG.out HC2.out HRW.out HG26.out HR6.out HAT.out HNGA.out
    · skip
      go_simp
      have hb25 : Below w2.heap.size w2 (w4.alloc (.cells #[.int .i64 4, .int .i64 (E : Int), .slice A4 n4 c4] 157)) := HB24.out.alloc HB24.out.size _
      obtain ⟨d5, f5, s5⟩ := Q36.out _ (grown_of_below hb25)
      have HB25 := Lib.hid hb25
      clear hb25
      refine hK.out _ _ s5 (fun hH3 => ?_)
      clear hK K
      refine wpAnyH_ready (rs := [4]) (by kernel_rfl) (by simp) ?_
      refine AllReadyH.cons (o := ⟨some 28, .load 75 (.tmp 27), _, _, _, none⟩) rfl (fun K hK => ?_) AllReadyH.nil
      go_simp
      refine hK.out _ _ s5 (fun hH1 => ?_)
      clear hK K
      refine wpAnyH_ready (rs := [13]) (by kernel_rfl) (by simp) ?_
      refine AllReadyH.cons (o := ⟨some 37, .call ⟨.builtin .append, #[.tmp 28, .tmp 36], #[75, 75]⟩, _, _, _, none⟩) rfl (fun K hK => ?_) AllReadyH.nil
      refine step_join rfl (.tmp 28) (.tmp 36) rfl rec_touch b v k xs rfl (own_kept HO2.out HB25.out) (some ⟨w4.heap.size, 0, none⟩) 1 1 [.int .i64 4, .int .i64 (E : Int), .slice A4 n4 c4] rfl rfl (made_src w4 _ _) (three_one _ _ _ _ _) (by have := HK.out; omega) (Nat.le_trans HBS.out HB25.out.size) ?_
      intro v6 w6 hr6 hg6 hat6
      obtain ⟨A6, k6, rfl⟩ := own_sl hr6
      have hg26 : w2.grownBy w6 v.ownBlock := grown_trans (grown_of_below HB25.out) hg6
      obtain ⟨d6, f6, s6⟩ := Q36.out _ hg26
      have HG26 := Lib.hid hg26
      have HR6 := Lib.hid hr6
      have HAT := Lib.hid (p := (Value.slice A6 (k + 1) k6).ownBlock = v.ownBlock ∨ ∃ q, (Value.slice A6 (k + 1) k6).ownBlock = some q ∧ w2.heap.size ≤ q) (by rcases hat6 with h | h; exact .inl h; exact .inr ⟨_, h, HB25.out.size⟩)
      clear hg26 hr6 hg6 hat6
      refine hK.out _ _ s6 (fun hH4 => ?_)
      clear hK K
      try simp only [Act.put, List.setIfInBounds_toArray, List.set_cons_zero, List.set_cons_succ]
      refine wpAnyH_take (i := 14) (oi := ⟨some 38, .nilCheck (.tmp 24), _, _, _, none⟩) (v := (.pointer (some ⟨ga, 0, none⟩))) rfl (by kernel_rfl) (by kernel_rfl) (by kernel_rfl) (fun _ _ _ h => h) (.inl ⟨by rfl, fun w hSw => by go_simp⟩) (by assumption) ?_
      try simp only [Act.put, List.setIfInBounds_toArray, List.set_cons_zero, List.set_cons_succ]
      refine wpAnyH_take (i := 15) (oi := ⟨some 39, .fieldAddr 94 (.tmp 38) 1, _, _, _, none⟩) (v := (.pointer (some ⟨ga, 36, none⟩))) rfl (by kernel_rfl) (by kernel_rfl) (by kernel_rfl) (fun _ _ _ h => h) (.inl ⟨by rfl, fun w hSw => by go_simp⟩) (by assumption) ?_
      try simp only [Act.put, List.setIfInBounds_toArray, List.set_cons_zero, List.set_cons_succ]
      refine wpAnyH_ready (rs := [16]) (by kernel_rfl) (by simp) ?_
      refine AllReadyH.cons (o := ⟨none, .store 75 (.tmp 39) (.tmp 37), _, _, _, none⟩) rfl (fun K hK => ?_) AllReadyH.nil
      go_simp
      refine hK.out _ _ (s6.far hne _) (fun hH5 => ?_)
      clear hK K
      refine wpAnyH_done (by kernel_rfl) ?_ _
      go_wp2
      go_ret
      exact set_end HA.out HF.out HBG.out HC2.out HRW.out HG26.out HR6.out HAT.out HNGA.out
end Go.Proofs.YtpocccnhibjjcaaGreatDoor
/- The program's disk by its calls: what each leaves, whatever its parts' values are. Conditions: the disk lies there. -/
set_option linter.unusedVariables false
namespace Go.Proofs.YtpocccnhibjjcaaGreatDoor
open Go.RowKit

def ToldX (w : World) (l : List UInt8) (e : Ending) (w' : World) : Prop := ∃ x : BV, e = .returned (.tuple #[.slice x.A x.l.length x.c, .int .i64 0]) ∧ Hid (x.l = l) ∧ Hid (Own8 w.heap.size w' x)
theorem ToldB.x {w w' : World} {l : List UInt8} {e : Ending} (h : ToldB w l e w') (hl : l.length = 256) : ToldX w l e w' := by
  obtain ⟨g, he, hr, hg⟩ := h
  exact ⟨⟨some ⟨g, 0, none⟩, 256, pad l⟩, by rw [he, pad_len], Lib.hid (pad_of hl), Lib.hid (own_fresh hr hg)⟩
def Turned (b : Nat) (w w' : World) (g : Nat) (F : List Nat) (ss : List BV) (rs : List (Nat × BV)) (E : Nat → List BV) (ts : List (Int × Int × BV)) : Prop :=
  ∃ F', Hid (PD b w' g F' ss rs E ts) ∧ Hid (Chg F w w') ∧ Hid (Wider w F F')
section
variable {b : Nat} {w : World} {g : Nat} {F : List Nat} {ss : List BV} {rs : List (Nat × BV)} {E : Nat → List BV} {ts : List (Int × Int × BV)}
theorem PD.kept {w' : World} (h : PD b w g F ss rs E ts) (hb : Below w.heap.size w w') : PD b w' g F ss rs E ts := by
  obtain ⟨v1, v2, gm, v4, ev, n, hn, h⟩ := h
  exact ⟨v1, v2, gm, v4, ev, n, hn, h.kept hb⟩
theorem PD.chg {G : List Nat} {w' : World} (h : PD b w g F ss rs E ts) (hc : Chg G w w') (hG : ∀ k ∈ G, k ∉ F) (h8 : NoBytes w G) : PD b w' g F ss rs E ts := by
  obtain ⟨v1, v2, gm, v4, ev, n, hn, h⟩ := h
  exact ⟨v1, v2, gm, v4, ev, n, hn, h.chg hc hG h8⟩
theorem PD.lt (h : PD b w g F ss rs E ts) : ∀ k ∈ F, b ≤ k ∧ k < w.heap.size := by
  obtain ⟨v1, v2, gm, v4, ev, n, hn, h⟩ := h
  exact h.fl
theorem PD.noBytes (h : PD b w g F ss rs E ts) : NoBytes w F := by
  obtain ⟨v1, v2, gm, v4, ev, n, hn, h⟩ := h
  exact h.noBytes
theorem PD.now8 (h : PD b w g F ss rs E ts) (a : Nat) (ha : a < ss.length) : Own8 b w (nowV ss rs a) ∧ (nowV ss rs a).l.length = 256 := by
  obtain ⟨v1, v2, gm, v4, ev, n, hn, h⟩ := h
  exact h.now8 a ha
theorem PD.base (h : PD b w g F ss rs E ts) : b ≤ w.heap.size := by
  obtain ⟨v1, v2, gm, v4, ev, n, hn, h⟩ := h
  have := h.fl g h.fg
  omega
theorem PD.blocks (h : PD b w g F ss rs E ts) : Calls Tryz.prog 35 #[.pointer (some ⟨g, 0, none⟩)] w fun e w' => e = .returned (.int .i64 (ss.length : Int)) ∧ w' = w := by
  obtain ⟨v1, v2, gm, v4, ev, n, hn, h⟩ := h
  exact pblocks h
theorem PD.read (h : PD b w g F ss rs E ts) (a : Nat) (ha : a < ss.length) (hr : rs.length ≤ 1000000) (ht : ts.length ≤ 1000000) :
    Calls Tryz.prog 49 #[.pointer (some ⟨g, 0, none⟩), .int .i64 (a : Int)] w fun e w' => ToldX w (nowV ss rs a).l e w' ∧ Turned b w w' g F ss rs E (ts ++ [(1, (a : Int), nowV ss rs a)]) := by
  obtain ⟨v1, v2, gm, v4, ev, n, hn, h⟩ := h
  exact (pread_in h a ha hr ht).mono fun e w' ⟨h1, v, F', h2, h3, h4⟩ => ⟨h1.x (h.now8 a ha).2, F', Lib.hid ⟨_, _, _, _, _, n, by rw [List.length_append]; omega, h2⟩, Lib.hid h3, Lib.hid h4⟩
def WroteX (b : Nat) (w w' : World) (g : Nat) (F : List Nat) (ss : List BV) (rs : List (Nat × BV)) (E : Nat → List BV) (ts : List (Int × Int × BV)) (a : Nat) (l : List UInt8) (e : Ending) : Prop :=
  ∃ x : BV, e = .returned (.int .i64 0) ∧ Hid (x.l = l) ∧ Turned b w w' g F ss (rs ++ [(a, x)]) (more E a x) (ts ++ [(2, (a : Int), x)])
theorem PD.write (h : PD b w g F ss rs E ts) (a : Nat) (ha : a < ss.length) (A : Option Addr) (m c : Nat) (l : List UInt8) (hm : m = l.length) (hl : l.length = 256) (hA : Hol w A l) (hr : rs.length ≤ 1000000) (ht : ts.length ≤ 1000000) :
    Calls Tryz.prog 114 #[.pointer (some ⟨g, 0, none⟩), .int .i64 (a : Int), .slice A m c] w fun e w' => WroteX b w w' g F ss rs E ts a l e := by
  subst hm
  obtain ⟨v1, v2, gm, v4, ev, n, hn, h⟩ := h
  exact (pwrite_in h hn a ha A c l hl hA hr ht).mono fun e w' ⟨x, F', h1, h2, h3, h4, h5, _⟩ => ⟨x, h1, Lib.hid h2, F', Lib.hid h3, Lib.hid h4, Lib.hid h5⟩
end
end Go.Proofs.YtpocccnhibjjcaaGreatDoor
