/- The program's anchor: a new one, and what Set leaves of the roots without a record that the laws lay in. Conditions: the anchor is new. -/
import Derived.Test.YtnajlineipapdaaPNewD
import Derived.Test.YtnajlineipapdaaMgPApi
import Derived.Deep.QuietTactic
import Derived.Deep.Onto
set_option linter.unusedVariables false
namespace Go.Proofs.Ytnajlineipapdaa
open Go.RowKit

/-- A record of nothing; a root with an epoch; an anchor. -/
def recC : List Value := [.int .i64 0, .int .u32 0, .int .u32 0] ++ brr 32 (fun _ => 0)
def rootC (e : Nat) : List Value := [.int .u32 (e : Int)] ++ recC
def anchC (e : Nat) (v : Value) : List Value := rootC e ++ [v]
theorem recC_len : recC.length = 35 := by simp [recC, brr_len]
theorem rootC_len (e : Nat) : (rootC e).length = 36 := by simp [rootC, recC_len]
theorem recC_one : ∀ v ∈ recC, v.oneCell' = true := by
  intro v hv
  rcases List.mem_append.1 hv with hv | hv
  · simp at hv
    rcases hv with rfl | rfl <;> rfl
  · exact brr_one _ _ v hv
theorem rootC_one (e : Nat) : ∀ v ∈ rootC e, v.oneCell' = true := by
  intro v hv
  rcases List.mem_append.1 hv with hv | hv
  · simp at hv
    subst hv
    rfl
  · exact recC_one v hv
theorem info_rec : (Try.prog.info? 61).map (·.size) = some 35 := by kernel_rfl
theorem info_root : (Try.prog.info? 63).map (·.size) = some 36 := by kernel_rfl
theorem built_anch : Try.prog.built 88 [] = some (anchC 0 (.slice none 0 0)).toArray := by kernel_rfl
theorem built_root (e : Nat) : Try.prog.built 63 [(0, .int .u32 (e : Int))] = some (rootC e).toArray := by kernel_rfl
theorem built_root0 : Try.prog.built 63 [] = some (rootC 0).toArray := by kernel_rfl

/-- A new anchor. -/
def NewA (w : World) (e : Ending) (w' : World) : Prop := ∃ g, e = .returned (.pointer (some ⟨g, 0, none⟩)) ∧ Row w' g 88 (anchC 0 (.slice none 0 0)) ∧ w.heap.size ≤ g ∧ Below w.heap.size w w'
theorem newanchor (w : World) : Calls Try.prog 36 #[] w (NewA w) := by
  go_enter Try.func36, Try.ntmps36
  go_wp2
  go_ret
  refine ⟨w.heap.size, rfl, ?_, Nat.le_refl _, (Below.refl _ _).alloc (Nat.le_refl _) _⟩
  unfold Row
  rw [World.alloc_heap_new]
  kernel_rfl
theorem set_nil (w : World) (e : Nat) : Calls Try.prog 33 #[.pointer none, .agg (rootC e).toArray] w fun x w' => x = .returned (.int .i64 205) ∧ Below w.heap.size w w' := by
  go_enter Try.func33, Try.ntmps33
  go_wp2_with (first
    | (refine step_box rfl 3 rfl 63 _ rfl (rootC e) rfl ?_; intro g3 w1 hr1 hg1 hb1 hs1))
  go_quiet (fail)
  go_wp2
  go_ret
  exact ⟨rfl, below_drewN hb1 _⟩
set_option maxHeartbeats 1000000 in
theorem set_two (w : World) (ga : Nat) (hA : Row w ga 88 (anchC 0 (.slice none 0 0))) : Calls Try.prog 33 #[.pointer (some ⟨ga, 0, none⟩), .agg (rootC 2).toArray] w fun x w' => x = .returned (.int .i64 205) ∧ Below w.heap.size w w' := by
  have HA := Lib.hid hA
  clear hA
  go_enter Try.func33, Try.ntmps33
  go_wp2_with (first
    | (refine step_box rfl 3 rfl 63 _ rfl (rootC 2) rfl ?_; intro g3 w1 hr1 hg1 hb1 hs1))
  have c0 : w1.cell? ⟨g3, 0, none⟩ = some (.int .u32 2) := by rw [hr1.cell]; rfl
  have c1 : w1.cell? ⟨ga, 0, none⟩ = some (.int .u32 0) := by rw [(HA.out.kept hb1).cell]; rfl
  have e1 : IntKind.u64.wrap 1 = 1 := by decide
  go_quiet (fail)
  go_wp2
  go_ret
  exact ⟨rfl, below_drewN hb1 _⟩
/-- Bytes told, in new memory. -/
def SomeB (w : World) (e : Ending) (w' : World) : Prop := ∃ A n c, e = .returned (.slice A n c) ∧ Below w.heap.size w w'
theorem put_zero (A : Option Addr) (n c : Nat) (l : List UInt8) (hn : n = l.length) (w : World) (hA : Hol w A l) (hl : l.length ≤ 100) :
    Calls Try.prog 58 #[.slice A n c, .int .i64 4, .int .u64 0] w fun e w' => ∃ A' c' m, e = .returned (.tuple #[.slice A' m c', .int .i64 0]) ∧ Hid (m = l.length + 4) ∧ Hid (w'.ownsRow w.heap.size 5 1 (.slice A' m c') m (bc (l ++ leb 0 4))) ∧ Hid (Below w.heap.size w w') := by
  subst hn
  refine (put_any A c l 4 0 w hA (by omega) (by omega)).mono ?_
  rintro e w' ⟨v, rfl, hown, hb⟩
  have hr : putR l 4 0 = (l ++ leb 0 4, 0) := by unfold putR; rw [if_neg (by decide), if_neg (by simp)]; rfl
  rw [hr] at hown ⊢
  obtain ⟨A', c', rfl⟩ := own_sl hown
  exact ⟨A', c', _, rfl, by rw [List.length_append]; rfl, hown, hb⟩
set_option maxRecDepth 20000 in
set_option maxHeartbeats 2000000 in
theorem record_zero (w : World) : Calls Try.prog 50 #[.agg recC.toArray] w (SomeB w) := by
  obtain ⟨i, U⟩ := u8_tab
  go_enter Try.func50, Try.ntmps50
  go_wp2_with (first
    | (refine step_box rfl 1 rfl 61 _ rfl recC rfl ?_; intro g3 w1 hr1 hg1 hb1 hs1
       have c0 : w1.cell? ⟨g3, 0, none⟩ = some (.int .i64 0) := by rw [hr1.cell]; rfl
       have c1 : w1.cell? ⟨g3, 1, none⟩ = some (.int .u32 0) := by rw [hr1.cell]; rfl
       have c2 : w1.cell? ⟨g3, 2, none⟩ = some (.int .u32 0) := by rw [hr1.cell]; rfl
       have HR := Lib.hid hr1
       have HB := Lib.hid hb1
       clear hr1 hb1 hg1 hs1))
  go_loopw [3, 14] (fun x y wr => ∃ (k : Nat) (A : Option Addr) (n c : Nat) (l : List UInt8), k ≤ 3 ∧ y = .int .i64 (k : Int) ∧ x = .slice A n c ∧ Hid (n = l.length) ∧ Hid (l.length = 4 * k) ∧ Hid (wr.ownsRow w.heap.size 5 1 (.slice A n c) n (bc l)) ∧ Hid (Below w1.heap.size w1 wr)) (fun _ y _ => 3 - (intOf y).toNat)
  case atStart => exact ⟨0, none, 0, 0, [], by omega, rfl, rfl, Lib.hid rfl, Lib.hid rfl, Lib.hid (World.ownsRow_nil _ _ _ _), Lib.hid (Below.refl _ _)⟩
  case round =>
    obtain ⟨k, A, n, c, l, hk, rfl, rfl, HN, HL, HO, HB2⟩ := hrel
    by_cases h3 : k = 3
    · subst h3
      have HA8 := Lib.hid (p := Hol wr (some ⟨g3, 3, none⟩) (List.replicate 32 0)) (.inr ⟨g3, 3, rfl, fun j x hx => by
        have hj : j < 32 := by
          have := (List.getElem?_eq_some_iff.1 hx).1
          simpa using this
        rw [List.getElem?_replicate, if_pos hj] at hx
        injection hx with hx
        subst hx
        rw [(HR.out.kept HB2.out).cell]
        unfold recC
        rw [List.getElem?_append_right (by simp), show 3 + j - [Value.int IntKind.i64 0, Value.int IntKind.u32 0, Value.int IntKind.u32 0].length = j by simp, brr_get _ hj]
        rfl⟩)
      have HSZ := Lib.hid (p := w.heap.size ≤ wr.heap.size) (Nat.le_trans HB.out.size HB2.out.size)
      go_wp2_with (at_builtin; refine wpList_app _ rfl _ _ _ rfl 5 i U w.heap.size _ n (bc l) rfl HO.out (some ⟨g3, 3, none⟩) 32 32 (List.replicate 32 0) rfl rfl HA8.out (by have := HL.out; have := HN.out; omega) HSZ.out ?_
                   intro v6 w6 hr6 hg6 hat6
                   obtain ⟨A6, c6, rfl⟩ := own_sl hr6)
      go_ret
      exact ⟨A6, _, c6, rfl, (below_nxt HB2.out HB.out).grown hg6 HSZ.out (fun q hq => (HO.out.lt q hq).1)⟩
    · have hki : (k : Int) < 3 := by omega
      have hk3 : k < 3 := by omega
      have hkw : IntKind.i64.wrap ((k : Int) + 1) = (k : Int) + 1 := by rw [IntKind.wrap_i64]; omega
      have hidx : ∀ W : World, (Instr.index 99 (.agg #[Value.int .u32 0, .int .u32 0, .int .u32 0]) (.int .i64 (k : Int))).run Try.prog W = .ok (.int .u32 0) W := fun W => by
        have e0 := run_index_arr W 99 57 3 (fun _ => 0) k hk3 Try.underlying99 Try.underlying57 (by kernel_rfl)
        have e1 : (arr 3 fun _ => 0).toArray = #[Value.int .u32 0, .int .u32 0, .int .u32 0] := by kernel_rfl
        have e2 : _root_.Go.Proofs.Ytnajlineipapdaa.U 0 = Value.int .u32 0 := by kernel_rfl
        rw [e1, e2] at e0
        exact e0
      have HK3 := Lib.hid hk3
      clear hk3 h3 hk
      go_wp2_with (go_at_call 58; refine (put_zero A n c l HN.out _ (Hol.own HO.out) (by have := HL.out; have := HK3.out; omega)).mono ?_; rintro e w5 ⟨A5, c5, m5, rfl, HN5, HO5, HB5⟩)
      go_roundw
      case rel => exact ⟨k + 1, A5, m5, c5, l ++ leb 0 4, HK3.out, by go_num, rfl, Lib.hid (by rw [HN5.out, List.length_append]; rfl), Lib.hid (by rw [List.length_append, HL.out, show (leb 0 4).length = 4 from rfl]; omega), Lib.hid (World.ownsRow.mono HO5.out (Nat.le_trans HB.out.size HB2.out.size)), Lib.hid (below_nxt HB5.out HB2.out)⟩
      case measure => have := HK3.out; simp [intOf]; omega
/-- The cells that Set reads of a root. -/
def RootS (g3 : Nat) (W : World) : Prop := W.cell? ⟨g3, 0, none⟩ = some (.int .u32 1) ∧ W.rangeAt g3 1 recC
theorem RootS.far {g3 ga : Nat} {W : World} (h : RootS g3 W) (hne : g3 ≠ ga) (u : Value) : RootS g3 (W.setCell ⟨ga, 36, none⟩ u) :=
  ⟨(World.cell?_of_block (w := W) (Below.heap_setCell W ⟨ga, 36, none⟩ u g3 hne)).trans h.1, fun j v hv => (World.cell?_of_block (w := W) (Below.heap_setCell W ⟨ga, 36, none⟩ u g3 hne)).trans (h.2 j v hv)⟩
theorem made_src (w : World) (t : TypeId) (cs : List Value) : (1 : Nat) = 0 ∧ (some (⟨w.heap.size, 0, none⟩ : Addr)) = none ∨ ∃ ad, some (⟨w.heap.size, 0, none⟩ : Addr) = some ad ∧ ∀ j u, cs[j]? = some u → (w.alloc (.cells cs.toArray t)).cell? (ad.add j) = some u :=
  .inr ⟨_, rfl, fun j u hu => by rw [Addr.add_lit, Nat.zero_add, (Row.made w t cs).cell]; exact hu⟩
theorem three_one (a b : Int) (A : Option Addr) (n c : Nat) : ∀ u ∈ [Value.int .i64 a, .int .i64 b, .slice A n c], u.oneCell' = true := by
  intro u hu
  simp at hu
  rcases hu with rfl | rfl | rfl <;> rfl
theorem row_cells {g : Nat} {t : TypeId} : ∀ (cs : List Value) (o : Nat) (w : World) (ol : List Value), Row w g t ol →
    ∃ ol', Row (w.setCells g o cs) g t ol' ∧ (∀ i, o + cs.length ≤ i → ol'[i]? = ol[i]?) ∧ w.grownBy (w.setCells g o cs) (some g)
  | [], o, w, ol, h => ⟨ol, h, fun _ _ => rfl, rfl, rfl, rfl, Nat.le_refl _, fun _ _ _ => rfl⟩
  | v :: r, o, w, ol, h => by
    obtain ⟨ol', h1, h2, h3⟩ := row_cells r (o + 1) (w.setCell ⟨g, o, none⟩ v) _ (h.put o v)
    refine ⟨ol', h1, fun i hi => ?_, grown_trans (grown_set w ⟨g, o, none⟩ v) h3⟩
    rw [h2 i (by simp at hi; omega), List.getElem?_set_ne (by simp at hi; omega)]
set_option maxRecDepth 20000 in
set_option maxHeartbeats 400000 in
theorem set_one (w : World) (ga : Nat) (hA : Row w ga 88 (anchC 0 (.slice none 0 0))) : Calls Try.prog 33 #[.pointer (some ⟨ga, 0, none⟩), .agg (rootC 1).toArray] w fun x w' => x = .returned (.int .i64 0) ∧ Chg [ga] w w' := by
  have HA := Lib.hid hA
  clear hA
  go_enter Try.func33, Try.ntmps33
  go_wp2_with (first
    | (refine step_box rfl 3 rfl 63 _ rfl (rootC 1) rfl ?_; intro g3 w1 hr1 hg1 hb1 hs1))
  have c0 : w1.cell? ⟨g3, 0, none⟩ = some (.int .u32 1) := by rw [hr1.cell]; rfl
  have c1 : w1.cell? ⟨ga, 0, none⟩ = some (.int .u32 0) := by rw [(HA.out.kept hb1).cell]; rfl
  have e1 : IntKind.u64.wrap 1 = 1 := by decide
  have HR1 := Lib.hid hr1
  have HB1 := Lib.hid hb1
  have HG3 := Lib.hid (p := w.heap.size = g3) hg1.out.symm
  have HA1 := Lib.hid (HA.out.kept hb1)
  clear hr1 hb1 hg1 hs1
  go_quiet (fail)
  go_wp2_with (first
    | (refine step_load rfl 21 rfl 63 (.tmp 3) rfl g3 rfl (rootC 1) _ (HR1.out.drewN nq).all Try.underlying63 rfl (by rw [rootC_len]; exact info_root) ?_)
    | (refine wpList_store_mid rfl 63 (.tmp 23) (.tmp 21) rfl ga 0 (rootC 1).toArray rfl rfl (by have h0 := (HA1.out.drewN nq).is_there 0 36 (by simp [anchC, rootC_len]); rw [List.size_toArray, rootC_len]; exact h0) (by rw [List.size_toArray, rootC_len]; exact info_root) (all_oneCell_toArray (rootC_one 1)) ?_))
  obtain ⟨ol, h1, h2, h3⟩ := row_cells (rootC 1) 0 _ _ (HA1.out.drewN nq)
  have x1 : ol[36]? = some (.slice none 0 0) := by
    rw [h2 36 (by simp [rootC_len])]
    unfold anchC
    rw [List.getElem?_append_right (by rw [rootC_len]; omega), rootC_len]
    rfl
  have HB1d : Below w.heap.size w (w1.drewN nq) := below_drewN HB1.out nq
  have hr3 : Row (w1.drewN nq) g3 63 (rootC 1) := HR1.out.drewN nq
  have hne : g3 ≠ ga := (HR1.out.ne_ HA1.out (by decide))
  obtain ⟨w2, hw2⟩ : ∃ w2, (w1.drewN nq).setCells ga 0 (rootC 1) = w2 := ⟨_, rfl⟩
  rw [hw2] at h1 h3 ⊢
  have HC2 := Lib.hid (p := Chg [ga] w w2) ((Chg.of HB1d).grown h3 (fun k hk => by injection hk with hk; subst hk; exact .inl (by simp)))
  have hr4 := hr3.grown h3 (fun e => hne (by injection e))
  have c0b : w2.cell? ⟨g3, 0, none⟩ = some (.int .u32 1) := by rw [hr4.cell]; rfl
  have c36 : w2.cell? ⟨ga, 36, none⟩ = some (.slice none 0 0) := by rw [h1.cell]; exact x1
  have f36 : w2.frozen? ⟨ga, 36, none⟩ = false := h1.free 36
  have hra : w2.rangeAt g3 1 recC := fun j v hv => by
    rw [hr4.cell]
    unfold rootC
    rw [List.getElem?_append_right (by simp)]
    simpa [Nat.add_comm] using hv
  have HRW := Lib.hid h1
  have HR4 := Lib.hid hr4
  have i35 : (Try.prog.info? 61).map (·.size) = some recC.length := by rw [recC_len]; exact info_rec
  clear h1 h2 h3 hr3 hw2 HB1d c0 c1 x1 hr4
  have e2 : IntKind.i64.wrap 1 = 1 := by decide
  have HSZ := Lib.hid (p := w.heap.size ≤ w2.heap.size) HC2.out.size
  have Q36 := Lib.hid (p := ∀ w5 : World, Below w2.heap.size w2 w5 → w5.cell? ⟨ga, 36, none⟩ = some (.slice none 0 0) ∧ w5.frozen? ⟨ga, 36, none⟩ = false ∧ RootS g3 w5) fun w5 hb =>
    ⟨(hb.cell (p := ⟨ga, 36, none⟩) HRW.out.lt).trans c36, (HRW.out.kept hb).free 36, (hb.cell (p := ⟨g3, 0, none⟩) HR4.out.lt).trans c0b, fun j v hv => (hb.cell (p := ⟨g3, 1 + j, none⟩) HR4.out.lt).trans (hra j v hv)⟩
  have HGN := Lib.hid (p := ga < w2.heap.size) HRW.out.lt
  clear c0b f36 hra
  go_wp2
  refine wp_region_held_drew (S := RootS g3) (by kernel_rfl) (Q36.out _ (below_drw _)).2.2 (fun hHeld => ?_)
  refine wpAnyH_take (i := 0) (oi := ⟨some 24, .move (.tmp 0), _, _, _, none⟩) (v := (.pointer (some ⟨ga, 0, none⟩))) rfl (by kernel_rfl) (by kernel_rfl) (by kernel_rfl) (fun _ _ _ h => h) (.inl ⟨by rfl, fun w hSw => by (try obtain ⟨z1, z2⟩ := hSw); go_simp⟩) (by assumption) ?_
  simp only [Act.put, List.setIfInBounds_toArray, List.set_cons_zero, List.set_cons_succ]
  refine wpAnyH_take (i := 1) (oi := ⟨some 25, .move (.tmp 0), _, _, _, none⟩) (v := (.pointer (some ⟨ga, 0, none⟩))) rfl (by kernel_rfl) (by kernel_rfl) (by kernel_rfl) (fun _ _ _ h => h) (.inl ⟨by rfl, fun w hSw => by (try obtain ⟨z1, z2⟩ := hSw); go_simp⟩) (by assumption) ?_
  simp only [Act.put, List.setIfInBounds_toArray, List.set_cons_zero, List.set_cons_succ]
  refine wpAnyH_take (i := 5) (oi := ⟨some 29, .fieldAddr 63 (.tmp 3) 0, _, _, _, none⟩) (v := (.pointer (some ⟨g3, 0, none⟩))) rfl (by kernel_rfl) (by kernel_rfl) (by kernel_rfl) (fun _ _ _ h => h) (.inl ⟨by rfl, fun w hSw => by (try obtain ⟨z1, z2⟩ := hSw); go_simp⟩) (by assumption) ?_
  simp only [Act.put, List.setIfInBounds_toArray, List.set_cons_zero, List.set_cons_succ]
  refine wpAnyH_take (i := 8) (oi := ⟨some 32, .fieldAddr 63 (.tmp 3) 1, _, _, _, none⟩) (v := (.pointer (some ⟨g3, 1, none⟩))) rfl (by kernel_rfl) (by kernel_rfl) (by kernel_rfl) (fun _ _ _ h => h) (.inl ⟨by rfl, fun w hSw => by (try obtain ⟨z1, z2⟩ := hSw); go_simp⟩) (by assumption) ?_
  simp only [Act.put, List.setIfInBounds_toArray, List.set_cons_zero, List.set_cons_succ]
  refine wpAnyH_take (i := 2) (oi := ⟨some 26, .nilCheck (.tmp 25), _, _, _, none⟩) (v := (.pointer (some ⟨ga, 0, none⟩))) rfl (by kernel_rfl) (by kernel_rfl) (by kernel_rfl) (fun _ _ _ h => h) (.inl ⟨by rfl, fun w hSw => by (try obtain ⟨z1, z2⟩ := hSw); go_simp⟩) (by assumption) ?_
  simp only [Act.put, List.setIfInBounds_toArray, List.set_cons_zero, List.set_cons_succ]
  refine wpAnyH_take (i := 3) (oi := ⟨some 27, .fieldAddr 88 (.tmp 26) 1, _, _, _, none⟩) (v := (.pointer (some ⟨ga, 36, none⟩))) rfl (by kernel_rfl) (by kernel_rfl) (by kernel_rfl) (fun _ _ _ h => h) (.inl ⟨by rfl, fun w hSw => by (try obtain ⟨z1, z2⟩ := hSw); go_simp⟩) (by assumption) ?_
  simp only [Act.put, List.setIfInBounds_toArray, List.set_cons_zero, List.set_cons_succ]
  refine wpAnyH_take (i := 6) (oi := ⟨some 30, .load 57 (.tmp 29), _, _, _, none⟩) (v := (.int .u32 1)) rfl (by kernel_rfl) (by kernel_rfl) (by kernel_rfl) (fun _ _ _ h => h) (.inl ⟨by rfl, fun w hSw => by (try obtain ⟨z1, z2⟩ := hSw); go_simp⟩) (by assumption) ?_
  simp only [Act.put, List.setIfInBounds_toArray, List.set_cons_zero, List.set_cons_succ]
  refine wpAnyH_take (i := 7) (oi := ⟨some 31, .convert 57 3 (.tmp 30), _, _, _, none⟩) (v := (.int .i64 1)) rfl (by kernel_rfl) (by kernel_rfl) (by kernel_rfl) (fun _ _ _ h => h) (.inl ⟨by rfl, fun w hSw => by (try obtain ⟨z1, z2⟩ := hSw); go_simp⟩) (by assumption) ?_
  simp only [Act.put, List.setIfInBounds_toArray, List.set_cons_zero, List.set_cons_succ]
  refine wpAnyH_take (i := 9) (oi := ⟨some 33, .load 61 (.tmp 32), _, _, _, none⟩) (v := .agg recC.toArray) rfl (by kernel_rfl) (by kernel_rfl) (by kernel_rfl) (fun _ _ _ h => h) (yieldsIf_load_mid (by rfl) 61 (.tmp 32) rfl g3 1 rfl recC _ (fun w hSw => hSw.2) Try.underlying61 rfl i35) (by assumption) ?_
  simp only [Act.put, List.setIfInBounds_toArray, List.set_cons_zero, List.set_cons_succ]
  refine wpAnyH_ready (rs := [4, 10]) (by kernel_rfl) (by simp) ?_
  refine AllReadyH.cons (o := ⟨some 28, .load 47 (.tmp 27), _, _, _, none⟩) rfl (fun K hK => ?_) (AllReadyH.cons (o := ⟨some 34, .call ⟨.value (.func 50), #[.tmp 33], _⟩, _, _, _, none⟩) rfl (fun K hK => ?_) AllReadyH.nil)
  · skip
    go_simp
    refine hK.out _ _ hHeld (fun hH1 => ?_)
    clear hK K
    refine wpAnyH_ready (rs := [10]) (by kernel_rfl) (by simp) ?_
    refine AllReadyH.cons (o := ⟨some 34, .call ⟨.value (.func 50), #[.tmp 33], _⟩, _, _, _, none⟩) rfl (fun K hK => ?_) AllReadyH.nil
    go_simp
    refine (record_zero _).mono ?_
    rintro x4 w4 ⟨A4, n4, c4, rfl, hb4⟩
    have hb24 : Below w2.heap.size w2 w4 := below_nxt hb4 (below_drw _)
    obtain ⟨d4, f4, s4⟩ := Q36.out _ hb24
    have HB24 := Lib.hid hb24
    clear hb24 hb4
    refine hK.out _ _ s4 (fun hH2 => ?_)
    clear hK K
    refine wpAnyH_take (i := 11) (oi := ⟨some 35, .build 77 #[(0, .const (.int .i64 4)), (1, .tmp 31), (2, .tmp 34)], _, _, _, none⟩) (v := (.agg #[.int .i64 4, .int .i64 1, .slice A4 n4 c4])) rfl (by kernel_rfl) (by kernel_rfl) (by kernel_rfl) (fun _ _ _ h => h) (.inl ⟨by rfl, fun w hSw => by (try obtain ⟨z1, z2⟩ := hSw); go_simp⟩) (by assumption) ?_
    simp only [Act.put, List.setIfInBounds_toArray, List.set_cons_zero, List.set_cons_succ]
    refine wpAnyH_ready (rs := [12]) (by kernel_rfl) (by simp) ?_
    refine AllReadyH.cons (o := ⟨some 36, .buildSlice 47 1 #[(0, .tmp 35)], _, _, _, none⟩) rfl (fun K hK => ?_) AllReadyH.nil
    go_simp
    have hb25 : Below w2.heap.size w2 (w4.alloc (.cells #[.int .i64 4, .int .i64 1, .slice A4 n4 c4] 77)) := HB24.out.alloc HB24.out.size _
    obtain ⟨d5, f5, s5⟩ := Q36.out _ hb25
    have HB25 := Lib.hid hb25
    clear hb25
    refine hK.out _ _ s5 (fun hH3 => ?_)
    clear hK K
    refine wpAnyH_ready (rs := [13]) (by kernel_rfl) (by simp) ?_
    refine AllReadyH.cons (o := ⟨some 37, .call ⟨.builtin .append, #[.tmp 28, .tmp 36], #[47, 47]⟩, _, _, _, none⟩) rfl (fun K hK => ?_) AllReadyH.nil
    refine step_join rfl (.tmp 28) (.tmp 36) rfl rec_touch w2.heap.size (.slice none 0 0) 0 [] rfl (World.ownsRow_nil _ _ _ _) (some ⟨w4.heap.size, 0, none⟩) 1 1 [.int .i64 4, .int .i64 1, .slice A4 n4 c4] rfl rfl (made_src w4 _ _) (three_one _ _ _ _ _) (by omega) HB25.out.size ?_
    intro v6 w6 hr6 hg6 hat6
    obtain ⟨A6, k6, rfl⟩ := own_sl hr6
    have hb26 : Below w2.heap.size w2 w6 := HB25.out.grown hg6 HB25.out.size (fun q hq => by cases hq)
    obtain ⟨d6, f6, s6⟩ := Q36.out _ hb26
    have HB26 := Lib.hid hb26
    clear hb26 hr6 hg6 hat6
    refine hK.out _ _ s6 (fun hH4 => ?_)
    clear hK K
    try simp only [Act.put, List.setIfInBounds_toArray, List.set_cons_zero, List.set_cons_succ]
    refine wpAnyH_take (i := 14) (oi := ⟨some 38, .nilCheck (.tmp 24), _, _, _, none⟩) (v := (.pointer (some ⟨ga, 0, none⟩))) rfl (by kernel_rfl) (by kernel_rfl) (by kernel_rfl) (fun _ _ _ h => h) (.inl ⟨by rfl, fun w hSw => by go_simp⟩) (by assumption) ?_
    try simp only [Act.put, List.setIfInBounds_toArray, List.set_cons_zero, List.set_cons_succ]
    refine wpAnyH_take (i := 15) (oi := ⟨some 39, .fieldAddr 88 (.tmp 38) 1, _, _, _, none⟩) (v := (.pointer (some ⟨ga, 36, none⟩))) rfl (by kernel_rfl) (by kernel_rfl) (by kernel_rfl) (fun _ _ _ h => h) (.inl ⟨by rfl, fun w hSw => by go_simp⟩) (by assumption) ?_
    try simp only [Act.put, List.setIfInBounds_toArray, List.set_cons_zero, List.set_cons_succ]
    refine wpAnyH_ready (rs := [16]) (by kernel_rfl) (by simp) ?_
    refine AllReadyH.cons (o := ⟨none, .store 47 (.tmp 39) (.tmp 37), _, _, _, none⟩) rfl (fun K hK => ?_) AllReadyH.nil
    go_simp
    refine hK.out _ _ (s6.far hne _) (fun hH5 => ?_)
    clear hK K
    refine wpAnyH_done (by kernel_rfl) ?_ _
    go_wp2
    go_ret
    exact ⟨rfl, (HC2.out.trans (Chg.of (F := [ga]) HB26.out) (fun x hx => .inl hx)).setCell (p := ⟨ga, 36, none⟩) (.inl (by simp)) _⟩
  · skip
    go_simp
    refine (record_zero _).mono ?_
    rintro x4 w4 ⟨A4, n4, c4, rfl, hb4⟩
    have hb24 : Below w2.heap.size w2 w4 := below_nxt hb4 (below_drw _)
    obtain ⟨d4, f4, s4⟩ := Q36.out _ hb24
    have HB24 := Lib.hid hb24
    clear hb24 hb4
    refine hK.out _ _ s4 (fun hH2 => ?_)
    clear hK K
    refine wpAnyH_take (i := 11) (oi := ⟨some 35, .build 77 #[(0, .const (.int .i64 4)), (1, .tmp 31), (2, .tmp 34)], _, _, _, none⟩) (v := (.agg #[.int .i64 4, .int .i64 1, .slice A4 n4 c4])) rfl (by kernel_rfl) (by kernel_rfl) (by kernel_rfl) (fun _ _ _ h => h) (.inl ⟨by rfl, fun w hSw => by (try obtain ⟨z1, z2⟩ := hSw); go_simp⟩) (by assumption) ?_
    simp only [Act.put, List.setIfInBounds_toArray, List.set_cons_zero, List.set_cons_succ]
    refine wpAnyH_ready (rs := [4, 12]) (by kernel_rfl) (by simp) ?_
    refine AllReadyH.cons (o := ⟨some 28, .load 47 (.tmp 27), _, _, _, none⟩) rfl (fun K hK => ?_) (AllReadyH.cons (o := ⟨some 36, .buildSlice 47 1 #[(0, .tmp 35)], _, _, _, none⟩) rfl (fun K hK => ?_) AllReadyH.nil)
    · skip
      go_simp
      refine hK.out _ _ s4 (fun hH1 => ?_)
      clear hK K
      refine wpAnyH_ready (rs := [12]) (by kernel_rfl) (by simp) ?_
      refine AllReadyH.cons (o := ⟨some 36, .buildSlice 47 1 #[(0, .tmp 35)], _, _, _, none⟩) rfl (fun K hK => ?_) AllReadyH.nil
      go_simp
      have hb25 : Below w2.heap.size w2 (w4.alloc (.cells #[.int .i64 4, .int .i64 1, .slice A4 n4 c4] 77)) := HB24.out.alloc HB24.out.size _
      obtain ⟨d5, f5, s5⟩ := Q36.out _ hb25
      have HB25 := Lib.hid hb25
      clear hb25
      refine hK.out _ _ s5 (fun hH3 => ?_)
      clear hK K
      refine wpAnyH_ready (rs := [13]) (by kernel_rfl) (by simp) ?_
      refine AllReadyH.cons (o := ⟨some 37, .call ⟨.builtin .append, #[.tmp 28, .tmp 36], #[47, 47]⟩, _, _, _, none⟩) rfl (fun K hK => ?_) AllReadyH.nil
      refine step_join rfl (.tmp 28) (.tmp 36) rfl rec_touch w2.heap.size (.slice none 0 0) 0 [] rfl (World.ownsRow_nil _ _ _ _) (some ⟨w4.heap.size, 0, none⟩) 1 1 [.int .i64 4, .int .i64 1, .slice A4 n4 c4] rfl rfl (made_src w4 _ _) (three_one _ _ _ _ _) (by omega) HB25.out.size ?_
      intro v6 w6 hr6 hg6 hat6
      obtain ⟨A6, k6, rfl⟩ := own_sl hr6
      have hb26 : Below w2.heap.size w2 w6 := HB25.out.grown hg6 HB25.out.size (fun q hq => by cases hq)
      obtain ⟨d6, f6, s6⟩ := Q36.out _ hb26
      have HB26 := Lib.hid hb26
      clear hb26 hr6 hg6 hat6
      refine hK.out _ _ s6 (fun hH4 => ?_)
      clear hK K
      try simp only [Act.put, List.setIfInBounds_toArray, List.set_cons_zero, List.set_cons_succ]
      refine wpAnyH_take (i := 14) (oi := ⟨some 38, .nilCheck (.tmp 24), _, _, _, none⟩) (v := (.pointer (some ⟨ga, 0, none⟩))) rfl (by kernel_rfl) (by kernel_rfl) (by kernel_rfl) (fun _ _ _ h => h) (.inl ⟨by rfl, fun w hSw => by go_simp⟩) (by assumption) ?_
      try simp only [Act.put, List.setIfInBounds_toArray, List.set_cons_zero, List.set_cons_succ]
      refine wpAnyH_take (i := 15) (oi := ⟨some 39, .fieldAddr 88 (.tmp 38) 1, _, _, _, none⟩) (v := (.pointer (some ⟨ga, 36, none⟩))) rfl (by kernel_rfl) (by kernel_rfl) (by kernel_rfl) (fun _ _ _ h => h) (.inl ⟨by rfl, fun w hSw => by go_simp⟩) (by assumption) ?_
      try simp only [Act.put, List.setIfInBounds_toArray, List.set_cons_zero, List.set_cons_succ]
      refine wpAnyH_ready (rs := [16]) (by kernel_rfl) (by simp) ?_
      refine AllReadyH.cons (o := ⟨none, .store 47 (.tmp 39) (.tmp 37), _, _, _, none⟩) rfl (fun K hK => ?_) AllReadyH.nil
      go_simp
      refine hK.out _ _ (s6.far hne _) (fun hH5 => ?_)
      clear hK K
      refine wpAnyH_done (by kernel_rfl) ?_ _
      go_wp2
      go_ret
      exact ⟨rfl, (HC2.out.trans (Chg.of (F := [ga]) HB26.out) (fun x hx => .inl hx)).setCell (p := ⟨ga, 36, none⟩) (.inl (by simp)) _⟩
    · skip
      go_simp
      have hb25 : Below w2.heap.size w2 (w4.alloc (.cells #[.int .i64 4, .int .i64 1, .slice A4 n4 c4] 77)) := HB24.out.alloc HB24.out.size _
      obtain ⟨d5, f5, s5⟩ := Q36.out _ hb25
      have HB25 := Lib.hid hb25
      clear hb25
      refine hK.out _ _ s5 (fun hH3 => ?_)
      clear hK K
      refine wpAnyH_ready (rs := [4]) (by kernel_rfl) (by simp) ?_
      refine AllReadyH.cons (o := ⟨some 28, .load 47 (.tmp 27), _, _, _, none⟩) rfl (fun K hK => ?_) AllReadyH.nil
      go_simp
      refine hK.out _ _ s5 (fun hH1 => ?_)
      clear hK K
      refine wpAnyH_ready (rs := [13]) (by kernel_rfl) (by simp) ?_
      refine AllReadyH.cons (o := ⟨some 37, .call ⟨.builtin .append, #[.tmp 28, .tmp 36], #[47, 47]⟩, _, _, _, none⟩) rfl (fun K hK => ?_) AllReadyH.nil
      refine step_join rfl (.tmp 28) (.tmp 36) rfl rec_touch w2.heap.size (.slice none 0 0) 0 [] rfl (World.ownsRow_nil _ _ _ _) (some ⟨w4.heap.size, 0, none⟩) 1 1 [.int .i64 4, .int .i64 1, .slice A4 n4 c4] rfl rfl (made_src w4 _ _) (three_one _ _ _ _ _) (by omega) HB25.out.size ?_
      intro v6 w6 hr6 hg6 hat6
      obtain ⟨A6, k6, rfl⟩ := own_sl hr6
      have hb26 : Below w2.heap.size w2 w6 := HB25.out.grown hg6 HB25.out.size (fun q hq => by cases hq)
      obtain ⟨d6, f6, s6⟩ := Q36.out _ hb26
      have HB26 := Lib.hid hb26
      clear hb26 hr6 hg6 hat6
      refine hK.out _ _ s6 (fun hH4 => ?_)
      clear hK K
      try simp only [Act.put, List.setIfInBounds_toArray, List.set_cons_zero, List.set_cons_succ]
      refine wpAnyH_take (i := 14) (oi := ⟨some 38, .nilCheck (.tmp 24), _, _, _, none⟩) (v := (.pointer (some ⟨ga, 0, none⟩))) rfl (by kernel_rfl) (by kernel_rfl) (by kernel_rfl) (fun _ _ _ h => h) (.inl ⟨by rfl, fun w hSw => by go_simp⟩) (by assumption) ?_
      try simp only [Act.put, List.setIfInBounds_toArray, List.set_cons_zero, List.set_cons_succ]
      refine wpAnyH_take (i := 15) (oi := ⟨some 39, .fieldAddr 88 (.tmp 38) 1, _, _, _, none⟩) (v := (.pointer (some ⟨ga, 36, none⟩))) rfl (by kernel_rfl) (by kernel_rfl) (by kernel_rfl) (fun _ _ _ h => h) (.inl ⟨by rfl, fun w hSw => by go_simp⟩) (by assumption) ?_
      try simp only [Act.put, List.setIfInBounds_toArray, List.set_cons_zero, List.set_cons_succ]
      refine wpAnyH_ready (rs := [16]) (by kernel_rfl) (by simp) ?_
      refine AllReadyH.cons (o := ⟨none, .store 47 (.tmp 39) (.tmp 37), _, _, _, none⟩) rfl (fun K hK => ?_) AllReadyH.nil
      go_simp
      refine hK.out _ _ (s6.far hne _) (fun hH5 => ?_)
      clear hK K
      refine wpAnyH_done (by kernel_rfl) ?_ _
      go_wp2
      go_ret
      exact ⟨rfl, (HC2.out.trans (Chg.of (F := [ga]) HB26.out) (fun x hx => .inl hx)).setCell (p := ⟨ga, 36, none⟩) (.inl (by simp)) _⟩
end Go.Proofs.Ytnajlineipapdaa
