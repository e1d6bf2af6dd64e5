/- Inodes and lists there and back; a volume of bytes 0; a new desk. Conditions: those named. -/
import Derived.Test.YtfbfeplegdpemaaGreatEi
set_option linter.unusedVariables false
set_option maxRecDepth 20000
namespace Go.Proofs.YtfbfeplegdpemaaGreat
open Go.RowKit

theorem rd_blk (v : Nat → Int) (h : mayB v = true) (hw : Wf v) (k : Nat) (hk : k < 27) : rd sz (blk sz v 27) k = v k := rd_nb sz v 27 k hk _ (May.fits h hw k hk).1 (May.fits h hw k hk).2
theorem mayB_congr {v u : Nat → Int} (h : ∀ k, k < 27 → v k = u k) : mayB v = mayB u := by
  unfold mayB slotB
  rw [h 0 (by omega), h 1 (by omega), h 4 (by omega), h 5 (by omega), h 6 (by omega), h 8 (by omega), h 26 (by omega)]
  have e : (List.range 16).all (fun j => decide (0 ≤ v (10 + j)) && decide (v (10 + j) ≤ 255)) = (List.range 16).all (fun j => decide (0 ≤ u (10 + j)) && decide (u (10 + j) ≤ 255)) := by
    rw [Bool.eq_iff_iff, List.all_eq_true, List.all_eq_true]
    constructor
    · intro h1 j hj
      rw [← h (10 + j) (by have := List.mem_range.1 hj; omega)]
      exact h1 j hj
    · intro h1 j hj
      rw [h (10 + j) (by have := List.mem_range.1 hj; omega)]
      exact h1 j hj
  rw [e]
theorem iOk_blk (v : Nat → Int) (h : mayB v = true) (hw : Wf v) : iOk (blk sz v 27) = true := by
  have hr := rd_blk v h hw
  unfold iOk
  rw [blk_len sz v 27 (by decide), mayB_congr hr, h]
  have e : blk sz (rd sz (blk sz v 27)) 27 = blk sz v 27 := by
    have := nb_congr sz 27 hr
    unfold blk at this ⊢
    rw [this]
  rw [decide_eq_true e]
  rfl
theorem rd_lblk (f : Nat → Int) (h : slotB f 112 = true) (k : Nat) (hk : k < 112) : rd s2 (blk s2 f 112) k = f k :=
  rd_nb s2 f 112 k hk _ ((slotB_iff f 112).1 h k hk).1 (by have h2 := (slotB_iff f 112).1 h k hk; show (f k).toNat < 65536; omega)
theorem slotB_congr {f g : Nat → Int} {n : Nat} (h : ∀ k, k < n → f k = g k) : slotB f n = slotB g n := by
  rw [Bool.eq_iff_iff, slotB_iff, slotB_iff]
  constructor
  · intro h1 j hj
    rw [← h j hj]
    exact h1 j hj
  · intro h1 j hj
    rw [h j hj]
    exact h1 j hj
theorem lV_blk (f : Nat → Int) (h : slotB f 112 = true) : lV (blk s2 f 112) = .tuple #[.agg (inl 112 f).toArray, .int .i64 0] := by
  have hr := rd_lblk f h
  have hok : lOk (blk s2 f 112) = true := by
    unfold lOk
    rw [blk_len s2 f 112 (by decide), slotB_congr hr, h]
    have e : blk s2 (rd s2 (blk s2 f 112)) 112 = blk s2 f 112 := by
      have := nb_congr s2 112 hr
      unfold blk at this ⊢
      rw [this]
    rw [decide_eq_true e]
    rfl
  rw [lV_ok hok, inl_congr hr]

theorem iV_blk (v : Nat → Int) (h : mayB v = true) (hw : Wf v) : iV (blk sz v 27) = .tuple #[.agg (ncs v).toArray, .int .i64 0] := by
  rw [iV_ok (iOk_blk v h hw)]
  rw [ncs_congr (rd_blk v h hw)]
theorem norm_256 {l : L8} (h : l.length = 256) : norm l = l := norm_some (fun e => by rw [e] at h; cases h)
/-- A volume: a row of slices of the call's own, each of 256 bytes of its own. -/
structure Vol (base : Nat) (w : World) (gs : Nat) (A : Option Addr) (c : Nat) (Bs : List BV) : Prop where
  row : Row w gs 76 [.slice A Bs.length c]
  own : w.ownsRow base 22 1 (.slice A Bs.length c) Bs.length (Bs.flatMap sc)
  bytes : ∀ x ∈ Bs, Own8 base w x
  len : ∀ x ∈ Bs, x.l.length = 256
  lim : Bs.length ≤ 300
  lo : base ≤ gs
section
variable {base : Nat} {w w' : World} {gs : Nat} {A : Option Addr} {c : Nat} {Bs : List BV}
theorem Vol.below (h : Vol base w gs A c Bs) (hb : Below w.heap.size w w') : Vol base w' gs A c Bs := ⟨h.row.kept hb, own_kept h.own hb, fun x hx => (h.bytes x hx).below hb, h.len, h.lim, h.lo⟩
theorem Vol.src (h : Vol base w gs A c Bs) : Src w.heap.size w gs Bs := by
  refine ⟨h.row.lt, ⟨A, c, h.row.cell 0, Lies.own (by decide) sc_len h.own, ?_⟩, fun x hx => HolB.all (h.bytes x hx).hol, h.len, h.lim⟩
  by_cases h0 : Bs = []
  · exact .inl h0
  · refine .inr fun ad e => ?_
    rcases h.own.2 with ⟨h1, h2⟩ | ⟨g, cap, cur, h1, h2, h3, _⟩
    · exact absurd (List.eq_nil_of_length_eq_zero h2) h0
    · simp only [Value.slice.injEq] at h1
      obtain ⟨h4, _, _⟩ := h1
      rw [e] at h4
      injection h4 with h4
      rw [h4]
      exact (Array.getElem?_eq_some_iff.1 h3).1
end
theorem built_vol : Tryz.prog.built 76 [] = some #[.slice none 0 0] := by kernel_rfl
section
variable {P : Program} {o : Oper} {a : Act} {w : World} {K : Act → World → Prop} {Q : Exit → Act → World → Prop}
theorem k_make8 (l c : Operand) (t e : TypeId) (i : TypeInfo) (U : U8 P t e i) (hop : o.op = Op.makeSlice t l c) (n : Nat) (hl : a.eval l = .int .i64 n) (hc : a.eval c = .int .i64 n) (hn : n ≤ 70368744177664)
    (h : ∀ g w', Row w' g e (brr n fun _ => 0) → Hid (g = w.heap.size) → Below w.heap.size w w' → K (a.put o.dst (.slice (some ⟨g, 0, none⟩) n n)) w') : Oper.wp P o a w K Q := by
  have hr := run_make (P := P) w t e i (.int .u8 0) U.ht U.hi U.hz .i64 .i64 n n (by omega) (Int.le_refl _) (by rw [U.h2]; omega) (by omega)
  simp only [Int.toNat_natCast, U.h1] at hr
  rw [made_brr] at hr
  unfold Oper.wp
  simp [execOp, hop, hl, hc, hr, Result.andThen]
  exact h _ _ (Row.made w e _) (show _ = _ from rfl) ((Below.refl _ _).alloc (Nat.le_refl _) _)
theorem k_join13 {t e : TypeId} {k : Nat} (s x : Operand) (ho : o.op = .call { callee := .builtin .append, args := #[s, x], argTypes := #[t, t] }) (R : Rec P t e k) (base : Nat) (v : Value) (n : Nat) (xs : List Value) (hs : a.eval s = v) (hown : w.ownsRow base e k v n xs)
    (A : Option Addr) (m c : Nat) (ys : List Value) (hx : a.eval x = .slice A m c) (hys : ys.length = m * k) (hA : m = 0 ∧ A = none ∨ ∃ ad, A = some ad ∧ ∀ j u, ys[j]? = some u → w.cell? (ad.add j) = some u) (h1 : ∀ u ∈ ys, u.oneCell' = true) (hb : n + m ≤ 1000001) (hbase : base ≤ w.heap.size)
    (h : ∀ v' w', w'.ownsRow base e k v' (n + m) (xs ++ ys) → w.grownBy w' v.ownBlock → (v'.ownBlock = v.ownBlock ∨ v'.ownBlock = some w.heap.size) → K (a.put o.dst v') w') : Oper.wp P o a w K Q := by
  obtain ⟨v', w', hr, h2, h3, h4⟩ := run_join (P := P) R o.type base v n xs hown A m c ys hys hA h1 hb hbase
  unfold Oper.wp execOp
  simp only [ho, resolve, invoke, builtin, Sem.run_bind, Sem.run_pure, Result.andThen_ok, List.map_toArray, List.map_cons, List.map_nil, hs, hx, hr]
  exact h v' w' h2 h3 h4
end
theorem bs_sl (A : Option Addr) (n c : Nat) (w : World) : (Instr.buildSlice 74 1 #[(0, .slice A n c)]).run Tryz.prog w = .ok (.slice (some ⟨w.heap.size, 0, none⟩) 1 1) (w.alloc (.cells [Value.slice A n c].toArray 22)) := by kernel_rfl
section
variable {o : Oper} {a : Act} {w : World} {K : Act → World → Prop} {Q : Exit → Act → World → Prop}
theorem k_bs_sl (x : Operand) (ho : o.op = .buildSlice 74 1 #[(0, x)]) (A : Option Addr) (n c : Nat) (hx : a.eval x = .slice A n c)
    (h : ∀ g w', Row w' g 22 [.slice A n c] → Hid (g = w.heap.size) → Below w.heap.size w w' → K (a.put o.dst (.slice (some ⟨g, 0, none⟩) 1 1)) w') : Oper.wp Tryz.prog o a w K Q := by
  have hr := bs_sl A n c w
  unfold Oper.wp execOp
  simp only [ho, hx, List.map_toArray, List.map_cons, List.map_nil, Sem.run_bind, hr, Result.andThen_ok]
  exact h _ _ (Row.made w _ _) (show _ = _ from rfl) ((Below.refl _ _).alloc (Nat.le_refl _) _)
end
def zBV (g : Nat) : BV := ⟨some ⟨g, 0, none⟩, 256, List.replicate 256 0⟩
theorem own_put8 {w : World} {b : Nat} {x : BV} {p : Addr} {u : Value} (h : Own8 b w x) (hn : (bvv x).ownBlock ≠ some p.block) : Own8 b (w.setCell p u) x := by
  refine Chg.own h ((Chg.refl [p.block] w).setCell (.inl (by simp)) u) fun k hk hf => ?_
  rw [List.mem_singleton] at hf
  subst hf
  exact hn hk
set_option maxHeartbeats 2000000 in
theorem start_any (m : Nat) (hm : m ≤ 300) (w : World) : Calls Tryz.prog 8 #[.int .i64 (m : Int)] w fun e w' => ∃ gs, e = .returned (.pointer (some ⟨gs, 0, none⟩)) ∧ ∃ A c Bs, Hid (Vol w.heap.size w' gs A c Bs) ∧ Hid (Bs.length = m ∧ ∀ x ∈ Bs, x.l = List.replicate 256 0) ∧ Hid (Below w.heap.size w w') := by
  obtain ⟨i, U⟩ := u8_tab
  have HM := Lib.hid hm
  go_enter Tryz.func8, Tryz.ntmps8
  go_wp2_with (first
    | (refine step_build rfl 76 _ rfl [] ?hv _ built_vol ?_; case hv => (simp [Act.eval]))
    | (refine step_box rfl 6 rfl 76 _ rfl [.slice none 0 0] rfl ?_; intro gs w2 hr2 hg2 hb2 hs2
       have HR2 := Lib.hid hr2
       have HB2 := Lib.hid hb2
       have HG2 := Lib.hid (p := w.heap.size ≤ gs) (Nat.le_of_eq hg2.out.symm)
       clear hr2 hg2 hb2 hs2))
  go_loopw [4] (fun x wr => ∃ (k : Nat) (A : Option Addr) (c : Nat) (Bs : List BV), Hid (k ≤ m) ∧ x = .int .i64 (k : Int) ∧ Hid (Bs.length = k) ∧ Hid (Vol w.heap.size wr gs A c Bs) ∧ Hid (∀ x ∈ Bs, x.l = List.replicate 256 0) ∧ Hid (Below w.heap.size w wr)) (fun x _ => m - (intOf x).toNat)
  case atStart => exact ⟨0, none, 0, [], Lib.hid (Nat.zero_le _), rfl, Lib.hid rfl, Lib.hid ⟨HR2.out, World.ownsRow_nil _ _ _ _, by simp, by simp, by simp, HG2.out⟩, Lib.hid (by simp), HB2⟩
  case round =>
    obtain ⟨k, A, c, Bs, HK, rfl, HL, HV, HZ, HB⟩ := hrel
    by_cases hk : k < m
    · have hki : (k : Int) < (m : Int) := by omega
      have hkw : IntKind.i64.wrap ((k : Int) + 1) = (k : Int) + 1 := by rw [IntKind.wrap_i64]; have := HM.out; omega
      have c0 : wr.cell? ⟨gs, 0, none⟩ = some (.slice A Bs.length c) := HV.out.row.cell 0
      obtain ⟨D, hD⟩ : ∃ D, Bs.length = D := ⟨_, rfl⟩
      rw [hD] at c0
      have HD := Lib.hid hD
      have HKK := Lib.hid hk
      clear hk hD
      go_wp2
      refine wp_region_held_drew (S := fun _ => True) (by kernel_rfl) trivial (fun hHeld => ?_)
      refine wpAnyH_take (i := 0) (oi := ⟨some 12, .move (.tmp 3), _, _, _, _⟩) (v := .pointer (some ⟨gs, 0, none⟩)) rfl (by kernel_rfl) (by kernel_rfl) (by kernel_rfl) (fun _ _ _ h => h) (.inl ⟨by rfl, fun w hSw => by go_simp⟩) (by assumption) ?_
      simp only [Act.put, List.setIfInBounds_toArray, List.set_cons_zero, List.set_cons_succ]
      refine wpAnyH_take (i := 1) (oi := ⟨some 13, .move (.tmp 3), _, _, _, _⟩) (v := .pointer (some ⟨gs, 0, none⟩)) rfl (by kernel_rfl) (by kernel_rfl) (by kernel_rfl) (fun _ _ _ h => h) (.inl ⟨by rfl, fun w hSw => by go_simp⟩) (by assumption) ?_
      simp only [Act.put, List.setIfInBounds_toArray, List.set_cons_zero, List.set_cons_succ]
      refine wpAnyH_take (i := 2) (oi := ⟨some 14, .nilCheck (.tmp 13), _, _, _, _⟩) (v := .pointer (some ⟨gs, 0, none⟩)) rfl (by kernel_rfl) (by kernel_rfl) (by kernel_rfl) (fun _ _ _ h => h) (.inl ⟨by rfl, fun w hSw => by go_simp⟩) (by assumption) ?_
      simp only [Act.put, List.setIfInBounds_toArray, List.set_cons_zero, List.set_cons_succ]
      refine wpAnyH_take (i := 3) (oi := ⟨some 15, .fieldAddr 76 (.tmp 14) 0, _, _, _, _⟩) (v := .pointer (some ⟨gs, 0, none⟩)) rfl (by kernel_rfl) (by kernel_rfl) (by kernel_rfl) (fun _ _ _ h => h) (.inl ⟨by rfl, fun w hSw => by go_simp⟩) (by assumption) ?_
      simp only [Act.put, List.setIfInBounds_toArray, List.set_cons_zero, List.set_cons_succ]
      refine wpAnyH_ready (rs := [4, 5]) (by kernel_rfl) (by simp) ?_
      refine AllReadyH.cons (o := ⟨some 16, .load 74 (.tmp 15), _, _, _, _⟩) rfl (fun K hK => ?_) (AllReadyH.cons (o := ⟨some 17, .makeSlice 22 (.const (.int .i64 256)) (.const (.int .i64 256)), _, _, _, _⟩) rfl (fun K hK => ?_) AllReadyH.nil)
      · skip
        have cl : wr.drew.cell? ⟨gs, 0, none⟩ = some (.slice A D c) := c0
        go_simp
        refine hK.out _ _ trivial (fun _hH => ?_)
        clear hK K cl
        refine wpAnyH_ready (rs := [5]) (by kernel_rfl) (by simp) ?_
        refine AllReadyH.cons (o := ⟨some 17, .makeSlice 22 (.const (.int .i64 256)) (.const (.int .i64 256)), _, _, _, _⟩) rfl (fun K hK => ?_) AllReadyH.nil
        refine k_make8 (.const (.int .i64 256)) (.const (.int .i64 256)) 22 5 i U rfl 256 (by rfl) (by rfl) (by decide) ?_
        intro g4 w4 hr4 hg4 hb4
        have HR4 := Lib.hid hr4
        have HB4 := Lib.hid (p := Below wr.heap.size wr w4) ((below_drw wr).trans (hb4.mono (Nat.le_refl _)))
        have HG4 := Lib.hid (p := wr.heap.size ≤ g4) (Nat.le_of_eq hg4.out.symm)
        clear hr4 hg4 hb4
        refine hK.out _ _ trivial (fun _hH => ?_)
        clear hK K
        refine wpAnyH_ready (rs := [6]) (by kernel_rfl) (by simp) ?_
        refine AllReadyH.cons (o := ⟨some 18, .buildSlice 74 1 #[(0, .tmp 17)], _, _, _, _⟩) rfl (fun K hK => ?_) AllReadyH.nil
        refine k_bs_sl (.tmp 17) rfl (some ⟨g4, 0, none⟩) 256 256 (by rfl) ?_
        intro g5 w5 hr5 hg5 hb5
        have HR5 := Lib.hid hr5
        have HB5 := Lib.hid (p := Below wr.heap.size wr w5) (below_nxt hb5 HB4.out)
        have HR45 := Lib.hid (HR4.out.kept hb5)
        clear hr5 hg5 hb5
        refine hK.out _ _ trivial (fun _hH => ?_)
        clear hK K
        refine wpAnyH_ready (rs := [7]) (by kernel_rfl) (by simp) ?_
        refine AllReadyH.cons (o := ⟨some 19, .call ⟨.builtin .append, #[.tmp 16, .tmp 18], #[74, 74]⟩, _, _, _, _⟩) rfl (fun K hK => ?_) AllReadyH.nil
        have hX : Own8 w.heap.size w5 (zBV g4) := by
          have h1 := HR45.out
          rw [brr0_bc] at h1
          have h2 := row_own8 (b := w.heap.size) h1 (by have h3 := HB.out.size; have h4 := HG4.out; omega) (by decide)
          simpa [zBV] using h2
        refine k_join13 (.tmp 16) (.tmp 18) rfl rec_sl w.heap.size (.slice A D c) D (Bs.flatMap sc) (by rfl) (by have h1 := own_kept HV.out.own HB5.out; rwa [HD.out] at h1) (some ⟨g5, 0, none⟩) 1 1 [.slice (some ⟨g4, 0, none⟩) 256 256] (by rfl) rfl (.inr ⟨_, rfl, fun j u hu => by rw [Addr.add_lit, Nat.zero_add, HR5.out.cell]; exact hu⟩) (by intro u hu; rw [List.mem_singleton] at hu; subst hu; rfl) (by have h1 := HD.out; have h2 := HV.out.lim; omega) (by have h1 := HB.out.size; have h2 := HB5.out.size; omega) ?_
        intro v6 w6 ho6 hg6 hat6
        obtain ⟨A6, c6', rfl⟩ := own_sl ho6
        have hne : (Value.slice A D c).ownBlock ≠ some gs := by
          have h1 := own_kept HV.out.own HB5.out
          rw [HD.out] at h1
          exact row_parted (HV.out.row.kept HB5.out) h1 (by decide)
        have HR6 := Lib.hid (p := Row w6 gs 76 [.slice A D c]) (by have h1 := HV.out.row.kept HB5.out; rw [HD.out] at h1; exact h1.grown hg6 hne.symm)
        have HO6 := Lib.hid (p := w6.ownsRow w.heap.size 22 1 (.slice A6 (D + 1) c6') (D + 1) ((Bs ++ [zBV g4]).flatMap sc)) (by
          rw [flat_snoc]
          have e : sc (zBV g4) = [.slice (some ⟨g4, 0, none⟩) 256 256] := by unfold sc bvv zBV; simp
          rw [e]
          exact ho6)
        have HY6 := Lib.hid (p := ∀ x ∈ Bs ++ [zBV g4], Own8 w.heap.size w6 x ∧ x.l = List.replicate 256 0) (fun x hx => by
          have h1 := own_kept HV.out.own HB5.out
          rw [HD.out] at h1
          rcases List.mem_append.1 hx with hx | hx
          · exact ⟨World.ownsRow.kept ((HV.out.bytes x hx).below HB5.out) hg6 (own_parted ((HV.out.bytes x hx).below HB5.out) h1 (by decide)), HZ.out x hx⟩
          · rw [List.mem_singleton] at hx
            subst hx
            exact ⟨World.ownsRow.kept hX hg6 (own_parted hX h1 (by decide)), rfl⟩)
        have HB6 := Lib.hid (p := Below w.heap.size w w6) ((HB.out.trans (HB5.out.mono HB.out.size)).grown hg6 (by have h1 := HB.out.size; have h2 := HB5.out.size; omega) (fun q hq => by
          have h1 := own_kept HV.out.own HB5.out
          rw [HD.out] at h1
          exact (h1.lt q hq).1))
        have c6 : w6.cell? ⟨gs, 0, none⟩ = some (.slice A D c) := HR6.out.cell 0
        clear ho6 hg6 hat6 hX hne
        refine hK.out _ _ trivial (fun _hH => ?_)
        clear hK K
        refine wpAnyH_take (i := 8) (oi := ⟨some 20, .nilCheck (.tmp 12), _, _, _, _⟩) (v := .pointer (some ⟨gs, 0, none⟩)) rfl (by kernel_rfl) (by kernel_rfl) (by kernel_rfl) (fun _ _ _ h => h) (.inl ⟨by rfl, fun w hSw => by go_simp⟩) (by assumption) ?_
        simp only [Act.put, List.setIfInBounds_toArray, List.set_cons_zero, List.set_cons_succ]
        refine wpAnyH_take (i := 9) (oi := ⟨some 21, .fieldAddr 76 (.tmp 20) 0, _, _, _, _⟩) (v := .pointer (some ⟨gs, 0, none⟩)) rfl (by kernel_rfl) (by kernel_rfl) (by kernel_rfl) (fun _ _ _ h => h) (.inl ⟨by rfl, fun w hSw => by go_simp⟩) (by assumption) ?_
        simp only [Act.put, List.setIfInBounds_toArray, List.set_cons_zero, List.set_cons_succ]
        refine wpAnyH_ready (rs := [10]) (by kernel_rfl) (by simp) ?_
        refine AllReadyH.cons (o := ⟨none, .store 74 (.tmp 21) (.tmp 19), _, _, _, _⟩) rfl (fun K hK => ?_) AllReadyH.nil
        have f6 := HR6.out.free 0
        have HR7 := Lib.hid (HR6.out.put 0 (.slice A6 (D + 1) c6'))
        have c7 : (w6.setCell ⟨gs, 0, none⟩ (.slice A6 (D + 1) c6')).cell? ⟨gs, 0, none⟩ = some (.slice A6 (D + 1) c6') := HR7.out.cell 0
        go_simp
        refine hK.out _ _ trivial (fun _hH => ?_)
        clear hK K
        refine wpAnyH_done (by kernel_rfl) ?_ _
        have HV7 := Lib.hid (p := Vol w.heap.size (w6.setCell ⟨gs, 0, none⟩ (.slice A6 (D + 1) c6')) gs A6 c6' (Bs ++ [zBV g4])) (by
          have hlen : (Bs ++ [zBV g4]).length = D + 1 := by rw [List.length_append, HD.out]; rfl
          have hcg : Chg [gs] w6 (w6.setCell ⟨gs, 0, none⟩ (.slice A6 (D + 1) c6')) := (Chg.refl _ _).setCell (.inl (by simp)) _
          refine ⟨by rw [hlen]; exact HR7.out, ?_, fun x hx => own_put8 (HY6.out x hx).1 (row_parted HR6.out (HY6.out x hx).1 (by decide)), fun x hx => (by rw [(HY6.out x hx).2]; simp), by rw [hlen]; have h1 := HKK.out; have h2 := HM.out; have h3 := HD.out; have h4 := HL.out; omega, HV.out.lo⟩
          rw [hlen]
          exact own_chg HO6.out hcg (fun g hg => by rw [List.mem_singleton] at hg; subst hg; exact row_parted HR6.out HO6.out (by decide)))
        have HB7 := Lib.hid (p := Below w.heap.size w (w6.setCell ⟨gs, 0, none⟩ (.slice A6 (D + 1) c6'))) (HB6.out.setCell HV.out.lo _)
        clear c6 c7
        generalize w6.setCell ⟨gs, 0, none⟩ (.slice A6 (D + 1) c6') = w7 at HV7 HB7 HR7 ⊢
        go_wp2
        go_roundw
        case rel => exact ⟨k + 1, A6, c6', _, HKK, by go_num, Lib.hid (by rw [List.length_append, HL.out]; rfl), HV7, Lib.hid (fun x hx => (HY6.out x hx).2), HB7⟩
        case measure => have := HKK.out; simp [intOf]; omega
      · skip
        refine k_make8 (.const (.int .i64 256)) (.const (.int .i64 256)) 22 5 i U rfl 256 (by rfl) (by rfl) (by decide) ?_
        intro g4 w4 hr4 hg4 hb4
        have HR4 := Lib.hid hr4
        have HB4 := Lib.hid (p := Below wr.heap.size wr w4) ((below_drw wr).trans (hb4.mono (Nat.le_refl _)))
        have HG4 := Lib.hid (p := wr.heap.size ≤ g4) (Nat.le_of_eq hg4.out.symm)
        clear hr4 hg4 hb4
        refine hK.out _ _ trivial (fun _hH => ?_)
        clear hK K
        refine wpAnyH_ready (rs := [4, 6]) (by kernel_rfl) (by simp) ?_
        refine AllReadyH.cons (o := ⟨some 16, .load 74 (.tmp 15), _, _, _, _⟩) rfl (fun K hK => ?_) (AllReadyH.cons (o := ⟨some 18, .buildSlice 74 1 #[(0, .tmp 17)], _, _, _, _⟩) rfl (fun K hK => ?_) AllReadyH.nil)
        · skip
          have cl : w4.cell? ⟨gs, 0, none⟩ = some (.slice A D c) := (HB4.out.cell (p := ⟨gs, 0, none⟩) (World.block_lt_of_cell? wr _ c0)).trans c0
          go_simp
          refine hK.out _ _ trivial (fun _hH => ?_)
          clear hK K cl
          refine wpAnyH_ready (rs := [6]) (by kernel_rfl) (by simp) ?_
          refine AllReadyH.cons (o := ⟨some 18, .buildSlice 74 1 #[(0, .tmp 17)], _, _, _, _⟩) rfl (fun K hK => ?_) AllReadyH.nil
          refine k_bs_sl (.tmp 17) rfl (some ⟨g4, 0, none⟩) 256 256 (by rfl) ?_
          intro g5 w5 hr5 hg5 hb5
          have HR5 := Lib.hid hr5
          have HB5 := Lib.hid (p := Below wr.heap.size wr w5) (below_nxt hb5 HB4.out)
          have HR45 := Lib.hid (HR4.out.kept hb5)
          clear hr5 hg5 hb5
          refine hK.out _ _ trivial (fun _hH => ?_)
          clear hK K
          refine wpAnyH_ready (rs := [7]) (by kernel_rfl) (by simp) ?_
          refine AllReadyH.cons (o := ⟨some 19, .call ⟨.builtin .append, #[.tmp 16, .tmp 18], #[74, 74]⟩, _, _, _, _⟩) rfl (fun K hK => ?_) AllReadyH.nil
          have hX : Own8 w.heap.size w5 (zBV g4) := by
            have h1 := HR45.out
            rw [brr0_bc] at h1
            have h2 := row_own8 (b := w.heap.size) h1 (by have h3 := HB.out.size; have h4 := HG4.out; omega) (by decide)
            simpa [zBV] using h2
          refine k_join13 (.tmp 16) (.tmp 18) rfl rec_sl w.heap.size (.slice A D c) D (Bs.flatMap sc) (by rfl) (by have h1 := own_kept HV.out.own HB5.out; rwa [HD.out] at h1) (some ⟨g5, 0, none⟩) 1 1 [.slice (some ⟨g4, 0, none⟩) 256 256] (by rfl) rfl (.inr ⟨_, rfl, fun j u hu => by rw [Addr.add_lit, Nat.zero_add, HR5.out.cell]; exact hu⟩) (by intro u hu; rw [List.mem_singleton] at hu; subst hu; rfl) (by have h1 := HD.out; have h2 := HV.out.lim; omega) (by have h1 := HB.out.size; have h2 := HB5.out.size; omega) ?_
          intro v6 w6 ho6 hg6 hat6
          obtain ⟨A6, c6', rfl⟩ := own_sl ho6
          have hne : (Value.slice A D c).ownBlock ≠ some gs := by
            have h1 := own_kept HV.out.own HB5.out
            rw [HD.out] at h1
            exact row_parted (HV.out.row.kept HB5.out) h1 (by decide)
          have HR6 := Lib.hid (p := Row w6 gs 76 [.slice A D c]) (by have h1 := HV.out.row.kept HB5.out; rw [HD.out] at h1; exact h1.grown hg6 hne.symm)
          have HO6 := Lib.hid (p := w6.ownsRow w.heap.size 22 1 (.slice A6 (D + 1) c6') (D + 1) ((Bs ++ [zBV g4]).flatMap sc)) (by
            rw [flat_snoc]
            have e : sc (zBV g4) = [.slice (some ⟨g4, 0, none⟩) 256 256] := by unfold sc bvv zBV; simp
            rw [e]
            exact ho6)
          have HY6 := Lib.hid (p := ∀ x ∈ Bs ++ [zBV g4], Own8 w.heap.size w6 x ∧ x.l = List.replicate 256 0) (fun x hx => by
            have h1 := own_kept HV.out.own HB5.out
            rw [HD.out] at h1
            rcases List.mem_append.1 hx with hx | hx
            · exact ⟨World.ownsRow.kept ((HV.out.bytes x hx).below HB5.out) hg6 (own_parted ((HV.out.bytes x hx).below HB5.out) h1 (by decide)), HZ.out x hx⟩
            · rw [List.mem_singleton] at hx
              subst hx
              exact ⟨World.ownsRow.kept hX hg6 (own_parted hX h1 (by decide)), rfl⟩)
          have HB6 := Lib.hid (p := Below w.heap.size w w6) ((HB.out.trans (HB5.out.mono HB.out.size)).grown hg6 (by have h1 := HB.out.size; have h2 := HB5.out.size; omega) (fun q hq => by
            have h1 := own_kept HV.out.own HB5.out
            rw [HD.out] at h1
            exact (h1.lt q hq).1))
          have c6 : w6.cell? ⟨gs, 0, none⟩ = some (.slice A D c) := HR6.out.cell 0
          clear ho6 hg6 hat6 hX hne
          refine hK.out _ _ trivial (fun _hH => ?_)
          clear hK K
          refine wpAnyH_take (i := 8) (oi := ⟨some 20, .nilCheck (.tmp 12), _, _, _, _⟩) (v := .pointer (some ⟨gs, 0, none⟩)) rfl (by kernel_rfl) (by kernel_rfl) (by kernel_rfl) (fun _ _ _ h => h) (.inl ⟨by rfl, fun w hSw => by go_simp⟩) (by assumption) ?_
          simp only [Act.put, List.setIfInBounds_toArray, List.set_cons_zero, List.set_cons_succ]
          refine wpAnyH_take (i := 9) (oi := ⟨some 21, .fieldAddr 76 (.tmp 20) 0, _, _, _, _⟩) (v := .pointer (some ⟨gs, 0, none⟩)) rfl (by kernel_rfl) (by kernel_rfl) (by kernel_rfl) (fun _ _ _ h => h) (.inl ⟨by rfl, fun w hSw => by go_simp⟩) (by assumption) ?_
          simp only [Act.put, List.setIfInBounds_toArray, List.set_cons_zero, List.set_cons_succ]
          refine wpAnyH_ready (rs := [10]) (by kernel_rfl) (by simp) ?_
          refine AllReadyH.cons (o := ⟨none, .store 74 (.tmp 21) (.tmp 19), _, _, _, _⟩) rfl (fun K hK => ?_) AllReadyH.nil
          have f6 := HR6.out.free 0
          have HR7 := Lib.hid (HR6.out.put 0 (.slice A6 (D + 1) c6'))
          have c7 : (w6.setCell ⟨gs, 0, none⟩ (.slice A6 (D + 1) c6')).cell? ⟨gs, 0, none⟩ = some (.slice A6 (D + 1) c6') := HR7.out.cell 0
          go_simp
          refine hK.out _ _ trivial (fun _hH => ?_)
          clear hK K
          refine wpAnyH_done (by kernel_rfl) ?_ _
          have HV7 := Lib.hid (p := Vol w.heap.size (w6.setCell ⟨gs, 0, none⟩ (.slice A6 (D + 1) c6')) gs A6 c6' (Bs ++ [zBV g4])) (by
            have hlen : (Bs ++ [zBV g4]).length = D + 1 := by rw [List.length_append, HD.out]; rfl
            have hcg : Chg [gs] w6 (w6.setCell ⟨gs, 0, none⟩ (.slice A6 (D + 1) c6')) := (Chg.refl _ _).setCell (.inl (by simp)) _
            refine ⟨by rw [hlen]; exact HR7.out, ?_, fun x hx => own_put8 (HY6.out x hx).1 (row_parted HR6.out (HY6.out x hx).1 (by decide)), fun x hx => (by rw [(HY6.out x hx).2]; simp), by rw [hlen]; have h1 := HKK.out; have h2 := HM.out; have h3 := HD.out; have h4 := HL.out; omega, HV.out.lo⟩
            rw [hlen]
            exact own_chg HO6.out hcg (fun g hg => by rw [List.mem_singleton] at hg; subst hg; exact row_parted HR6.out HO6.out (by decide)))
          have HB7 := Lib.hid (p := Below w.heap.size w (w6.setCell ⟨gs, 0, none⟩ (.slice A6 (D + 1) c6'))) (HB6.out.setCell HV.out.lo _)
          clear c6 c7
          generalize w6.setCell ⟨gs, 0, none⟩ (.slice A6 (D + 1) c6') = w7 at HV7 HB7 HR7 ⊢
          go_wp2
          go_roundw
          case rel => exact ⟨k + 1, A6, c6', _, HKK, by go_num, Lib.hid (by rw [List.length_append, HL.out]; rfl), HV7, Lib.hid (fun x hx => (HY6.out x hx).2), HB7⟩
          case measure => have := HKK.out; simp [intOf]; omega
        · skip
          refine k_bs_sl (.tmp 17) rfl (some ⟨g4, 0, none⟩) 256 256 (by rfl) ?_
          intro g5 w5 hr5 hg5 hb5
          have HR5 := Lib.hid hr5
          have HB5 := Lib.hid (p := Below wr.heap.size wr w5) (below_nxt hb5 HB4.out)
          have HR45 := Lib.hid (HR4.out.kept hb5)
          clear hr5 hg5 hb5
          refine hK.out _ _ trivial (fun _hH => ?_)
          clear hK K
          refine wpAnyH_ready (rs := [4]) (by kernel_rfl) (by simp) ?_
          refine AllReadyH.cons (o := ⟨some 16, .load 74 (.tmp 15), _, _, _, _⟩) rfl (fun K hK => ?_) AllReadyH.nil
          have cl : w5.cell? ⟨gs, 0, none⟩ = some (.slice A D c) := (HB5.out.cell (p := ⟨gs, 0, none⟩) (World.block_lt_of_cell? wr _ c0)).trans c0
          go_simp
          refine hK.out _ _ trivial (fun _hH => ?_)
          clear hK K cl
          refine wpAnyH_ready (rs := [7]) (by kernel_rfl) (by simp) ?_
          refine AllReadyH.cons (o := ⟨some 19, .call ⟨.builtin .append, #[.tmp 16, .tmp 18], #[74, 74]⟩, _, _, _, _⟩) rfl (fun K hK => ?_) AllReadyH.nil
          have hX : Own8 w.heap.size w5 (zBV g4) := by
            have h1 := HR45.out
            rw [brr0_bc] at h1
            have h2 := row_own8 (b := w.heap.size) h1 (by have h3 := HB.out.size; have h4 := HG4.out; omega) (by decide)
            simpa [zBV] using h2
          refine k_join13 (.tmp 16) (.tmp 18) rfl rec_sl w.heap.size (.slice A D c) D (Bs.flatMap sc) (by rfl) (by have h1 := own_kept HV.out.own HB5.out; rwa [HD.out] at h1) (some ⟨g5, 0, none⟩) 1 1 [.slice (some ⟨g4, 0, none⟩) 256 256] (by rfl) rfl (.inr ⟨_, rfl, fun j u hu => by rw [Addr.add_lit, Nat.zero_add, HR5.out.cell]; exact hu⟩) (by intro u hu; rw [List.mem_singleton] at hu; subst hu; rfl) (by have h1 := HD.out; have h2 := HV.out.lim; omega) (by have h1 := HB.out.size; have h2 := HB5.out.size; omega) ?_
          intro v6 w6 ho6 hg6 hat6
          obtain ⟨A6, c6', rfl⟩ := own_sl ho6
          have hne : (Value.slice A D c).ownBlock ≠ some gs := by
            have h1 := own_kept HV.out.own HB5.out
            rw [HD.out] at h1
            exact row_parted (HV.out.row.kept HB5.out) h1 (by decide)
          have HR6 := Lib.hid (p := Row w6 gs 76 [.slice A D c]) (by have h1 := HV.out.row.kept HB5.out; rw [HD.out] at h1; exact h1.grown hg6 hne.symm)
          have HO6 := Lib.hid (p := w6.ownsRow w.heap.size 22 1 (.slice A6 (D + 1) c6') (D + 1) ((Bs ++ [zBV g4]).flatMap sc)) (by
            rw [flat_snoc]
            have e : sc (zBV g4) = [.slice (some ⟨g4, 0, none⟩) 256 256] := by unfold sc bvv zBV; simp
            rw [e]
            exact ho6)
          have HY6 := Lib.hid (p := ∀ x ∈ Bs ++ [zBV g4], Own8 w.heap.size w6 x ∧ x.l = List.replicate 256 0) (fun x hx => by
            have h1 := own_kept HV.out.own HB5.out
            rw [HD.out] at h1
            rcases List.mem_append.1 hx with hx | hx
            · exact ⟨World.ownsRow.kept ((HV.out.bytes x hx).below HB5.out) hg6 (own_parted ((HV.out.bytes x hx).below HB5.out) h1 (by decide)), HZ.out x hx⟩
            · rw [List.mem_singleton] at hx
              subst hx
              exact ⟨World.ownsRow.kept hX hg6 (own_parted hX h1 (by decide)), rfl⟩)
          have HB6 := Lib.hid (p := Below w.heap.size w w6) ((HB.out.trans (HB5.out.mono HB.out.size)).grown hg6 (by have h1 := HB.out.size; have h2 := HB5.out.size; omega) (fun q hq => by
            have h1 := own_kept HV.out.own HB5.out
            rw [HD.out] at h1
            exact (h1.lt q hq).1))
          have c6 : w6.cell? ⟨gs, 0, none⟩ = some (.slice A D c) := HR6.out.cell 0
          clear ho6 hg6 hat6 hX hne
          refine hK.out _ _ trivial (fun _hH => ?_)
          clear hK K
          refine wpAnyH_take (i := 8) (oi := ⟨some 20, .nilCheck (.tmp 12), _, _, _, _⟩) (v := .pointer (some ⟨gs, 0, none⟩)) rfl (by kernel_rfl) (by kernel_rfl) (by kernel_rfl) (fun _ _ _ h => h) (.inl ⟨by rfl, fun w hSw => by go_simp⟩) (by assumption) ?_
          simp only [Act.put, List.setIfInBounds_toArray, List.set_cons_zero, List.set_cons_succ]
          refine wpAnyH_take (i := 9) (oi := ⟨some 21, .fieldAddr 76 (.tmp 20) 0, _, _, _, _⟩) (v := .pointer (some ⟨gs, 0, none⟩)) rfl (by kernel_rfl) (by kernel_rfl) (by kernel_rfl) (fun _ _ _ h => h) (.inl ⟨by rfl, fun w hSw => by go_simp⟩) (by assumption) ?_
          simp only [Act.put, List.setIfInBounds_toArray, List.set_cons_zero, List.set_cons_succ]
          refine wpAnyH_ready (rs := [10]) (by kernel_rfl) (by simp) ?_
          refine AllReadyH.cons (o := ⟨none, .store 74 (.tmp 21) (.tmp 19), _, _, _, _⟩) rfl (fun K hK => ?_) AllReadyH.nil
          have f6 := HR6.out.free 0
          have HR7 := Lib.hid (HR6.out.put 0 (.slice A6 (D + 1) c6'))
          have c7 : (w6.setCell ⟨gs, 0, none⟩ (.slice A6 (D + 1) c6')).cell? ⟨gs, 0, none⟩ = some (.slice A6 (D + 1) c6') := HR7.out.cell 0
          go_simp
          refine hK.out _ _ trivial (fun _hH => ?_)
          clear hK K
          refine wpAnyH_done (by kernel_rfl) ?_ _
          have HV7 := Lib.hid (p := Vol w.heap.size (w6.setCell ⟨gs, 0, none⟩ (.slice A6 (D + 1) c6')) gs A6 c6' (Bs ++ [zBV g4])) (by
            have hlen : (Bs ++ [zBV g4]).length = D + 1 := by rw [List.length_append, HD.out]; rfl
            have hcg : Chg [gs] w6 (w6.setCell ⟨gs, 0, none⟩ (.slice A6 (D + 1) c6')) := (Chg.refl _ _).setCell (.inl (by simp)) _
            refine ⟨by rw [hlen]; exact HR7.out, ?_, fun x hx => own_put8 (HY6.out x hx).1 (row_parted HR6.out (HY6.out x hx).1 (by decide)), fun x hx => (by rw [(HY6.out x hx).2]; simp), by rw [hlen]; have h1 := HKK.out; have h2 := HM.out; have h3 := HD.out; have h4 := HL.out; omega, HV.out.lo⟩
            rw [hlen]
            exact own_chg HO6.out hcg (fun g hg => by rw [List.mem_singleton] at hg; subst hg; exact row_parted HR6.out HO6.out (by decide)))
          have HB7 := Lib.hid (p := Below w.heap.size w (w6.setCell ⟨gs, 0, none⟩ (.slice A6 (D + 1) c6'))) (HB6.out.setCell HV.out.lo _)
          clear c6 c7
          generalize w6.setCell ⟨gs, 0, none⟩ (.slice A6 (D + 1) c6') = w7 at HV7 HB7 HR7 ⊢
          go_wp2
          go_roundw
          case rel => exact ⟨k + 1, A6, c6', _, HKK, by go_num, Lib.hid (by rw [List.length_append, HL.out]; rfl), HV7, Lib.hid (fun x hx => (HY6.out x hx).2), HB7⟩
          case measure => have := HKK.out; simp [intOf]; omega
    · have hkz : ¬ (k : Int) < (m : Int) := by omega
      have hke : k = m := by have := HK.out; omega
      clear hk
      go_wp2
      go_ret
      refine ⟨gs, rfl, A, c, Bs, HV, Lib.hid ⟨by rw [HL.out, hke], HZ.out⟩, HB⟩
/-- A new desk. -/
theorem dnew (gv N : Nat) (w : World) : Calls Tryz.prog 13 #[.pointer (some ⟨gv, 0, none⟩), .int .i64 (N : Int)] w fun e w' => ∃ gd, e = .returned (.pointer (some ⟨gd, 0, none⟩)) ∧ Hid (Row w' gd 88 (dcs gv N (bkcs false sup0 sup0) (bkcs false sup0 sup0) false (-1))) ∧ Hid (w.heap.size ≤ gd) ∧ Hid (Below w.heap.size w w') := by
  have hn : ∀ w : World, (binOp .eql 28 (.pointer (some ⟨gv, 0, none⟩)) (.pointer none)).run Tryz.prog w = .ok (.bool false) w := fun w => by kernel_rfl
  obtain ⟨D, hD⟩ : ∃ D, dcs gv N (bkcs false sup0 sup0) (bkcs false sup0 sup0) false (-1) = D := ⟨_, rfl⟩
  have HB := Lib.hid (built_desk gv N)
  rw [hD] at HB ⊢
  clear hD
  go_enter Tryz.func13, Tryz.ntmps13
  go_wp2_with (first
    | (refine step_build rfl 88 _ rfl [(0, .pointer (some ⟨gv, 0, none⟩)), (1, .int .i64 (N : Int)), (5, .int .i64 (-1))] ?hv _ HB.out ?_; case hv => (simp [Act.eval]))
    | (refine step_box rfl 11 rfl 88 _ rfl D rfl ?_; intro gd w2 hr2 hg2 hb2 hs2
       have HR2 := Lib.hid hr2
       have HB2 := Lib.hid hb2
       have HG2 := Lib.hid (p := w.heap.size ≤ gd) (Nat.le_of_eq hg2.out.symm)
       clear hr2 hg2 hb2 hs2))
  go_ret
  exact ⟨gd, rfl, HR2, HG2, HB2⟩
/-- A desk begins. -/
theorem DK.start {b : Nat} {w w' : World} {gd gv gm gs r : Nat} {Bs : List BV} {N n : Nat} {C : Int → Option BV} (hv : VV b w gv gm gs (some ⟨r, 0, none⟩) n C) (hr : Row w r 83 (rcs false 0)) (hs : Src b w gs Bs) (hb : b ≤ r ∧ b ≤ w.heap.size)
    (hd : Row w' gd 88 (dcs gv N (bkcs false sup0 sup0) (bkcs false sup0 sup0) false (-1))) (hg : w.heap.size ≤ gd) (hbl : Below w.heap.size w w') : DK b w' gd gv gm gs r Bs N n ⟨false, sup0, sup0, byL C⟩ :=
  ⟨⟨_, -1, bkcs_len _ _ _, bkcs_one _ _ _, hd⟩, ⟨C, hv.below hbl, rfl⟩, hr.kept hbl, hs.keep (hbl.mono hb.2), Nat.le_trans hb.2 hg, hb.1, Nat.le_trans hb.2 hbl.size⟩
end Go.Proofs.YtfbfeplegdpemaaGreat
