/- A script on a view: what is seen, what is put, where it gives up. Conditions: the view, the source and the script lie there. -/
import Derived.Test.YtpobppoaidngeaaKh
set_option linter.unusedVariables false
set_option maxRecDepth 20000
namespace Go.Proofs.Ytpobppoaidngeaa
open Go.RowKit

abbrev L8 := List UInt8
def upL (C : Int → Option L8) (a : Int) (l : L8) : Int → Option L8 := fun a' => if a' = a then some l else C a'
/-- What a script does: what is seen and what is put, or the slot that is wanted. -/
def runP (S : Int → Option L8) : List DV → (Int → Option L8) → List L8 → (List L8 × (Int → Option L8)) ⊕ Int
  | [], C, seen => .inl (seen, C)
  | d :: ds, C, seen => if d.put = true then runP S ds (upL C d.slot d.blk.l) seen else
    match C d.slot with
    | some l => runP S ds C (seen ++ [l])
    | none => match S d.slot with
      | some l => runP S ds C (seen ++ [l])
      | none => .inr d.slot
theorem byL_up (C : Int → Option BV) (a : Int) (y : BV) : byL (upC C a y) = upL (byL C) a y.l := by
  funext a'
  unfold byL upC upL
  split <;> rfl
theorem runP_put {S : Int → Option L8} {ds : List DV} {C : Int → Option L8} {seen : List L8} {d : DV} (h : d.put = true) : runP S (d :: ds) C seen = runP S ds (upL C d.slot d.blk.l) seen := by
  rw [runP, if_pos h]
theorem runP_see {C S : Int → Option BV} {ds : List DV} {seen : List L8} {d : DV} {x : BV} (h : d.put = false) (hx : seeF C S d.slot = some x) : runP (byL S) (d :: ds) (byL C) seen = runP (byL S) ds (byL C) (seen ++ [x.l]) := by
  rw [runP, if_neg (by rw [h]; decide)]
  unfold seeF at hx
  cases hC : C d.slot with
  | some y =>
    rw [hC] at hx
    injection hx with hx
    subst hx
    have : byL C d.slot = some y.l := by unfold byL; rw [hC]; rfl
    rw [this]
  | none =>
    rw [hC] at hx
    have h1 : byL C d.slot = none := by unfold byL; rw [hC]; rfl
    change S d.slot = some x at hx
    have h2 : byL S d.slot = some x.l := by unfold byL; rw [hx]; rfl
    rw [h1, h2]
theorem runP_not {C S : Int → Option BV} {ds : List DV} {seen : List L8} {d : DV} (h : d.put = false) (hx : seeF C S d.slot = none) : runP (byL S) (d :: ds) (byL C) seen = .inr d.slot := by
  rw [runP, if_neg (by rw [h]; decide)]
  unfold seeF at hx
  cases hC : C d.slot with
  | some y => rw [hC] at hx; cases hx
  | none =>
    rw [hC] at hx
    have h1 : byL C d.slot = none := by unfold byL; rw [hC]; rfl
    change S d.slot = none at hx
    have h2 : byL S d.slot = none := by unfold byL; rw [hx]; rfl
    rw [h1, h2]
/-- A script, in blocks below b. -/
structure ScB (b : Nat) (w : World) (A : Option Addr) (ds : List DV) : Prop where
  lies : LiesB dcs 3 b w A ds
  hol : ∀ d ∈ ds, HolB b w d.blk.A d.blk.l
  len : ∀ d ∈ ds, d.blk.l.length ≤ 131072
  i64 : ∀ d ∈ ds, I64 d.slot
  lim : ds.length ≤ 100
theorem ScB.keep {b : Nat} {w w' : World} {A : Option Addr} {ds : List DV} (h : ScB b w A ds) (hb : Below b w w') : ScB b w' A ds := ⟨h.lies.keep hb, fun d hd => (h.hol d hd).keep hb, h.len, h.i64, h.lim⟩
theorem ScB.mono {b b' : Nat} {w : World} {A : Option Addr} {ds : List DV} (h : ScB b w A ds) (hb : b ≤ b') : ScB b' w A ds := ⟨h.lies.mono hb, fun d hd => (h.hol d hd).mono hb, h.len, h.i64, h.lim⟩
/-- The block that an address names. -/
def fA : Option Addr → List Nat
  | some ad => [ad.block]
  | none => []
/-- A row of bytes of the call's own that is being written over. -/
def Wr (A : Option Addr) (m : Nat) (wA wr : World) : Prop := Chg (fA A) wA wr ∧ (m = 0 ∨ ∃ g cs, A = some ⟨g, 0, none⟩ ∧ Row wr g 5 cs ∧ m ≤ cs.length)
theorem Wr.start {b : Nat} {w : World} {x : BV} (h : Own8 b w x) : Wr x.A x.l.length w w := by
  refine ⟨Chg.refl _ _, ?_⟩
  rcases h.2 with ⟨e0, h0⟩ | ⟨g, cap, cur, e0, hb, hg, hn, hc, hs, ht⟩
  · exact .inl h0
  · simp only [bvv, Value.slice.injEq] at e0
    refine .inr ⟨g, cur.toList, e0.1, ?_, ?_⟩
    · unfold Row
      rw [Array.toArray_toList]
      exact hg
    · rw [Array.length_toList, hs]
      omega
theorem Wr.cell {A : Option Addr} {m k : Nat} {wA wr : World} (h : Wr A m wA wr) (hk : k < m) : ∃ g v, A = some ⟨g, 0, none⟩ ∧ wr.cell? ⟨g, k, none⟩ = some v ∧ wr.frozen? ⟨g, k, none⟩ = false ∧ ∀ u, Wr A m wA (wr.setCell ⟨g, k, none⟩ u) := by
  obtain ⟨hc, h0 | ⟨g, cs, rfl, hr, hl⟩⟩ := h
  · omega
  · refine ⟨g, cs[k]'(by omega), rfl, by rw [hr.cell, List.getElem?_eq_getElem (by omega)], hr.free _, fun u => ⟨hc.setCell (p := ⟨g, k, none⟩) (.inl (by simp [fA])) u, .inr ⟨g, _, rfl, hr.put k u, by simpa using hl⟩⟩⟩
theorem fA_own {b : Nat} {w : World} {x : BV} (h : Own8 b w x) : ∀ g ∈ fA x.A, b ≤ g ∧ g < w.heap.size := by
  rcases h.2 with ⟨e0, h0⟩ | ⟨g, cap, cur, e0, hb, hg, _⟩
  · simp only [bvv, Value.slice.injEq] at e0
    rw [e0.1]
    intro g hg
    cases hg
  · simp only [bvv, Value.slice.injEq] at e0
    rw [e0.1]
    intro g' hg'
    simp only [fA, List.mem_singleton] at hg'
    subst hg'
    exact ⟨hb, (Array.getElem?_eq_some_iff.1 hg).1⟩
theorem fA_iff (x : BV) (g : Nat) : g ∈ fA x.A ↔ (bvv x).ownBlock = some g := by
  obtain ⟨A, c, l⟩ := x
  cases A with
  | none => simp [fA, bvv, Value.ownBlock]
  | some ad => simp [fA, bvv, Value.ownBlock, eq_comm]
theorem own_ne_map {w : World} {B k n gm n' : Nat} {e : TypeId} {v : Value} {xs : List Value} {C : Int → Option BV} (h : w.ownsRow B e k v n xs) (hm : MC w gm n' C) : v.ownBlock ≠ some gm := by
  intro he
  rcases h.2 with ⟨rfl, _⟩ | ⟨g, cap, cur, rfl, _, hg, _⟩
  · simp [Value.ownBlock] at he
  · simp [Value.ownBlock] at he
    subst he
    exact hm.no_cells _ _ _ hg
theorem map_noB {w : World} {gm n : Nat} {C : Int → Option BV} (h : MC w gm n C) : NoBytes w [gm] := fun j hj cs fr => by rw [List.mem_singleton] at hj; subst hj; exact h.no_cells _ _ _
section
variable {b : Nat} {w w' : World} {gv gm gs r : Nat} {n : Nat} {C : Int → Option BV} {Bs : List BV} {Ks : List Bool} {A : Option Addr} {c : Nat} {ds : List DV}
theorem VV.grown_own {rp : Option Addr} {B k m : Nat} {e : TypeId} {A' : Option Addr} {c' : Nat} {xs : List Value} {o : Obj} (h : VV b w gv gm gs rp n C) (hown : w.ownsRow B e k (.slice A' m c') m xs) (he : 5 ≠ e) (he2 : 56 ≠ e) (hg : (w.alloc o).grownBy w' (Value.slice A' m c').ownBlock) : VV b w' gv gm gs rp n C :=
  ⟨(h.row.alloc o).grown hg (fun e' => row_parted h.row hown he2 e'.symm), (h.map.below (below_al w o)).grown hg (fun e' => own_ne_map hown h.map e'.symm), fun a x hx => own8_more he hown (h.own a x hx) hg, h.len, h.lo⟩
/-- What the play leaves. -/
def PlayP (b : Nat) (w : World) (gv gm gs r : Nat) (n : Nat) (T : (List L8 × (Int → Option L8)) ⊕ Int) (e : Ending) (w' : World) : Prop :=
  (∃ (xs : List BV) (A : Option Addr) (c n' : Nat) (C' : Int → Option BV), e = .returned (.slice A xs.length c) ∧ Hid (T = .inl (xs.map BV.l, byL C')) ∧ Hid (w'.ownsRow w.heap.size 44 1 (.slice A xs.length c) xs.length (xs.flatMap sc)) ∧ Hid (∀ x ∈ xs, Own8 w.heap.size w' x) ∧ Hid (VV b w' gv gm gs (some ⟨r, 0, none⟩) n' C') ∧ Hid (n' ≤ n + 100) ∧ Hid (Row w' r 58 (rcs false 0)) ∧ Hid (Chg [gm] w w')) ∨
  (∃ (s : Int) (n' : Nat) (C' : Int → Option BV), e = runE r ∧ Hid (T = .inr s) ∧ Hid (VV b w' gv gm gs (some ⟨r, 0, none⟩) n' C') ∧ Hid (Row w' r 58 (rcs true s)) ∧ Hid (Chg [r, gm] w w'))
set_option maxHeartbeats 2000000 in
theorem play_any (h : VV b w gv gm gs (some ⟨r, 0, none⟩) n C) (hr : Row w r 58 (rcs false 0)) (hrb : b ≤ r) (hbw : b ≤ w.heap.size) (hs : Src b w gs Bs Ks) (hd : ScB b w A ds) (hn : n ≤ 1000) :
    Calls Try.prog 13 #[.pointer (some ⟨gv, 0, none⟩), .slice A ds.length c] w (PlayP b w gv gm gs r n (runP (byL (srcF Bs Ks)) ds (byL C) [])) := by
  obtain ⟨i, U⟩ := u8_tab
  have H := Lib.hid h
  have HR0 := Lib.hid hr
  have HB := Lib.hid (p := b ≤ r ∧ b ≤ w.heap.size) ⟨hrb, hbw⟩
  have HS := Lib.hid hs
  have HD := Lib.hid hd
  have HN := Lib.hid hn
  obtain ⟨T, hT⟩ : ∃ T, runP (byL (srcF Bs Ks)) ds (byL C) [] = T := ⟨_, rfl⟩
  have HT := Lib.hid hT
  rw [hT]
  clear h hr hrb hbw hs hd hn hT
  go_enter Try.func13, Try.ntmps13
  go_wp2
  go_loopw [5, 6] (fun x y wr => ∃ (k : Nat) (xs : List BV) (A' : Option Addr) (m c' n' : Nat) (C' : Int → Option BV), Hid (k ≤ ds.length) ∧ y = .int .i64 (k : Int) ∧ x = .slice A' m c' ∧ Hid (m = xs.length) ∧ Hid (xs.length ≤ k) ∧ Hid (runP (byL (srcF Bs Ks)) (ds.drop k) (byL C') (xs.map BV.l) = T) ∧ Hid (wr.ownsRow w.heap.size 44 1 (.slice A' m c') m (xs.flatMap sc)) ∧ Hid (∀ x ∈ xs, Own8 w.heap.size wr x) ∧ Hid (VV b wr gv gm gs (some ⟨r, 0, none⟩) n' C') ∧ Hid (n' ≤ n + k) ∧ Hid (Row wr r 58 (rcs false 0)) ∧ Hid (Chg [gm] w wr)) (fun _ y _ => ds.length - (intOf y).toNat)
  case atStart => exact ⟨0, [], none, 0, 0, n, C, Lib.hid (Nat.zero_le _), rfl, rfl, Lib.hid rfl, Lib.hid (Nat.le_refl _), Lib.hid (by simpa using HT.out), Lib.hid (World.ownsRow_nil _ _ _ _), Lib.hid (by simp), H, Lib.hid (Nat.le_refl _), HR0, Lib.hid (Chg.refl _ _)⟩
  case round =>
    rename World => wo
    obtain ⟨k, xs, A', m, c', n', C', HKL, rfl, rfl, HM, HXK, HTK, HO, HO8, HV, HNN, HRR, HC⟩ := hrel
    by_cases hk : k < ds.length
    · have hki : (k : Int) < (ds.length : Int) := by omega
      have hbel : Below b w wo := HC.out.below HB.out.2 (fun x hx => by rw [List.mem_singleton] at hx; subst hx; exact H.out.lo.2)
      have HBL := Lib.hid hbel
      obtain ⟨g, o, rfl, hc⟩ := (HD.out.keep hbel).lies.1.at_ hk
      obtain ⟨d, hd⟩ : ∃ d, ds[k] = d := ⟨_, rfl⟩
      rw [hd] at hc
      have hdm : d ∈ ds := by rw [← hd]; exact List.getElem_mem _
      have hdrop : ds.drop k = d :: ds.drop (k + 1) := by rw [List.drop_eq_getElem_cons hk, hd]
      have HDM := Lib.hid hdm
      have HDR := Lib.hid hdrop
      have HKT := Lib.hid hk
      have cz0 := hc 0 _ rfl
      have cz1 := hc 1 _ rfl
      have cz2 := hc 2 _ rfl
      obtain ⟨pt, hpt⟩ : ∃ pt, d.put = pt := ⟨_, rfl⟩
      rw [hpt] at cz0
      have HPT := Lib.hid hpt
      unfold bvv at cz2
      simp only [Nat.add_zero] at cz0
      have hkw : IntKind.i64.wrap ((k : Int) + 1) = (k : Int) + 1 := by rw [IntKind.wrap_i64]; have := HD.out.lim; omega
      clear hc hd hdm hdrop hk hbel hpt
      have ca2 : ∀ O : Obj, (wo.alloc O).cell? ⟨g, o + k * 3 + 2, none⟩ = some (.slice d.blk.A d.blk.l.length d.blk.c) := fun O => ((below_al wo O).cell (p := ⟨g, o + k * 3 + 2, none⟩) (World.block_lt_of_cell? wo _ cz2)).trans cz2
      cases pt with
      | true =>
        go_wp2_with (first
          | (at_builtin
             refine wpList_app _ rfl _ _ _ rfl 5 i U wo.heap.size (.slice (some ⟨wo.heap.size, 0, none⟩) 0 0) 0 [] rfl (void_own wo _ 1 _ (Nat.le_refl _)) d.blk.A d.blk.l.length d.blk.c d.blk.l rfl rfl ((((HD.out.hol d HDM.out).keep HBL.out).1).below ((Below.refl _ _).alloc (Nat.le_refl _) _)) (by have h9 := HD.out.len d HDM.out; omega) (by simp) ?_
             intro v2' w2 hown2 hg2 hat2
             rw [List.nil_append, Nat.zero_add] at hown2
             obtain ⟨Ax, cx, rfl⟩ := own_sl hown2
             have hb2 : Below wo.heap.size wo w2 := ((Below.refl _ _).alloc (Nat.le_refl _) _).grown hg2 (by simp) (fun q hq => by have h0 : some wo.heap.size = some q := hq; injection h0 with h0; omega)
             have HX2 := Lib.hid (p := Own8 wo.heap.size w2 ⟨Ax, cx, d.blk.l⟩) hown2
             have HB2 := Lib.hid hb2
             have d1 := (hb2.cell (p := ⟨g, o + k * 3 + 1, none⟩) (World.block_lt_of_cell? wo _ cz1)).trans cz1
             clear hown2 hg2 hat2 hb2)
          | (go_at_call 20; refine (vput (HV.out.below HB2.out) (by have := HB.out.2; have := HC.out.size; have := HB2.out.size; omega) ⟨Ax, cx, d.blk.l⟩ HX2.out.hol (HD.out.len d HDM.out) d.slot (HD.out.i64 d HDM.out) (by have := HNN.out; have := HN.out; have := HD.out.lim; have := HKT.out; omega)).mono ?_
             rintro e w3 ⟨rfl, y, hy, hyo, hv3, hc3⟩))
        have HX3 := Lib.hid (p := Own8 wo.heap.size w3 ⟨Ax, cx, d.blk.l⟩) (HX2.out.chg hc3.out (map_noB (HV.out.map.below HB2.out)))
        obtain ⟨m2, hm2⟩ : ∃ m2, d.blk.l.length = m2 := ⟨_, rfl⟩
        have HM2 := Lib.hid hm2
        rw [hm2]
        have HW0 := Lib.hid (p := Wr Ax m2 w3 w3) (by rw [← hm2]; exact Wr.start HX3.out)
        have hm3 : m2 ≤ 131072 := by rw [← hm2]; exact HD.out.len d HDM.out
        clear hm2 d1 cz0 cz1 cz2 ca2
        go_loopw [8] (fun x wr => ∃ q : Nat, Hid (q ≤ m2) ∧ x = .int .i64 (q : Int) ∧ Hid (Wr Ax m2 w3 wr)) (fun x _ => m2 - (intOf x).toNat)
        case atStart => exact ⟨0, Lib.hid (Nat.zero_le _), rfl, HW0⟩
        case round =>
          obtain ⟨q, HQL, rfl, HWR⟩ := hrel
          by_cases hq : q < m2
          · have hqi : (q : Int) < (m2 : Int) := by omega
            obtain ⟨g2, v2, e2, cc, ff, hset⟩ := HWR.out.cell hq
            subst e2
            have HSET := Lib.hid hset
            have HQT := Lib.hid hq
            have hqw : IntKind.i64.wrap ((q : Int) + 1) = (q : Int) + 1 := by rw [IntKind.wrap_i64]; omega
            clear hset hq
            go_wp2
            go_roundw
            case rel => exact ⟨q + 1, Lib.hid HQT.out, by go_num, Lib.hid (HSET.out _)⟩
            case measure => have := HQT.out; simp [intOf]; omega
          · have hqi : ¬ (q : Int) < (m2 : Int) := by omega
            clear hq
            go_wp2
            go_roundw
            case rel =>
              have hF := fA_own HX2.out
              have hcq := HWR.out.1
              have hcc : Chg [gm] wo wr := ((Chg.of (F := [gm]) HB2.out).trans hc3.out (fun x hx => .inl hx)).trans hcq (fun x hx => .inr (hF x hx).1)
              have hVq : VV b wr gv gm gs (some ⟨r, 0, none⟩) (n' + 1) (upC C' d.slot y) := by
                refine hv3.out.keep hcq (fun hx => ?_) (fun hx => ?_) (fun a x k' hx hk' hf => ?_)
                · have := (hF _ hx).1; have := HV.out.row.lt; omega
                · have := (hF _ hx).1; have := HV.out.map.lt; omega
                · by_cases e : a = d.slot
                  · subst e
                    rw [upC_same] at hx
                    injection hx with hx
                    subst hx
                    have := hyo.out k' hk'
                    have := (hF _ hf).2
                    omega
                  · rw [upC_other _ _ e] at hx
                    have := ((HV.out.own a x hx).lt k' hk').2
                    have := (hF _ hf).1
                    omega
              refine ⟨k + 1, xs, A', m, c', n' + 1, upC C' d.slot y, Lib.hid HKT.out, by go_num, rfl, HM, Lib.hid (by have := HXK.out; omega), Lib.hid ?_, Lib.hid (Chg.own HO.out hcc (fun k' hk' hf => by rw [List.mem_singleton] at hf; subst hf; exact own_ne_map HO.out HV.out.map hk')), Lib.hid (fun x hx => (HO8.out x hx).chg hcc (map_noB HV.out.map)), Lib.hid hVq, Lib.hid (by have := HNN.out; omega), Lib.hid (hcc.row HRR.out (fun hx => by rw [List.mem_singleton] at hx; exact HV.out.map.no_cells _ _ _ (hx ▸ HRR.out.heap))), Lib.hid (HC.out.trans hcc (fun x hx => .inl hx))⟩
              have h1 := HTK.out
              rw [HDR.out, runP_put HPT.out] at h1
              rw [byL_up, hy.out]
              exact h1
            case measure => have := HKT.out; simp [intOf]; omega
      | false =>
        have HSo := Lib.hid (HS.out.keep HBL.out)
        cases hS : seeF C' (srcF Bs Ks) d.slot with
        | none =>
          have HSN := Lib.hid hS
          have HW := Lib.hid (vsee_not HV.out HSo.out HRR.out d.slot (HD.out.i64 d HDM.out) hS)
          clear hS
          go_wp2_with (first
            | (go_at_call 22; refine HW.out.mono ?_; rintro e w5 ⟨he, h1, h2⟩; unfold runE at he; subst he))
          refine ⟨rfl, .inr ⟨d.slot, n', C', rfl, Lib.hid ?_, Lib.hid ?_, h1, Lib.hid ?_⟩⟩
          · have h3 := HTK.out
            rw [HDR.out, runP_not HPT.out HSN.out] at h3
            exact h3.symm
          · refine HV.out.keepN h2.out (fun hx => ?_) (fun hx => ?_) (fun j hj cs fr => by rw [List.mem_singleton] at hj; subst hj; exact row_noB HRR.out (by decide) _ _)
            · exact HV.out.row.ne_ HRR.out (by decide) (List.mem_singleton.1 hx)
            · rw [List.mem_singleton] at hx
              exact HV.out.map.no_cells _ _ _ (hx ▸ HRR.out.heap)
          · exact (HC.out.wider (fun x hx => .inl (by simp at hx; simp [hx]))).trans h2.out (fun x hx => .inl (by simp at hx; simp [hx]))
        | some x =>
          have HSS := Lib.hid hS
          have HW := Lib.hid (vsee HV.out HSo.out d.slot (HD.out.i64 d HDM.out) x hS)
          have HXL := Lib.hid (see_hol HV.out HSo.out hS).2
          clear hS
          go_wp2_with (first
            | (go_at_call 22; refine HW.out.mono ?_; rintro e w4 ⟨y, rfl, hy, ho4, hb4⟩
               have HY := hy; have HO4 := ho4; have HB4 := hb4; clear hy ho4 hb4)
            | (at_builtin
               refine wpList_app _ rfl _ _ _ rfl 5 i U w4.heap.size (.slice (some ⟨w4.heap.size, 0, none⟩) 0 0) 0 [] rfl (void_own w4 _ 1 _ (Nat.le_refl _)) y.A y.l.length y.c y.l rfl rfl (HO4.out.hol.below ((Below.refl _ _).alloc (Nat.le_refl _) _)) (by have h9 := HXL.out; rw [← HY.out] at h9; omega) (by simp) ?_
               intro v2' w6 hown2 hg2 hat2
               rw [List.nil_append, Nat.zero_add] at hown2
               obtain ⟨Az, cz, rfl⟩ := own_sl hown2
               have hb6 : Below w4.heap.size w4 w6 := ((Below.refl _ _).alloc (Nat.le_refl _) _).grown hg2 (by simp) (fun q hq => by have h0 : some w4.heap.size = some q := hq; injection h0 with h0; omega)
               have HZ6 := Lib.hid (p := Own8 w4.heap.size w6 ⟨Az, cz, y.l⟩) hown2
               have HB46 := Lib.hid hb6
               have HB6 := Lib.hid (below_nxt hb6 HB4.out)
               have HSR := Lib.hid (own_kept HO.out HB6.out)
               clear hown2 hg2 hat2 hb6)
            | (at_builtin
               refine wp_join rfl _ _ rfl rec_sl w.heap.size (.slice A' m c') m (xs.flatMap sc) rfl (HSR.out.kept (World.grownBy_alloc w6 _ none) (by cases hx : (Value.slice A' m c').ownBlock with | none => exact .inl rfl | some k => exact .inr (by simp))) (some ⟨w6.heap.size, 0, none⟩) 1 1 (sc ⟨Az, cz, y.l⟩) rfl rfl (made_src w6 (sc ⟨Az, cz, y.l⟩) _) (sc_one _) (by have := HM.out; have := HXK.out; have := HKT.out; have := HD.out.lim; omega) (by have := HC.out.size; have := HB6.out.size; simp; omega) ?_
               intro v1 w7 ho1 hg1 hat1
               have HG7 := Lib.hid hg1
               have HO7 := Lib.hid ho1
               obtain ⟨A1, c1, rfl⟩ := own_sl ho1
               clear ho1 hg1 hat1))
          have HV7 := Lib.hid ((HV.out.below HB6.out).grown_own HSR.out (by decide) (by decide) HG7.out)
          have HR7 := Lib.hid (((HRR.out.kept HB6.out).alloc _).grown HG7.out (fun e' => row_parted (HRR.out.kept HB6.out) HSR.out (by decide) e'.symm))
          have HY7 := Lib.hid (own8_more (by decide) HSR.out (HO4.out.below HB46.out) HG7.out)
          have HZ7 := Lib.hid (own8_more (by decide) HSR.out HZ6.out HG7.out)
          have HE7 := Lib.hid (p := ∀ z ∈ xs, Own8 w.heap.size w7 z) (fun z hz => own8_more (by decide) HSR.out ((HO8.out z hz).below HB6.out) HG7.out)
          have HC7 := Lib.hid (p := Chg [gm] w w7) (((HC.out.trans (Chg.of (F := [gm]) HB6.out) (fun x hx => .inl hx)).alloc _).grown HG7.out (fun k' hk' => .inr (HSR.out.lt k' hk').1))
          have HF := Lib.hid (fA_own HO4.out)
          have HN7 := Lib.hid (p := ∀ g' ∈ fA y.A, (Value.slice A1 (m + 1) c1).ownBlock ≠ some g') (fun g' hg' e' => by
            have h1 := (fA_iff y g').1 hg'
            rcases own_parted HY7.out HO7.out (by decide) with h2 | h2
            · rw [h1] at h2; cases h2
            · exact h2 (h1.trans e'.symm))
          obtain ⟨m2, hm2⟩ : ∃ m2, y.l.length = m2 := ⟨_, rfl⟩
          rw [hm2]
          have HW0 := Lib.hid (p := Wr y.A m2 w7 w7) (by rw [← hm2]; exact Wr.start HY7.out)
          have hm3 : m2 ≤ 131072 := by rw [← hm2, HY.out]; exact HXL.out
          clear hm2 cz0 cz1 cz2 ca2
          go_loopw [10] (fun x wr => ∃ q : Nat, Hid (q ≤ m2) ∧ x = .int .i64 (q : Int) ∧ Hid (Wr y.A m2 w7 wr)) (fun x _ => m2 - (intOf x).toNat)
          case atStart => exact ⟨0, Lib.hid (Nat.zero_le _), rfl, HW0⟩
          case round =>
            obtain ⟨q, HQL, rfl, HWR⟩ := hrel
            by_cases hq : q < m2
            · have hqi : (q : Int) < (m2 : Int) := by omega
              obtain ⟨g2, v2, e2, cc, ff, hset⟩ := HWR.out.cell hq
              rw [e2] at hset ⊢
              have HSET := Lib.hid hset
              have HQT := Lib.hid hq
              have hqw : IntKind.i64.wrap ((q : Int) + 1) = (q : Int) + 1 := by rw [IntKind.wrap_i64]; omega
              clear hset hq
              go_wp2
              go_roundw
              case rel => exact ⟨q + 1, Lib.hid HQT.out, by go_num, Lib.hid (HSET.out _)⟩
              case measure => have := HQT.out; simp [intOf]; omega
            · have hqi : ¬ (q : Int) < (m2 : Int) := by omega
              clear hq
              go_wp2
              go_roundw
              case rel =>
                have hF := HF.out
                have hcq := HWR.out.1
                have hls := HB6.out.size
                have lw := HC.out.size
                refine ⟨k + 1, xs ++ [⟨Az, cz, y.l⟩], A1, m + 1, c1, n', C', Lib.hid HKT.out, by go_num, rfl, Lib.hid (by rw [List.length_append, HM.out]; rfl), Lib.hid (by have := HXK.out; rw [List.length_append]; simp; omega), Lib.hid ?_, Lib.hid ?_, Lib.hid (fun z hz => ?_), Lib.hid ?_, Lib.hid (by have := HNN.out; omega), Lib.hid ?_, Lib.hid ?_⟩
                · have h3 := HTK.out
                  rw [HDR.out, runP_see HPT.out HSS.out] at h3
                  rw [List.map_append, List.map_singleton, HY.out]
                  exact h3
                · rw [flat_snoc]
                  exact Chg.own HO7.out hcq (fun k' hk' hf => HN7.out k' hf hk')
                · rcases List.mem_append.1 hz with hz | hz
                  · refine Chg.own (HE7.out z hz) hcq (fun k' hk' hf => ?_)
                    have := ((HO8.out z hz).lt k' hk').2
                    have := (hF _ hf).1
                    omega
                  · rw [List.mem_singleton] at hz
                    subst hz
                    refine Own8.lower (Chg.own HZ7.out hcq (fun k' hk' hf => ?_)) (by have := HB4.out.size; omega)
                    have := (HZ6.out.lt k' hk').1
                    have := (hF _ hf).2
                    omega
                · refine HV7.out.keep hcq (fun hx => ?_) (fun hx => ?_) (fun a z k' hz hk' hf => ?_)
                  · have := (hF _ hx).1; have := HV.out.row.lt; omega
                  · have := (hF _ hx).1; have := HV.out.map.lt; omega
                  · have := ((HV.out.own a z hz).lt k' hk').2
                    have := (hF _ hf).1
                    omega
                · exact hcq.row HR7.out (fun hx => by have := (hF _ hx).1; have := HRR.out.lt; omega)
                · exact HC7.out.trans hcq (fun z hz => .inr (by have := (hF _ hz).1; omega))
              case measure => have := HKT.out; simp [intOf]; omega
    · have hkz : ¬ (k : Int) < (ds.length : Int) := by omega
      have hke : k = ds.length := by have := HKL.out; omega
      have HKE := Lib.hid hke
      clear hk hke
      go_wp2
      go_ret
      obtain rfl := HM.out
      refine .inl ⟨xs, A', c', n', C', rfl, Lib.hid ?_, HO, HO8, HV, Lib.hid (by have := HNN.out; have := HD.out.lim; have := HKE.out; omega), HRR, HC⟩
      have h1 := HTK.out
      rw [HKE.out, List.drop_length] at h1
      exact h1.symm
end
end Go.Proofs.Ytpobppoaidngeaa
