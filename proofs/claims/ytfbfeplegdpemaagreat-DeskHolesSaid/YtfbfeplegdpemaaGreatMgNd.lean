/- Cut, of a file that lies on a desk. Conditions: those named. -/
import Derived.Test.YtfbfeplegdpemaaGreatMgNc
import Derived.Test.YtfbfeplegdpemaaGreatLc
set_option linter.unusedVariables false
set_option maxRecDepth 20000
namespace Go.Proofs.YtfbfeplegdpemaaGreat
open Go.RowKit

section
variable {Bs : List BV}
theorem give_out (X : DX) (z : Nat) (a : Int) (h : (z : Int) ≠ a) : seeX (X.give z) Bs a = seeX X Bs a := by
  unfold DX.give
  rw [seeX_put_ne _ _ _ _ (Ne.symm h), seeX_setS]
theorem gives_out (X : DX) (W0 R : Nat → Int) (a : Int) (hW : ∀ j, j < 128 → 0 ≤ W0 j) : ∀ k, k ≤ 128 → (∀ j, j < k → R j = 0 → W0 j ≠ 0 → W0 j ≠ a) → seeX (X.gives W0 R k) Bs a = seeX X Bs a
  | 0, _, _ => rfl
  | k + 1, hk, h => by
    have ih := gives_out X W0 R a hW k (by omega) (fun j hj => h j (by omega))
    show seeX (if R k = 0 ∧ W0 k ≠ 0 then (X.gives W0 R k).give (W0 k).toNat else X.gives W0 R k) Bs a = _
    by_cases hq : R k = 0 ∧ W0 k ≠ 0
    · rw [if_pos hq, give_out _ _ _ (by
        have h1 := h k (by omega) hq.1 hq.2
        have h2 := hW k (by omega)
        omega)]
      exact ih
    · rw [if_neg hq]
      exact ih
theorem giveL_out (X : DX) (v26 L a : Int) (h0 : 0 ≤ v26) (h : v26 ≠ a) : seeX (X.giveL v26 L) Bs a = seeX X Bs a := by
  unfold DX.giveL
  by_cases hq : L = 0 ∧ v26 ≠ 0
  · rw [if_pos hq, give_out _ _ _ (by omega)]
  · rw [if_neg hq]
theorem giveL_kept (X : DX) (v26 L : Int) (h : L ≠ 0) : X.giveL v26 L = X := by
  unfold DX.giveL
  rw [if_neg (fun hq => h hq.1)]
theorem CW.zero {X : DX} {f : Nat → UInt8} (h : CW X Bs 0 f) : ∀ q, q < 256 → f q = 0 := fun q hq => by
  obtain ⟨g, h1, h2⟩ := h
  rcases h1 with ⟨_, h3⟩ | ⟨h3, _⟩
  · rw [← h2 q hq, h3]
  · exact absurd h3 (Nat.lt_irrefl 0)
theorem CW.of_zero (X : DX) {f : Nat → UInt8} (h : ∀ q, q < 256 → f q = 0) : CW X Bs 0 f := ⟨fun _ => 0, .inl ⟨rfl, rfl⟩, fun q hq => (h q hq).symm⟩
end
section
variable {Bs : List BV} {X X2 X3 : DX} {v v' R R2 : Nat → Int} {m : Nat} {F F2 : Nat → UInt8}
set_option maxHeartbeats 4000000 in
theorem FO.cutted (h : FO Bs X v R m F) (z e last st : Nat) (he : z ≤ e * 256 ∧ e * 256 < z + 256) (hls : z = last * 256 + st ∧ st < 256) (hl : last < 128) (f : Nat → UInt8) (hf : ∀ q, q < 256 → f q = F (last * 256 + q)) (L2 : Int) (hR2 : cutR R e = R2) (hL2 : L2 = if lsd R2 = true then v 26 else 0)
    (hX2 : X2 = if st ≠ 0 ∧ sameF f st = false then ((X.gives R R2 128).giveL (v 26) L2).put (R last) (lst 256 (cutF f st)) else (X.gives R R2 128).giveL (v 26) L2) (hcut : st ≠ 0 ∧ sameF f st = false → R last ≠ 0)
    (hPL : PL X2 (v 26) L2 R R2 X3) (hv' : ∀ j, j < 16 → v' (10 + j) = R2 j) (hv26 : v' 26 = L2) (hF2 : ∀ i, F2 i = if i < z then F i else 0) : FO Bs X3 v' R2 m F2 := by
  have hb := h.bounds
  have h26 := h.v26
  have hRe : ∀ j, j < e → R2 j = R j := fun j hj => by rw [← hR2]; exact if_pos hj
  have hRo : ∀ j, ¬ j < e → R2 j = 0 := fun j hj => by rw [← hR2]; exact if_neg hj
  have hL0 : L2 = 0 ∨ (L2 = v 26 ∧ L2 ≠ 0) := by
    rw [hL2]
    by_cases hq : lsd R2 = true
    · rw [if_pos hq]
      by_cases h0 : v 26 = 0
      · exact .inl h0
      · exact .inr ⟨rfl, h0⟩
    · rw [if_neg hq]
      exact .inl rfl
  -- a slot that stays is seen as it was ahead of the list and of the cut block
  have hg : ∀ a : Int, v 26 ≠ a → (∀ j, j < 128 → R2 j = 0 → R j ≠ 0 → R j ≠ a) → seeX ((X.gives R R2 128).giveL (v 26) L2) Bs a = seeX X Bs a := fun a h1 h2 => by
    rw [giveL_out _ _ _ _ h26.1 h1, gives_out X R R2 a (fun j hj => (hb j hj).1) 128 (Nat.le_refl _) h2]
  have hne26 : ∀ j, j < 128 → R j ≠ 0 → v 26 ≠ R j := fun j hj h0 => by
    rcases h.list with ⟨h1, _⟩ | ⟨z', h1, _, _, _, h5⟩
    · rw [h1]; exact Ne.symm h0
    · rw [h1]; exact Ne.symm (h5 j hj)
  have hsee3 : ∀ j, j < 128 → R j ≠ 0 → seeX X3 Bs (R j) = seeX X2 Bs (R j) := fun j hj h0 => by
    rcases hPL with ⟨_, h2⟩ | ⟨h1, _, h2⟩
    · rw [h2]
    · rw [h2, seeX_put_ne]
      rcases hL0 with h3 | ⟨h3, _⟩
      · exact absurd h3 h1
      · rw [h3]
        exact Ne.symm (hne26 j hj h0)
  refine ⟨fun j hj => (hv' j hj).symm, ?_, fun j hj => ?_, fun i j hi hj h1 h2 => ?_, h.lim⟩
  · rcases hL0 with h0 | ⟨h0, hne⟩
    · refine .inl ⟨hv26.trans h0, fun j h16 hj => ?_⟩
      by_cases hq : lsd R2 = true
      · rw [if_pos hq] at hL2
        have hv0 : v 26 = 0 := hL2.symm.trans h0
        rcases h.list with ⟨_, h2⟩ | ⟨z', h2, h3, _⟩
        · by_cases hje : j < e
          · rw [hRe j hje]; exact h2 j h16 hj
          · exact hRo j hje
        · exfalso
          rw [h2] at hv0
          have : z' = 0 := Int.ofNat.inj hv0
          rw [this] at h3
          exact Nat.lt_irrefl 0 h3
      · by_cases h0 : R2 j = 0
        · exact h0
        · exact absurd ((lsd_iff R2).2 ⟨j - 16, by clear hL2 hX2 hPL hg; omega, by rw [show 16 + (j - 16) = j by clear hL2 hX2 hPL hg; omega]; exact h0⟩) hq
    · rcases h.list with ⟨h1, _⟩ | ⟨z', h1, h2, h3, h4, h5⟩
      · exact absurd (h0.trans h1) hne
      · refine .inr ⟨z', by rw [hv26, h0, h1], h2, h3, ?_, fun j hj => ?_⟩
        · have hno : ∀ j, j < 128 → R j ≠ (z' : Int) := h5
          rcases hPL with ⟨h6, h7⟩ | ⟨_, _, h7⟩
          · rcases h6 with h6 | ⟨_, h6⟩
            · exact absurd h6 hne
            · have h8 : seeX X2 Bs (z' : Int) = seeX X Bs (z' : Int) := by
                have h9 : seeX ((X.gives R R2 128).giveL (v 26) L2) Bs (z' : Int) = seeX X Bs (z' : Int) := by
                  rw [giveL_kept _ _ _ hne, gives_out X R R2 _ (fun j hj => (hb j hj).1) 128 (Nat.le_refl _) (fun j hj _ _ => hno j hj)]
                rw [hX2]
                by_cases hq : st ≠ 0 ∧ sameF f st = false
                · rw [if_pos hq, seeX_put_ne _ _ _ _ (Ne.symm (hno last hl))]
                  exact h9
                · rw [if_neg hq]
                  exact h9
              rw [h7, h8, h4]
              exact congrArg some (blk_s2 (fun j hj => (h6 j hj).symm))
          · rw [h7, h0, h1]
            exact seeX_put _ _ _
        · by_cases hje : j < e
          · rw [hRe j hje]; exact h5 j hj
          · rw [hRo j hje]
            intro h9
            have : z' = 0 := (Int.ofNat.inj h9).symm
            rw [this] at h2
            exact Nat.lt_irrefl 0 h2
  · obtain ⟨z0, hz0, hz1, hw⟩ := h.cont j hj
    by_cases hje : j < e
    · by_cases h00 : z0 = 0
      · subst h00
        refine ⟨0, by rw [hRe j hje]; exact hz0, hz1, CW.of_zero _ (fun q hq => ?_)⟩
        rw [hF2, hw.zero q hq]
        exact ite_self _
      · have hne : R j ≠ 0 := by rw [hz0]; clear hL2 hX2 hPL hg; omega
        refine ⟨z0, by rw [hRe j hje]; exact hz0, hz1, ?_⟩
        have hz256 : z0 < 256 := Nat.lt_of_lt_of_le hz1 h.lim
        have hkeep : seeX ((X.gives R R2 128).giveL (v 26) L2) Bs (R j) = seeX X Bs (R j) := hg (R j) (hne26 j hj hne) (fun i hi h1 h2 h3 => by
          have h4 := h.inj i j hi hj h3 h2
          rw [h4, hRe j hje] at h1
          exact hne h1)
        by_cases hq : st ≠ 0 ∧ sameF f st = false
        · rw [if_pos hq] at hX2
          by_cases hjl : j = last
          · subst hjl
            refine CW.at ⟨Nat.pos_of_ne_zero h00, hz256⟩ (g := cutF f st) ?_ (fun q hq2 => ?_)
            · rw [← hz0, hsee3 j hj hne, hX2]
              exact seeX_put _ _ _
            · unfold cutF
              rw [hF2]
              by_cases hqs : q < st
              · rw [if_pos hqs, if_pos (by clear hL2 hX2 hPL hg; omega), hf q hq2]
              · rw [if_neg hqs, if_neg (by clear hL2 hX2 hPL hg; omega)]
          · have hjlt : j < last := by clear hL2 hX2 hPL hg; omega
            obtain ⟨g, hg1, hg2⟩ := hw
            refine CW.congr (X := X) ⟨g, hg1, fun q hq2 => by
              rw [hg2 q hq2]
              show F (j * 256 + q) = F2 (j * 256 + q)
              rw [hF2, if_pos (by clear hL2 hX2 hPL hg; omega)]⟩ (fun _ => ?_)
            rw [← hz0, hsee3 j hj hne, hX2, seeX_put_ne _ _ _ _ (fun h1 => hjl (h.inj j last hj hl h1 hne))]
            exact hkeep
        · rw [if_neg hq] at hX2
          obtain ⟨g, hg1, hg2⟩ := hw
          refine CW.congr (X := X) ⟨g, hg1, fun q hq2 => ?_⟩ (fun _ => by rw [← hz0, hsee3 j hj hne, hX2]; exact hkeep)
          rw [hg2 q hq2]
          show F (j * 256 + q) = F2 (j * 256 + q)
          rw [hF2]
          by_cases hiz : j * 256 + q < z
          · rw [if_pos hiz]
          · rw [if_neg hiz]
            have hjl : j = last := by clear hL2 hX2 hPL hg; omega
            have hst : st ≠ 0 := by clear hL2 hX2 hPL hg; omega
            subst hjl
            have hsm : sameF f st = true := by
              cases hs : sameF f st with
              | true => rfl
              | false => exact absurd ⟨hst, hs⟩ hq
            have h1 := (sameF_iff f st).1 hsm q hq2
            rw [← hf q hq2, ← h1]
            unfold cutF
            rw [if_neg (by clear hL2 hX2 hPL hg; omega)]
    · refine ⟨0, hRo j hje, by clear hL2 hX2 hPL hg; omega, CW.of_zero _ (fun q hq => ?_)⟩
      rw [hF2, if_neg (by clear hL2 hX2 hPL hg; omega)]
  · by_cases hie : i < e
    · by_cases hje : j < e
      · rw [hRe i hie, hRe j hje] at h1
        rw [hRe i hie] at h2
        exact h.inj i j hi hj h1 h2
      · rw [hRo j hje] at h1
        exact absurd h1 h2
    · exact absurd (hRo i hie) h2
end
end Go.Proofs.YtfbfeplegdpemaaGreat
/- Cut, of a file that lies on a desk, called. Conditions: those named. -/
set_option linter.unusedVariables false
set_option maxRecDepth 20000
namespace Go.Proofs.YtfbfeplegdpemaaGreat
open Go.RowKit

section
variable {b : Nat} {w w' : World} {gd gv gm gs r : Nat} {Bs : List BV} {N n m : Nat} {X : DX} {v R : Nat → Int} {F F2 : Nat → UInt8}
/-- What Cut leaves. -/
def WasCut (b : Nat) (w : World) (gd gv gm gs r : Nat) (Bs : List BV) (N n m z : Nat) (F2 : Nat → UInt8) (ee : Ending) (w' : World) : Prop :=
  ∃ (v2 R2 : Nat → Int) (X2 : DX), ee = .returned (.agg (ncs v2).toArray) ∧ Hid (FO Bs X2 v2 R2 m F2) ∧ Hid (X2.rd = true) ∧ Hid (v2 5 = (z : Int)) ∧ Hid ((∀ j, z ≤ j * 256 → R2 j = 0) ∧ (v2 26 = 0 ∨ lsd R2 = true)) ∧ Hid (DK b w' gd gv gm gs r Bs N (n + 131) X2) ∧ Hid (Chg [gd, gm] w w')
set_option maxHeartbeats 4000000 in
theorem FO.cut (h : FO Bs X v R m F) (hrd : X.rd = true) (z : Nat) (hz : z ≤ 32512) (hn : n + 131 ≤ 1000) (hk : DK b w gd gv gm gs r Bs N n X) (hF2 : ∀ i, F2 i = if i < z then F i else 0) :
    Calls Tryz.prog 18 #[.pointer (some ⟨gd, 0, none⟩), .agg (ncs v).toArray, .int .i64 (z : Int)] w (WasCut b w gd gv gm gs r Bs N n m z F2) := by
  obtain ⟨last, hlast⟩ : ∃ last, z / 256 = last := ⟨_, rfl⟩
  obtain ⟨st, hst⟩ : ∃ st, z % 256 = st := ⟨_, rfl⟩
  obtain ⟨e, he0⟩ : ∃ e, (z + 255) / 256 = e := ⟨_, rfl⟩
  have hls : z = last * 256 + st ∧ st < 256 := by omega
  have he : z ≤ e * 256 ∧ e * 256 < z + 256 := by omega
  have hl : last < 128 := by omega
  clear hlast hst he0
  obtain ⟨zl, hzl, _, f, hf1, hf2⟩ := h.cont last hl
  obtain ⟨R2, hR2⟩ : ∃ R2, cutR R e = R2 := ⟨_, rfl⟩
  obtain ⟨L2, hL2⟩ : ∃ L2, (if lsd R2 = true then v 26 else 0) = L2 := ⟨_, rfl⟩
  obtain ⟨X2, hX2⟩ : ∃ X2, (if st ≠ 0 ∧ sameF f st = false then ((X.gives R R2 128).giveL (v 26) L2).put (R last) (lst 256 (cutF f st)) else (X.gives R R2 128).giveL (v 26) L2) = X2 := ⟨_, rfl⟩
  have hgr : ∀ k, (X.gives R R2 k).rd = X.rd := fun k => by
    induction k with
    | zero => rfl
    | succ k ih =>
      show (if R2 k = 0 ∧ R k ≠ 0 then (X.gives R R2 k).give (R k).toNat else X.gives R R2 k).rd = _
      split
      · exact ih
      · exact ih
  have hX2r : X2.rd = true := by
    rw [← hX2, ← hrd, ← hgr 128]
    have h1 : ((X.gives R R2 128).giveL (v 26) L2).rd = (X.gives R R2 128).rd := by
      unfold DX.giveL
      split <;> rfl
    split
    · exact h1
    · exact h1
  have hPLx : ∃ X3, PL X2 (v 26) L2 R R2 X3 ∧ X3.rd = X2.rd := by
    by_cases hp : L2 = 0 ∨ (L2 = v 26 ∧ ∀ j, j < 112 → R2 (16 + j) = R (16 + j))
    · exact ⟨X2, .inl ⟨hp, rfl⟩, rfl⟩
    · refine ⟨X2.put L2 (blk s2 (fun j => R2 (16 + j)) 112), .inr ⟨fun h => hp (.inl h), ?_, rfl⟩, rfl⟩
      by_cases h1 : L2 = v 26
      · exact .inr (fun h2 => hp (.inr ⟨h1, h2⟩))
      · exact .inl h1
  obtain ⟨X3, hPL, hX3r⟩ := hPLx
  have hg128 := gvs_le R R2 128
  have hgl : gvL (v 26) L2 ≤ 1 := by unfold gvL; split <;> decide
  have hcut : st ≠ 0 ∧ sameF f st = false → R last ≠ 0 := fun hq h0 => by
    have hz0 : zl = 0 := Int.ofNat.inj (hzl.symm.trans h0)
    rcases hf1 with ⟨_, h1⟩ | ⟨h1, _⟩
    · have h2 : sameF f st = true := (sameF_iff f st).2 (fun j _ => by rw [h1]; exact ite_self _)
      rw [h2] at hq
      cases hq.2
    · rw [hz0] at h1
      exact Nat.lt_irrefl 0 h1
  have hn2 : n + gvs R R2 128 + gvL (v 26) L2 + 2 ≤ 1000 := by clear hL2 hX2 hPL; omega
  have hn3 : n + gvs R R2 128 + gvL (v 26) L2 + 2 ≤ n + 131 := by clear hL2 hX2 hPL; omega
  have hw := dcut (X' := X) (X2 := X2) (X3 := X3) v R R2 z e last st f L2 hk (.inl ⟨hrd, rfl⟩) hR2 hn2 hz he hls (h.row 128 (by decide)) h.bounds h.v26 hL2.symm (fun _ => ⟨zl, hzl, hf1⟩) hX2.symm hPL
  refine hw.mono ?_
  rintro ee w' ⟨rfl, hk2, hc2⟩
  refine ⟨_, R2, X3, rfl, Lib.hid ?_, Lib.hid (hX3r.trans hX2r), Lib.hid rfl, Lib.hid ⟨fun j hj => ?_, ?_⟩, Lib.hid (hk2.out.mono hn3), hc2⟩
  · refine h.cutted z e last st he hls hl f hf2 L2 hR2 hL2.symm hX2.symm hcut hPL (fun j hj => ?_) rfl hF2
    unfold toldV
    rw [if_neg (by clear hL2 hX2 hPL; omega), if_neg (by clear hL2 hX2 hPL; omega), if_pos (by clear hL2 hX2 hPL; omega), show 10 + j - 10 = j by clear hL2 hX2 hPL; omega]
  · rw [← hR2]
    exact if_neg (by clear hL2 hX2 hPL; omega)
  · by_cases hq : lsd R2 = true
    · exact .inr hq
    · refine .inl ?_
      show L2 = 0
      rw [← hL2, if_neg hq]
end
end Go.Proofs.YtfbfeplegdpemaaGreat
/- The empty file; Write of no bytes; a whole file read; how many slots a file takes. Conditions: those named. -/
set_option linter.unusedVariables false
set_option maxRecDepth 20000
namespace Go.Proofs.YtfbfeplegdpemaaGreat
open Go.RowKit

/-- The file that was made first. -/
theorem fo_empty (Bs : List BV) (X : DX) (s : Nat) : FO Bs X (vA s) (rowD (vA s)) 2 (fun _ => 0) := by
  have hz : ∀ j, rowD (vA s) j = 0 := rowD_zero s
  refine ⟨fun j hj => by unfold rowD; rw [if_pos hj], .inl ⟨?_, fun j _ _ => hz j⟩, fun j _ => ⟨0, hz j, by decide, CW.of_zero _ (fun _ _ => rfl)⟩, fun i j _ _ _ h => absurd (hz i) h, by decide⟩
  rw [vA_ne s (by decide)]
  decide
section
variable {b : Nat} {w w' : World} {gd gv gm gs r : Nat} {Bs : List BV} {N n m : Nat} {X : DX} {v R : Nat → Int} {F : Nat → UInt8}
set_option maxHeartbeats 1000000 in
theorem dwrite_none (v : Nat → Int) (A : Option Addr) (c : Nat) (off : Int) (h : DK b w gd gv gm gs r Bs N n X) (hn : n ≤ 1000) : Calls Tryz.prog 16 #[.pointer (some ⟨gd, 0, none⟩), .agg (ncs v).toArray, .int .i64 off, .slice A 0 c] w (DOne b w gd gv gm gs r Bs N n X (.agg (ncs v).toArray)) := by
  have HBG := Lib.hid (hbegin h hn)
  have HLT := Lib.hid h.lt
  have HLO := Lib.hid h.lo
  have i2 := Lib.hid (fun v => info_ncs v)
  have hzi := Lib.hid zero_ino
  clear h hn
  go_enter Tryz.func16, Tryz.ntmps16
  go_wp2_with (first
    | (refine step_box rfl 5 rfl 44 (.tmp 1) rfl (ncs v) rfl ?_; intro g5 w2 hr2 hg2 hb2 hs2
       have HR52 := Lib.hid hr2
       have HB2 := Lib.hid hb2
       have HG5 := Lib.hid (p := w.heap.size ≤ g5) (Nat.le_of_eq hg2.out.symm)
       clear hr2 hg2 hb2 hs2)
    | (refine step_alloc rfl 8 rfl 44 rfl _ hzi.out ?_; intro g8 w3 hr3 hg3 hb3 hs3
       have HR83 := Lib.hid hr3
       have HR53 := Lib.hid (HR52.out.kept hb3)
       have HB3 := Lib.hid (below_nxt hb3 HB2.out)
       have HG8 := Lib.hid (p := w.heap.size ≤ g8 ∧ g5 < g8) (by rw [hg3.out]; exact ⟨HB2.out.size, HR52.out.lt⟩)
       clear hr3 hg3 hb3 hs3)
    | (go_at_call 36; refine (HBG.out _ HB3.out).mono ?_; rintro e w4 ⟨rfl, hk, hc⟩
       have HK4 := hk
       have HC4 := Lib.hid (p := Chg [gd] w w4) ((Chg.of (F := [gd]) HB3.out).trans hc.out (fun x hx => .inl hx))
       have HR54 := Lib.hid (hc.out.row HR53.out (by have h1 := HLT.out; have h2 := HG5.out; simp; omega))
       have HR84 := Lib.hid (hc.out.row HR83.out (by have h1 := HLT.out; have h2 := HG8.out; simp; omega))
       clear hk hc)
    | (refine step_load rfl 28 rfl 44 (.tmp 5) rfl g5 rfl (ncs v) _ HR54.out.all Tryz.underlying44 rfl (i2.out _) ?_)
    | (refine step_store rfl 44 (.tmp 8) (.tmp 28) rfl g8 rfl _ _ (ncs v) rfl HR84.out rfl (i2.out _) (ncs_one _) ?_; intro w9 hr9 hg9 hs9
       have HR9 := Lib.hid hr9
       have HK9 := Lib.hid (HK4.out.other HR84.out (by decide) (by have := HLO.out; have := HG8.out; omega) (Chg.one hg9))
       have HC9 := Lib.hid (p := Chg [gd] w w9) (chg_own HC4.out HG8.out.1 (Chg.one hg9))
       clear hr9 hg9 hs9))
  refine bodyPost_ret (results_cell_row rfl _ _ g8 _ _ _ _ rfl HR9.out Tryz.underlying44 rfl (by simpa using i2.out _)) rfl ?_
  exact ⟨rfl, HK9, HC9⟩
/-- A file, read from its beginning. -/
theorem FO.all (h : FO Bs X v R m F) (count sz : Nat) (hk : DK b w gd gv gm gs r Bs N n X) (hn : n ≤ 1000) (hsz : v 5 = (sz : Int)) (hsz2 : sz ≤ 32768) (hcount : 1 ≤ count ∧ count ≤ 32768) :
    Calls Tryz.prog 17 #[.pointer (some ⟨gd, 0, none⟩), .agg (ncs v).toArray, .int .i64 0, .int .i64 (count : Int)] w (DSee b w gd gv gm gs r Bs N n X (lst (min count sz) F)) := by
  by_cases h0 : sz = 0
  · have h1 := dread_nil v 0 count hk hn sz hsz hsz2 (by omega)
    have e : lst (min count sz) F = [] := by rw [h0, Nat.min_zero]; rfl
    rw [e]
    exact h1
  · have h1 := h.read 0 count (min count sz) sz hk hn hsz hsz2 hcount.2 (by omega) (by rw [Nat.sub_zero]) (Nat.le_min.2 ⟨hcount.1, by omega⟩)
    have e : (fun i => F (0 + i)) = F := by funext i; rw [Nat.zero_add]
    rw [e] at h1
    exact h1
theorem FO.takes (h : FO Bs X v R m F) (hk : DK b w gd gv gm gs r Bs N n X) (hn : n ≤ 1000) : Calls Tryz.prog 19 #[.pointer (some ⟨gd, 0, none⟩), .agg (ncs v).toArray] w (DOne b w gd gv gm gs r Bs N n X (.int .i64 (tks R : Int))) := dtakes v R hk hn (h.row 128 (by decide))
theorem tks_zero (R : Nat → Int) (h : ∀ j, j < 128 → R j = 0) : tks R = 0 := by
  have h1 : ∀ k, k ≤ 128 → cnz R k = 0 := fun k => by
    induction k with
    | zero => exact fun _ => rfl
    | succ k ih =>
      intro hk
      show cnz R k + (if R k = 0 then 0 else 1) = 0
      rw [ih (by omega), h k (by omega), if_pos rfl]
  have h2 : ¬ lsd R = true := fun hq => by
    obtain ⟨j, hj, hne⟩ := (lsd_iff R).1 hq
    exact hne (h (16 + j) (by omega))
  unfold tks
  rw [h1 128 (Nat.le_refl _), if_neg h2]
end
end Go.Proofs.YtfbfeplegdpemaaGreat
/- A file on a desk: written with any bytes, none too; got and written as the laws do. Conditions: those named. -/
set_option linter.unusedVariables false
set_option maxRecDepth 20000
namespace Go.Proofs.YtfbfeplegdpemaaGreat
open Go.RowKit

section
variable {b : Nat} {w w' : World} {gd gv gm gs r : Nat} {Bs : List BV} {N n m : Nat} {X : DX} {v R : Nat → Int} {F F2 : Nat → UInt8}
theorem FO.write_any (h : FO Bs X v R m F) (s : Nat) (si : Nat → Int) (oo : Nat → Bool) (hS : X.S = supU s si oo m) (hrd : X.rd = true) (hm1 : 1 ≤ m) (A : Option Addr) (c off : Nat) (l : L8) (hlc : l.length ≤ c) (ho : off + l.length ≤ 32768) (hn : n + 130 ≤ 999) (hN : N ≤ 256) (q : Nat) (hq : l.length + 255 ≤ 256 * q) (hroom : m + q + 2 ≤ N)
    (hk : DK b w gd gv gm gs r Bs N n X) (hD : ∀ W, Chg [gd, gm] w W → Hol W A l) (hF2 : ∀ i, F2 i = if off ≤ i ∧ i < off + l.length then l.getD (i - off) 0 else F i) (sz sz2 : Nat) (hsz : v 5 = (sz : Int)) (hsz2 : sz2 = if l.length = 0 then sz else max sz (off + l.length)) :
    Calls Tryz.prog 16 #[.pointer (some ⟨gd, 0, none⟩), .agg (ncs v).toArray, .int .i64 (off : Int), .slice A l.length c] w (Wrote b w gd gv gm gs r Bs N n m q s si oo F2 (sz2 : Int)) := by
  by_cases h0 : l.length = 0
  · have hF : F2 = F := by
      funext i
      rw [hF2, if_neg (by omega)]
    rw [h0] at hsz2 ⊢
    rw [if_pos rfl] at hsz2
    refine (dwrite_none v A c (off : Int) hk (by omega)).mono ?_
    rintro e w' ⟨rfl, hk2, hc2⟩
    exact ⟨v, R, m, X, rfl, Lib.hid (hF ▸ h), Lib.hid ⟨hS, hrd, Nat.le_refl _, by omega⟩, Lib.hid (by rw [hsz, hsz2]), Lib.hid (hk2.out.mono (by omega)), Lib.hid (hc2.out.wider (fun x hx => .inl (by simp at hx ⊢; exact .inl hx)))⟩
  · rw [if_neg h0] at hsz2
    refine h.write s si oo hS hrd hm1 A c off l (by omega) hlc ho hn hN q hq hroom hk hD hF2 _ ?_
    rw [hsz, hsz2]
    by_cases hg : sz < off + l.length
    · rw [if_pos (by omega), Nat.max_eq_right (by omega)]
    · rw [if_neg (by omega), Nat.max_eq_left (by omega)]
/-- A file, read whole: its bytes as they lie. -/
theorem FO.whole (h : FO Bs X v R m F) (count sz : Nat) (hk : DK b w gd gv gm gs r Bs N n X) (hn : n ≤ 1000) (hsz : v 5 = (sz : Int)) (hsz2 : sz ≤ count) (hcount : 1 ≤ count ∧ count ≤ 32768) :
    Calls Tryz.prog 17 #[.pointer (some ⟨gd, 0, none⟩), .agg (ncs v).toArray, .int .i64 0, .int .i64 (count : Int)] w fun e w' => ∃ YA yc, e = .returned (.slice YA sz yc) ∧ Hid (Own8 w.heap.size w' ⟨YA, yc, lst sz F⟩) ∧ Hid (DK b w' gd gv gm gs r Bs N n X) ∧ Hid (Chg [gd] w w') := by
  refine (h.all count sz hk hn hsz (by omega) hcount).mono ?_
  rintro e w' ⟨⟨YA, yc, yl⟩, rfl, hy, ho, hk2, hc2⟩
  have h1 : yl = lst sz F := by
    have h2 := hy.out
    rw [Nat.min_eq_right hsz2] at h2
    exact h2
  subst h1
  refine ⟨YA, yc, ?_, ho, hk2, hc2⟩
  show Ending.returned (.slice YA (lst sz F).length yc) = _
  rw [lst_len]
/-- One byte of what was read. -/
theorem y_at {mm sz i yc : Nat} {W : World} {YA : Option Addr} (h : Own8 mm W ⟨YA, yc, lst sz F⟩) (hi : i < sz) : ∃ g o, YA = some ⟨g, o, none⟩ ∧ W.cell? ⟨g, o + i, none⟩ = some (.int .u8 ((F i).toNat : Int)) := by
  have hl : i < (lst sz F).length := by rw [lst_len]; exact hi
  obtain ⟨g, o, h1, _, h2⟩ := h.hol.at_ hl
  refine ⟨g, o, h1, ?_⟩
  rw [h2]
  have h3 : (lst sz F)[i]? = some (F i) := lst_get _ hi
  rw [List.getElem?_eq_getElem hl] at h3
  injection h3 with h3
  rw [h3]
theorem Own8.past {mm : Nat} {G : List Nat} {W W' : World} {y : BV} (h : Own8 mm W y) (hc : Chg G W W') (hG : ∀ z ∈ G, z < mm) : Own8 mm W' y := Chg.own h hc (fun k hk hkG => by
  have h1 := (World.ownsRow.lt h k hk).1
  have h2 := hG k hkG
  omega)
end
/-- How far a law's function is: its desk, what it has changed, its inode's variable, its answer's. -/
structure FS (b : Nat) (w W : World) (gd gv gm gs r pr gn : Nat) (Bs : List BV) (n : Nat) (X : DX) (v : Nat → Int) (x : Value) : Prop where
  dk : DK b W gd gv gm gs r Bs 256 n X
  chg : Chg [gm, pr] w W
  row : Row W gn 44 (ncs v)
  prr : Row W pr 4 [x]
  lo : w.heap.size ≤ gd ∧ gd < gn ∧ gm < w.heap.size ∧ pr < w.heap.size ∧ pr ≠ gm ∧ b ≤ w.heap.size ∧ b ≤ pr ∧ b ≤ gm
section
variable {b : Nat} {w W W' : World} {gd gv gm gs r pr gn : Nat} {Bs : List BV} {n n' : Nat} {X X' : DX} {v v' : Nat → Int} {x x' : Value}
theorem FS.call {G : List Nat} (h : FS b w W gd gv gm gs r pr gn Bs n X v x) (hk : DK b W' gd gv gm gs r Bs 256 n' X') (hc : Chg G W W') (hG : ∀ y ∈ G, y = gd ∨ y = gm) : FS b w W' gd gv gm gs r pr gn Bs n' X' v x := by
  have hl := h.lo
  refine ⟨hk, h.chg.trans hc (fun y hy => ?_), hc.row h.row (fun hy => ?_), hc.row h.prr (fun hy => ?_), hl⟩
  · rcases hG y hy with rfl | rfl
    · exact .inr hl.1
    · exact .inl (by simp)
  · have := hG _ hy; omega
  · have := hG _ hy; omega
theorem FS.set (h : FS b w W gd gv gm gs r pr gn Bs n X v x) (hr : Row W' gn 44 (ncs v')) (hg : W.grownBy W' (some gn)) : FS b w W' gd gv gm gs r pr gn Bs n X v' x := by
  have hl := h.lo
  refine ⟨h.dk.other h.row (by decide) (by omega) (Chg.one hg), h.chg.trans (Chg.one hg) (fun y hy => .inr (by simp at hy; omega)), hr, (Chg.one hg).row h.prr (by simp; omega), hl⟩
theorem FS.put (h : FS b w W gd gv gm gs r pr gn Bs n X v x) (x' : Value) : FS b w (W.setCell ⟨pr, 0, none⟩ x') gd gv gm gs r pr gn Bs n X v x' := by
  have hl := h.lo
  have hc : Chg [pr] W (W.setCell ⟨pr, 0, none⟩ x') := (Chg.refl [pr] W).setCell (p := ⟨pr, 0, none⟩) (.inl (by simp)) _
  exact ⟨h.dk.other h.prr (by decide) hl.2.2.2.2.2.2.1 hc, h.chg.trans hc (fun y hy => .inl (by simp at hy ⊢; exact .inr hy)), hc.row h.row (by simp; omega), h.prr.put 0 x', hl⟩
theorem FS.loop (h : FS b w W gd gv gm gs r pr gn Bs n X v x) (hc : Chg [pr] W W') (hp : Row W' pr 4 [x']) : FS b w W' gd gv gm gs r pr gn Bs n X v x' := by
  have hl := h.lo
  exact ⟨h.dk.other h.prr (by decide) hl.2.2.2.2.2.2.1 hc, h.chg.trans hc (fun y hy => .inl (by simp at hy ⊢; exact .inr hy)), hc.row h.row (by simp; omega), hp, hl⟩
theorem FS.base (h : FS b w W gd gv gm gs r pr gn Bs n X v x) {g : Nat} {t : TypeId} {cs : List Value} (hr : Row w g t cs) (hne : g ≠ gm ∧ g ≠ pr) : Row W g t cs := h.chg.row hr (by simp; exact hne)
theorem FS.data (h : FS b w W gd gv gm gs r pr gn Bs n X v x) {A : Option Addr} {l : L8} (hD : HolB b w A l) : Hol W A l := Chg.hol hD.1 h.chg (fun g o e hne hx => by
  have hl := h.lo
  have h1 := (hD.2.resolve_left hne) _ e
  simp at h1 hx
  omega)
theorem FS.dataD (h : FS b w W gd gv gm gs r pr gn Bs n X v x) {A : Option Addr} {l : L8} (hD : HolB b w A l) : ∀ W2, Chg [gd, gm] W W2 → Hol W2 A l := fun W2 hc => Chg.hol (h.data hD) hc (fun g o e hne hx => by
  have hl := h.lo
  have h1 := (hD.2.resolve_left hne) _ e
  simp at h1 hx
  omega)
end
end Go.Proofs.YtfbfeplegdpemaaGreat
