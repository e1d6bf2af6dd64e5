/- The first file of a new volume: made, and got. Conditions: those named. -/
import Derived.Test.YtfbfeplegdpemaaGreatFa
import Derived.Test.YtfbfeplegdpemaaGreatDg
import Derived.Test.YtfbfeplegdpemaaGreatEi
import Derived.Lib.SliceRun
set_option linter.unusedVariables false
set_option maxRecDepth 20000
namespace Go.Proofs.YtfbfeplegdpemaaGreat
open Go.RowKit

/-- A new file's inode, as it is handed in, and with its serial. -/
def vF (k : Nat) : Int := if k = 0 ∨ k = 4 then 1 else 0
def vA (s : Nat) : Nat → Int := at1 vF 6 (s : Int)
theorem built_file : Tryz.prog.built 44 [(0, .int .i64 1), (4, .int .i64 1)] = some (ncs vF).toArray := by kernel_rfl
theorem vA_ne (s : Nat) {k : Nat} (h : k ≠ 6) : vA s k = vF k := at1_other _ _ h
theorem vA_may (s : Nat) (h : s ≠ 0) : mayB (vA s) = true := by
  rw [mayB_iff]
  refine ⟨by rw [vA_ne s (by decide)]; decide, by rw [vA_ne s (by decide)]; decide, by rw [vA_ne s (by decide)]; decide, by rw [vA_ne s (by decide)]; decide, ?_, by rw [vA_ne s (by decide)]; decide, fun j hj => ?_, by rw [vA_ne s (by decide)]; decide⟩
  · show (s : Int) ≠ 0
    omega
  · have e : vA s (10 + j) = 0 := by
      unfold vA
      rw [at1_other _ _ (by omega)]
      unfold vF
      rw [if_neg (by omega)]
    rw [e]
    omega
theorem vA_wf (s : Nat) (h : s < 18446744073709551616) : Wf (vA s) := by
  refine ⟨fun k hk => ?_, ?_⟩
  · unfold kd at hk
    split at hk
    · rename_i h1
      rcases h1 with rfl | rfl | rfl | rfl <;> (rw [vA_ne s (by decide)]; decide)
    · split at hk <;> cases hk
  · show 0 ≤ (s : Int) ∧ (s : Int) < 18446744073709551616
    omega
theorem zeros_not (l : L8) (h : l = List.replicate 256 0) : ¬ SOk l := by
  subst h
  rintro ⟨_, h2, _⟩
  have h3 : (sr (List.replicate 256 0)).s = 0 := by decide +kernel
  exact h2.1 h3
def iA : Nat → Int := at1 (fun _ => 0) 1 1
def oA : Nat → Bool := fun _ => false
theorem super_first : (((supN.setU 1 true).setI 1 1).setS 2) = supU 2 iA oA 2 := by
  have e : at1 (fun j : Nat => j == 0) 1 true = fun j => decide (j < 2) := by
    funext j
    unfold at1
    by_cases h : j = 1
    · rw [if_pos h]; simp; omega
    · rw [if_neg h]
      by_cases h0 : j = 0
      · subst h0; rfl
      · have h1 : (j == 0) = false := beq_false_of_ne h0
        show (j == 0) = _
        rw [h1]
        simp
        omega
  show (⟨2, at1 (fun j : Nat => j == 0) 1 true, iA, oA⟩ : Sup) = ⟨2, fun j => decide (j < 2), iA, oA⟩
  rw [e]
/-- The state behind the first Make. -/
def XA (X : DX) : DX := ((X.loaded supN).setS (supU 2 iA oA 2)).put 1 (blk sz (vA 1) 27)
section
variable {b : Nat} {w w' : World} {gd gv gm gs r : Nat} {Bs : List BV} {N n : Nat} {X X' : DX}
theorem fmake (h : DK b w gd gv gm gs r Bs N n X) (hrd : X.rd = false) (l : L8) (hl : seeX X Bs 0 = some l) (hz : l = List.replicate 256 0) (hn : n ≤ 1000) (hN : 2 ≤ N) : Calls Tryz.prog 14 #[.pointer (some ⟨gd, 0, none⟩), .agg (ncs vF).toArray] w
    fun e w' => e = .returned (.tuple #[.agg (rfc 1 1).toArray, .int .i64 0]) ∧ Hid (DK b w' gd gv gm gs r Bs N (n + 1) (XA X)) ∧ Hid (Chg [gd, gm] w w') := by
  have hln : norm l = List.replicate 256 0 := by rw [hz]; exact norm_256 (by simp)
  have h1 := dmake_ok (X' := X.loaded supN) vF h (.inr ⟨hrd, l, supN, hl, by rw [hz]; simp, .inl ⟨zeros_not _ hln, rfl⟩, rfl⟩) hn ((supN.setU 1 true).setI 1 1) 1 1 1 (by decide) (by decide) ⟨rfl, rfl⟩ (by decide)
    (fun W => add_ok supN (N : Int) 0 1 (by decide) rfl (fun j hj => by omega) (by decide) (by omega) rfl (fun j hj => by have : j = 0 := by omega
                                                                                                                          subst this; rfl) W) (vA 1) rfl (vA_may 1 (by decide)) (vA_wf 1 (by decide))
  rw [super_first] at h1
  exact h1
theorem seeX_put (X : DX) (a : Int) (l : L8) : seeX (X.put a l) Bs a = some l := by
  unfold seeX DX.put upS
  simp
theorem seeX_put_ne (X : DX) (a c : Int) (l : L8) (h : c ≠ a) : seeX (X.put a l) Bs c = seeX X Bs c := by
  unfold seeX DX.put upS
  simp only [if_neg h]
theorem fget (h : DK b w gd gv gm gs r Bs N n (XA X)) (hn : n ≤ 1000) : Calls Tryz.prog 15 #[.pointer (some ⟨gd, 0, none⟩), .agg (rfc 1 1).toArray] w (DOne b w gd gv gm gs r Bs N n (XA X) (.tuple #[.agg (ncs (vA 1)).toArray, .int .i64 0])) := by
  have hb : (blk sz (vA 1) 27).length = 256 := blk_len _ _ _ (by decide)
  exact dget_ok 1 1 (by decide) h (.inl ⟨rfl, rfl⟩) hn 1 rfl (by decide) (blk sz (vA 1) 27) (seeX_put _ 1 _) (by rw [hb]; decide) (vA 1) (by rw [norm_256 hb]; exact iV_blk _ (vA_may 1 (by decide)) (vA_wf 1 (by decide))) rfl
theorem rowok_direct (v : Nat → Int) (e : Nat) (he : e ≤ 16 ∨ v 26 = 0) : RowOk b gd gv gm gs r Bs N X v e (rowD v) := fun w n h => drow_direct v e h he
theorem src_zero {w : World} {m : Nat} (hs : Src b w gs Bs) (hB : Bs.length = m ∧ ∀ x ∈ Bs, x.l = List.replicate 256 0) (C : Int → Option L8) (a : Nat) (ha : a < m) (hC : C (a : Int) = none) : seeX ⟨false, sup0, sup0, C⟩ Bs (a : Int) = some (List.replicate 256 0) := by
  unfold seeX
  simp only [hC]
  rw [src_nat, List.getElem?_eq_getElem (by omega), Option.map_some, hB.2 _ (List.getElem_mem _)]
end
end Go.Proofs.YtfbfeplegdpemaaGreat
/- The laws' first test. Conditions: those named. -/
set_option linter.unusedVariables false
set_option maxRecDepth 20000
namespace Go.Proofs.YtfbfeplegdpemaaGreat
open Go.RowKit

theorem rowD_zero (s j : Nat) : rowD (vA s) j = 0 := by
  unfold rowD
  split
  · rw [vA_ne s (by omega)]
    unfold vF
    rw [if_neg (by omega)]
  · rfl
theorem may_U (m : Nat) (h : 2 ≤ m) : (supU 2 iA oA m).May := by
  refine ⟨by show (2 : Nat) ≠ 0; decide, by show decide (0 < m) = true; simp; omega, rfl, fun j hj => ?_⟩
  unfold Sup.OkA
  show if iA j = 0 then oA j = false else 0 ≤ iA j ∧ iA j < 256 ∧ decide ((iA j).toNat < m) = true ∧ ∀ k, k < j → iA k ≠ iA j
  by_cases e : j = 1
  · subst e
    have h1 : iA 1 = 1 := rfl
    rw [if_neg (by rw [h1]; decide), h1]
    refine ⟨by decide, by decide, by simp; omega, fun k hk => ?_⟩
    have : k = 0 := by omega
    subst this
    decide
  · have h1 : iA j = 0 := at1_other _ _ e
    rw [if_pos h1]
    rfl
section
variable {b : Nat} {w w' : World} {gd gv gm gs r : Nat} {Bs : List BV} {N n : Nat} {X X' : DX}
structure AW (X X2 : DX) (v3 : Nat → Int) : Prop where
  size : v3 5 = 302
  list : v3 26 = 0
  tk : tks (rowD v3) = 1
  at1 : rowD v3 1 = 2
  rd : X2.rd = true
  S : X2.S = supU 2 iA oA 3
  S0 : X2.S0 = supN
  C : ∃ L : L8, L.length = 256 ∧ X2.C = upS (XA X).C 2 L
theorem zc_one : zc (rowD (vA 1)) 1 1 = 1 := by
  rw [zc_succ, rowD_zero, if_pos rfl]
  rfl
theorem awrite (A : Option Addr) (c : Nat) (hc : 2 ≤ c) (h : DK b w gd gv gm gs r Bs N n (XA X)) (hn : n ≤ 900) (hN : 4 ≤ N ∧ N ≤ 256) (hD : ∀ W, Chg [gd, gm] w W → Hol W A [104, 105]) :
    Calls Tryz.prog 16 #[.pointer (some ⟨gd, 0, none⟩), .agg (ncs (vA 1)).toArray, .int .i64 300, .slice A 2 c] w fun e w' => ∃ v3 X2, e = .returned (.agg (ncs v3).toArray) ∧ Hid (AW X X2 v3) ∧ Hid (DK b w' gd gv gm gs r Bs N (n + 2) X2) ∧ Hid (Chg [gd, gm] w w') := by
  have hw := dwrite (X' := XA X) (vA 1) (rowD (vA 1)) A c 2 300 1 1 2 [104, 105] (fun _ _ => 0) 2 2 iA oA 302 h (.inl ⟨rfl, rfl⟩) (by omega) rfl hc (by decide) (by decide) (by decide) rfl hD (rowok_direct _ _ (.inl (by decide))) (fun j hj => by rw [rowD_zero]; decide) (by decide) rfl (by decide) hN.2 (by rw [zc_one]; omega)
    (fun k hk => ⟨0, by rw [rowD_zero]; rfl, .inl ⟨rfl, rfl⟩⟩) (by decide) (.inl ⟨.inl rfl, rfl⟩)
  rw [zc_one] at hw
  refine hw.mono ?_
  rintro e w' ⟨rfl, hk, hch⟩
  refine ⟨_, _, rfl, Lib.hid ⟨rfl, rfl, by decide +kernel, by decide +kernel, rfl, rfl, rfl, lst 256 (mixF [104, 105] (((300 : Nat) : Int) - ((1 + 0 : Nat) : Int) * 256) fun _ => 0), lst_len 256 _, ?_⟩, hk, hch⟩
  · show upS (XA X).C (flR (rowD (vA 1)) 2 1 1 (1 + 0)) _ = _
    have e : flR (rowD (vA 1)) 2 1 1 (1 + 0) = 2 := by decide +kernel
    rw [e]
theorem aread (v3 : Nat → Int) (X2 : DX) (hf : AW X X2 v3) (h : DK b w gd gv gm gs r Bs N n X2) (hn : n ≤ 1000) : Calls Tryz.prog 17 #[.pointer (some ⟨gd, 0, none⟩), .agg (ncs v3).toArray, .int .i64 299, .int .i64 9] w fun e w' => ∃ A c, e = .returned (.slice A 3 c) ∧ Hid (DK b w' gd gv gm gs r Bs N n X2) ∧ Hid (Chg [gd] w w') := by
  obtain ⟨L, hL, hC⟩ := hf.C
  have hsee : seeX X2 Bs ((2 : Nat) : Int) = some L := by
    unfold seeX
    rw [hC]
    rfl
  have hr := dread (X := X2) v3 (rowD v3) 299 9 3 302 1 1 2 (fun p => bfn L (p - 256)) h hn hf.size (by decide) (by decide) (by decide) rfl (by decide) (by decide) rfl (rowok_direct _ _ (.inl (by decide)))
    (fun k hk => by
      have e : k = 0 := by omega
      subst e
      refine ⟨2, hf.at1, bfn L, .inr ⟨by decide, by decide, L, hsee, by rw [hL]; decide, by rw [norm_256 hL, hL], by rw [norm_256 hL]⟩, fun j _ => ?_⟩
      show bfn L j = bfn L ((1 + 0) * 256 + j - 256)
      congr 1
      omega)
  refine hr.mono ?_
  rintro e w' ⟨y, rfl, hy, ho, hk, hch⟩
  have hl : y.l.length = 3 := by rw [hy.out, lst_len]
  rw [hl]
  exact ⟨y.A, y.c, rfl, hk, hch⟩
theorem asave (v3 : Nat → Int) (X2 : DX) (hf : AW X X2 v3) (h : DK b w gd gv gm gs r Bs N n X2) (hn : n ≤ 1000) : Calls Tryz.prog 29 #[.pointer (some ⟨gd, 0, none⟩)] w (DPut b w gd gv gm gs r Bs N (n + 1) X2.saved) := by
  refine dsave_ok h (.inl ⟨hf.rd, rfl⟩) hn ?_ ?_ ?_
  · rw [hf.S, hf.S0]
    decide +kernel
  · rw [hf.S]
    exact may_U 3 (by decide)
  · rw [hf.S]
    decide
/-- Three slots were put. -/
def Put3 (C : Int → Option L8) : Prop := ∃ x y z : L8, C = upS (upS (upS (fun _ => none) 1 x) 2 y) 0 z
theorem put3_len {C : Int → Option BV} {ps : List (Int × BV)} (h : ChOf (byL C) (chL ps)) (h3 : Put3 (byL C)) : ps.length = 3 := by
  obtain ⟨x, y, z, hC⟩ := h3
  rw [hC] at h
  have h2 : ChOf (upS (upS (upS (fun _ => none) 1 x) 2 y) 0 z) [(0, z), (1, x), (2, y)] := by
    refine ⟨by simp, fun s l => ?_⟩
    unfold upS
    simp only [List.mem_cons, Prod.mk.injEq, List.mem_nil_iff, or_false]
    by_cases h0 : s = 0
    · subst h0
      simp
      exact eq_comm
    · rw [if_neg h0]
      by_cases h2 : s = 2
      · subst h2
        simp
        exact eq_comm
      · rw [if_neg h2]
        by_cases h1 : s = 1
        · subst h1
          simp
          exact eq_comm
        · rw [if_neg h1]
          simp [h0, h1, h2]
  have h4 := ChOf.one h h2
  have h5 := congrArg List.length h4
  unfold chL at h5
  simpa using h5
end
end Go.Proofs.YtfbfeplegdpemaaGreat
/- A file as it lies on a desk: its slots, its list, its content. Conditions: those named. -/
set_option linter.unusedVariables false
set_option maxRecDepth 20000
namespace Go.Proofs.YtfbfeplegdpemaaGreat
open Go.RowKit

/-- A file: its slots R (each once, all below m), its list, its content F. -/
structure FO (Bs : List BV) (X : DX) (v R : Nat → Int) (m : Nat) (F : Nat → UInt8) : Prop where
  dir : ∀ j, j < 16 → R j = v (10 + j)
  list : (v 26 = 0 ∧ ∀ j, 16 ≤ j → j < 128 → R j = 0) ∨ ∃ z : Nat, v 26 = (z : Int) ∧ 0 < z ∧ z < m ∧ seeX X Bs (z : Int) = some (blk s2 (fun j => R (16 + j)) 112) ∧ ∀ j, j < 128 → R j ≠ (z : Int)
  cont : ∀ j, j < 128 → ∃ z : Nat, R j = (z : Int) ∧ z < m ∧ CW X Bs z (fun q => F (j * 256 + q))
  inj : ∀ i j, i < 128 → j < 128 → R i = R j → R i ≠ 0 → i = j
  lim : m ≤ 256
section
variable {b : Nat} {w w' : World} {gd gv gm gs r : Nat} {Bs : List BV} {N n m : Nat} {X X' : DX} {v R : Nat → Int} {F : Nat → UInt8}
theorem FO.bounds (h : FO Bs X v R m F) : ∀ j, j < 128 → 0 ≤ R j ∧ R j ≤ 255 := fun j hj => by
  obtain ⟨z, h1, h2, _⟩ := h.cont j hj
  have := h.lim
  omega
theorem FO.v26 (h : FO Bs X v R m F) : 0 ≤ v 26 ∧ v 26 ≤ 255 := by
  have := h.lim
  rcases h.list with ⟨h1, _⟩ | ⟨z, h1, h2, h3, _⟩ <;> omega
theorem FO.slotB (h : FO Bs X v R m F) : slotB (fun j => R (16 + j)) 112 = true := (slotB_iff _ _).2 fun j hj => h.bounds (16 + j) (by omega)
theorem inl_rowD (h : FO Bs X v R m F) (h0 : v 26 = 0) : inl 128 (rowD v) = inl 128 R := List.map_congr_left fun j hj => by
  have hj := List.mem_range.1 hj
  unfold rowD
  rcases h.list with ⟨_, h1⟩ | ⟨z, h1, h2, _⟩
  · by_cases h16 : j < 16
    · rw [if_pos h16, h.dir j h16]
    · rw [if_neg h16, h1 j (by omega) hj]
  · omega
theorem inl_rowL (h : FO Bs X v R m F) : inl 128 (rowL v fun j => R (16 + j)) = inl 128 R := List.map_congr_left fun j hj => by
  unfold rowL
  by_cases h16 : j < 16
  · rw [if_pos h16, h.dir j h16]
  · rw [if_neg h16]
    show Value.int .i64 (R (16 + (j - 16))) = _
    rw [show 16 + (j - 16) = j by omega]
/-- Its row, told whole or as far as the inode's own slots go. -/
theorem FO.row (h : FO Bs X v R m F) (e : Nat) (he : 16 < e) : RowOk b gd gv gm gs r Bs N X v e R := fun w n hk => by
  rcases h.list with ⟨h0, h1⟩ | ⟨z, h0, h1, h2, h3, _⟩
  · have h4 := drow_direct v e hk (.inr h0)
    rw [inl_rowD h h0] at h4
    exact h4
  · have hb : (blk s2 (fun j => R (16 + j)) 112).length = 256 := blk_len _ _ _ (by decide)
    have h4 := drow_listed v (fun j => R (16 + j)) e hk z h0 ⟨h1, by have := h.lim; omega⟩ _ h3 (by rw [hb]; decide) 0 (by rw [norm_256 hb]; exact lV_blk _ h.slotB) he
    rw [inl_rowL h] at h4
    exact h4
theorem FO.row_d (h : FO Bs X v R m F) (e : Nat) (he : e ≤ 16) : RowOk b gd gv gm gs r Bs N X v e (rowD v) := rowok_direct v e (.inl he)
/-- Any part of it, read. -/
theorem FO.read (h : FO Bs X v R m F) (off count cn sz : Nat) (hk : DK b w gd gv gm gs r Bs N n X) (hn : n ≤ 1000) (hsz : v 5 = (sz : Int)) (hsz2 : sz ≤ 32768) (hcount : count ≤ 32768) (hoff : off < sz) (hcn : cn = min count (sz - off)) (hcn1 : 1 ≤ cn) :
    Calls Tryz.prog 17 #[.pointer (some ⟨gd, 0, none⟩), .agg (ncs v).toArray, .int .i64 (off : Int), .int .i64 (count : Int)] w (DSee b w gd gv gm gs r Bs N n X (lst cn fun i => F (off + i))) := by
  obtain ⟨first, hf⟩ : ∃ first, off / 256 = first := ⟨_, rfl⟩
  obtain ⟨e, he⟩ : ∃ e, (off + cn - 1) / 256 + 1 = e := ⟨_, rfl⟩
  have hle : cn ≤ sz - off := by rw [hcn]; exact Nat.min_le_right _ _
  have h128 : e ≤ 128 := by omega
  have hfe : first + (e - first) = e := by omega
  by_cases h16 : e ≤ 16
  · exact dread v (rowD v) off count cn sz first (e - first) e F hk hn hsz hsz2 hcount hoff hcn hcn1 (by omega) hfe (h.row_d e h16) (fun k hk => by
      obtain ⟨z, h1, _, h3⟩ := h.cont (first + k) (by omega)
      refine ⟨z, ?_, h3⟩
      rw [← h1, h.dir _ (by omega)]
      unfold rowD
      rw [if_pos (by omega)])
  · exact dread v R off count cn sz first (e - first) e F hk hn hsz hsz2 hcount hoff hcn hcn1 (by omega) hfe (h.row e (by omega)) (fun k hk => by
      obtain ⟨z, h1, _, h3⟩ := h.cont (first + k) (by omega)
      exact ⟨z, h1, h3⟩)
end
/-! What puts leave. -/
section
variable {Bs : List BV} {X : DX}
theorem seeX_setS (X : DX) (S : Sup) (a : Int) : seeX (X.setS S) Bs a = seeX X Bs a := rfl
theorem CW.congr {X Y : DX} {z : Nat} {f : Nat → UInt8} (h : CW X Bs z f) (e : z ≠ 0 → seeX Y Bs (z : Int) = seeX X Bs (z : Int)) : CW Y Bs z f := by
  obtain ⟨g, h1, h2⟩ := h
  refine ⟨g, ?_, h2⟩
  rcases h1 with h1 | ⟨h1, h3, l, h4, h5⟩
  · exact .inl h1
  · exact .inr ⟨h1, h3, l, by rw [e (by omega)]; exact h4, h5⟩
theorem CW.at {X : DX} {z : Nat} {g f : Nat → UInt8} (h1 : 0 < z ∧ z < 256) (h2 : seeX X Bs (z : Int) = some (lst 256 g)) (h3 : ∀ j, j < 256 → g j = f j) : CW X Bs z f := by
  have hl : (lst 256 g).length = 256 := lst_len 256 g
  refine ⟨bfn (lst 256 g), .inr ⟨h1.1, h1.2, _, h2, by rw [hl]; decide, by rw [norm_256 hl, hl], by rw [norm_256 hl]⟩, fun j hj => ?_⟩
  rw [← h3 j hj]
  unfold bfn
  rw [List.getD_eq_getElem?_getD, lst_get _ hj]
  rfl
end
end Go.Proofs.YtfbfeplegdpemaaGreat
/- A file as it lies on a desk behind a write. Conditions: those named. -/
set_option linter.unusedVariables false
set_option maxRecDepth 20000
namespace Go.Proofs.YtfbfeplegdpemaaGreat
open Go.RowKit

section
variable {Bs : List BV} {X X2 : DX} {v v' R : Nat → Int} {m : Nat} {F F2 : Nat → UInt8}
end
end Go.Proofs.YtfbfeplegdpemaaGreat
/- Write, of a file that lies on a desk. Conditions: those named. -/
set_option linter.unusedVariables false
set_option maxRecDepth 20000
namespace Go.Proofs.YtfbfeplegdpemaaGreat
open Go.RowKit

section
variable {b : Nat} {w w' : World} {gd gv gm gs r : Nat} {Bs : List BV} {N n m : Nat} {X : DX} {v R : Nat → Int} {F F2 : Nat → UInt8}
end
end Go.Proofs.YtfbfeplegdpemaaGreat
/- A slot given back; what a file had and does not have any more given back. Conditions: the desk lies there, the slots are slots. -/
set_option linter.unusedVariables false
set_option maxRecDepth 20000
namespace Go.Proofs.YtfbfeplegdpemaaGreat
open Go.RowKit

def DX.give (X : DX) (z : Nat) : DX := (X.setS (X.S.setU z false)).put (z : Int) []
/-- What is given back of the first k blocks: those that had a slot in W0, and have none in R. -/
def DX.gives (X : DX) (W0 R : Nat → Int) : Nat → DX
  | 0 => X
  | k + 1 => if R k = 0 ∧ W0 k ≠ 0 then (X.gives W0 R k).give (W0 k).toNat else X.gives W0 R k
def gvs (W0 R : Nat → Int) : Nat → Nat
  | 0 => 0
  | k + 1 => if R k = 0 ∧ W0 k ≠ 0 then gvs W0 R k + 1 else gvs W0 R k
theorem gvs_mono (W0 R : Nat → Int) : ∀ j k, j ≤ k → gvs W0 R j ≤ gvs W0 R k := by
  intro j k h
  induction k with
  | zero => have : j = 0 := by omega
            rw [this]
            exact Nat.le_refl _
  | succ k ih =>
    by_cases e : j = k + 1
    · rw [e]; exact Nat.le_refl _
    · have h1 := ih (by omega)
      refine Nat.le_trans h1 ?_
      show gvs W0 R k ≤ (if R k = 0 ∧ W0 k ≠ 0 then gvs W0 R k + 1 else gvs W0 R k)
      split <;> omega
def DX.giveL (X : DX) (v26 L : Int) : DX := if L = 0 ∧ v26 ≠ 0 then X.give v26.toNat else X
def gvL (v26 L : Int) : Nat := if L = 0 ∧ v26 ≠ 0 then 1 else 0
section
variable {b : Nat} {w w' : World} {gd gv gm gs r : Nat} {Bs : List BV} {N n : Nat} {X : DX}
theorem dgive_no (w : World) : Calls Tryz.prog 57 #[.pointer (some ⟨gd, 0, none⟩), .int .i64 0] w fun e w' => e = .returned (.tuple #[]) ∧ w = w' := by
  go_enter Tryz.func57, Tryz.ntmps57
  go_wp2
  refine bodyPost_ret (results_none rfl _ _ _) rfl ?_
  exact ⟨rfl, rfl⟩
set_option maxHeartbeats 1000000 in
theorem dgive_yes (z : Nat) (h : DK b w gd gv gm gs r Bs N n X) (hz : 0 < z ∧ z < 256) (hn : n ≤ 1000) : Calls Tryz.prog 57 #[.pointer (some ⟨gd, 0, none⟩), .int .i64 (z : Int)] w (DPut b w gd gv gm gs r Bs N (n + 1) (X.give z)) := by
  have hgz : X.S.give (z : Int) = X.S.setU z false := by
    unfold Sup.give
    rw [if_pos (by omega)]
    rfl
  have HGV := Lib.hid (p := ∀ w, Calls Tryz.prog 86 #[.agg X.S.cs.toArray, .int .i64 (z : Int)] w fun e w' => e = .returned (.agg (X.S.setU z false).cs.toArray) ∧ Below w.heap.size w w') (fun w => by have h1 := give_any X.S (z : Int) w; rw [hgz] at h1; exact h1)
  have i1 := Lib.hid (fun x : Sup => info_cs x)
  obtain ⟨tl, ah, la, e1, e2, e3, hd⟩ := h.parts
  have HD := Lib.hid hd
  have HE := Lib.hid (p := ah.length = 775 ∧ (∀ v ∈ ah, v.oneCell' = true) ∧ tl = ah ++ dtl false la) ⟨e1, e2, e3⟩
  have H := Lib.hid h
  have HN := Lib.hid hn
  have HZ := Lib.hid hz
  have hz0 : ¬ (z : Int) ≤ 0 := by omega
  have hz6 : ¬ (256 : Int) ≤ (z : Int) := by omega
  have d0 : decide ((z : Int) ≤ 0) = false := decide_eq_false hz0
  have d6 : decide ((256 : Int) ≤ (z : Int)) = false := decide_eq_false hz6
  have d7 : decide (256 ≤ z) = false := decide_eq_false (by omega)
  have d8 : decide (z = 0) = false := decide_eq_false (by omega)
  clear h hn hz hd e1 e2 e3 hgz
  go_enter Tryz.func57, Tryz.ntmps57
  go_wp2_with (first
    | (refine step_load_at rfl 59 (.tmp 14) rfl gd 3 (by rfl) 88 (dhd gv N ++ [Value.bool X.rd]) X.S.cs (X.S0.cs ++ tl) _ HD.out rfl Tryz.underlying59 rfl (i1.out _) ?_)
    | (go_at_call 86; refine (HGV.out _).mono ?_; rintro e w2 ⟨rfl, hb⟩
       have HB2 := Lib.hid hb
       have HD2 := Lib.hid (HD.out.kept hb)
       have HK2 := Lib.hid (H.out.below hb)
       clear hb)
    | (refine step_store_at rfl 59 (.tmp 20) (.tmp 17) rfl gd 3 (by rfl) 88 (dhd gv N ++ [Value.bool X.rd]) X.S.cs (X.S.setU z false).cs (X.S0.cs ++ tl) (by rfl) HD2.out rfl (by simp [Sup.cs_len]) (i1.out _) (Sup.cs_one _) ?_
       intro w9 hr9 hg9
       have HK9 := Lib.hid (HK2.out.setS HE.out.1 HE.out.2.1 HE.out.2.2 hr9 (Chg.one hg9))
       have HC9 := Lib.hid (p := Chg [gd] w w9) ((Chg.of (F := [gd]) HB2.out).trans (Chg.one hg9) (fun x hx => .inl hx))
       clear hr9 hg9)
    | (go_at_call 40; refine (dput HK9.out noBV (.inl rfl) (by decide) (z : Int) (by have := HZ.out; unfold I64; omega) HN.out).mono ?_; rintro e w3 ⟨rfl, hk, hc⟩
       have HK3 := hk
       have HC3 := Lib.hid (p := Chg [gd, gm] w w3) ((HC9.out.wider (fun x hx => .inl (by simp at hx ⊢; exact .inl hx))).trans hc.out (fun x hx => .inl hx))
       clear hk hc))
  go_end0
  exact ⟨rfl, HK3, HC3⟩
set_option maxHeartbeats 4000000 in
theorem drelease (v W0 R : Nat → Int) (L : Int) (S : Sup) (gp : Nat) (h : DK b w gd gv gm gs r Bs N n X) (hr : Row w gp 101 (S.cs ++ ptl R L)) (hgp : b ≤ gp) (hW : ∀ j, j < 128 → 0 ≤ W0 j ∧ W0 j ≤ 255) (hv : 0 ≤ v 26 ∧ v 26 ≤ 255) (hn : n + gvs W0 R 128 + gvL (v 26) L ≤ 1000) :
    Calls Tryz.prog 55 #[.pointer (some ⟨gd, 0, none⟩), .agg (ncs v).toArray, .agg (inl 128 W0).toArray, .pointer (some ⟨gp, 0, none⟩)] w (DPut b w gd gv gm gs r Bs N (n + gvs W0 R 128 + gvL (v 26) L) ((X.gives W0 R 128).giveL (v 26) L)) := by
  have i2 := Lib.hid (fun v => info_ncs v)
  have i3 := Lib.hid (fun f => info_rows f)
  have H := Lib.hid h
  have HR := Lib.hid hr
  have HGP := Lib.hid hgp
  have HW := Lib.hid hW
  have HV := Lib.hid hv
  have HN := Lib.hid hn
  have HLT := Lib.hid (p := gd < w.heap.size ∧ gm < w.heap.size ∧ gp < w.heap.size ∧ gp ≠ gd ∧ gp ≠ gm) ⟨h.lt, by obtain ⟨C, h2, _⟩ := h.view; exact h2.map.lt, hr.lt, (by obtain ⟨_, _, _, _, h1⟩ := h.desk; exact hr.ne_ h1 (by decide)), fun e => by obtain ⟨C, h2, _⟩ := h.view; exact h2.map.no_cells _ _ _ (e ▸ hr.heap)⟩
  have HCELL := Lib.hid (p := ∀ W, Row W gp 101 (S.cs ++ ptl R L) → (∀ k, k < 128 → W.cell? ⟨gp, 387 + k, none⟩ = some (.int .i64 (R k))) ∧ W.cell? ⟨gp, 515, none⟩ = some (.int .i64 L)) (fun W h => ⟨fun k hk => by rw [h.cell, List.getElem?_append_right (by rw [Sup.cs_len]; omega), Sup.cs_len, show 387 + k - 387 = k by omega, ptl_row R L hk], by rw [h.cell, List.getElem?_append_right (by rw [Sup.cs_len]; omega), Sup.cs_len]; exact ptl_list R L⟩)
  clear h hr hgp hW hv hn
  go_enter Tryz.func55, Tryz.ntmps55
  go_wp2_with (first
    | (refine step_box rfl 5 rfl 44 (.tmp 1) rfl (ncs v) rfl ?_; intro g5 w2 hr2 hg2 hb2 hs2
       have HR52 := Lib.hid hr2
       have HB2 := Lib.hid hb2
       have HG5 := Lib.hid (p := w.heap.size ≤ g5) (Nat.le_of_eq hg2.out.symm)
       clear hr2 hg2 hb2 hs2)
    | (refine step_box rfl 6 rfl 98 (.tmp 2) rfl (inl 128 W0) rfl ?_; intro g6 w3 hr3 hg3 hb3 hs3
       have HR63 := Lib.hid hr3
       have HR53 := Lib.hid (HR52.out.kept hb3)
       have HB3 := Lib.hid (p := Below w.heap.size w w3) (below_nxt hb3 HB2.out)
       have HG6 := Lib.hid (p := w.heap.size ≤ g6) (by rw [hg3.out]; exact HB2.out.size)
       have HK3 := Lib.hid (H.out.below HB3.out)
       have HP3 := Lib.hid (HR.out.kept HB3.out)
       clear hr3 hg3 hb3 hs3))
  go_loopw [9] (fun x wr => ∃ k : Nat, Hid (k ≤ 128) ∧ x = .int .i64 (k : Int) ∧ Hid (DK b wr gd gv gm gs r Bs N (n + gvs W0 R k) (X.gives W0 R k)) ∧ Hid (Chg [gd, gm] w3 wr)) (fun x _ => 128 - (intOf x).toNat)
  case atStart => exact ⟨0, Lib.hid (by decide), rfl, HK3, Lib.hid (Chg.refl _ _)⟩
  case round =>
    obtain ⟨k, HK, rfl, HKR, HCR⟩ := hrel
    rename World => wo
    have HPR := Lib.hid (HCR.out.row HP3.out (by have h1 := HLT.out; simp; omega))
    have HWR := Lib.hid (HCR.out.row HR63.out (by have h1 := HLT.out; have h2 := HG6.out; simp; omega))
    by_cases hk : k < 128
    · have hki : (k : Int) < 128 := by omega
      have hkw : IntKind.i64.wrap ((k : Int) + 1) = (k : Int) + 1 := by rw [IntKind.wrap_i64]; omega
      have HKK := Lib.hid hk
      obtain ⟨z, hz⟩ : ∃ z : Nat, W0 k = (z : Int) := ⟨(W0 k).toNat, by have := (HW.out k hk).1; omega⟩
      obtain ⟨rk, hrk⟩ : ∃ rk, R k = rk := ⟨_, rfl⟩
      have HZ := Lib.hid (p := W0 k = (z : Int) ∧ R k = rk ∧ z < 256) ⟨hz, hrk, by have := (HW.out k hk).2; omega⟩
      have c0 : wo.cell? ⟨gp, 387 + k, none⟩ = some (.int .i64 rk) := by rw [← hrk]; exact (HCELL.out _ HPR.out).1 k hk
      have c1 : wo.cell? ⟨g6, k, none⟩ = some (.int .i64 (z : Int)) := by rw [← hz, HWR.out.cell, inl_get _ hk]
      have hN2 := gvs_mono W0 R (k + 1) 128 (by omega)
      clear hk hz hrk
      by_cases hr0 : rk = 0
      · have h00 : (rk == 0) = true := by rw [hr0]; rfl
        subst hr0
        by_cases hz0 : z = 0
        · subst hz0
          go_wp2_with (first
            | (go_at_call 57; refine (dgive_no _).mono ?_; rintro e w4 ⟨rfl, rfl⟩))
          go_roundw
          case rel =>
            have e1 : gvs W0 R (k + 1) = gvs W0 R k := if_neg (fun h => h.2 HZ.out.1)
            have e2 : X.gives W0 R (k + 1) = X.gives W0 R k := if_neg (fun h => h.2 HZ.out.1)
            exact ⟨k + 1, HKK, by go_num, Lib.hid (by rw [e1, e2]; exact HKR.out), HCR⟩
          case measure => have := HKK.out; simp [intOf]; omega
        · have e1 : gvs W0 R (k + 1) = gvs W0 R k + 1 := if_pos ⟨HZ.out.2.1, by rw [HZ.out.1]; omega⟩
          have e2 : X.gives W0 R (k + 1) = (X.gives W0 R k).give z := by
            show (if R k = 0 ∧ W0 k ≠ 0 then (X.gives W0 R k).give (W0 k).toNat else X.gives W0 R k) = _
            rw [if_pos ⟨HZ.out.2.1, by rw [HZ.out.1]; omega⟩, HZ.out.1]
            rfl
          have HE := Lib.hid (And.intro e1 e2)
          have HN3 := Lib.hid (p := n + gvs W0 R k ≤ 1000 ∧ 0 < z) (by have := HN.out; omega)
          clear e1 e2 hz0 hN2
          go_wp2_with (first
            | (go_at_call 57; refine (dgive_yes z HKR.out ⟨HN3.out.2, HZ.out.2.2⟩ HN3.out.1).mono ?_; rintro e w4 ⟨rfl, hk, hc⟩
               have HK4 := hk
               have HC4 := Lib.hid (p := Chg [gd, gm] w3 w4) (HCR.out.trans hc.out (fun x hx => .inl hx))
               clear hk hc))
          go_roundw
          case rel => exact ⟨k + 1, HKK, by go_num, Lib.hid (by rw [HE.out.1, HE.out.2, ← Nat.add_assoc]; exact HK4.out), HC4⟩
          case measure => have := HKK.out; simp [intOf]; omega
      · have h00 : (rk == 0) = false := beq_false_of_ne hr0
        have e1 : gvs W0 R (k + 1) = gvs W0 R k := if_neg (fun h => hr0 (by rw [← HZ.out.2.1]; exact h.1))
        have e2 : X.gives W0 R (k + 1) = X.gives W0 R k := if_neg (fun h => hr0 (by rw [← HZ.out.2.1]; exact h.1))
        have HE := Lib.hid (And.intro e1 e2)
        clear e1 e2
        go_wp2
        go_roundw
        case rel => exact ⟨k + 1, HKK, by go_num, Lib.hid (by rw [HE.out.1, HE.out.2]; exact HKR.out), HCR⟩
        case measure => have := HKK.out; simp [intOf]; omega
    · have hkz : ¬ (k : Int) < 128 := by omega
      have hke : k = 128 := by have := HK.out; omega
      subst hke
      have HR5R := Lib.hid (HCR.out.row HR53.out (by have h1 := HLT.out; have h2 := HG5.out; simp; omega))
      have cL : wo.cell? ⟨gp, 515, none⟩ = some (.int .i64 L) := (HCELL.out _ HPR.out).2
      obtain ⟨z, hz⟩ : ∃ z : Nat, v 26 = (z : Int) := ⟨(v 26).toNat, by have := HV.out.1; omega⟩
      have cV : wo.cell? ⟨g5, 26, none⟩ = some (.int .i64 (z : Int)) := by rw [← hz]; exact (HR5R.out.cell 26).trans rfl
      have HZ := Lib.hid (p := v 26 = (z : Int) ∧ z < 256) ⟨hz, by have := HV.out.2; omega⟩
      have HC3 := Lib.hid (p := Chg [gd, gm] w wo) ((Chg.of (F := [gd, gm]) HB3.out).trans HCR.out (fun x hx => .inl hx))
      clear hk hz
      by_cases hr0 : L = 0
      · have h00 : (L == 0) = true := by rw [hr0]; rfl
        subst hr0
        by_cases hz0 : z = 0
        · subst hz0
          go_wp2_with (first
            | (go_at_call 57; refine (dgive_no _).mono ?_; rintro e w4 ⟨rfl, rfl⟩))
          go_end0
          have e1 : gvL (v 26) 0 = 0 := if_neg (fun h => h.2 HZ.out.1)
          have e2 : (X.gives W0 R 128).giveL (v 26) 0 = X.gives W0 R 128 := if_neg (fun h => h.2 HZ.out.1)
          exact ⟨rfl, Lib.hid (by rw [e1, e2]; exact HKR.out), HC3⟩
        · have e1 : gvL (v 26) 0 = 1 := if_pos ⟨rfl, by rw [HZ.out.1]; omega⟩
          have e2 : (X.gives W0 R 128).giveL (v 26) 0 = (X.gives W0 R 128).give z := by
            unfold DX.giveL
            rw [if_pos ⟨rfl, by rw [HZ.out.1]; omega⟩, HZ.out.1]
            rfl
          have HE := Lib.hid (And.intro e1 e2)
          have HN3 := Lib.hid (p := n + gvs W0 R 128 ≤ 1000 ∧ 0 < z) (by have := HN.out; omega)
          clear e1 e2 hz0
          go_wp2_with (first
            | (go_at_call 57; refine (dgive_yes z HKR.out ⟨HN3.out.2, HZ.out.2⟩ HN3.out.1).mono ?_; rintro e w4 ⟨rfl, hk, hc⟩
               have HK4 := hk
               have HC4 := Lib.hid (p := Chg [gd, gm] w w4) (HC3.out.trans hc.out (fun x hx => .inl hx))
               clear hk hc))
          go_end0
          exact ⟨rfl, Lib.hid (by rw [HE.out.1, HE.out.2]; exact HK4.out), HC4⟩
      · have h00 : (L == 0) = false := beq_false_of_ne hr0
        have e1 : gvL (v 26) L = 0 := if_neg (fun h => hr0 h.1)
        have e2 : (X.gives W0 R 128).giveL (v 26) L = X.gives W0 R 128 := if_neg (fun h => hr0 h.1)
        have HE := Lib.hid (And.intro e1 e2)
        clear e1 e2
        go_wp2
        go_end0
        exact ⟨rfl, Lib.hid (by rw [HE.out.1, HE.out.2]; exact HKR.out), HC3⟩
end
end Go.Proofs.YtfbfeplegdpemaaGreat
/- What a slot's block holds where only so many of its bytes stay. Conditions: the desk lies there. -/
set_option linter.unusedVariables false
set_option maxRecDepth 20000
namespace Go.Proofs.YtfbfeplegdpemaaGreat
open Go.RowKit

section
variable {P : Program} {ops : Array Oper} {rest : List Oper} {o : Oper} {a : Act} {w : World} {Q : Exit → Act → World → Prop}
end
section
variable {b : Nat} {w w' : World} {gd gv gm gs r : Nat} {Bs : List BV} {N n : Nat} {X : DX}
end
end Go.Proofs.YtfbfeplegdpemaaGreat
/- A file cut, or made longer. Conditions: the desk lies there, the file's slots are slots, there are fewer than 128 blocks. -/
set_option linter.unusedVariables false
set_option maxRecDepth 20000
namespace Go.Proofs.YtfbfeplegdpemaaGreat
open Go.RowKit

section
variable {b : Nat} {w w' : World} {gd gv gm gs r : Nat} {Bs : List BV} {N n : Nat} {X X' X2 X3 : DX}
end
end Go.Proofs.YtfbfeplegdpemaaGreat
/- Cut, of a file that lies on a desk. Conditions: those named. -/
set_option linter.unusedVariables false
set_option maxRecDepth 20000
namespace Go.Proofs.YtfbfeplegdpemaaGreat
open Go.RowKit

section
variable {Bs : List BV}
theorem give_out (X : DX) (z : Nat) (a : Int) (h : (z : Int) ≠ a) : seeX (X.give z) Bs a = seeX X Bs a := by
  unfold DX.give
  rw [seeX_put_ne _ _ _ _ (Ne.symm h), seeX_setS]
theorem CW.zero {X : DX} {f : Nat → UInt8} (h : CW X Bs 0 f) : ∀ q, q < 256 → f q = 0 := fun q hq => by
  obtain ⟨g, h1, h2⟩ := h
  rcases h1 with ⟨_, h3⟩ | ⟨h3, _⟩
  · rw [← h2 q hq, h3]
  · exact absurd h3 (Nat.lt_irrefl 0)
end
section
variable {Bs : List BV} {X X2 X3 : DX} {v v' R R2 : Nat → Int} {m : Nat} {F F2 : Nat → UInt8}
end
end Go.Proofs.YtfbfeplegdpemaaGreat
/- Cut, of a file that lies on a desk, called. Conditions: those named. -/
set_option linter.unusedVariables false
set_option maxRecDepth 20000
namespace Go.Proofs.YtfbfeplegdpemaaGreat
open Go.RowKit

section
variable {b : Nat} {w w' : World} {gd gv gm gs r : Nat} {Bs : List BV} {N n m : Nat} {X : DX} {v R : Nat → Int} {F F2 : Nat → UInt8}
end
end Go.Proofs.YtfbfeplegdpemaaGreat
/- The empty file; Write of no bytes; a whole file read; how many slots a file takes. Conditions: those named. -/
set_option linter.unusedVariables false
set_option maxRecDepth 20000
namespace Go.Proofs.YtfbfeplegdpemaaGreat
open Go.RowKit

section
variable {b : Nat} {w w' : World} {gd gv gm gs r : Nat} {Bs : List BV} {N n m : Nat} {X : DX} {v R : Nat → Int} {F : Nat → UInt8}
/-- A file, read from its beginning. -/
theorem FO.all (h : FO Bs X v R m F) (count sz : Nat) (hk : DK b w gd gv gm gs r Bs N n X) (hn : n ≤ 1000) (hsz : v 5 = (sz : Int)) (hsz2 : sz ≤ 32768) (hcount : 1 ≤ count ∧ count ≤ 32768) :
    Calls Tryz.prog 17 #[.pointer (some ⟨gd, 0, none⟩), .agg (ncs v).toArray, .int .i64 0, .int .i64 (count : Int)] w (DSee b w gd gv gm gs r Bs N n X (lst (min count sz) F)) := by
  by_cases h0 : sz = 0
  · have h1 := dread_nil v 0 count hk hn sz hsz hsz2 (by omega)
    have e : lst (min count sz) F = [] := by rw [h0, Nat.min_zero]; rfl
    rw [e]
    exact h1
  · have h1 := h.read 0 count (min count sz) sz hk hn hsz hsz2 hcount.2 (by omega) (by rw [Nat.sub_zero]) (Nat.le_min.2 ⟨hcount.1, by omega⟩)
    have e : (fun i => F (0 + i)) = F := by funext i; rw [Nat.zero_add]
    rw [e] at h1
    exact h1
end
end Go.Proofs.YtfbfeplegdpemaaGreat
/- A file on a desk: written with any bytes, none too; got and written as the laws do. Conditions: those named. -/
set_option linter.unusedVariables false
set_option maxRecDepth 20000
namespace Go.Proofs.YtfbfeplegdpemaaGreat
open Go.RowKit

section
variable {b : Nat} {w w' : World} {gd gv gm gs r : Nat} {Bs : List BV} {N n m : Nat} {X : DX} {v R : Nat → Int} {F F2 : Nat → UInt8}
end
/-- How far a law's function is: its desk, what it has changed, its inode's variable, its answer's. -/
structure FS (b : Nat) (w W : World) (gd gv gm gs r pr gn : Nat) (Bs : List BV) (n : Nat) (X : DX) (v : Nat → Int) (x : Value) : Prop where
  dk : DK b W gd gv gm gs r Bs 256 n X
  chg : Chg [gm, pr] w W
  row : Row W gn 44 (ncs v)
  prr : Row W pr 4 [x]
  lo : w.heap.size ≤ gd ∧ gd < gn ∧ gm < w.heap.size ∧ pr < w.heap.size ∧ pr ≠ gm ∧ b ≤ w.heap.size ∧ b ≤ pr ∧ b ≤ gm
section
variable {b : Nat} {w W W' : World} {gd gv gm gs r pr gn : Nat} {Bs : List BV} {n n' : Nat} {X X' : DX} {v v' : Nat → Int} {x x' : Value}
theorem FS.call {G : List Nat} (h : FS b w W gd gv gm gs r pr gn Bs n X v x) (hk : DK b W' gd gv gm gs r Bs 256 n' X') (hc : Chg G W W') (hG : ∀ y ∈ G, y = gd ∨ y = gm) : FS b w W' gd gv gm gs r pr gn Bs n' X' v x := by
  have hl := h.lo
  refine ⟨hk, h.chg.trans hc (fun y hy => ?_), hc.row h.row (fun hy => ?_), hc.row h.prr (fun hy => ?_), hl⟩
  · rcases hG y hy with rfl | rfl
    · exact .inr hl.1
    · exact .inl (by simp)
  · have := hG _ hy; omega
  · have := hG _ hy; omega
theorem FS.set (h : FS b w W gd gv gm gs r pr gn Bs n X v x) (hr : Row W' gn 44 (ncs v')) (hg : W.grownBy W' (some gn)) : FS b w W' gd gv gm gs r pr gn Bs n X v' x := by
  have hl := h.lo
  refine ⟨h.dk.other h.row (by decide) (by omega) (Chg.one hg), h.chg.trans (Chg.one hg) (fun y hy => .inr (by simp at hy; omega)), hr, (Chg.one hg).row h.prr (by simp; omega), hl⟩
theorem FS.put (h : FS b w W gd gv gm gs r pr gn Bs n X v x) (x' : Value) : FS b w (W.setCell ⟨pr, 0, none⟩ x') gd gv gm gs r pr gn Bs n X v x' := by
  have hl := h.lo
  have hc : Chg [pr] W (W.setCell ⟨pr, 0, none⟩ x') := (Chg.refl [pr] W).setCell (p := ⟨pr, 0, none⟩) (.inl (by simp)) _
  exact ⟨h.dk.other h.prr (by decide) hl.2.2.2.2.2.2.1 hc, h.chg.trans hc (fun y hy => .inl (by simp at hy ⊢; exact .inr hy)), hc.row h.row (by simp; omega), h.prr.put 0 x', hl⟩
theorem FS.base (h : FS b w W gd gv gm gs r pr gn Bs n X v x) {g : Nat} {t : TypeId} {cs : List Value} (hr : Row w g t cs) (hne : g ≠ gm ∧ g ≠ pr) : Row W g t cs := h.chg.row hr (by simp; exact hne)
theorem FS.data (h : FS b w W gd gv gm gs r pr gn Bs n X v x) {A : Option Addr} {l : L8} (hD : HolB b w A l) : Hol W A l := Chg.hol hD.1 h.chg (fun g o e hne hx => by
  have hl := h.lo
  have h1 := (hD.2.resolve_left hne) _ e
  simp at h1 hx
  omega)
end
end Go.Proofs.YtfbfeplegdpemaaGreat
