/- The first file of a new volume: made, and got. Conditions: those named. -/
import Derived.Test.YtfbfeplegdpemaaGreatFa
import Derived.Test.YtfbfeplegdpemaaGreatDg
set_option linter.unusedVariables false
set_option maxRecDepth 20000
namespace Go.Proofs.YtfbfeplegdpemaaGreat
open Go.RowKit

/-- A new file's inode, as it is handed in, and with its serial. -/
def vF (k : Nat) : Int := if k = 0 ∨ k = 4 then 1 else 0
def vA (s : Nat) : Nat → Int := at1 vF 6 (s : Int)
theorem built_file : Tryz.prog.built 44 [(0, .int .i64 1), (4, .int .i64 1)] = some (ncs vF).toArray := by kernel_rfl
theorem vA_ne (s : Nat) {k : Nat} (h : k ≠ 6) : vA s k = vF k := at1_other _ _ h
theorem vA_may (s : Nat) (h : s ≠ 0) : mayB (vA s) = true := by
  rw [mayB_iff]
  refine ⟨by rw [vA_ne s (by decide)]; decide, by rw [vA_ne s (by decide)]; decide, by rw [vA_ne s (by decide)]; decide, by rw [vA_ne s (by decide)]; decide, ?_, by rw [vA_ne s (by decide)]; decide, fun j hj => ?_, by rw [vA_ne s (by decide)]; decide⟩
  · show (s : Int) ≠ 0
    omega
  · have e : vA s (10 + j) = 0 := by
      unfold vA
      rw [at1_other _ _ (by omega)]
      unfold vF
      rw [if_neg (by omega)]
    rw [e]
    omega
theorem vA_wf (s : Nat) (h : s < 18446744073709551616) : Wf (vA s) := by
  refine ⟨fun k hk => ?_, ?_⟩
  · unfold kd at hk
    split at hk
    · rename_i h1
      rcases h1 with rfl | rfl | rfl | rfl <;> (rw [vA_ne s (by decide)]; decide)
    · split at hk <;> cases hk
  · show 0 ≤ (s : Int) ∧ (s : Int) < 18446744073709551616
    omega
theorem zeros_not (l : L8) (h : l = List.replicate 256 0) : ¬ SOk l := by
  subst h
  rintro ⟨_, h2, _⟩
  have h3 : (sr (List.replicate 256 0)).s = 0 := by decide +kernel
  exact h2.1 h3
def iA : Nat → Int := at1 (fun _ => 0) 1 1
def oA : Nat → Bool := fun _ => false
theorem super_first : (((supN.setU 1 true).setI 1 1).setS 2) = supU 2 iA oA 2 := by
  have e : at1 (fun j : Nat => j == 0) 1 true = fun j => decide (j < 2) := by
    funext j
    unfold at1
    by_cases h : j = 1
    · rw [if_pos h]; simp; omega
    · rw [if_neg h]
      by_cases h0 : j = 0
      · subst h0; rfl
      · have h1 : (j == 0) = false := beq_false_of_ne h0
        show (j == 0) = _
        rw [h1]
        simp
        omega
  show (⟨2, at1 (fun j : Nat => j == 0) 1 true, iA, oA⟩ : Sup) = ⟨2, fun j => decide (j < 2), iA, oA⟩
  rw [e]
/-- The state behind the first Make. -/
def XA (X : DX) : DX := ((X.loaded supN).setS (supU 2 iA oA 2)).put 1 (blk sz (vA 1) 27)
section
variable {b : Nat} {w w' : World} {gd gv gm gs r : Nat} {Bs : List BV} {N n : Nat} {X X' : DX}
theorem fmake (h : DK b w gd gv gm gs r Bs N n X) (hrd : X.rd = false) (l : L8) (hl : seeX X Bs 0 = some l) (hz : l = List.replicate 256 0) (hn : n ≤ 1000) (hN : 2 ≤ N) : Calls Tryz.prog 14 #[.pointer (some ⟨gd, 0, none⟩), .agg (ncs vF).toArray] w
    fun e w' => e = .returned (.tuple #[.agg (rfc 1 1).toArray, .int .i64 0]) ∧ Hid (DK b w' gd gv gm gs r Bs N (n + 1) (XA X)) ∧ Hid (Chg [gd, gm] w w') := by
  have hln : norm l = List.replicate 256 0 := by rw [hz]; exact norm_256 (by simp)
  have h1 := dmake_ok (X' := X.loaded supN) vF h (.inr ⟨hrd, l, supN, hl, by rw [hz]; simp, .inl ⟨zeros_not _ hln, rfl⟩, rfl⟩) hn ((supN.setU 1 true).setI 1 1) 1 1 1 (by decide) (by decide) ⟨rfl, rfl⟩ (by decide)
    (fun W => add_ok supN (N : Int) 0 1 (by decide) rfl (fun j hj => by omega) (by decide) (by omega) rfl (fun j hj => by have : j = 0 := by omega
                                                                                                                          subst this; rfl) W) (vA 1) rfl (vA_may 1 (by decide)) (vA_wf 1 (by decide))
  rw [super_first] at h1
  exact h1
theorem seeX_put (X : DX) (a : Int) (l : L8) : seeX (X.put a l) Bs a = some l := by
  unfold seeX DX.put upS
  simp
theorem seeX_put_ne (X : DX) (a c : Int) (l : L8) (h : c ≠ a) : seeX (X.put a l) Bs c = seeX X Bs c := by
  unfold seeX DX.put upS
  simp only [if_neg h]
theorem fget (h : DK b w gd gv gm gs r Bs N n (XA X)) (hn : n ≤ 1000) : Calls Tryz.prog 15 #[.pointer (some ⟨gd, 0, none⟩), .agg (rfc 1 1).toArray] w (DOne b w gd gv gm gs r Bs N n (XA X) (.tuple #[.agg (ncs (vA 1)).toArray, .int .i64 0])) := by
  have hb : (blk sz (vA 1) 27).length = 256 := blk_len _ _ _ (by decide)
  exact dget_ok 1 1 (by decide) h (.inl ⟨rfl, rfl⟩) hn 1 rfl (by decide) (blk sz (vA 1) 27) (seeX_put _ 1 _) (by rw [hb]; decide) (vA 1) (by rw [norm_256 hb]; exact iV_blk _ (vA_may 1 (by decide)) (vA_wf 1 (by decide))) rfl
theorem rowok_direct (v : Nat → Int) (e : Nat) (he : e ≤ 16 ∨ v 26 = 0) : RowOk b gd gv gm gs r Bs N X v e (rowD v) := fun w n h => drow_direct v e h he
theorem src_zero {w : World} {m : Nat} (hs : Src b w gs Bs) (hB : Bs.length = m ∧ ∀ x ∈ Bs, x.l = List.replicate 256 0) (C : Int → Option L8) (a : Nat) (ha : a < m) (hC : C (a : Int) = none) : seeX ⟨false, sup0, sup0, C⟩ Bs (a : Int) = some (List.replicate 256 0) := by
  unfold seeX
  simp only [hC]
  rw [src_nat, List.getElem?_eq_getElem (by omega), Option.map_some, hB.2 _ (List.getElem_mem _)]
end
end Go.Proofs.YtfbfeplegdpemaaGreat
/- The laws' first test. Conditions: those named. -/
set_option linter.unusedVariables false
set_option maxRecDepth 20000
namespace Go.Proofs.YtfbfeplegdpemaaGreat
open Go.RowKit

theorem rowD_zero (s j : Nat) : rowD (vA s) j = 0 := by
  unfold rowD
  split
  · rw [vA_ne s (by omega)]
    unfold vF
    rw [if_neg (by omega)]
  · rfl
theorem may_U (m : Nat) (h : 2 ≤ m) : (supU 2 iA oA m).May := by
  refine ⟨by show (2 : Nat) ≠ 0; decide, by show decide (0 < m) = true; simp; omega, rfl, fun j hj => ?_⟩
  unfold Sup.OkA
  show if iA j = 0 then oA j = false else 0 ≤ iA j ∧ iA j < 256 ∧ decide ((iA j).toNat < m) = true ∧ ∀ k, k < j → iA k ≠ iA j
  by_cases e : j = 1
  · subst e
    have h1 : iA 1 = 1 := rfl
    rw [if_neg (by rw [h1]; decide), h1]
    refine ⟨by decide, by decide, by simp; omega, fun k hk => ?_⟩
    have : k = 0 := by omega
    subst this
    decide
  · have h1 : iA j = 0 := at1_other _ _ e
    rw [if_pos h1]
    rfl
section
variable {b : Nat} {w w' : World} {gd gv gm gs r : Nat} {Bs : List BV} {N n : Nat} {X X' : DX}
structure AW (X X2 : DX) (v3 : Nat → Int) : Prop where
  size : v3 5 = 302
  list : v3 26 = 0
  tk : tks (rowD v3) = 1
  at1 : rowD v3 1 = 2
  rd : X2.rd = true
  S : X2.S = supU 2 iA oA 3
  S0 : X2.S0 = supN
  C : ∃ L : L8, L.length = 256 ∧ X2.C = upS (XA X).C 2 L
theorem zc_one : zc (rowD (vA 1)) 1 1 = 1 := by
  rw [zc_succ, rowD_zero, if_pos rfl]
  rfl
theorem awrite (A : Option Addr) (c : Nat) (hc : 2 ≤ c) (h : DK b w gd gv gm gs r Bs N n (XA X)) (hn : n ≤ 900) (hN : 4 ≤ N ∧ N ≤ 256) (hD : ∀ W, Chg [gd, gm] w W → Hol W A [104, 105]) :
    Calls Tryz.prog 16 #[.pointer (some ⟨gd, 0, none⟩), .agg (ncs (vA 1)).toArray, .int .i64 300, .slice A 2 c] w fun e w' => ∃ v3 X2, e = .returned (.agg (ncs v3).toArray) ∧ Hid (AW X X2 v3) ∧ Hid (DK b w' gd gv gm gs r Bs N (n + 2) X2) ∧ Hid (Chg [gd, gm] w w') := by
  have hw := dwrite (X' := XA X) (vA 1) (rowD (vA 1)) A c 2 300 1 1 2 [104, 105] (fun _ _ => 0) 2 2 iA oA 302 h (.inl ⟨rfl, rfl⟩) (by omega) rfl hc (by decide) (by decide) (by decide) rfl hD (rowok_direct _ _ (.inl (by decide))) (fun j hj => by rw [rowD_zero]; decide) (by decide) rfl (by decide) hN.2 (by rw [zc_one]; omega)
    (fun k hk => ⟨0, by rw [rowD_zero]; rfl, .inl ⟨rfl, rfl⟩⟩) (by decide) (.inl ⟨.inl rfl, rfl⟩)
  rw [zc_one] at hw
  refine hw.mono ?_
  rintro e w' ⟨rfl, hk, hch⟩
  refine ⟨_, _, rfl, Lib.hid ⟨rfl, rfl, by decide +kernel, by decide +kernel, rfl, rfl, rfl, lst 256 (mixF [104, 105] (((300 : Nat) : Int) - ((1 + 0 : Nat) : Int) * 256) fun _ => 0), lst_len 256 _, ?_⟩, hk, hch⟩
  · show upS (XA X).C (flR (rowD (vA 1)) 2 1 1 (1 + 0)) _ = _
    have e : flR (rowD (vA 1)) 2 1 1 (1 + 0) = 2 := by decide +kernel
    rw [e]
theorem aread (v3 : Nat → Int) (X2 : DX) (hf : AW X X2 v3) (h : DK b w gd gv gm gs r Bs N n X2) (hn : n ≤ 1000) : Calls Tryz.prog 17 #[.pointer (some ⟨gd, 0, none⟩), .agg (ncs v3).toArray, .int .i64 299, .int .i64 9] w fun e w' => ∃ A c, e = .returned (.slice A 3 c) ∧ Hid (DK b w' gd gv gm gs r Bs N n X2) ∧ Hid (Chg [gd] w w') := by
  obtain ⟨L, hL, hC⟩ := hf.C
  have hsee : seeX X2 Bs ((2 : Nat) : Int) = some L := by
    unfold seeX
    rw [hC]
    rfl
  have hr := dread (X := X2) v3 (rowD v3) 299 9 3 302 1 1 2 (fun p => bfn L (p - 256)) h hn hf.size (by decide) (by decide) (by decide) rfl (by decide) (by decide) rfl (rowok_direct _ _ (.inl (by decide)))
    (fun k hk => by
      have e : k = 0 := by omega
      subst e
      refine ⟨2, hf.at1, bfn L, .inr ⟨by decide, by decide, L, hsee, by rw [hL]; decide, by rw [norm_256 hL, hL], by rw [norm_256 hL]⟩, fun j _ => ?_⟩
      show bfn L j = bfn L ((1 + 0) * 256 + j - 256)
      congr 1
      omega)
  refine hr.mono ?_
  rintro e w' ⟨y, rfl, hy, ho, hk, hch⟩
  have hl : y.l.length = 3 := by rw [hy.out, lst_len]
  rw [hl]
  exact ⟨y.A, y.c, rfl, hk, hch⟩
theorem asave (v3 : Nat → Int) (X2 : DX) (hf : AW X X2 v3) (h : DK b w gd gv gm gs r Bs N n X2) (hn : n ≤ 1000) : Calls Tryz.prog 29 #[.pointer (some ⟨gd, 0, none⟩)] w (DPut b w gd gv gm gs r Bs N (n + 1) X2.saved) := by
  refine dsave_ok h (.inl ⟨hf.rd, rfl⟩) hn ?_ ?_ ?_
  · rw [hf.S, hf.S0]
    decide +kernel
  · rw [hf.S]
    exact may_U 3 (by decide)
  · rw [hf.S]
    decide
/-- Three slots were put. -/
def Put3 (C : Int → Option L8) : Prop := ∃ x y z : L8, C = upS (upS (upS (fun _ => none) 1 x) 2 y) 0 z
theorem put3_len {C : Int → Option BV} {ps : List (Int × BV)} (h : ChOf (byL C) (chL ps)) (h3 : Put3 (byL C)) : ps.length = 3 := by
  obtain ⟨x, y, z, hC⟩ := h3
  rw [hC] at h
  have h2 : ChOf (upS (upS (upS (fun _ => none) 1 x) 2 y) 0 z) [(0, z), (1, x), (2, y)] := by
    refine ⟨by simp, fun s l => ?_⟩
    unfold upS
    simp only [List.mem_cons, Prod.mk.injEq, List.mem_nil_iff, or_false]
    by_cases h0 : s = 0
    · subst h0
      simp
      exact eq_comm
    · rw [if_neg h0]
      by_cases h2 : s = 2
      · subst h2
        simp
        exact eq_comm
      · rw [if_neg h2]
        by_cases h1 : s = 1
        · subst h1
          simp
          exact eq_comm
        · rw [if_neg h1]
          simp [h0, h1, h2]
  have h4 := ChOf.one h h2
  have h5 := congrArg List.length h4
  unfold chL at h5
  simpa using h5
end
end Go.Proofs.YtfbfeplegdpemaaGreat
/- A file as it lies on a desk: its slots, its list, its content. Conditions: those named. -/
set_option linter.unusedVariables false
set_option maxRecDepth 20000
namespace Go.Proofs.YtfbfeplegdpemaaGreat
open Go.RowKit

/-- A file: its slots R (each once, all below m), its list, its content F. -/
structure FO (Bs : List BV) (X : DX) (v R : Nat → Int) (m : Nat) (F : Nat → UInt8) : Prop where
  dir : ∀ j, j < 16 → R j = v (10 + j)
  list : (v 26 = 0 ∧ ∀ j, 16 ≤ j → j < 128 → R j = 0) ∨ ∃ z : Nat, v 26 = (z : Int) ∧ 0 < z ∧ z < m ∧ seeX X Bs (z : Int) = some (blk s2 (fun j => R (16 + j)) 112) ∧ ∀ j, j < 128 → R j ≠ (z : Int)
  cont : ∀ j, j < 128 → ∃ z : Nat, R j = (z : Int) ∧ z < m ∧ CW X Bs z (fun q => F (j * 256 + q))
  inj : ∀ i j, i < 128 → j < 128 → R i = R j → R i ≠ 0 → i = j
  lim : m ≤ 256
section
variable {b : Nat} {w w' : World} {gd gv gm gs r : Nat} {Bs : List BV} {N n m : Nat} {X X' : DX} {v R : Nat → Int} {F : Nat → UInt8}
theorem FO.bounds (h : FO Bs X v R m F) : ∀ j, j < 128 → 0 ≤ R j ∧ R j ≤ 255 := fun j hj => by
  obtain ⟨z, h1, h2, _⟩ := h.cont j hj
  have := h.lim
  omega
theorem FO.v26 (h : FO Bs X v R m F) : 0 ≤ v 26 ∧ v 26 ≤ 255 := by
  have := h.lim
  rcases h.list with ⟨h1, _⟩ | ⟨z, h1, h2, h3, _⟩ <;> omega
theorem FO.slotB (h : FO Bs X v R m F) : slotB (fun j => R (16 + j)) 112 = true := (slotB_iff _ _).2 fun j hj => h.bounds (16 + j) (by omega)
theorem inl_rowD (h : FO Bs X v R m F) (h0 : v 26 = 0) : inl 128 (rowD v) = inl 128 R := List.map_congr_left fun j hj => by
  have hj := List.mem_range.1 hj
  unfold rowD
  rcases h.list with ⟨_, h1⟩ | ⟨z, h1, h2, _⟩
  · by_cases h16 : j < 16
    · rw [if_pos h16, h.dir j h16]
    · rw [if_neg h16, h1 j (by omega) hj]
  · omega
theorem inl_rowL (h : FO Bs X v R m F) : inl 128 (rowL v fun j => R (16 + j)) = inl 128 R := List.map_congr_left fun j hj => by
  unfold rowL
  by_cases h16 : j < 16
  · rw [if_pos h16, h.dir j h16]
  · rw [if_neg h16]
    show Value.int .i64 (R (16 + (j - 16))) = _
    rw [show 16 + (j - 16) = j by omega]
/-- Its row, told whole or as far as the inode's own slots go. -/
theorem FO.row (h : FO Bs X v R m F) (e : Nat) (he : 16 < e) : RowOk b gd gv gm gs r Bs N X v e R := fun w n hk => by
  rcases h.list with ⟨h0, h1⟩ | ⟨z, h0, h1, h2, h3, _⟩
  · have h4 := drow_direct v e hk (.inr h0)
    rw [inl_rowD h h0] at h4
    exact h4
  · have hb : (blk s2 (fun j => R (16 + j)) 112).length = 256 := blk_len _ _ _ (by decide)
    have h4 := drow_listed v (fun j => R (16 + j)) e hk z h0 ⟨h1, by have := h.lim; omega⟩ _ h3 (by rw [hb]; decide) 0 (by rw [norm_256 hb]; exact lV_blk _ h.slotB) he
    rw [inl_rowL h] at h4
    exact h4
theorem FO.row_d (h : FO Bs X v R m F) (e : Nat) (he : e ≤ 16) : RowOk b gd gv gm gs r Bs N X v e (rowD v) := rowok_direct v e (.inl he)
/-- Any part of it, read. -/
theorem FO.read (h : FO Bs X v R m F) (off count cn sz : Nat) (hk : DK b w gd gv gm gs r Bs N n X) (hn : n ≤ 1000) (hsz : v 5 = (sz : Int)) (hsz2 : sz ≤ 32768) (hcount : count ≤ 32768) (hoff : off < sz) (hcn : cn = min count (sz - off)) (hcn1 : 1 ≤ cn) :
    Calls Tryz.prog 17 #[.pointer (some ⟨gd, 0, none⟩), .agg (ncs v).toArray, .int .i64 (off : Int), .int .i64 (count : Int)] w (DSee b w gd gv gm gs r Bs N n X (lst cn fun i => F (off + i))) := by
  obtain ⟨first, hf⟩ : ∃ first, off / 256 = first := ⟨_, rfl⟩
  obtain ⟨e, he⟩ : ∃ e, (off + cn - 1) / 256 + 1 = e := ⟨_, rfl⟩
  have hle : cn ≤ sz - off := by rw [hcn]; exact Nat.min_le_right _ _
  have h128 : e ≤ 128 := by omega
  have hfe : first + (e - first) = e := by omega
  by_cases h16 : e ≤ 16
  · exact dread v (rowD v) off count cn sz first (e - first) e F hk hn hsz hsz2 hcount hoff hcn hcn1 (by omega) hfe (h.row_d e h16) (fun k hk => by
      obtain ⟨z, h1, _, h3⟩ := h.cont (first + k) (by omega)
      refine ⟨z, ?_, h3⟩
      rw [← h1, h.dir _ (by omega)]
      unfold rowD
      rw [if_pos (by omega)])
  · exact dread v R off count cn sz first (e - first) e F hk hn hsz hsz2 hcount hoff hcn hcn1 (by omega) hfe (h.row e (by omega)) (fun k hk => by
      obtain ⟨z, h1, _, h3⟩ := h.cont (first + k) (by omega)
      exact ⟨z, h1, h3⟩)
end
/-! What puts leave. -/
section
variable {Bs : List BV} {X : DX}
theorem seeX_setS (X : DX) (S : Sup) (a : Int) : seeX (X.setS S) Bs a = seeX X Bs a := rfl
theorem wrs_out (sl : Nat → Int) (bk : Nat → Nat → UInt8) (a : Int) : ∀ k, (∀ j, j < k → sl j ≠ a) → seeX (X.wrs sl bk k) Bs a = seeX X Bs a
  | 0, _ => rfl
  | k + 1, h => by
    show seeX ((X.wrs sl bk k).put (sl k) _) Bs a = _
    rw [seeX_put_ne _ _ _ _ (Ne.symm (h k (by omega)))]
    exact wrs_out sl bk a k (fun j hj => h j (by omega))
theorem wrs_in (sl : Nat → Int) (bk : Nat → Nat → UInt8) (i : Nat) : ∀ k, i < k → (∀ j, j < k → j ≠ i → sl j ≠ sl i) → seeX (X.wrs sl bk k) Bs (sl i) = some (lst 256 (bk i))
  | 0, hi, _ => absurd hi (Nat.not_lt_zero _)
  | k + 1, hi, h => by
    show seeX ((X.wrs sl bk k).put (sl k) _) Bs (sl i) = _
    by_cases e : i = k
    · subst e
      exact seeX_put _ _ _
    · rw [seeX_put_ne _ _ _ _ (Ne.symm (h k (by omega) (Ne.symm e)))]
      exact wrs_in sl bk i k (by omega) (fun j hj => h j (by omega))
theorem CW.congr {X Y : DX} {z : Nat} {f : Nat → UInt8} (h : CW X Bs z f) (e : z ≠ 0 → seeX Y Bs (z : Int) = seeX X Bs (z : Int)) : CW Y Bs z f := by
  obtain ⟨g, h1, h2⟩ := h
  refine ⟨g, ?_, h2⟩
  rcases h1 with h1 | ⟨h1, h3, l, h4, h5⟩
  · exact .inl h1
  · exact .inr ⟨h1, h3, l, by rw [e (by omega)]; exact h4, h5⟩
theorem CW.at {X : DX} {z : Nat} {g f : Nat → UInt8} (h1 : 0 < z ∧ z < 256) (h2 : seeX X Bs (z : Int) = some (lst 256 g)) (h3 : ∀ j, j < 256 → g j = f j) : CW X Bs z f := by
  have hl : (lst 256 g).length = 256 := lst_len 256 g
  refine ⟨bfn (lst 256 g), .inr ⟨h1.1, h1.2, _, h2, by rw [hl]; decide, by rw [norm_256 hl, hl], by rw [norm_256 hl]⟩, fun j hj => ?_⟩
  rw [← h3 j hj]
  unfold bfn
  rw [List.getD_eq_getElem?_getD, lst_get _ hj]
  rfl
end
end Go.Proofs.YtfbfeplegdpemaaGreat
/- A file as it lies on a desk behind a write. Conditions: those named. -/
set_option linter.unusedVariables false
set_option maxRecDepth 20000
namespace Go.Proofs.YtfbfeplegdpemaaGreat
open Go.RowKit

theorem fl_cases (R : Nat → Int) (m first cnt j : Nat) : (¬ (first ≤ j ∧ j < first + cnt ∧ R j = 0) ∧ flR R m first cnt j = R j) ∨ ((first ≤ j ∧ j < first + cnt ∧ R j = 0) ∧ flR R m first cnt j = ((m + zc R first (j - first) : Nat) : Int) ∧ zc R first (j - first) < zc R first cnt) := by
  by_cases h : first ≤ j ∧ j < first + cnt ∧ R j = 0
  · refine .inr ⟨h, if_pos h, ?_⟩
    have h1 := zc_succ R first (j - first)
    have h2 : first + (j - first) = j := by omega
    rw [h2, if_pos h.2.2] at h1
    have h3 := zc_mono R first (j - first + 1) cnt (by omega)
    omega
  · exact .inl ⟨h, if_neg h⟩
theorem zc_less (R : Nat → Int) (first i j : Nat) (hi : first ≤ i) (hij : i < j) (h0 : R i = 0) : zc R first (i - first) < zc R first (j - first) := by
  have h1 := zc_succ R first (i - first)
  have h2 : first + (i - first) = i := by omega
  rw [h2, if_pos h0] at h1
  have h3 := zc_mono R first (i - first + 1) (j - first) (by omega)
  omega
theorem blk_s2 {f g : Nat → Int} (h : ∀ k, k < 112 → f k = g k) : blk s2 f 112 = blk s2 g 112 := by
  have := nb_congr s2 112 h
  unfold blk at this ⊢
  rw [this]
theorem slot_nat {z : Int} {a m2 : Nat} (h0 : 0 ≤ z) (h1 : z < (a : Int)) (h2 : a ≤ m2) (h3 : m2 ≤ 256) (hne : z ≠ 0) : ∃ n : Nat, z = (n : Int) ∧ 0 < n ∧ n < m2 ∧ n < 256 := ⟨z.toNat, by omega, by omega, by omega, by omega⟩
section
variable {Bs : List BV} {X X2 : DX} {v v' R : Nat → Int} {m : Nat} {F F2 : Nat → UInt8}
set_option maxHeartbeats 4000000 in
theorem FO.written (h : FO Bs X v R m F) (hm1 : 1 ≤ m) (first cnt e : Nat) (hfe : first + cnt = e) (he : e ≤ 128) (L2 : Int) (m2 : Nat) (hL2 : flL e (v 26) (m + zc R first cnt) = L2) (hm2 : flM e (v 26) (m + zc R first cnt) = m2) (hlim : m2 ≤ 256) (bk : Nat → Nat → UInt8)
    (hbk : ∀ k, k < cnt → ∀ q, q < 256 → bk k q = F2 ((first + k) * 256 + q)) (hF2 : ∀ j, j < 128 → ¬ (first ≤ j ∧ j < e) → ∀ q, q < 256 → F (j * 256 + q) = F2 (j * 256 + q)) (S : Sup) (hv' : ∀ j, j < 16 → v' (10 + j) = flR R m first cnt j) (hv26 : v' 26 = L2)
    (hX2 : PL ((X.setS S).wrs (fun k => flR R m first cnt (first + k)) bk cnt) (v 26) L2 R (flR R m first cnt) X2) : FO Bs X2 v' (flR R m first cnt) m2 F2 := by
  obtain ⟨R2, hR2⟩ : ∃ R2, flR R m first cnt = R2 := ⟨_, rfl⟩
  obtain ⟨Z, hZ⟩ : ∃ Z, zc R first cnt = Z := ⟨_, rfl⟩
  have hc : ∀ j, (¬ (first ≤ j ∧ j < first + cnt ∧ R j = 0) ∧ R2 j = R j) ∨ ((first ≤ j ∧ j < first + cnt ∧ R j = 0) ∧ R2 j = ((m + zc R first (j - first) : Nat) : Int) ∧ zc R first (j - first) < Z) := fun j => by rw [← hR2, ← hZ]; exact fl_cases R m first cnt j
  rw [hR2] at hv' hX2 ⊢
  rw [hZ] at hL2 hm2
  have hmm : m + Z ≤ m2 := by rw [← hm2]; unfold flM; split <;> omega
  have hlt : ∀ j, j < 128 → 0 ≤ R2 j ∧ R2 j < ((m + Z : Nat) : Int) := fun j hj => by
    obtain ⟨z, h1, h2, _⟩ := h.cont j hj
    rcases hc j with ⟨_, e1⟩ | ⟨_, e1, e2⟩
    · rw [e1]; omega
    · rw [e1]; omega
  have hinj : ∀ i j, i < 128 → j < 128 → R2 i = R2 j → R2 i ≠ 0 → i = j := by
    intro i j hi hj he2 hne
    obtain ⟨zi, hi1, hi2, _⟩ := h.cont i hi
    obtain ⟨zj, hj1, hj2, _⟩ := h.cont j hj
    rcases hc i with ⟨_, e1⟩ | ⟨a1, e1, _⟩
    · rcases hc j with ⟨_, e2⟩ | ⟨a2, e2, _⟩
      · exact h.inj i j hi hj (by rw [← e1, ← e2]; exact he2) (by rw [← e1]; exact hne)
      · rw [e1, e2] at he2; omega
    · rcases hc j with ⟨_, e2⟩ | ⟨a2, e2, _⟩
      · rw [e1, e2] at he2; omega
      · rw [e1, e2] at he2
        rcases Nat.lt_trichotomy i j with h1 | h1 | h1
        · have := zc_less R first i j a1.1 h1 a1.2.2; omega
        · exact h1
        · have := zc_less R first j i a2.1 h1 a2.2.2; omega
  -- where the list lies it is not touched by the blocks
  have hL0 : L2 = v 26 ∨ (L2 = ((m + Z : Nat) : Int) ∧ v 26 = 0 ∧ m2 = m + Z + 1) := by
    rw [← hL2, ← hm2]
    unfold flL flM
    by_cases hq : e ≤ 16 ∨ v 26 ≠ 0
    · rw [if_pos hq]; exact .inl rfl
    · rw [if_neg hq, if_neg hq]
      exact .inr ⟨rfl, by omega, rfl⟩
  have hLs : L2 ≠ 0 → 0 < L2 ∧ L2 < (m2 : Int) ∧ ∀ j, j < 128 → R2 j ≠ L2 := fun hne => by
    rcases hL0 with hq | ⟨hq, _, h3⟩
    · rcases h.list with ⟨h1, _⟩ | ⟨z, h1, h2, h3, _, h5⟩
      · omega
      · refine ⟨by omega, by omega, fun j hj => ?_⟩
        rw [hq, h1]
        rcases hc j with ⟨_, e1⟩ | ⟨_, e1, _⟩
        · rw [e1]; exact h5 j hj
        · rw [e1]; omega
    · refine ⟨by omega, by omega, fun j hj => ?_⟩
      have := (hlt j hj).2
      omega
  -- what is seen of a block's slot behind it all
  have hsee2 : ∀ a : Int, a ≠ L2 ∨ L2 = 0 → seeX X2 Bs a = seeX ((X.setS S).wrs (fun k => R2 (first + k)) bk cnt) Bs a := fun a ha => by
    rcases hX2 with ⟨_, h2⟩ | ⟨h1, _, h2⟩
    · rw [h2]
    · rw [h2, seeX_put_ne]
      rcases ha with h3 | h3
      · exact h3
      · exact absurd h3 h1
  have hnew : ∀ k, k < cnt → R2 (first + k) ≠ 0 := fun k hk => by
    rcases hc (first + k) with ⟨h1, e1⟩ | ⟨_, e1, _⟩
    · rw [e1]
      intro h0
      exact h1 ⟨by omega, by omega, h0⟩
    · rw [e1]; omega
  refine ⟨fun j hj => (hv' j hj).symm, ?_, fun j hj => ?_, hinj, hlim⟩
  · by_cases h0 : L2 = 0
    · refine .inl ⟨by rw [hv26, h0], fun j h16 hj => ?_⟩
      have hv0 : v 26 = 0 := by rcases hL0 with h1 | ⟨h1, _⟩ <;> omega
      have he16 : e ≤ 16 := by
        rw [← hL2] at h0
        unfold flL at h0
        by_cases hq : e ≤ 16 ∨ v 26 ≠ 0
        · rcases hq with hq | hq
          · exact hq
          · exact absurd hv0 hq
        · rw [if_neg hq] at h0; omega
      rcases h.list with ⟨_, h1⟩ | ⟨z, h1, h2, _⟩
      · rcases hc j with ⟨_, e1⟩ | ⟨a1, _⟩
        · rw [e1]; exact h1 j h16 hj
        · omega
      · omega
    · obtain ⟨h1, h2, h3⟩ := hLs h0
      obtain ⟨zl, hzl, hl0, hl1, _⟩ := slot_nat (Int.le_of_lt h1) h2 (Nat.le_refl _) hlim h0
      refine .inr ⟨zl, by rw [hv26]; exact hzl, hl0, hl1, ?_, fun j hj => by rw [← hzl]; exact h3 j hj⟩
      rw [← hzl]
      rcases hX2 with ⟨h4, h5⟩ | ⟨_, _, h5⟩
      · rcases h4 with h4 | ⟨h4, h6⟩
        · exact absurd h4 h0
        · rw [h5, wrs_out _ _ _ _ (fun k hk => h3 (first + k) (by clear hL0 hLs hc hL2 hm2; omega)), seeX_setS]
          rcases h.list with ⟨h7, _⟩ | ⟨z, h7, _, _, h8, _⟩
          · exact absurd (h4.trans h7) h0
          · rw [h4, h7, h8]
            exact congrArg some (blk_s2 (fun j hj => (h6 j hj).symm))
      · rw [h5]
        exact seeX_put _ _ _
  · obtain ⟨z0, hz0, hz1, hw⟩ := h.cont j hj
    have hb := hlt j hj
    by_cases hin : first ≤ j ∧ j < e
    · have hj0 : first + (j - first) = j := by clear hL0 hLs hc hX2 hL2 hm2; omega
      have hne := hnew (j - first) (by clear hL0 hLs hc hX2 hL2 hm2; omega)
      rw [hj0] at hne
      obtain ⟨zr, hzr, hr0, hr1, hr2⟩ := slot_nat hb.1 hb.2 hmm hlim hne
      have hjc : j - first < cnt := by clear hL0 hLs hc hX2 hL2 hm2; omega
      refine ⟨zr, hzr, hr1, CW.at ⟨hr0, hr2⟩ (g := bk (j - first)) ?_ (fun q hq => ?_)⟩
      · rw [← hzr, hsee2 (R2 j) (by
          by_cases h0 : L2 = 0
          · exact .inr h0
          · exact .inl ((hLs h0).2.2 j hj))]
        have h1 := wrs_in (Bs := Bs) (X := X.setS S) (fun k => R2 (first + k)) bk (j - first) cnt hjc (fun i hi hne2 he2 => hne2 (by
          have h9 := hinj (first + i) (first + (j - first)) (by clear hL0 hLs hc hX2 hL2 hm2; omega) (by clear hL0 hLs hc hX2 hL2 hm2; omega) he2 (hnew i hi)
          clear hL0 hLs hc hX2 hL2 hm2
          omega))
        simp only [hj0] at h1
        exact h1
      · rw [hbk (j - first) hjc q hq, hj0]
    · have e1 : R2 j = R j := by
        rcases hc j with ⟨_, e1⟩ | ⟨a1, _⟩
        · exact e1
        · omega
      refine ⟨z0, by rw [e1, hz0], by clear hL0 hLs hc hX2 hL2 hm2; omega, ?_⟩
      obtain ⟨g, hg1, hg2⟩ := hw
      refine CW.congr (X := X) ⟨g, hg1, fun q hq => by rw [hg2 q hq]; exact hF2 j hj hin q hq⟩ (fun hz => ?_)
      rw [← hz0, hsee2 (R j) (by
        by_cases h0 : L2 = 0
        · exact .inr h0
        · exact .inl (by rw [← e1]; exact (hLs h0).2.2 j hj))]
      rw [wrs_out _ _ _ _ (fun k hk he2 => hin (by
        have h1 : R2 (first + k) = R2 j := by rw [e1]; exact he2
        have h2 := hinj (first + k) j (by omega) hj h1 (hnew k hk)
        omega)), seeX_setS]
end
end Go.Proofs.YtfbfeplegdpemaaGreat
