/- Inodes made, one behind the other, of a volume's supers without anything else. Conditions: those named. -/
import Derived.Test.YtfbfeplegdpemaaGreatMgFb
import Derived.Test.YtfbfeplegdpemaaGreatFg
import Derived.Test.YtfbfeplegdpemaaGreatGo
set_option linter.unusedVariables false
set_option maxRecDepth 20000
namespace Go.Proofs.YtfbfeplegdpemaaGreat
open Go.RowKit

def iK (c : Nat) (j : Nat) : Int := if 1 ≤ j ∧ j ≤ c then (j : Int) else 0
/-- The super behind so many inodes. -/
def supK (c : Nat) : Sup := ⟨1 + c, fun j => decide (j < 1 + c), iK c, oA⟩
theorem supK_zero : supK 0 = supN := by
  have e1 : (fun j : Nat => decide (j < 1 + 0)) = fun j => j == 0 := by
    funext j
    by_cases h : j = 0
    · subst h; rfl
    · have h1 : (j == 0) = false := beq_false_of_ne h
      rw [h1]
      simp
      omega
  have e2 : iK 0 = fun _ => 0 := by
    funext j
    unfold iK
    rw [if_neg (by omega)]
  unfold supK supN
  rw [e1, e2]
  rfl
theorem supK_next (c : Nat) : (((supK c).setU (1 + c) true).setI (c + 1) ((1 + c : Nat) : Int)).setS (1 + c + 1) = supK (c + 1) := by
  have e1 : at1 (fun j : Nat => decide (j < 1 + c)) (1 + c) true = fun j => decide (j < 1 + (c + 1)) := by
    funext j
    unfold at1
    by_cases h : j = 1 + c
    · rw [if_pos h]; simp; omega
    · rw [if_neg h]; simp; omega
  have e2 : at1 (iK c) (c + 1) ((1 + c : Nat) : Int) = iK (c + 1) := by
    funext j
    unfold at1 iK
    by_cases h : j = c + 1
    · rw [if_pos h, if_pos (by omega)]; omega
    · rw [if_neg h]
      by_cases h2 : 1 ≤ j ∧ j ≤ c
      · rw [if_pos h2, if_pos (by omega)]
      · rw [if_neg h2, if_neg (by omega)]
  show (⟨1 + c + 1, at1 (fun j : Nat => decide (j < 1 + c)) (1 + c) true, at1 (iK c) (c + 1) ((1 + c : Nat) : Int), oA⟩ : Sup) = ⟨1 + (c + 1), fun j => decide (j < 1 + (c + 1)), iK (c + 1), oA⟩
  rw [e1, e2]
  rfl
theorem supK_may (c : Nat) (h : c ≤ 64) : (supK c).May := by
  refine ⟨by show 1 + c ≠ 0; omega, by show decide (0 < 1 + c) = true; simp; omega, rfl, fun j hj => ?_⟩
  unfold Sup.OkA
  show if iK c j = 0 then oA j = false else 0 ≤ iK c j ∧ iK c j < 256 ∧ decide ((iK c j).toNat < 1 + c) = true ∧ ∀ k, k < j → iK c k ≠ iK c j
  by_cases h1 : 1 ≤ j ∧ j ≤ c
  · have e : iK c j = (j : Int) := by unfold iK; rw [if_pos h1]
    rw [e, if_neg (by omega)]
    refine ⟨by omega, by omega, by simp; omega, fun k hk => ?_⟩
    unfold iK
    split <;> omega
  · have e : iK c j = 0 := by unfold iK; rw [if_neg h1]
    rw [e, if_pos rfl]
    rfl
theorem supK_eq (c : Nat) : (supK c).eqb (supK c) = true := Sup.eqb_refl _
theorem supK_ne {c d : Nat} (h : c ≠ d) : (supK c).eqb (supK d) = false := by
  cases e : (supK c).eqb (supK d) with
  | false => rfl
  | true =>
    have h1 := (Sup.eqb_iff _ _).1 e
    have h2 : 1 + c = 1 + d := h1.1
    omega
/-- What slot 0 holds then. -/
def blkK (c : Nat) : L8 := lst 256 (supK c).pb
theorem blkK_len (c : Nat) : (blkK c).length = 256 := lst_len 256 _
theorem blkK_ok (c : Nat) (h : c ≤ 64) : SOk (blkK c) := sok_pb _ (supK_may c h) (by show 1 + c < _; omega)
theorem blkK_sr (c : Nat) (h : c ≤ 64) : (sr (blkK c)).cs = (supK c).cs := sr_pb _ (supK_may c h) (by show 1 + c < _; omega)
theorem blkK_ld (c : Nat) (h : c ≤ 64) : ldS (blkK c) (supK c) := .inr ⟨blkK_ok c h, (blkK_sr c h).symm⟩
/-- The changes of so many inodes made. -/
structure CK (j : Nat) (C : Int → Option L8) : Prop where
  in_ : ∀ a l, C a = some l → 1 ≤ a ∧ a < 256 ∧ l.length = 256
  z : j = 0 → C = fun _ => none
theorem ck_none : CK 0 (fun _ => none) := ⟨fun a l h => (by cases h), fun _ => rfl⟩
theorem CK.put {j : Nat} {C : Int → Option L8} (h : CK j C) (a : Nat) (l : L8) (ha : 1 ≤ a ∧ a < 256) (hl : l.length = 256) : CK (j + 1) (upS C (a : Int) l) := by
  refine ⟨fun x y hx => ?_, fun e => by omega⟩
  unfold upS at hx
  split at hx
  · rename_i e
    injection hx with hx
    subst hx
    subst e
    exact ⟨by omega, by omega, hl⟩
  · exact h.in_ x y hx
/-- The changes of a run. -/
structure CQ (k c : Nat) (C : Int → Option L8) : Prop where
  in_ : ∀ a l, C a = some l → 0 ≤ a ∧ a < 256 ∧ l.length = 256
  z : k = 0 → C = fun _ => none
  at0 : k ≠ 0 → C 0 = some (blkK c)
section
variable {b : Nat} {w w' : World} {gd gv gm gs r : Nat} {Bs : List BV} {N n : Nat} {X : DX} {C : Int → Option L8}
/-- One inode more. -/
theorem kmake (c c0 j : Nat) (hc : c ≤ 60) (h : DK b w gd gv gm gs r Bs 256 n X) (hL : LdR Bs X ⟨true, supK c, supK c0, C⟩) (hC : CK j C) (hn : n ≤ 1000) : Calls Tryz.prog 14 #[.pointer (some ⟨gd, 0, none⟩), .agg (ncs vF).toArray] w
    fun e w' => e = .returned (.tuple #[.agg (rfc (c + 1) (1 + c)).toArray, .int .i64 0]) ∧ ∃ C', Hid (DK b w' gd gv gm gs r Bs 256 (n + 1) ⟨true, supK (c + 1), supK c0, C'⟩) ∧ Hid (CK (j + 1) C') ∧ Hid (Chg [gd, gm] w w') := by
  have hi : iK (c + 1) (c + 1) = ((1 + c : Nat) : Int) := by unfold iK; rw [if_pos (by omega)]; omega
  have h1 := dmake_ok (X' := ⟨true, supK c, supK c0, C⟩) vF h hL hn (((supK c).setU (1 + c) true).setI (c + 1) ((1 + c : Nat) : Int)) (c + 1) (1 + c) (1 + c) (by omega) (by omega) ⟨rfl, at1_same _ _ _⟩ (by omega)
    (fun W => add_ok (supK c) ((256 : Nat) : Int) c (1 + c) (by omega) (by show iK c (c + 1) = 0; unfold iK; rw [if_neg (by omega)]) (fun j hj => by show iK c (j + 1) ≠ 0; unfold iK; rw [if_pos (by omega)]; omega) (by omega) (by omega) (by show decide (1 + c < 1 + c) = false; simp) (fun j hj => by show decide (j < 1 + c) = true; simpa using hj) W) (vA (1 + c)) rfl (vA_may _ (by omega)) (vA_wf _ (by omega))
  rw [supK_next] at h1
  refine h1.mono ?_
  rintro e w' ⟨rfl, hk, hch⟩
  exact ⟨rfl, _, hk, Lib.hid (hC.put (1 + c) _ (by omega) (blk_len _ _ _ (by decide))), hch⟩
end
end Go.Proofs.YtfbfeplegdpemaaGreat
/- The function that the law runs: so many inodes made, the super told and set, saved. Conditions: those named. -/
set_option linter.unusedVariables false
set_option maxRecDepth 20000
namespace Go.Proofs.YtfbfeplegdpemaaGreat
open Go.RowKit

section
variable {P : Program}
theorem run_neq_op (w : World) {a : Act} (o : Oper) (t t' : TypeId) (x y : Operand) (ho : o.op = .binOp .neq t x y t') (xs ys : Array Value) (hx : a.eval x = .agg xs) (hy : a.eval y = .agg ys) (hg : P.eqGuardType P.depth t = false) (b : Bool)
    (he : ∀ w, (Op.equalIn 10000 t (.agg xs) (.agg ys)).run P w = .ok b w) : (execOp a.eval o).run P w = .ok (.value (.bool (!b))) w := by
  unfold execOp
  simp only [ho, hx, hy, Sem.run_bind, run_eqGuard_agg w _ t x y xs ys hg, run_neq_struct, he, Result.andThen_ok]
  rfl
end
section
variable {b : Nat} {w w' : World} {gv gm gs r pv pk ps : Nat} {Bs : List BV} {n : Nat}
set_option maxHeartbeats 8000000 in
theorem saves1 {s0 : Sup} (k c : Nat) (hkc : c + k ≤ 60) (h : VV b w gv gm gs (some ⟨r, 0, none⟩) 0 fun _ => none) (hb : b ≤ w.heap.size) (hrb : b ≤ r) (hr : Row w r 83 (rcs false 0)) (hp : Row w pv 28 [.pointer (some ⟨gv, 0, none⟩)]) (hpk : Row w pk 3 [.int .i64 (k : Int)]) (hps : Row w ps 59 s0.cs) (hs : Src b w gs Bs) (l : L8) (hl : seeX ⟨false, sup0, sup0, byL fun _ => none⟩ Bs 0 = some l) (hl2 : l.length = 256 ∧ ldS l (supK c)) (hbp : b ≤ ps) :
    Calls Tryz.prog 27 #[.pointer (some ⟨pv, 0, none⟩), .pointer (some ⟨pk, 0, none⟩), .pointer (some ⟨ps, 0, none⟩)] w (FunP b gv gm gs r [gm, ps] (fun _ C' w2 => Row w2 ps 59 (supK (c + k)).cs ∧ CQ k (c + k) (byL C')) (fun _ _ => False) w) := by
  have HNEW := Lib.hid (p := ∀ w, Calls Tryz.prog 13 #[.pointer (some ⟨gv, 0, none⟩), .int .i64 256] w fun e w' => ∃ gd, e = .returned (.pointer (some ⟨gd, 0, none⟩)) ∧ Hid (Row w' gd 88 (dcs gv 256 (bkcs false sup0 sup0) (bkcs false sup0 sup0) false (-1))) ∧ Hid (w.heap.size ≤ gd) ∧ Hid (Below w.heap.size w w')) (fun w => dnew gv 256 w)
  have H := Lib.hid h
  have HR := Lib.hid hr
  have HP := Lib.hid hp
  have HPK := Lib.hid hpk
  have HPS := Lib.hid hps
  have HS := Lib.hid hs
  have HL := Lib.hid hl
  have HL2 := Lib.hid hl2
  have HKC := Lib.hid hkc
  have HLO := Lib.hid (p := b ≤ w.heap.size ∧ b ≤ r ∧ b ≤ ps) ⟨hb, hrb, hbp⟩
  have i1 := Lib.hid (fun x : Sup => info_cs x)
  have HLT := Lib.hid (p := gm < w.heap.size ∧ ps < w.heap.size ∧ pk < w.heap.size ∧ ps ≠ gm ∧ pk ≠ gm ∧ pk ≠ ps) ⟨h.map.lt, hps.lt, hpk.lt, fun e => h.map.no_cells _ _ _ (e ▸ hps.heap), fun e => h.map.no_cells _ _ _ (e ▸ hpk.heap), hpk.ne_ hps (by decide)⟩
  have HEQ := Lib.hid (p := ∀ w, (Op.equalIn 10000 59 (.agg (supK (c + k)).cs.toArray) (.agg (supK (c + k)).cs.toArray)).run Tryz.prog w = .ok true w) (fun w => by rw [← supK_eq (c + k)]; exact eq_sup _ _ _ w)
  have c0 : w.cell? ⟨pv, 0, none⟩ = some (.pointer (some ⟨gv, 0, none⟩)) := (hp.cell 0).trans rfl
  clear h hr hp hpk hps hs hb hrb hbp hl hl2 hkc
  go_enter Tryz.func27, Tryz.ntmps27
  go_wp2_with (first
    | (go_at_call 13; refine (HNEW.out _).mono ?_; rintro e w2 ⟨gd, rfl, hd, hg, hb⟩
       have HG := Lib.hid (p := w.heap.size ≤ gd) hg.out
       have HK2 := Lib.hid (DK.start H.out HR.out HS.out ⟨HLO.out.2.1, HLO.out.1⟩ hd.out hg.out hb.out)
       have HC2 := Lib.hid (p := Chg [gm] w w2) (Chg.of hb.out)
       have HN := Lib.hid (p := ∀ x : Nat, (x = gd ∨ x = gm) → x = gm ∨ w.heap.size ≤ x) (fun x hx => by rcases hx with rfl | rfl; exact .inr HG.out; exact .inl rfl)
       have HL3 := Lib.hid (p := LdR Bs ⟨false, sup0, sup0, byL fun _ => none⟩ ⟨true, supK (c + 0), supK c, fun _ => none⟩) (.inr ⟨rfl, l, supK c, HL.out, by rw [HL2.out.1]; decide, by rw [norm_256 HL2.out.1]; exact HL2.out.2, rfl⟩)
       obtain ⟨X0, hX0⟩ : ∃ X0 : DX, (⟨false, sup0, sup0, byL fun _ => none⟩ : DX) = X0 := ⟨_, rfl⟩
       rw [hX0] at HK2 HL3
       clear hd hg hb c0 hX0))
  go_loopw [4] (fun x wr => ∃ (j n : Nat) (X : DX) (C : Int → Option L8), Hid (j ≤ k) ∧ x = .int .i64 (j : Int) ∧ Hid (DK b wr gd gv gm gs r Bs 256 n X) ∧ Hid (LdR Bs X ⟨true, supK (c + j), supK c, C⟩) ∧ Hid (CK j C) ∧ Hid (n ≤ j) ∧ Hid (Chg [gm] w wr)) (fun x _ => k - (intOf x).toNat)
  case atStart => exact ⟨0, 0, X0, fun _ => none, Lib.hid (Nat.zero_le _), rfl, HK2, HL3, Lib.hid ck_none, Lib.hid (Nat.le_refl _), HC2⟩
  case round =>
    obtain ⟨j, n, X, C, HJ, rfl, HKR, HLR, HCK, HNN, HCR⟩ := hrel
    rename World => wo
    have HPKR := Lib.hid (HCR.out.row HPK.out (by have := HLT.out; simp; omega))
    have c1 : wo.cell? ⟨pk, 0, none⟩ = some (.int .i64 (k : Int)) := (HPKR.out.cell 0).trans rfl
    by_cases hj : j < k
    · have hjj : (j : Int) < (k : Int) := by omega
      have hjw : IntKind.i64.wrap ((j : Int) + 1) = (j : Int) + 1 := by rw [IntKind.wrap_i64]; have := HKC.out; omega
      have HJJ := Lib.hid hj
      clear hj
      go_wp2_with (first
        | (refine step_build rfl 44 _ rfl [(0, .int .i64 1), (4, .int .i64 1)] ?hv _ built_file ?_; case hv => (simp [Act.eval, Act.put]))
        | (go_at_call 14; refine (kmake (c + j) c j (by have := HKC.out; have := HJJ.out; omega) HKR.out HLR.out HCK.out (by have := HKC.out; have := HJJ.out; have := HNN.out; omega)).mono ?_; rintro e w3 ⟨rfl, C3, hk, hck, hc⟩
           have HK3 := hk
           have HCK3 := hck
           have HC3 := Lib.hid (p := Chg [gm] w w3) (HCR.out.trans hc.out (fun x hx => by simp at hx ⊢; exact HN.out x hx))
           clear hk hck hc))
      go_roundw
      case rel => exact ⟨j + 1, n + 1, _, C3, HJJ, by go_num, HK3, Lib.hid (.inl ⟨rfl, rfl⟩), HCK3, Lib.hid (Nat.succ_le_succ HNN.out), HC3⟩
      case measure => have := HJJ.out; simp [intOf]; omega
    · have hjz : ¬ (j : Int) < (k : Int) := by omega
      have hje : j = k := by have := HJ.out; omega
      subst hje
      have HPSR := Lib.hid (HCR.out.row HPS.out (by have := HLT.out; simp; omega))
      have HN9 := Lib.hid (p := n ≤ 60) (by have := HKC.out; have := HNN.out; omega)
      clear hj
      go_wp2_with (first
        | (go_at_call 22; refine (dsuper HKR.out HLR.out (by have := HN9.out; omega)).mono ?_; rintro e w3 ⟨rfl, hk, hc⟩
           have HK3 := hk
           have HC3 := Lib.hid (p := Chg [gm] w w3) (HCR.out.trans hc.out (fun x hx => by simp at hx ⊢; exact HN.out x (.inl hx)))
           have HPS3 := Lib.hid (hc.out.row HPSR.out (by have h1 := HLT.out; have h2 := HG.out; simp; omega))
           clear hk hc)
        | (refine step_store rfl 59 (.tmp 2) (.tmp 16) rfl ps rfl _ s0.cs (supK (c + j)).cs rfl HPS3.out (by simp [Sup.cs_len]) (i1.out _) (Sup.cs_one _) ?_; intro w4 hr9 hg9 hs9
           have HPS4 := Lib.hid hr9
           have HK4 := Lib.hid (HK3.out.other HPS3.out (by decide) HLO.out.2.2 (Chg.one hg9))
           have HC4 := Lib.hid (p := Chg [gm, ps] w w4) ((HC3.out.wider (fun x hx => .inl (by simp at hx ⊢; exact .inl hx))).trans (Chg.one hg9) (fun x hx => by simp at hx ⊢; exact .inl (.inr hx)))
           clear hr9 hg9 hs9)
        | (refine step_load rfl 18 rfl 59 (.tmp 2) rfl ps rfl (supK (c + j)).cs _ HPS4.out.all Tryz.underlying59 rfl (i1.out _) ?_)
        | (go_at_call 28; refine (dset (supK (c + j)) HK4.out (.inl ⟨rfl, rfl⟩) (by have := HN9.out; omega)).mono ?_; rintro e w5 ⟨rfl, hk, hc⟩
           have HK5 := Lib.hid (p := DK b w5.drew gd gv gm gs r Bs 256 n ⟨true, supK (c + j), supK c, C⟩) (hk.out.below (below_drw _))
           have HC5 := Lib.hid (p := Chg [gm, ps] w w5.drew) (chg_nxt (HC4.out.trans hc.out (fun x hx => by
             simp at hx ⊢
             rcases HN.out x (.inl hx) with h1 | h1
             · exact .inl (.inl h1)
             · exact .inr h1)) (below_drw _))
           have HPS5 := Lib.hid (p := Row w5.drew ps 59 (supK (c + j)).cs) ((hc.out.row HPS4.out (by have h1 := HLT.out; have h2 := HG.out; simp; omega)).drew)
           clear hk hc))
      refine wp_region_held_drew (S := fun W => Row W ps 59 (supK (c + j)).cs) (by kernel_rfl) HPS5.out (fun hHeld => ?_)
      refine wpAnyH_take (i := 0) (oi := ⟨some 20, .move (.tmp 3), _, _, _, _⟩) (v := .pointer (some ⟨gd, 0, none⟩)) rfl (by kernel_rfl) (by kernel_rfl) (by kernel_rfl) (fun _ _ _ h => h) (.inl ⟨by rfl, fun w hSw => by go_simp⟩) (by assumption) ?_
      simp only [Act.put, List.setIfInBounds_toArray, List.set_cons_zero, List.set_cons_succ]
      refine wpAnyH_take (i := 2) (oi := ⟨some 22, .load 59 (.tmp 2), _, _, _, _⟩) (v := .agg (supK (c + j)).cs.toArray) rfl (by kernel_rfl) (by kernel_rfl) (by kernel_rfl) (fun _ _ _ h => h) (yieldsIf_load_mid (by rfl) 59 (.tmp 2) rfl ps 0 rfl (supK (c + j)).cs _ (fun w hSw => hSw.all) Tryz.underlying59 rfl (i1.out _)) (by assumption) ?_
      simp only [Act.put, List.setIfInBounds_toArray, List.set_cons_zero, List.set_cons_succ]
      refine wpAnyH_ready (rs := [1]) (by kernel_rfl) (by simp) ?_
      refine AllReadyH.cons (o := ⟨some 21, .call ⟨.value (.func 22), #[.tmp 20], _⟩, _, _, _, _⟩) rfl (fun K hK => ?_) AllReadyH.nil
      go_simp
      go_at_call 22
      refine (dsuper HK5.out (.inl ⟨rfl, rfl⟩) (by have := HN9.out; omega)).mono ?_
      rintro e w6 ⟨rfl, hk, hc⟩
      have HK6 := hk
      have HC6 := Lib.hid (p := Chg [gm, ps] w w6) (HC5.out.trans hc.out (fun x hx => by
        simp at hx ⊢
        rcases HN.out x (.inl hx) with h1 | h1
        · exact .inl (.inl h1)
        · exact .inr h1))
      have HPS6 := Lib.hid (hc.out.row HPS5.out (by have h1 := HLT.out; have h2 := HG.out; simp; omega))
      clear hk hc
      refine hK.out _ _ HPS6.out (fun _hH => ?_)
      clear hK K
      refine wpAnyH_take (i := 3) (oi := ⟨some 23, .binOp .neq 59 (.tmp 21) (.tmp 22) 59, _, _, _, _⟩) (v := .bool false) rfl (by kernel_rfl) (by kernel_rfl) (by kernel_rfl) (fun _ _ _ h => h) (.inl ⟨by rfl, fun w hSw => run_neq_op w _ 59 59 (.tmp 21) (.tmp 22) rfl _ _ rfl rfl sup_guard true (fun w => HEQ.out w)⟩) (by assumption) ?_
      simp only [Act.put, List.setIfInBounds_toArray, List.set_cons_zero, List.set_cons_succ]
      refine wpAnyH_done (by kernel_rfl) ?_ _
      clear HPSR HPKR HPS3 HPS4 HK3 HK4 HC3 HC4
      by_cases hz : j = 0
      · go_wp2_with (first
          | (go_at_call 29; refine (dsave_same HK6.out (.inl ⟨rfl, rfl⟩) (by have := HN9.out; omega) (by rw [hz]; exact supK_eq c)).mono ?_; rintro e w7 ⟨rfl, hk, hc⟩
             have HK7 := hk
             have HC7 := Lib.hid (p := Chg [gm, ps] w w7) (HC6.out.trans hc.out (fun x hx => by
               simp at hx ⊢
               rcases HN.out x (.inl hx) with h1 | h1
               · exact .inl (.inl h1)
               · exact .inr h1))
             have HPS7 := Lib.hid (hc.out.row HPS6.out (by have h1 := HLT.out; have h2 := HG.out; simp; omega))
             clear hk hc))
        go_end0
        obtain ⟨C', hv, hC⟩ := HK7.out.view
        refine .inl ⟨rfl, _, C', hv, by have := HN9.out; omega, HK7.out.run, HC7.out, HPS7.out, ?_⟩
        rw [hC]
        have h1 : C = fun _ => none := HCK.out.z hz
        exact ⟨fun a l hx => (by have h2 : C a = some l := hx; rw [h1] at h2; cases h2), fun _ => h1, fun h => absurd hz h⟩
      · go_wp2_with (first
          | (go_at_call 29; refine (dsave_ok HK6.out (.inl ⟨rfl, rfl⟩) (by have := HN9.out; omega) (supK_ne (by omega)) (supK_may _ (by have := HKC.out; omega)) (by have := HKC.out; show 1 + (c + j) < _; omega)).mono ?_; rintro e w7 ⟨rfl, hk, hc⟩
             have HK7 := hk
             have HC7 := Lib.hid (p := Chg [gm, ps] w w7) (HC6.out.trans hc.out (fun x hx => by
               simp at hx ⊢
               rcases HN.out x hx with h1 | h1
               · exact .inl (.inl h1)
               · exact .inr h1))
             have HPS7 := Lib.hid (hc.out.row HPS6.out (by have h1 := HLT.out; have h2 := HG.out; simp; omega))
             clear hk hc))
        go_end0
        obtain ⟨C', hv, hC⟩ := HK7.out.view
        refine .inl ⟨rfl, _, C', hv, by have := HN9.out; omega, HK7.out.run, HC7.out, HPS7.out, ?_⟩
        rw [hC]
        refine ⟨fun a l hx => ?_, fun h => absurd h hz, fun _ => ?_⟩
        · have h2 : upS C 0 (blkK (c + j)) a = some l := hx
          unfold upS at h2
          split at h2
          · rename_i e
            injection h2 with h2
            rw [← h2, blkK_len]
            omega
          · have h3 := HCK.out.in_ a l h2
            omega
        · show upS C 0 (blkK (c + j)) 0 = _
          unfold upS
          rw [if_pos rfl]
end
end Go.Proofs.YtfbfeplegdpemaaGreat
