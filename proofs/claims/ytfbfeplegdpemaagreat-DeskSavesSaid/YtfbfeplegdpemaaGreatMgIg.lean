/- Package inode: the inode of a block, or none. Conditions: those named. -/
import Derived.Test.YtfbfeplegdpemaaGreatMgIb
import Derived.Test.YtfbfeplegdpemaaGreatMgIe
import Derived.Deep.RegionHeld
import Derived.Test.YtfbfeplegdpemaaGreatMgKg
import Derived.Test.YtfbfeplegdpemaaGreatMgGv
import Derived.Deep.MidRow
set_option linter.unusedVariables false
set_option maxRecDepth 20000
namespace Go.Proofs.YtfbfeplegdpemaaGreat
open Go.RowKit

theorem kd_u32 {k : Nat} (h : kd k = .u32) : sz k = 4 := by
  unfold kd at h
  split at h
  · rename_i h1
    rcases h1 with rfl | rfl | rfl | rfl <;> rfl
  · split at h <;> cases h
theorem rd_wf (l : List UInt8) : Wf (rd sz l) := by
  refine ⟨fun k hk => ?_, ?_⟩
  · have h1 := rdn_lt sz l k
    rw [kd_u32 hk] at h1
    have e : (256 : Nat) ^ 4 = 4294967296 := rfl
    unfold rd
    omega
  · have h1 := rdn_lt sz l 6
    have e : (256 : Nat) ^ sz 6 = 18446744073709551616 := rfl
    unfold rd
    omega
/-- Whether a block is an inode's. -/
def iOk (l : List UInt8) : Bool := decide (l.length = 256) && (mayB (rd sz l) && decide (blk sz (rd sz l) 27 = l))
/-- What Unpack answers. -/
def iV (l : List UInt8) : Value := .tuple #[.agg (ncs (if iOk l = true then rd sz l else ino0)).toArray, .int .i64 (if iOk l = true then 0 else 210)]
theorem iV_bad {l : List UInt8} (h : iOk l = false) : iV l = .tuple #[.agg (ncs ino0).toArray, .int .i64 210] := by unfold iV; rw [h]; rfl
theorem iV_ok {l : List UInt8} (h : iOk l = true) : iV l = .tuple #[.agg (ncs (rd sz l)).toArray, .int .i64 0] := by unfold iV; rw [h]; rfl
set_option maxHeartbeats 2000000 in
theorem unpack_any (A : Option Addr) (n c : Nat) (l : List UInt8) (hn : l.length = n) (hlen : n < 9223372036854775808) (w : World) (hA : Hol w A l) :
    Calls Tryz.prog 42 #[.slice A n c] w fun e w' => e = .returned (iV l) ∧ Below w.heap.size w w' := by
  have i1 := Lib.hid (fun v => info_ncs v)
  have hz := Lib.hid zero_ino
  by_cases h256 : n = 256
  · subst h256
    have HNew : Hid (∀ w', Below w.heap.size w w' → Calls Tryz.prog 78 #[.slice A 256 c] w' fun e w'' => ∃ g, e = .returned (.pointer (some ⟨g, 0, none⟩)) ∧ w'.heap.size ≤ g ∧ Cur w'' g l false ∧ Below w'.heap.size w' w'') := fun w' hb => by
      have h := cur_new_any A c l w' (hA.below hb) (by omega)
      rwa [hn] at h
    have HA := Lib.hid hA
    have HL := Lib.hid hn
    have hok : iOk l = (mayB (rd sz l) && decide (blk sz (rd sz l) 27 = l)) := by unfold iOk; rw [decide_eq_true hn, Bool.true_and]
    cases hm : mayB (rd sz l)
    · rw [hm, Bool.false_and] at hok
      have HU := Lib.hid hok
      have HP := Lib.hid (fun w => pack_not (rd sz l) hm w)
      clear hA hn hlen hok hm
      go_enter Tryz.func42, Tryz.ntmps42
      go_wp2_with (first
        | (refine step_alloc rfl 2 rfl 44 rfl _ hz.out ?_; intro g2 w2 hr2 hg2 hb2 hs2
           have R2 := Lib.hid hr2
           have HB2 := Lib.hid hb2
           have Q2 := Lib.hid (p := w.heap.size ≤ g2) (by rw [hg2.out]; exact Nat.le_refl _)
           clear hr2 hb2 hg2 hs2)
        | (go_at_call 78; refine (HNew.out _ HB2.out).mono ?_; rintro e5 w5 ⟨g5, rfl, hq5, hc5, hb5⟩
           have R25 := Lib.hid (R2.out.kept hb5)
           have HB5 := Lib.hid (HB2.out.trans (hb5.mono HB2.out.size))
           have N5 := Lib.hid (p := g2 < g5 ∧ w.heap.size ≤ g5) ⟨Nat.lt_of_lt_of_le R2.out.lt hq5, Nat.le_trans HB2.out.size hq5⟩
           have HC5 := Lib.hid hc5
           clear hq5 hc5 hb5)
        | (go_at_call 77; refine (read_any g5 l _ HC5.out HL.out).mono ?_; rintro e6 w6 ⟨rfl, hg6⟩
           have R26 := Lib.hid (R25.out.grown hg6.out (fun e => by injection e with e; have := N5.out; omega))
           have HB6 := Lib.hid (p := Below w.heap.size w w6) (HB5.out.grown hg6.out HB5.out.size (fun q hq => by injection hq with hq; have := N5.out; omega))
           clear hg6 HC5)
        | (refine step_alloc rfl 4 rfl 44 rfl _ hz.out ?_; intro g4 w4 hr4 hg4 hb4 hs4
           have R4 := Lib.hid hr4
           have R24 := Lib.hid (R26.out.kept hb4)
           have HB4 := Lib.hid (below_nxt hb4 HB6.out)
           have N24 := Lib.hid (p := g2 < g4) (by rw [hg4.out]; exact R26.out.lt)
           clear hr4 hb4 hg4 hs4)
        | (refine step_store rfl 44 (.tmp 4) (.tmp 14) rfl g4 (by rfl) _ (ncs ino0) (ncs (rd sz l)) (by rfl) R4.out rfl (i1.out _) (ncs_one _) ?_; intro w7 hr7 hg7 hs7
           have R47 := Lib.hid hr7
           have R27 := Lib.hid (R24.out.grown hg7 (fun e => by injection e with e; have := N24.out; omega))
           have HB7 := Lib.hid (p := Below w.heap.size w w7) (HB4.out.grown hg7 HB4.out.size (fun q hq => by injection hq with hq; have := N24.out; have := Q2.out; omega))
           clear hr7 hg7 hs7)
        | (refine step_load rfl 16 rfl 44 (.tmp 4) rfl g4 rfl (ncs (rd sz l)) _ R47.out.all Tryz.underlying44 rfl (i1.out _) ?_)
        | (go_at_call 39; refine (HP.out _).mono ?_; rintro e8 w8 ⟨rfl, hb8⟩
           have R48 := Lib.hid (R47.out.kept hb8)
           have R28 := Lib.hid (R27.out.kept hb8)
           have HB8 := Lib.hid (below_nxt hb8 HB7.out)
           clear hb8)
        | (refine step_build rfl 44 #[] rfl [] ?hv _ built_ino0 ?_; case hv => simp)
        | (refine step_store rfl 44 (.tmp 2) (.tmp 28) rfl g2 (by rfl) _ (ncs ino0) (ncs ino0) (by rfl) R28.out rfl (i1.out _) (ncs_one _) ?_; intro w9 hr9 hg9 hs9))
      refine bodyPost_ret (results_row_tmp rfl _ _ g2 _ _ _ _ rfl hr9 Tryz.underlying44 rfl (by simpa using i1.out ino0)) rfl ?_
      exact ⟨by rw [iV_bad HU.out]; rfl, HB8.out.grown hg9 HB8.out.size (fun q hq => by injection hq with hq; subst hq; exact Q2.out)⟩
    · rw [hm, Bool.true_and] at hok
      have HP := Lib.hid (fun w => pack_ok (rd sz l) hm (rd_wf l) w)
      cases he : decide (blk sz (rd sz l) 27 = l)
      · rw [he] at hok
        have HE := Lib.hid he
        have HU := Lib.hid hok
        clear hA hn hlen hok hm he
        go_enter Tryz.func42, Tryz.ntmps42
        go_wp2_with (first
          | (refine step_alloc rfl 2 rfl 44 rfl _ hz.out ?_; intro g2 w2 hr2 hg2 hb2 hs2
             have R2 := Lib.hid hr2
             have HB2 := Lib.hid hb2
             have Q2 := Lib.hid (p := w.heap.size ≤ g2) (by rw [hg2.out]; exact Nat.le_refl _)
             clear hr2 hb2 hg2 hs2)
          | (go_at_call 78; refine (HNew.out _ HB2.out).mono ?_; rintro e5 w5 ⟨g5, rfl, hq5, hc5, hb5⟩
             have R25 := Lib.hid (R2.out.kept hb5)
             have HB5 := Lib.hid (HB2.out.trans (hb5.mono HB2.out.size))
             have N5 := Lib.hid (p := g2 < g5 ∧ w.heap.size ≤ g5) ⟨Nat.lt_of_lt_of_le R2.out.lt hq5, Nat.le_trans HB2.out.size hq5⟩
             have HC5 := Lib.hid hc5
             clear hq5 hc5 hb5)
          | (go_at_call 77; refine (read_any g5 l _ HC5.out HL.out).mono ?_; rintro e6 w6 ⟨rfl, hg6⟩
             have R26 := Lib.hid (R25.out.grown hg6.out (fun e => by injection e with e; have := N5.out; omega))
             have HB6 := Lib.hid (p := Below w.heap.size w w6) (HB5.out.grown hg6.out HB5.out.size (fun q hq => by injection hq with hq; have := N5.out; omega))
             clear hg6 HC5)
          | (refine step_alloc rfl 4 rfl 44 rfl _ hz.out ?_; intro g4 w4 hr4 hg4 hb4 hs4
             have R4 := Lib.hid hr4
             have R24 := Lib.hid (R26.out.kept hb4)
             have HB4 := Lib.hid (below_nxt hb4 HB6.out)
             have N24 := Lib.hid (p := g2 < g4) (by rw [hg4.out]; exact R26.out.lt)
             clear hr4 hb4 hg4 hs4)
          | (refine step_store rfl 44 (.tmp 4) (.tmp 14) rfl g4 (by rfl) _ (ncs ino0) (ncs (rd sz l)) (by rfl) R4.out rfl (i1.out _) (ncs_one _) ?_; intro w7 hr7 hg7 hs7
             have R47 := Lib.hid hr7
             have R27 := Lib.hid (R24.out.grown hg7 (fun e => by injection e with e; have := N24.out; omega))
             have HB7 := Lib.hid (p := Below w.heap.size w w7) (HB4.out.grown hg7 HB4.out.size (fun q hq => by injection hq with hq; have := N24.out; have := Q2.out; omega))
             clear hr7 hg7 hs7)
          | (refine step_load rfl 16 rfl 44 (.tmp 4) rfl g4 rfl (ncs (rd sz l)) _ R47.out.all Tryz.underlying44 rfl (i1.out _) ?_)
          | (go_at_call 39; refine (HP.out _).mono ?_; rintro e8 w8 ⟨A8, c8, rfl, ho8, hb8⟩
             have R48 := Lib.hid (R47.out.kept hb8.out)
             have R28 := Lib.hid (R27.out.kept hb8.out)
             have HB8 := Lib.hid (below_nxt hb8.out HB7.out)
             have HH8 := Lib.hid (Hol.own ho8.out)
             clear hb8 ho8)
          | (go_at_call 80; refine (bequal_any A8 A 256 256 c8 c (blk sz (rd sz l) 27) l (blk_len sz _ 27 (by decide)).symm HL.out.symm _ HH8.out (HA.out.below HB8.out)).mono ?_; rintro e9 w9 ⟨rfl, hw9⟩; obtain rfl := hw9.symm; rw [HE.out])
          | (refine step_build rfl 44 #[] rfl [] ?hv _ built_ino0 ?_; case hv => simp)
          | (refine step_store rfl 44 (.tmp 2) (.tmp 28) rfl g2 (by rfl) _ (ncs ino0) (ncs ino0) (by rfl) R28.out rfl (i1.out _) (ncs_one _) ?_; intro w9 hr9 hg9 hs9))
        refine bodyPost_ret (results_row_tmp rfl _ _ g2 _ _ _ _ rfl hr9 Tryz.underlying44 rfl (by simpa using i1.out ino0)) rfl ?_
        exact ⟨by rw [iV_bad HU.out]; rfl, HB8.out.grown hg9 HB8.out.size (fun q hq => by injection hq with hq; subst hq; exact Q2.out)⟩
      · rw [he] at hok
        have HE := Lib.hid he
        have HU := Lib.hid hok
        clear hA hn hlen hok hm he
        go_enter Tryz.func42, Tryz.ntmps42
        go_wp2_with (first
          | (refine step_alloc rfl 2 rfl 44 rfl _ hz.out ?_; intro g2 w2 hr2 hg2 hb2 hs2
             have R2 := Lib.hid hr2
             have HB2 := Lib.hid hb2
             have Q2 := Lib.hid (p := w.heap.size ≤ g2) (by rw [hg2.out]; exact Nat.le_refl _)
             clear hr2 hb2 hg2 hs2)
          | (go_at_call 78; refine (HNew.out _ HB2.out).mono ?_; rintro e5 w5 ⟨g5, rfl, hq5, hc5, hb5⟩
             have R25 := Lib.hid (R2.out.kept hb5)
             have HB5 := Lib.hid (HB2.out.trans (hb5.mono HB2.out.size))
             have N5 := Lib.hid (p := g2 < g5 ∧ w.heap.size ≤ g5) ⟨Nat.lt_of_lt_of_le R2.out.lt hq5, Nat.le_trans HB2.out.size hq5⟩
             have HC5 := Lib.hid hc5
             clear hq5 hc5 hb5)
          | (go_at_call 77; refine (read_any g5 l _ HC5.out HL.out).mono ?_; rintro e6 w6 ⟨rfl, hg6⟩
             have R26 := Lib.hid (R25.out.grown hg6.out (fun e => by injection e with e; have := N5.out; omega))
             have HB6 := Lib.hid (p := Below w.heap.size w w6) (HB5.out.grown hg6.out HB5.out.size (fun q hq => by injection hq with hq; have := N5.out; omega))
             clear hg6 HC5)
          | (refine step_alloc rfl 4 rfl 44 rfl _ hz.out ?_; intro g4 w4 hr4 hg4 hb4 hs4
             have R4 := Lib.hid hr4
             have R24 := Lib.hid (R26.out.kept hb4)
             have HB4 := Lib.hid (below_nxt hb4 HB6.out)
             have N24 := Lib.hid (p := g2 < g4) (by rw [hg4.out]; exact R26.out.lt)
             clear hr4 hb4 hg4 hs4)
          | (refine step_store rfl 44 (.tmp 4) (.tmp 14) rfl g4 (by rfl) _ (ncs ino0) (ncs (rd sz l)) (by rfl) R4.out rfl (i1.out _) (ncs_one _) ?_; intro w7 hr7 hg7 hs7
             have R47 := Lib.hid hr7
             have R27 := Lib.hid (R24.out.grown hg7 (fun e => by injection e with e; have := N24.out; omega))
             have HB7 := Lib.hid (p := Below w.heap.size w w7) (HB4.out.grown hg7 HB4.out.size (fun q hq => by injection hq with hq; have := N24.out; have := Q2.out; omega))
             clear hr7 hg7 hs7)
          | (refine step_load rfl 16 rfl 44 (.tmp 4) rfl g4 rfl (ncs (rd sz l)) _ R47.out.all Tryz.underlying44 rfl (i1.out _) ?_)
          | (go_at_call 39; refine (HP.out _).mono ?_; rintro e8 w8 ⟨A8, c8, rfl, ho8, hb8⟩
             have R48 := Lib.hid (R47.out.kept hb8.out)
             have R28 := Lib.hid (R27.out.kept hb8.out)
             have HB8 := Lib.hid (below_nxt hb8.out HB7.out)
             have HH8 := Lib.hid (Hol.own ho8.out)
             clear hb8 ho8)
          | (go_at_call 80; refine (bequal_any A8 A 256 256 c8 c (blk sz (rd sz l) 27) l (blk_len sz _ 27 (by decide)).symm HL.out.symm _ HH8.out (HA.out.below HB8.out)).mono ?_; rintro e9 w9 ⟨rfl, hw9⟩; obtain rfl := hw9.symm; rw [HE.out])
          | (refine step_load rfl 29 rfl 44 (.tmp 4) rfl g4 rfl (ncs (rd sz l)) _ R48.out.all Tryz.underlying44 rfl (i1.out _) ?_)
          | (refine step_store rfl 44 (.tmp 2) (.tmp 29) rfl g2 (by rfl) _ (ncs ino0) (ncs (rd sz l)) (by rfl) R28.out rfl (i1.out _) (ncs_one _) ?_; intro w9 hr9 hg9 hs9))
        refine bodyPost_ret (results_row_tmp rfl _ _ g2 _ _ _ _ rfl hr9 Tryz.underlying44 rfl (by simpa using i1.out (rd sz l))) rfl ?_
        exact ⟨by rw [iV_ok HU.out]; rfl, HB8.out.grown hg9 HB8.out.size (fun q hq => by injection hq with hq; subst hq; exact Q2.out)⟩
  · have HU := Lib.hid (p := iOk l = false) (by unfold iOk; rw [decide_eq_false (by omega), Bool.false_and])
    have hne : ((n : Int) != 256) = true := by simp; omega
    have hlen' : (n : Int) ≤ 9223372036854775807 := by omega
    clear hA hn hlen h256
    go_enter Tryz.func42, Tryz.ntmps42
    go_wp2_with (first
      | (refine step_alloc rfl 2 rfl 44 rfl _ hz.out ?_; intro g2 w2 hr2 hg2 hb2 hs2
         have R2 := Lib.hid hr2
         have HB2 := Lib.hid hb2
         have Q2 := Lib.hid (p := w.heap.size ≤ g2) (by rw [hg2.out]; exact Nat.le_refl _)
         clear hr2 hb2 hg2 hs2)
      | (refine step_build rfl 44 #[] rfl [] ?hv _ built_ino0 ?_; case hv => simp)
      | (refine step_store rfl 44 (.tmp 2) (.tmp 10) rfl g2 (by rfl) _ (ncs ino0) (ncs ino0) (by rfl) R2.out rfl (i1.out _) (ncs_one _) ?_; intro w9 hr9 hg9 hs9))
    refine bodyPost_ret (results_row_tmp rfl _ _ g2 _ _ _ _ rfl hr9 Tryz.underlying44 rfl (by simpa using i1.out ino0)) rfl ?_
    exact ⟨by rw [iV_bad HU.out]; rfl, HB2.out.grown hg9 HB2.out.size (fun q hq => by injection hq with hq; subst hq; exact Q2.out)⟩
end Go.Proofs.YtfbfeplegdpemaaGreat
/- Package inode: the list of a block, or none; how many blocks a size goes through. Conditions: those named. -/
set_option linter.unusedVariables false
set_option maxRecDepth 20000
namespace Go.Proofs.YtfbfeplegdpemaaGreat
open Go.RowKit

end Go.Proofs.YtfbfeplegdpemaaGreat
/- A desk as it lies: its cells, and what it leans on. No conditions but those named. -/
set_option linter.unusedVariables false
set_option maxRecDepth 20000
namespace Go.Proofs.YtfbfeplegdpemaaGreat
open Go.RowKit

/-! A part of a row, loaded and stored. -/
def setL : List Value → Nat → List Value → List Value
  | L, _, [] => L
  | L, o, v :: r => setL (L.set o v) (o + 1) r
theorem Row.sets {g : Nat} {t : TypeId} : ∀ (vs : List Value) (o : Nat) {w : World} {L : List Value}, Row w g t L → Row (w.setCells g o vs) g t (setL L o vs)
  | [], _, _, _, h => h
  | v :: r, o, w, L, h => Row.sets r (o + 1) (h.put o v)
theorem setL_mid (B : List Value) : ∀ (vs M A : List Value), M.length = vs.length → setL (A ++ (M ++ B)) A.length vs = A ++ (vs ++ B)
  | [], M, A, h => by
    rw [List.length_nil] at h
    rw [List.eq_nil_of_length_eq_zero h]
    rfl
  | v :: r, [], A, h => by simp at h
  | v :: r, m :: M, A, h => by
    have h1 := setL_mid B r M (A ++ [v]) (by simpa using h)
    have h2 : (A ++ (m :: M ++ B)).set A.length v = A ++ [v] ++ (M ++ B) := by
      rw [List.set_append_right _ _ (Nat.le_refl _)]
      simp
    unfold setL
    rw [h2]
    rw [List.length_append, List.length_singleton] at h1
    rw [h1]
    simp
theorem grown_sets (g : Nat) : ∀ (vs : List Value) (o : Nat) (w : World), w.grownBy (w.setCells g o vs) (some g)
  | [], _, w => ⟨rfl, rfl, rfl, Nat.le_refl _, fun _ _ _ => rfl⟩
  | v :: r, o, w => grown_trans (grown_set w ⟨g, o, none⟩ v) (grown_sets g r (o + 1) _)
section
variable {P : Program} {ops : Array Oper} {rest : List Oper} {o : Oper} {a : Act} {w : World} {Q : Exit → Act → World → Prop} {K : Act → World → Prop}
theorem Row.rng {g off : Nat} {t : TypeId} {A M B : List Value} (h : Row w g t (A ++ (M ++ B))) (ha : A.length = off) : w.rangeAt g off M := fun j v hv => by
  subst ha
  have hj : j < M.length := (List.getElem?_eq_some_iff.1 hv).1
  rw [h.cell, List.getElem?_append_right (by omega), Nat.add_sub_cancel_left, List.getElem?_append_left hj]
  exact hv
/-- A part of a row, loaded. -/
theorem step_load_at (hgd : o.guard = none) (ty : TypeId) (x : Operand) (ho : o.op = .load ty x) (g off : Nat) (hx : a.eval x = .pointer (some ⟨g, off, none⟩)) (t : TypeId) (A cs B : List Value) (dd : TypeDesc)
    (hr : Row w g t (A ++ (cs ++ B))) (ha : A.length = off) (hu : P.underlying ty = some dd) (hdd : dd.isRow = true) (hi : (P.info? ty).map (·.size) = some cs.length)
    (h : wpList P ops Q rest (a.put o.dst (.agg cs.toArray)) w) : wpList P ops Q (o :: rest) a w :=
  wpList_load_mid hgd ty x ho g off hx cs dd (hr.rng ha) hu hdd hi h
theorem row_store {g off : Nat} {t : TypeId} {A old cs B : List Value} (hr : Row w g t (A ++ (old ++ B))) (ha : A.length = off) (hl : old.length = cs.length) : Row (w.setCells g off cs) g t (A ++ (cs ++ B)) := by
  have h := hr.sets cs off
  subst ha
  rwa [setL_mid B cs old A hl] at h
/-- A part of a row, stored. -/
theorem k_store_at (ty : TypeId) (x y : Operand) (ho : o.op = .store ty x y) (g off : Nat) (hx : a.eval x = .pointer (some ⟨g, off, none⟩)) (t : TypeId) (A old cs B : List Value) (hy : a.eval y = .agg cs.toArray)
    (hr : Row w g t (A ++ (old ++ B))) (ha : A.length = off) (hl : old.length = cs.length) (hi : (P.info? ty).map (·.size) = some cs.length) (h1 : ∀ v ∈ cs, v.oneCell' = true)
    (h : ∀ w', Row w' g t (A ++ (cs ++ B)) → w.grownBy w' (some g) → K (a.put o.dst undef) w') : Oper.wp P o a w K Q := by
  refine wp_store_mid ty x y ho g off cs.toArray hx hy ?_ (by simpa using hi) (all_oneCell_toArray h1) ?_
  · have h2 := hr.is_there off cs.length (by subst ha; simp; omega)
    simpa using h2
  · exact h _ (by simpa using row_store hr ha hl) (grown_sets g _ off w)
theorem step_store_at (hgd : o.guard = none) (ty : TypeId) (x y : Operand) (ho : o.op = .store ty x y) (g off : Nat) (hx : a.eval x = .pointer (some ⟨g, off, none⟩)) (t : TypeId) (A old cs B : List Value) (hy : a.eval y = .agg cs.toArray)
    (hr : Row w g t (A ++ (old ++ B))) (ha : A.length = off) (hl : old.length = cs.length) (hi : (P.info? ty).map (·.size) = some cs.length) (h1 : ∀ v ∈ cs, v.oneCell' = true)
    (h : ∀ w', Row w' g t (A ++ (cs ++ B)) → w.grownBy w' (some g) → wpList P ops Q rest (a.put o.dst undef) w') : wpList P ops Q (o :: rest) a w :=
  wpList_plain hgd fun _ hK => k_store_at ty x y ho g off hx t A old cs B hy hr ha hl hi h1 (fun w' h2 h3 => hK _ _ (h w' h2 h3))
end

/-! A desk's cells. -/
def bkcs (rd : Bool) (S S0 : Sup) : List Value := .bool rd :: (S.cs ++ S0.cs)
theorem bkcs_len (rd : Bool) (S S0 : Sup) : (bkcs rd S S0).length = 775 := by simp [bkcs, Sup.cs_len]
theorem bkcs_one (rd : Bool) (S S0 : Sup) : ∀ v ∈ bkcs rd S S0, v.oneCell' = true := by
  intro v hv
  unfold bkcs at hv
  rcases List.mem_cons.1 hv with rfl | hv
  · rfl
  · rcases List.mem_append.1 hv with hv | hv
    · exact S.cs_one v hv
    · exact S0.cs_one v hv
def dtl (wt : Bool) (la : Int) : List Value := [.bool wt, .int .i64 la]
def dhd (gv N : Nat) : List Value := [.pointer (some ⟨gv, 0, none⟩), .int .i64 (N : Int)]
def dcs (gv N : Nat) (bk ah : List Value) (wt : Bool) (la : Int) : List Value := dhd gv N ++ (bk ++ (ah ++ dtl wt la))
section
variable {gv N : Nat} {bk ah : List Value} {wt : Bool} {la : Int} {rd : Bool} {S S0 : Sup}
theorem dcs_S : dcs gv N (bkcs rd S S0) ah wt la = (dhd gv N ++ [.bool rd]) ++ (S.cs ++ (S0.cs ++ (ah ++ dtl wt la))) := by simp [dcs, bkcs]
theorem dcs_ah : dcs gv N bk ah wt la = (dhd gv N ++ bk) ++ (ah ++ dtl wt la) := by simp [dcs]
theorem dcs_tl : dcs gv N bk ah wt la = (dhd gv N ++ (bk ++ ah)) ++ (dtl wt la ++ []) := by simp [dcs]
theorem dcs_2 : (dcs gv N (bkcs rd S S0) ah wt la)[2]? = some (.bool rd) := rfl
theorem dcs_wt (hb : bk.length = 775) (ha : ah.length = 775) : (dcs gv N bk ah wt la)[1552]? = some (.bool wt) := by
  rw [dcs_tl, List.getElem?_append_right (by simp [dhd, hb, ha])]
  simp [dhd, hb, ha, dtl]
theorem dcs_la (hb : bk.length = 775) (ha : ah.length = 775) : (dcs gv N bk ah wt la)[1553]? = some (.int .i64 la) := by
  rw [dcs_tl, List.getElem?_append_right (by simp [dhd, hb, ha])]
  simp [dhd, hb, ha, dtl]
theorem dcs_set_wt (hb : bk.length = 775) (ha : ah.length = 775) (z : Bool) : (dcs gv N bk ah wt la).set 1552 (.bool z) = dcs gv N bk ah z la := by
  rw [dcs_tl, dcs_tl, List.set_append_right _ _ (by simp [dhd, hb, ha])]
  simp [dhd, hb, ha, dtl]
theorem dcs_set_la (hb : bk.length = 775) (ha : ah.length = 775) (z : Int) : (dcs gv N bk ah wt la).set 1553 (.int .i64 z) = dcs gv N bk ah wt z := by
  rw [dcs_tl, dcs_tl, List.set_append_right _ _ (by simp [dhd, hb, ha])]
  simp [dhd, hb, ha, dtl]
theorem dcs_i {j : Nat} (hj : j < 65) : (dcs gv N (bkcs rd S S0) ah wt la)[260 + j]? = some (.int .i64 (S.i j)) := by
  rw [dcs_S, List.getElem?_append_right (by simp [dhd]; omega)]
  rw [List.getElem?_append_left (by simp [dhd, Sup.cs_len]; omega)]
  have := S.c_i hj
  rw [← this]
  congr 1
  simp [dhd]
  omega
end
theorem info_bk : (Tryz.prog.info? 86).map (·.size) = some 775 := by kernel_rfl
theorem info_bkcs (bk : List Value) (h : bk.length = 775) : (Tryz.prog.info? 86).map (·.size) = some bk.length := by rw [h]; exact info_bk
def zl : List Value := .pointer none :: .int .i64 0 :: (bkcs false sup0 sup0 ++ (bkcs false sup0 sup0 ++ dtl false 0))
theorem zero_desk : ∃ it, Tryz.prog.info? 88 = some it ∧ ∃ z, it.zero = some z ∧ z.cells = zl.toArray := by
  have h : (Tryz.prog.info? 88).map (fun it => it.zero.map (·.cells)) = some (some zl.toArray) := by kernel_rfl
  cases hi : Tryz.prog.info? 88 with
  | none => rw [hi] at h; cases h
  | some it =>
    rw [hi] at h
    simp only [Option.map_some, Option.some.injEq] at h
    obtain ⟨z, h1, h2⟩ := Option.map_eq_some_iff.1 h
    exact ⟨it, rfl, z, h1, h2⟩
theorem places_desk : (Tryz.prog.fieldsOf 88).toList.mapM (fun f => (Tryz.prog.info? f.type).map fun i => (f.offset, i.size)) = some [(0, 1), (1, 1), (2, 775), (777, 775), (1552, 1), (1553, 1)] := by kernel_rfl
theorem fill_one {place : Nat → Option (Nat × Nat)} {cells : Array Value} {i off : Nat} {v : Value} {rest : List (Nat × Value)} (hp : place i = some (off, 1)) (hv : v.cells = #[v]) (ho : off < cells.size) :
    Instr.fill place cells ((i, v) :: rest) = Instr.fill place (cells.setIfInBounds off v) rest := by
  rw [Instr.fill, hp]
  simp only [hv]
  rw [if_neg (by simp; omega)]
  simp
theorem built_desk (gv N : Nat) : Tryz.prog.built 88 [(0, .pointer (some ⟨gv, 0, none⟩)), (1, .int .i64 (N : Int)), (5, .int .i64 (-1))] = some (dcs gv N (bkcs false sup0 sup0) (bkcs false sup0 sup0) false (-1)).toArray := by
  obtain ⟨it, hi, z, hz, hc⟩ := zero_desk
  have hu : Tryz.prog.underlying 88 = some (.struct (Tryz.prog.fieldsOf 88)) := by kernel_rfl
  have hl : zl.length = 1554 := by simp [zl, bkcs_len, dtl]
  unfold Program.built
  rw [hi, hu]
  simp only [hz, places_desk, hc]
  rw [fill_one (off := 0) rfl rfl (by simp [hl]), fill_one (off := 1) rfl rfl (by simp [hl]), fill_one (off := 1553) rfl rfl (by simp [hl])]
  simp only [Instr.fill, List.setIfInBounds_toArray]
  have e : (zl.set 0 (.pointer (some ⟨gv, 0, none⟩))).set 1 (.int .i64 (N : Int)) = dcs gv N (bkcs false sup0 sup0) (bkcs false sup0 sup0) false 0 := by
    unfold zl dcs dhd
    rw [List.set_cons_zero, List.set_cons_succ, List.set_cons_zero]
    rfl
  rw [e, dcs_set_la (bkcs_len _ _ _) (bkcs_len _ _ _)]
theorem foldl_sets (off : Nat) : ∀ (vs : List Value) (k : Nat) (L : List Value), (vs.zipIdx k).foldl (fun (cs : Array Value) (x : Value × Nat) => cs.setIfInBounds (off + x.2) x.1) L.toArray = (setL L (off + k) vs).toArray
  | [], _, _ => rfl
  | v :: r, k, L => by
    rw [List.zipIdx_cons, List.foldl_cons]
    simp only [List.setIfInBounds_toArray]
    rw [foldl_sets off r (k + 1) (L.set (off + k) v)]
    rfl
theorem fill_part {place : Nat → Option (Nat × Nat)} {A old B vs : List Value} {i off n : Nat} {v : Value} {rest : List (Nat × Value)} (hp : place i = some (off, n)) (hv : v.cells = vs.toArray) (hn : vs.length = n) (hA : A.length = off) (ho : old.length = n) :
    Instr.fill place (A ++ (old ++ B)).toArray ((i, v) :: rest) = Instr.fill place (A ++ (vs ++ B)).toArray rest := by
  subst hA hn
  rw [Instr.fill, hp]
  simp only [hv]
  rw [if_neg (by simp; omega)]
  have h := foldl_sets A.length vs 0 (A ++ (old ++ B))
  rw [Nat.add_zero, setL_mid B vs old A ho] at h
  rw [← h]
  simp
theorem zero_book : ∃ it, Tryz.prog.info? 86 = some it ∧ ∃ z, it.zero = some z ∧ z.cells = (bkcs false sup0 sup0).toArray := by
  have h : (Tryz.prog.info? 86).map (fun it => it.zero.map (·.cells)) = some (some (bkcs false sup0 sup0).toArray) := by kernel_rfl
  cases hi : Tryz.prog.info? 86 with
  | none => rw [hi] at h; cases h
  | some it =>
    rw [hi] at h
    simp only [Option.map_some, Option.some.injEq] at h
    obtain ⟨z, h1, h2⟩ := Option.map_eq_some_iff.1 h
    exact ⟨it, rfl, z, h1, h2⟩
theorem places_book : (Tryz.prog.fieldsOf 86).toList.mapM (fun f => (Tryz.prog.info? f.type).map fun i => (f.offset, i.size)) = some [(0, 1), (1, 387), (388, 387)] := by kernel_rfl
theorem built_book (S S0 : Sup) : Tryz.prog.built 86 [(0, .bool true), (1, .agg S.cs.toArray), (2, .agg S0.cs.toArray)] = some (bkcs true S S0).toArray := by
  obtain ⟨it, hi, z, hz, hc⟩ := zero_book
  have hu : Tryz.prog.underlying 86 = some (.struct (Tryz.prog.fieldsOf 86)) := by kernel_rfl
  unfold Program.built
  rw [hi, hu]
  simp only [hz, places_book, hc]
  have e : bkcs false sup0 sup0 = [] ++ ([.bool false] ++ (sup0.cs ++ sup0.cs)) := rfl
  rw [e, fill_part (vs := [.bool true]) (n := 1) (off := 0) rfl rfl rfl rfl rfl]
  have e2 : ([] ++ ([Value.bool true] ++ (sup0.cs ++ sup0.cs)) : List Value) = [.bool true] ++ (sup0.cs ++ sup0.cs) := rfl
  rw [e2, fill_part (vs := S.cs) (n := 387) (off := 1) rfl rfl (Sup.cs_len _) rfl (Sup.cs_len _)]
  have e3 : ([Value.bool true] ++ (S.cs ++ sup0.cs) : List Value) = (.bool true :: S.cs) ++ (sup0.cs ++ []) := by simp
  rw [e3, fill_part (vs := S0.cs) (n := 387) (off := 388) rfl rfl (Sup.cs_len _) (by simp [Sup.cs_len]) (Sup.cs_len _)]
  simp [Instr.fill, bkcs]

/-! What a desk is. -/
abbrev L8 := List UInt8
structure DX where
  rd : Bool
  S : Sup
  S0 : Sup
  C : Int → Option L8
/-- What the view sees of a slot. -/
def seeX (X : DX) (Bs : List BV) (a : Int) : Option L8 := match X.C a with | some l => some l | none => (srcF Bs a).map (·.l)
/-- No bytes count as bytes 0. -/
def norm (l : L8) : L8 := if l = [] then List.replicate 256 0 else l
def upS (C : Int → Option L8) (a : Int) (l : L8) : Int → Option L8 := fun k => if k = a then some l else C k
theorem byL_up (C : Int → Option BV) (a : Int) (x : BV) : byL (upC C a x) = upS (byL C) a x.l := by
  funext k
  unfold byL upC upS
  by_cases e : k = a
  · rw [if_pos e, if_pos e]; rfl
  · rw [if_neg e, if_neg e]
structure DK (b : Nat) (w : World) (gd gv gm gs r : Nat) (Bs : List BV) (N n : Nat) (X : DX) : Prop where
  desk : ∃ ah la, ah.length = 775 ∧ (∀ v ∈ ah, v.oneCell' = true) ∧ Row w gd 88 (dcs gv N (bkcs X.rd X.S X.S0) ah false la)
  view : ∃ C, VV b w gv gm gs (some ⟨r, 0, none⟩) n C ∧ byL C = X.C
  run : Row w r 83 (rcs false 0)
  src : Src b w gs Bs
  lo : b ≤ gd ∧ b ≤ r ∧ b ≤ w.heap.size
section
variable {b : Nat} {w w' : World} {gd gv gm gs r : Nat} {Bs : List BV} {N n : Nat} {X : DX}
theorem DK.lt (h : DK b w gd gv gm gs r Bs N n X) : gd < w.heap.size := by obtain ⟨_, _, _, _, h1⟩ := h.desk; exact h1.lt
theorem DK.ne (h : DK b w gd gv gm gs r Bs N n X) : gd ≠ gv ∧ gd ≠ gm ∧ gd ≠ r ∧ gv ≠ gm ∧ gv ≠ r ∧ gm ≠ r := by
  obtain ⟨_, _, _, _, h1⟩ := h.desk
  obtain ⟨C, h2, _⟩ := h.view
  refine ⟨h1.ne_ h2.row (by decide), fun e => h2.map.no_cells _ _ _ (e ▸ h1.heap), h1.ne_ h.run (by decide), h2.ne, h2.row.ne_ h.run (by decide), fun e => h2.map.no_cells _ _ _ (e ▸ h.run.heap)⟩
theorem DK.chg {F : List Nat} (h : DK b w gd gv gm gs r Bs N n X) (hc : Chg F w w') (h1 : gd ∉ F) (h2 : gv ∉ F) (h3 : gm ∉ F) (h4 : r ∉ F) (hN : NoBytes w F) (hb : ∀ x ∈ F, b ≤ x) : DK b w' gd gv gm gs r Bs N n X := by
  obtain ⟨ah, la, e1, e2, e3⟩ := h.desk
  obtain ⟨C, v1, v2⟩ := h.view
  exact ⟨⟨ah, la, e1, e2, hc.row e3 h1⟩, ⟨C, v1.keepN hc h2 h3 hN, v2⟩, hc.row h.run h4, h.src.keep (hc.below h.lo.2.2 hb), h.lo.1, h.lo.2.1, Nat.le_trans h.lo.2.2 hc.size⟩
theorem DK.below (h : DK b w gd gv gm gs r Bs N n X) (hb : Below w.heap.size w w') : DK b w' gd gv gm gs r Bs N n X :=
  h.chg (F := []) (Chg.of hb) (by simp) (by simp) (by simp) (by simp) (fun x hx => by simp at hx) (by simp)
/-- The desk's own cells turned. -/
theorem DK.own (h : DK b w gd gv gm gs r Bs N n X) {ah : List Value} {la : Int} {X' : DX} (hr : Row w' gd 88 (dcs gv N (bkcs X'.rd X'.S X'.S0) ah false la)) (ha : ah.length = 775) (h1 : ∀ v ∈ ah, v.oneCell' = true) (hC : X'.C = X.C) (hg : Chg [gd] w w') : DK b w' gd gv gm gs r Bs N n X' := by
  obtain ⟨n1, n2, n3, n4, n5, n6⟩ := h.ne
  obtain ⟨_, _, _, _, h0⟩ := h.desk
  have hN : NoBytes w [gd] := fun x hx cs fr => by
    rw [List.mem_singleton] at hx
    subst hx
    exact row_noB h0 (by decide) _ _
  obtain ⟨C, v1, v2⟩ := h.view
  exact ⟨⟨ah, la, ha, h1, hr⟩, ⟨C, v1.keepN hg (by simp; exact n1.symm) (by simp; exact n2.symm) hN, by rw [hC]; exact v2⟩, hg.row h.run (by simp; exact n3.symm), h.src.keep (hg.below h.lo.2.2 (fun x hx => by rw [List.mem_singleton] at hx; subst hx; exact h.lo.1)), h.lo.1, h.lo.2.1, Nat.le_trans h.lo.2.2 hg.size⟩
theorem Chg.one {g : Nat} {w w' : World} (h : w.grownBy w' (some g)) : Chg [g] w w' := (Chg.refl _ _).grown h (fun k hk => by injection hk with hk; subst hk; exact .inl (by simp))
/-- What is seen, by the view's own words. -/
theorem seeX_F {C : Int → Option BV} (hC : byL C = X.C) {a : Int} {l : L8} (h : seeX X Bs a = some l) : ∃ x, seeF C (srcF Bs) a = some x ∧ x.l = l := by
  unfold seeX at h
  rw [← hC] at h
  unfold seeF
  unfold byL at h
  cases hx : C a with
  | some x =>
    rw [hx] at h
    simp only [Option.map_some, Option.some.injEq] at h
    exact ⟨x, rfl, h⟩
  | none =>
    rw [hx] at h
    simp only [Option.map_none] at h
    obtain ⟨x, h1, h2⟩ := Option.map_eq_some_iff.1 h
    exact ⟨x, h1, h2⟩
end
end Go.Proofs.YtfbfeplegdpemaaGreat
