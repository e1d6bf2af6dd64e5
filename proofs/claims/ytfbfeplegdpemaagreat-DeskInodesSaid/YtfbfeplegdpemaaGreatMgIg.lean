/- Package inode: the inode of a block, or none. Conditions: those named. -/
import Derived.Test.YtfbfeplegdpemaaGreatMgId
import Derived.Deep.RegionHeld
set_option linter.unusedVariables false
set_option maxRecDepth 20000
namespace Go.Proofs.YtfbfeplegdpemaaGreat
open Go.RowKit

theorem kd_u32 {k : Nat} (h : kd k = .u32) : sz k = 4 := by
  unfold kd at h
  split at h
  · rename_i h1
    rcases h1 with rfl | rfl | rfl | rfl <;> rfl
  · split at h <;> cases h
theorem rd_wf (l : List UInt8) : Wf (rd sz l) := by
  refine ⟨fun k hk => ?_, ?_⟩
  · have h1 := rdn_lt sz l k
    rw [kd_u32 hk] at h1
    have e : (256 : Nat) ^ 4 = 4294967296 := rfl
    unfold rd
    omega
  · have h1 := rdn_lt sz l 6
    have e : (256 : Nat) ^ sz 6 = 18446744073709551616 := rfl
    unfold rd
    omega
/-- Whether a block is an inode's. -/
def iOk (l : List UInt8) : Bool := decide (l.length = 256) && (mayB (rd sz l) && decide (blk sz (rd sz l) 27 = l))
/-- What Unpack answers. -/
def iV (l : List UInt8) : Value := .tuple #[.agg (ncs (if iOk l = true then rd sz l else ino0)).toArray, .int .i64 (if iOk l = true then 0 else 210)]
theorem iV_bad {l : List UInt8} (h : iOk l = false) : iV l = .tuple #[.agg (ncs ino0).toArray, .int .i64 210] := by unfold iV; rw [h]; rfl
theorem iV_ok {l : List UInt8} (h : iOk l = true) : iV l = .tuple #[.agg (ncs (rd sz l)).toArray, .int .i64 0] := by unfold iV; rw [h]; rfl
set_option maxHeartbeats 2000000 in
theorem unpack_any (A : Option Addr) (n c : Nat) (l : List UInt8) (hn : l.length = n) (hlen : n < 9223372036854775808) (w : World) (hA : Hol w A l) :
    Calls Tryz.prog 42 #[.slice A n c] w fun e w' => e = .returned (iV l) ∧ Below w.heap.size w w' := by
  have i1 := Lib.hid (fun v => info_ncs v)
  have hz := Lib.hid zero_ino
  by_cases h256 : n = 256
  · subst h256
    have HNew : Hid (∀ w', Below w.heap.size w w' → Calls Tryz.prog 78 #[.slice A 256 c] w' fun e w'' => ∃ g, e = .returned (.pointer (some ⟨g, 0, none⟩)) ∧ w'.heap.size ≤ g ∧ Cur w'' g l false ∧ Below w'.heap.size w' w'') := fun w' hb => by
      have h := cur_new_any A c l w' (hA.below hb) (by omega)
      rwa [hn] at h
    have HA := Lib.hid hA
    have HL := Lib.hid hn
    have hok : iOk l = (mayB (rd sz l) && decide (blk sz (rd sz l) 27 = l)) := by unfold iOk; rw [decide_eq_true hn, Bool.true_and]
    cases hm : mayB (rd sz l)
    · rw [hm, Bool.false_and] at hok
      have HU := Lib.hid hok
      have HP := Lib.hid (fun w => pack_not (rd sz l) hm w)
      clear hA hn hlen hok hm
      go_enter Tryz.func42, Tryz.ntmps42
      go_wp2_with (first
        | (refine step_alloc rfl 2 rfl 44 rfl _ hz.out ?_; intro g2 w2 hr2 hg2 hb2 hs2
           have R2 := Lib.hid hr2
           have HB2 := Lib.hid hb2
           have Q2 := Lib.hid (p := w.heap.size ≤ g2) (by rw [hg2.out]; exact Nat.le_refl _)
           clear hr2 hb2 hg2 hs2)
        | (go_at_call 78; refine (HNew.out _ HB2.out).mono ?_; rintro e5 w5 ⟨g5, rfl, hq5, hc5, hb5⟩
           have R25 := Lib.hid (R2.out.kept hb5)
           have HB5 := Lib.hid (HB2.out.trans (hb5.mono HB2.out.size))
           have N5 := Lib.hid (p := g2 < g5 ∧ w.heap.size ≤ g5) ⟨Nat.lt_of_lt_of_le R2.out.lt hq5, Nat.le_trans HB2.out.size hq5⟩
           have HC5 := Lib.hid hc5
           clear hq5 hc5 hb5)
        | (go_at_call 77; refine (read_any g5 l _ HC5.out HL.out).mono ?_; rintro e6 w6 ⟨rfl, hg6⟩
           have R26 := Lib.hid (R25.out.grown hg6.out (fun e => by injection e with e; have := N5.out; omega))
           have HB6 := Lib.hid (p := Below w.heap.size w w6) (HB5.out.grown hg6.out HB5.out.size (fun q hq => by injection hq with hq; have := N5.out; omega))
           clear hg6 HC5)
        | (refine step_alloc rfl 4 rfl 44 rfl _ hz.out ?_; intro g4 w4 hr4 hg4 hb4 hs4
           have R4 := Lib.hid hr4
           have R24 := Lib.hid (R26.out.kept hb4)
           have HB4 := Lib.hid (below_nxt hb4 HB6.out)
           have N24 := Lib.hid (p := g2 < g4) (by rw [hg4.out]; exact R26.out.lt)
           clear hr4 hb4 hg4 hs4)
        | (refine step_store rfl 44 (.tmp 4) (.tmp 14) rfl g4 (by rfl) _ (ncs ino0) (ncs (rd sz l)) (by rfl) R4.out rfl (i1.out _) (ncs_one _) ?_; intro w7 hr7 hg7 hs7
           have R47 := Lib.hid hr7
           have R27 := Lib.hid (R24.out.grown hg7 (fun e => by injection e with e; have := N24.out; omega))
           have HB7 := Lib.hid (p := Below w.heap.size w w7) (HB4.out.grown hg7 HB4.out.size (fun q hq => by injection hq with hq; have := N24.out; have := Q2.out; omega))
           clear hr7 hg7 hs7)
        | (refine step_load rfl 16 rfl 44 (.tmp 4) rfl g4 rfl (ncs (rd sz l)) _ R47.out.all Tryz.underlying44 rfl (i1.out _) ?_)
        | (go_at_call 39; refine (HP.out _).mono ?_; rintro e8 w8 ⟨rfl, hb8⟩
           have R48 := Lib.hid (R47.out.kept hb8)
           have R28 := Lib.hid (R27.out.kept hb8)
           have HB8 := Lib.hid (below_nxt hb8 HB7.out)
           clear hb8)
        | (refine step_build rfl 44 #[] rfl [] ?hv _ built_ino0 ?_; case hv => simp)
        | (refine step_store rfl 44 (.tmp 2) (.tmp 28) rfl g2 (by rfl) _ (ncs ino0) (ncs ino0) (by rfl) R28.out rfl (i1.out _) (ncs_one _) ?_; intro w9 hr9 hg9 hs9))
      refine bodyPost_ret (results_row_tmp rfl _ _ g2 _ _ _ _ rfl hr9 Tryz.underlying44 rfl (by simpa using i1.out ino0)) rfl ?_
      exact ⟨by rw [iV_bad HU.out]; rfl, HB8.out.grown hg9 HB8.out.size (fun q hq => by injection hq with hq; subst hq; exact Q2.out)⟩
    · rw [hm, Bool.true_and] at hok
      have HP := Lib.hid (fun w => pack_ok (rd sz l) hm (rd_wf l) w)
      cases he : decide (blk sz (rd sz l) 27 = l)
      · rw [he] at hok
        have HE := Lib.hid he
        have HU := Lib.hid hok
        clear hA hn hlen hok hm he
        go_enter Tryz.func42, Tryz.ntmps42
        go_wp2_with (first
          | (refine step_alloc rfl 2 rfl 44 rfl _ hz.out ?_; intro g2 w2 hr2 hg2 hb2 hs2
             have R2 := Lib.hid hr2
             have HB2 := Lib.hid hb2
             have Q2 := Lib.hid (p := w.heap.size ≤ g2) (by rw [hg2.out]; exact Nat.le_refl _)
             clear hr2 hb2 hg2 hs2)
          | (go_at_call 78; refine (HNew.out _ HB2.out).mono ?_; rintro e5 w5 ⟨g5, rfl, hq5, hc5, hb5⟩
             have R25 := Lib.hid (R2.out.kept hb5)
             have HB5 := Lib.hid (HB2.out.trans (hb5.mono HB2.out.size))
             have N5 := Lib.hid (p := g2 < g5 ∧ w.heap.size ≤ g5) ⟨Nat.lt_of_lt_of_le R2.out.lt hq5, Nat.le_trans HB2.out.size hq5⟩
             have HC5 := Lib.hid hc5
             clear hq5 hc5 hb5)
          | (go_at_call 77; refine (read_any g5 l _ HC5.out HL.out).mono ?_; rintro e6 w6 ⟨rfl, hg6⟩
             have R26 := Lib.hid (R25.out.grown hg6.out (fun e => by injection e with e; have := N5.out; omega))
             have HB6 := Lib.hid (p := Below w.heap.size w w6) (HB5.out.grown hg6.out HB5.out.size (fun q hq => by injection hq with hq; have := N5.out; omega))
             clear hg6 HC5)
          | (refine step_alloc rfl 4 rfl 44 rfl _ hz.out ?_; intro g4 w4 hr4 hg4 hb4 hs4
             have R4 := Lib.hid hr4
             have R24 := Lib.hid (R26.out.kept hb4)
             have HB4 := Lib.hid (below_nxt hb4 HB6.out)
             have N24 := Lib.hid (p := g2 < g4) (by rw [hg4.out]; exact R26.out.lt)
             clear hr4 hb4 hg4 hs4)
          | (refine step_store rfl 44 (.tmp 4) (.tmp 14) rfl g4 (by rfl) _ (ncs ino0) (ncs (rd sz l)) (by rfl) R4.out rfl (i1.out _) (ncs_one _) ?_; intro w7 hr7 hg7 hs7
             have R47 := Lib.hid hr7
             have R27 := Lib.hid (R24.out.grown hg7 (fun e => by injection e with e; have := N24.out; omega))
             have HB7 := Lib.hid (p := Below w.heap.size w w7) (HB4.out.grown hg7 HB4.out.size (fun q hq => by injection hq with hq; have := N24.out; have := Q2.out; omega))
             clear hr7 hg7 hs7)
          | (refine step_load rfl 16 rfl 44 (.tmp 4) rfl g4 rfl (ncs (rd sz l)) _ R47.out.all Tryz.underlying44 rfl (i1.out _) ?_)
          | (go_at_call 39; refine (HP.out _).mono ?_; rintro e8 w8 ⟨A8, c8, rfl, ho8, hb8⟩
             have R48 := Lib.hid (R47.out.kept hb8.out)
             have R28 := Lib.hid (R27.out.kept hb8.out)
             have HB8 := Lib.hid (below_nxt hb8.out HB7.out)
             have HH8 := Lib.hid (Hol.own ho8.out)
             clear hb8 ho8)
          | (go_at_call 80; refine (bequal_any A8 A 256 256 c8 c (blk sz (rd sz l) 27) l (blk_len sz _ 27 (by decide)).symm HL.out.symm _ HH8.out (HA.out.below HB8.out)).mono ?_; rintro e9 w9 ⟨rfl, hw9⟩; obtain rfl := hw9.symm; rw [HE.out])
          | (refine step_build rfl 44 #[] rfl [] ?hv _ built_ino0 ?_; case hv => simp)
          | (refine step_store rfl 44 (.tmp 2) (.tmp 28) rfl g2 (by rfl) _ (ncs ino0) (ncs ino0) (by rfl) R28.out rfl (i1.out _) (ncs_one _) ?_; intro w9 hr9 hg9 hs9))
        refine bodyPost_ret (results_row_tmp rfl _ _ g2 _ _ _ _ rfl hr9 Tryz.underlying44 rfl (by simpa using i1.out ino0)) rfl ?_
        exact ⟨by rw [iV_bad HU.out]; rfl, HB8.out.grown hg9 HB8.out.size (fun q hq => by injection hq with hq; subst hq; exact Q2.out)⟩
      · rw [he] at hok
        have HE := Lib.hid he
        have HU := Lib.hid hok
        clear hA hn hlen hok hm he
        go_enter Tryz.func42, Tryz.ntmps42
        go_wp2_with (first
          | (refine step_alloc rfl 2 rfl 44 rfl _ hz.out ?_; intro g2 w2 hr2 hg2 hb2 hs2
             have R2 := Lib.hid hr2
             have HB2 := Lib.hid hb2
             have Q2 := Lib.hid (p := w.heap.size ≤ g2) (by rw [hg2.out]; exact Nat.le_refl _)
             clear hr2 hb2 hg2 hs2)
          | (go_at_call 78; refine (HNew.out _ HB2.out).mono ?_; rintro e5 w5 ⟨g5, rfl, hq5, hc5, hb5⟩
             have R25 := Lib.hid (R2.out.kept hb5)
             have HB5 := Lib.hid (HB2.out.trans (hb5.mono HB2.out.size))
             have N5 := Lib.hid (p := g2 < g5 ∧ w.heap.size ≤ g5) ⟨Nat.lt_of_lt_of_le R2.out.lt hq5, Nat.le_trans HB2.out.size hq5⟩
             have HC5 := Lib.hid hc5
             clear hq5 hc5 hb5)
          | (go_at_call 77; refine (read_any g5 l _ HC5.out HL.out).mono ?_; rintro e6 w6 ⟨rfl, hg6⟩
             have R26 := Lib.hid (R25.out.grown hg6.out (fun e => by injection e with e; have := N5.out; omega))
             have HB6 := Lib.hid (p := Below w.heap.size w w6) (HB5.out.grown hg6.out HB5.out.size (fun q hq => by injection hq with hq; have := N5.out; omega))
             clear hg6 HC5)
          | (refine step_alloc rfl 4 rfl 44 rfl _ hz.out ?_; intro g4 w4 hr4 hg4 hb4 hs4
             have R4 := Lib.hid hr4
             have R24 := Lib.hid (R26.out.kept hb4)
             have HB4 := Lib.hid (below_nxt hb4 HB6.out)
             have N24 := Lib.hid (p := g2 < g4) (by rw [hg4.out]; exact R26.out.lt)
             clear hr4 hb4 hg4 hs4)
          | (refine step_store rfl 44 (.tmp 4) (.tmp 14) rfl g4 (by rfl) _ (ncs ino0) (ncs (rd sz l)) (by rfl) R4.out rfl (i1.out _) (ncs_one _) ?_; intro w7 hr7 hg7 hs7
             have R47 := Lib.hid hr7
             have R27 := Lib.hid (R24.out.grown hg7 (fun e => by injection e with e; have := N24.out; omega))
             have HB7 := Lib.hid (p := Below w.heap.size w w7) (HB4.out.grown hg7 HB4.out.size (fun q hq => by injection hq with hq; have := N24.out; have := Q2.out; omega))
             clear hr7 hg7 hs7)
          | (refine step_load rfl 16 rfl 44 (.tmp 4) rfl g4 rfl (ncs (rd sz l)) _ R47.out.all Tryz.underlying44 rfl (i1.out _) ?_)
          | (go_at_call 39; refine (HP.out _).mono ?_; rintro e8 w8 ⟨A8, c8, rfl, ho8, hb8⟩
             have R48 := Lib.hid (R47.out.kept hb8.out)
             have R28 := Lib.hid (R27.out.kept hb8.out)
             have HB8 := Lib.hid (below_nxt hb8.out HB7.out)
             have HH8 := Lib.hid (Hol.own ho8.out)
             clear hb8 ho8)
          | (go_at_call 80; refine (bequal_any A8 A 256 256 c8 c (blk sz (rd sz l) 27) l (blk_len sz _ 27 (by decide)).symm HL.out.symm _ HH8.out (HA.out.below HB8.out)).mono ?_; rintro e9 w9 ⟨rfl, hw9⟩; obtain rfl := hw9.symm; rw [HE.out])
          | (refine step_load rfl 29 rfl 44 (.tmp 4) rfl g4 rfl (ncs (rd sz l)) _ R48.out.all Tryz.underlying44 rfl (i1.out _) ?_)
          | (refine step_store rfl 44 (.tmp 2) (.tmp 29) rfl g2 (by rfl) _ (ncs ino0) (ncs (rd sz l)) (by rfl) R28.out rfl (i1.out _) (ncs_one _) ?_; intro w9 hr9 hg9 hs9))
        refine bodyPost_ret (results_row_tmp rfl _ _ g2 _ _ _ _ rfl hr9 Tryz.underlying44 rfl (by simpa using i1.out (rd sz l))) rfl ?_
        exact ⟨by rw [iV_ok HU.out]; rfl, HB8.out.grown hg9 HB8.out.size (fun q hq => by injection hq with hq; subst hq; exact Q2.out)⟩
  · have HU := Lib.hid (p := iOk l = false) (by unfold iOk; rw [decide_eq_false (by omega), Bool.false_and])
    have hne : ((n : Int) != 256) = true := by simp; omega
    have hlen' : (n : Int) ≤ 9223372036854775807 := by omega
    clear hA hn hlen h256
    go_enter Tryz.func42, Tryz.ntmps42
    go_wp2_with (first
      | (refine step_alloc rfl 2 rfl 44 rfl _ hz.out ?_; intro g2 w2 hr2 hg2 hb2 hs2
         have R2 := Lib.hid hr2
         have HB2 := Lib.hid hb2
         have Q2 := Lib.hid (p := w.heap.size ≤ g2) (by rw [hg2.out]; exact Nat.le_refl _)
         clear hr2 hb2 hg2 hs2)
      | (refine step_build rfl 44 #[] rfl [] ?hv _ built_ino0 ?_; case hv => simp)
      | (refine step_store rfl 44 (.tmp 2) (.tmp 10) rfl g2 (by rfl) _ (ncs ino0) (ncs ino0) (by rfl) R2.out rfl (i1.out _) (ncs_one _) ?_; intro w9 hr9 hg9 hs9))
    refine bodyPost_ret (results_row_tmp rfl _ _ g2 _ _ _ _ rfl hr9 Tryz.underlying44 rfl (by simpa using i1.out ino0)) rfl ?_
    exact ⟨by rw [iV_bad HU.out]; rfl, HB2.out.grown hg9 HB2.out.size (fun q hq => by injection hq with hq; subst hq; exact Q2.out)⟩
end Go.Proofs.YtfbfeplegdpemaaGreat
/- Package inode: the list of a block, or none; how many blocks a size goes through. Conditions: those named. -/
set_option linter.unusedVariables false
set_option maxRecDepth 20000
namespace Go.Proofs.YtfbfeplegdpemaaGreat
open Go.RowKit

def upL (L : List UInt8) (k j : Nat) : Int := if j < k then rd s2 L j else 0
theorem upL_zero (L : List UInt8) : inl 112 (upL L 0) = inl 112 ino0 := inl_congr fun j _ => by unfold upL; rw [if_neg (by omega)]; rfl
theorem upL_all (L : List UInt8) : inl 112 (upL L 112) = inl 112 (rd s2 L) := inl_congr fun j hj => by unfold upL; rw [if_pos hj]
theorem upL_step (L : List UInt8) (k : Nat) (hk : k < 112) : (inl 112 (upL L k)).set k (.int .i64 (rd s2 L k)) = inl 112 (upL L (k + 1)) := by
  rw [inl_set _ _ hk]
  refine inl_congr fun j _ => ?_
  unfold at1 upL
  by_cases h : j = k
  · subst h
    rw [if_pos rfl, if_pos (by omega)]
  · rw [if_neg h]
    by_cases h2 : j < k
    · rw [if_pos h2, if_pos (by omega)]
    · rw [if_neg h2, if_neg (by omega)]
/-- Whether a block is a list's. -/
def lOk (l : List UInt8) : Bool := decide (l.length = 256) && (slotB (rd s2 l) 112 && decide (blk s2 (rd s2 l) 112 = l))
def lV (l : List UInt8) : Value := .tuple #[.agg (inl 112 (if lOk l = true then rd s2 l else ino0)).toArray, .int .i64 (if lOk l = true then 0 else 210)]
theorem lV_bad {l : List UInt8} (h : lOk l = false) : lV l = .tuple #[.agg (inl 112 ino0).toArray, .int .i64 210] := by unfold lV; rw [h]; rfl
theorem lV_ok {l : List UInt8} (h : lOk l = true) : lV l = .tuple #[.agg (inl 112 (rd s2 l)).toArray, .int .i64 0] := by unfold lV; rw [h]; rfl
theorem l112_u8 : 134 ≠ 5 := by decide
set_option maxHeartbeats 2000000 in
theorem unpacklist_any (A : Option Addr) (n c : Nat) (l : List UInt8) (hn : l.length = n) (hlen : n < 9223372036854775808) (w : World) (hA : Hol w A l) :
    Calls Tryz.prog 82 #[.slice A n c] w fun e w' => e = .returned (lV l) ∧ Below w.heap.size w w' := by
  have i1 := Lib.hid (fun f => info_inl f)
  have hz := Lib.hid zero_112
  by_cases h256 : n = 256
  · subst h256
    have HNew : Hid (∀ w', Below w.heap.size w w' → Calls Tryz.prog 78 #[.slice A 256 c] w' fun e w'' => ∃ g, e = .returned (.pointer (some ⟨g, 0, none⟩)) ∧ w'.heap.size ≤ g ∧ Cur w'' g l false ∧ Below w'.heap.size w' w'') := fun w' hb => by
      have h := cur_new_any A c l w' (hA.below hb) (by omega)
      rwa [hn] at h
    have HA := Lib.hid hA
    have HL := Lib.hid hn
    have hok : lOk l = (slotB (rd s2 l) 112 && decide (blk s2 (rd s2 l) 112 = l)) := by unfold lOk; rw [decide_eq_true hn, Bool.true_and]
    cases hm : slotB (rd s2 l) 112
    · rw [hm, Bool.false_and] at hok
      have HU := Lib.hid hok
      have HP := Lib.hid (fun w => packlist_not (rd s2 l) hm w)
      clear hA hn hlen hok hm
      go_enter Tryz.func82, Tryz.ntmps82
      go_wp2_with (first
        | (refine step_alloc rfl 2 rfl 134 rfl _ hz.out ?_; intro g2 w2 hr2 hg2 hb2 hs2
           have R2 := Lib.hid hr2
           have HB2 := Lib.hid hb2
           have Q2 := Lib.hid (p := w.heap.size ≤ g2) (by rw [hg2.out]; exact Nat.le_refl _)
           clear hr2 hb2 hg2 hs2)
        | (refine step_alloc rfl 4 rfl 134 rfl _ hz.out ?_; intro g4 w4 hr4 hg4 hb4 hs4
           have R4 := Lib.hid hr4
           have R24 := Lib.hid (R2.out.kept hb4)
           have HB4 := Lib.hid (below_nxt hb4 HB2.out)
           have N24 := Lib.hid (p := g2 < g4) (by rw [hg4.out]; exact R2.out.lt)
           clear hr4 hb4 hg4 hs4))
      refine wp_region_held_drew (S := fun _ => True) (by kernel_rfl) trivial (fun hHeld => ?_)
      refine wpAnyH_take (i := 0) (oi := ⟨some 11, .move (.tmp 0), _, _, _, _⟩) (v := .slice A 256 c) rfl (by kernel_rfl) (by kernel_rfl) (by kernel_rfl) (fun _ _ _ h => h) (.inl ⟨by rfl, fun w hSw => by go_simp⟩) (by assumption) ?_
      simp only [Act.put, List.setIfInBounds_toArray, List.set_cons_zero, List.set_cons_succ]
      refine wpAnyH_take (i := 3) (oi := ⟨some 14, .slice 134 (.tmp 4) none none none, _, _, _, _⟩) (v := .slice (some ⟨g4, 0, none⟩) 112 112) rfl (by kernel_rfl) (by kernel_rfl) (by kernel_rfl) (fun _ _ _ h => h) (.inl ⟨by rfl, fun w hSw => by go_simp⟩) (by assumption) ?_
      simp only [Act.put, List.setIfInBounds_toArray, List.set_cons_zero, List.set_cons_succ]
      refine wpAnyH_ready (rs := [1]) (by kernel_rfl) (by simp) ?_
      refine AllReadyH.cons (o := ⟨some 12, .call ⟨.value (.func 78), #[.tmp 11], _⟩, _, _, _, _⟩) rfl (fun K hK => ?_) AllReadyH.nil
      go_simp
      refine (HNew.out _ HB4.out.drew).mono ?_
      rintro e5 w5 ⟨g5, rfl, hq5, hc5, hb5⟩
      have R45 := Lib.hid (p := Row w5 g4 134 (inl 112 (upL l 0))) (by rw [upL_zero]; exact R4.out.drew.kept hb5)
      have R25 := Lib.hid (R24.out.drew.kept hb5)
      have HB5 := Lib.hid (HB4.out.drew.trans (hb5.mono HB4.out.drew.size))
      have N5 := Lib.hid (p := g4 < g5) (Nat.lt_of_lt_of_le R4.out.drew.lt hq5)
      have HC5 := Lib.hid hc5
      clear hq5 hc5 hb5
      refine hK.out _ _ trivial (fun hH2 => ?_)
      clear hK K
      refine wpAnyH_take (i := 2) (oi := ⟨some 13, .makeFunc (.func 79) #[.tmp 12] #[], _, _, _, _⟩) (v := .func (.func 79) #[.pointer (some ⟨g5, 0, none⟩)] #[]) rfl (by kernel_rfl) (by kernel_rfl) (by kernel_rfl) (fun _ _ _ h => h) (.inl ⟨by rfl, fun w hSw => by go_simp⟩) (by assumption) ?_
      simp only [Act.put, List.setIfInBounds_toArray, List.set_cons_zero, List.set_cons_succ]
      refine wpAnyH_ready (rs := [4]) (by kernel_rfl) (by simp) ?_
      refine AllReadyH.cons (o := ⟨some 15, .call ⟨.value (.func 105), #[.tmp 13, .tmp 14], _⟩, _, _, _, _⟩) rfl (fun K hK => ?_) AllReadyH.nil
      go_simp
      refine (readslots_any g5 g4 (by have := N5.out; omega) l 0 112 112 134 l112_u8 (fun j => inl 112 (upL l j)) ?hC ?hz (by omega) (by rw [HL.out]; decide) (by rw [HL.out]; decide) _ HC5.out R45.out).mono ?_
      case hC =>
        intro k hk
        rw [Nat.zero_add]
        refine Eq.trans ?_ (upL_step l k hk)
        unfold rd rdn
        rw [off_s2]
        rfl
      case hz => exact fun k hk => ⟨_, by rw [Nat.zero_add]; exact inl_get _ hk⟩
      rintro e w7 ⟨rfl, _, hr7, ht7⟩
      have R47 := Lib.hid (p := Row w7 g4 134 (inl 112 (rd s2 l))) (by rw [← upL_all]; exact hr7.out)
      have R27 := Lib.hid (ht7.out.row R25.out (by have := N5.out; have := N24.out; omega) (by have := N24.out; omega))
      have HB7 := Lib.hid (p := Below w.heap.size w w7) (ht7.out.below HB5.out HB5.out.size (by have := N5.out; have := N24.out; have := Q2.out; omega) (by have := N24.out; have := Q2.out; omega))
      clear hr7 ht7 HC5 R45 R25 HB5
      refine hK.out _ _ trivial (fun hH3 => ?_)
      clear hK K
      refine wpAnyH_done (by kernel_rfl) ?_ _
      go_wp2_with (first
        | (refine step_load rfl 17 rfl 134 (.tmp 4) rfl g4 rfl (inl 112 (rd s2 l)) _ R47.out.all Tryz.underlying134 rfl (i1.out _) ?_)
        | (go_at_call 85; refine (HP.out _).mono ?_; rintro e8 w8 ⟨rfl, hb8⟩
           have R48 := Lib.hid (R47.out.kept hb8)
           have R28 := Lib.hid (R27.out.kept hb8)
           have HB8 := Lib.hid (below_nxt hb8 HB7.out)
           clear hb8)
        | (refine step_build rfl 134 #[] rfl [] ?hv _ built_112 ?_; case hv => simp)
        | (refine step_store rfl 134 (.tmp 2) (.tmp 29) rfl g2 (by rfl) _ (inl 112 ino0) (inl 112 ino0) (by rfl) R28.out rfl (i1.out _) (inl_one _ _) ?_; intro w9 hr9 hg9 hs9))
      refine bodyPost_ret (results_row_tmp rfl _ _ g2 _ _ _ _ rfl hr9 Tryz.underlying134 rfl (by simpa using i1.out ino0)) rfl ?_
      exact ⟨by rw [lV_bad HU.out]; rfl, HB8.out.grown hg9 HB8.out.size (fun q hq => by injection hq with hq; subst hq; exact Q2.out)⟩
    · rw [hm, Bool.true_and] at hok
      have HP := Lib.hid (fun w => packlist_ok (rd s2 l) hm w)
      cases he : decide (blk s2 (rd s2 l) 112 = l)
      · rw [he] at hok
        have HE := Lib.hid he
        have HU := Lib.hid hok
        clear hA hn hlen hok hm he
        go_enter Tryz.func82, Tryz.ntmps82
        go_wp2_with (first
          | (refine step_alloc rfl 2 rfl 134 rfl _ hz.out ?_; intro g2 w2 hr2 hg2 hb2 hs2
             have R2 := Lib.hid hr2
             have HB2 := Lib.hid hb2
             have Q2 := Lib.hid (p := w.heap.size ≤ g2) (by rw [hg2.out]; exact Nat.le_refl _)
             clear hr2 hb2 hg2 hs2)
          | (refine step_alloc rfl 4 rfl 134 rfl _ hz.out ?_; intro g4 w4 hr4 hg4 hb4 hs4
             have R4 := Lib.hid hr4
             have R24 := Lib.hid (R2.out.kept hb4)
             have HB4 := Lib.hid (below_nxt hb4 HB2.out)
             have N24 := Lib.hid (p := g2 < g4) (by rw [hg4.out]; exact R2.out.lt)
             clear hr4 hb4 hg4 hs4))
        refine wp_region_held_drew (S := fun _ => True) (by kernel_rfl) trivial (fun hHeld => ?_)
        refine wpAnyH_take (i := 0) (oi := ⟨some 11, .move (.tmp 0), _, _, _, _⟩) (v := .slice A 256 c) rfl (by kernel_rfl) (by kernel_rfl) (by kernel_rfl) (fun _ _ _ h => h) (.inl ⟨by rfl, fun w hSw => by go_simp⟩) (by assumption) ?_
        simp only [Act.put, List.setIfInBounds_toArray, List.set_cons_zero, List.set_cons_succ]
        refine wpAnyH_take (i := 3) (oi := ⟨some 14, .slice 134 (.tmp 4) none none none, _, _, _, _⟩) (v := .slice (some ⟨g4, 0, none⟩) 112 112) rfl (by kernel_rfl) (by kernel_rfl) (by kernel_rfl) (fun _ _ _ h => h) (.inl ⟨by rfl, fun w hSw => by go_simp⟩) (by assumption) ?_
        simp only [Act.put, List.setIfInBounds_toArray, List.set_cons_zero, List.set_cons_succ]
        refine wpAnyH_ready (rs := [1]) (by kernel_rfl) (by simp) ?_
        refine AllReadyH.cons (o := ⟨some 12, .call ⟨.value (.func 78), #[.tmp 11], _⟩, _, _, _, _⟩) rfl (fun K hK => ?_) AllReadyH.nil
        go_simp
        refine (HNew.out _ HB4.out.drew).mono ?_
        rintro e5 w5 ⟨g5, rfl, hq5, hc5, hb5⟩
        have R45 := Lib.hid (p := Row w5 g4 134 (inl 112 (upL l 0))) (by rw [upL_zero]; exact R4.out.drew.kept hb5)
        have R25 := Lib.hid (R24.out.drew.kept hb5)
        have HB5 := Lib.hid (HB4.out.drew.trans (hb5.mono HB4.out.drew.size))
        have N5 := Lib.hid (p := g4 < g5) (Nat.lt_of_lt_of_le R4.out.drew.lt hq5)
        have HC5 := Lib.hid hc5
        clear hq5 hc5 hb5
        refine hK.out _ _ trivial (fun hH2 => ?_)
        clear hK K
        refine wpAnyH_take (i := 2) (oi := ⟨some 13, .makeFunc (.func 79) #[.tmp 12] #[], _, _, _, _⟩) (v := .func (.func 79) #[.pointer (some ⟨g5, 0, none⟩)] #[]) rfl (by kernel_rfl) (by kernel_rfl) (by kernel_rfl) (fun _ _ _ h => h) (.inl ⟨by rfl, fun w hSw => by go_simp⟩) (by assumption) ?_
        simp only [Act.put, List.setIfInBounds_toArray, List.set_cons_zero, List.set_cons_succ]
        refine wpAnyH_ready (rs := [4]) (by kernel_rfl) (by simp) ?_
        refine AllReadyH.cons (o := ⟨some 15, .call ⟨.value (.func 105), #[.tmp 13, .tmp 14], _⟩, _, _, _, _⟩) rfl (fun K hK => ?_) AllReadyH.nil
        go_simp
        refine (readslots_any g5 g4 (by have := N5.out; omega) l 0 112 112 134 l112_u8 (fun j => inl 112 (upL l j)) ?hC ?hz (by omega) (by rw [HL.out]; decide) (by rw [HL.out]; decide) _ HC5.out R45.out).mono ?_
        case hC =>
          intro k hk
          rw [Nat.zero_add]
          refine Eq.trans ?_ (upL_step l k hk)
          unfold rd rdn
          rw [off_s2]
          rfl
        case hz => exact fun k hk => ⟨_, by rw [Nat.zero_add]; exact inl_get _ hk⟩
        rintro e w7 ⟨rfl, _, hr7, ht7⟩
        have R47 := Lib.hid (p := Row w7 g4 134 (inl 112 (rd s2 l))) (by rw [← upL_all]; exact hr7.out)
        have R27 := Lib.hid (ht7.out.row R25.out (by have := N5.out; have := N24.out; omega) (by have := N24.out; omega))
        have HB7 := Lib.hid (p := Below w.heap.size w w7) (ht7.out.below HB5.out HB5.out.size (by have := N5.out; have := N24.out; have := Q2.out; omega) (by have := N24.out; have := Q2.out; omega))
        clear hr7 ht7 HC5 R45 R25 HB5
        refine hK.out _ _ trivial (fun hH3 => ?_)
        clear hK K
        refine wpAnyH_done (by kernel_rfl) ?_ _
        go_wp2_with (first
          | (refine step_load rfl 17 rfl 134 (.tmp 4) rfl g4 rfl (inl 112 (rd s2 l)) _ R47.out.all Tryz.underlying134 rfl (i1.out _) ?_)
          | (go_at_call 85; refine (HP.out _).mono ?_; rintro e8 w8 ⟨A8, c8, rfl, ho8, hb8⟩
             have R48 := Lib.hid (R47.out.kept hb8.out)
             have R28 := Lib.hid (R27.out.kept hb8.out)
             have HB8 := Lib.hid (below_nxt hb8.out HB7.out)
             have HH8 := Lib.hid (Hol.own ho8.out)
             clear hb8 ho8)
          | (go_at_call 80; refine (bequal_any A8 A 256 256 c8 c (blk s2 (rd s2 l) 112) l (blk_len s2 _ 112 (by decide)).symm HL.out.symm _ HH8.out (HA.out.below HB8.out)).mono ?_; rintro e9 w9 ⟨rfl, hw9⟩; obtain rfl := hw9.symm; rw [HE.out])
          | (refine step_build rfl 134 #[] rfl [] ?hv _ built_112 ?_; case hv => simp)
          | (refine step_store rfl 134 (.tmp 2) (.tmp 29) rfl g2 (by rfl) _ (inl 112 ino0) (inl 112 ino0) (by rfl) R28.out rfl (i1.out _) (inl_one _ _) ?_; intro w9 hr9 hg9 hs9))
        refine bodyPost_ret (results_row_tmp rfl _ _ g2 _ _ _ _ rfl hr9 Tryz.underlying134 rfl (by simpa using i1.out ino0)) rfl ?_
        exact ⟨by rw [lV_bad HU.out]; rfl, HB8.out.grown hg9 HB8.out.size (fun q hq => by injection hq with hq; subst hq; exact Q2.out)⟩
      · rw [he] at hok
        have HE := Lib.hid he
        have HU := Lib.hid hok
        clear hA hn hlen hok hm he
        go_enter Tryz.func82, Tryz.ntmps82
        go_wp2_with (first
          | (refine step_alloc rfl 2 rfl 134 rfl _ hz.out ?_; intro g2 w2 hr2 hg2 hb2 hs2
             have R2 := Lib.hid hr2
             have HB2 := Lib.hid hb2
             have Q2 := Lib.hid (p := w.heap.size ≤ g2) (by rw [hg2.out]; exact Nat.le_refl _)
             clear hr2 hb2 hg2 hs2)
          | (refine step_alloc rfl 4 rfl 134 rfl _ hz.out ?_; intro g4 w4 hr4 hg4 hb4 hs4
             have R4 := Lib.hid hr4
             have R24 := Lib.hid (R2.out.kept hb4)
             have HB4 := Lib.hid (below_nxt hb4 HB2.out)
             have N24 := Lib.hid (p := g2 < g4) (by rw [hg4.out]; exact R2.out.lt)
             clear hr4 hb4 hg4 hs4))
        refine wp_region_held_drew (S := fun _ => True) (by kernel_rfl) trivial (fun hHeld => ?_)
        refine wpAnyH_take (i := 0) (oi := ⟨some 11, .move (.tmp 0), _, _, _, _⟩) (v := .slice A 256 c) rfl (by kernel_rfl) (by kernel_rfl) (by kernel_rfl) (fun _ _ _ h => h) (.inl ⟨by rfl, fun w hSw => by go_simp⟩) (by assumption) ?_
        simp only [Act.put, List.setIfInBounds_toArray, List.set_cons_zero, List.set_cons_succ]
        refine wpAnyH_take (i := 3) (oi := ⟨some 14, .slice 134 (.tmp 4) none none none, _, _, _, _⟩) (v := .slice (some ⟨g4, 0, none⟩) 112 112) rfl (by kernel_rfl) (by kernel_rfl) (by kernel_rfl) (fun _ _ _ h => h) (.inl ⟨by rfl, fun w hSw => by go_simp⟩) (by assumption) ?_
        simp only [Act.put, List.setIfInBounds_toArray, List.set_cons_zero, List.set_cons_succ]
        refine wpAnyH_ready (rs := [1]) (by kernel_rfl) (by simp) ?_
        refine AllReadyH.cons (o := ⟨some 12, .call ⟨.value (.func 78), #[.tmp 11], _⟩, _, _, _, _⟩) rfl (fun K hK => ?_) AllReadyH.nil
        go_simp
        refine (HNew.out _ HB4.out.drew).mono ?_
        rintro e5 w5 ⟨g5, rfl, hq5, hc5, hb5⟩
        have R45 := Lib.hid (p := Row w5 g4 134 (inl 112 (upL l 0))) (by rw [upL_zero]; exact R4.out.drew.kept hb5)
        have R25 := Lib.hid (R24.out.drew.kept hb5)
        have HB5 := Lib.hid (HB4.out.drew.trans (hb5.mono HB4.out.drew.size))
        have N5 := Lib.hid (p := g4 < g5) (Nat.lt_of_lt_of_le R4.out.drew.lt hq5)
        have HC5 := Lib.hid hc5
        clear hq5 hc5 hb5
        refine hK.out _ _ trivial (fun hH2 => ?_)
        clear hK K
        refine wpAnyH_take (i := 2) (oi := ⟨some 13, .makeFunc (.func 79) #[.tmp 12] #[], _, _, _, _⟩) (v := .func (.func 79) #[.pointer (some ⟨g5, 0, none⟩)] #[]) rfl (by kernel_rfl) (by kernel_rfl) (by kernel_rfl) (fun _ _ _ h => h) (.inl ⟨by rfl, fun w hSw => by go_simp⟩) (by assumption) ?_
        simp only [Act.put, List.setIfInBounds_toArray, List.set_cons_zero, List.set_cons_succ]
        refine wpAnyH_ready (rs := [4]) (by kernel_rfl) (by simp) ?_
        refine AllReadyH.cons (o := ⟨some 15, .call ⟨.value (.func 105), #[.tmp 13, .tmp 14], _⟩, _, _, _, _⟩) rfl (fun K hK => ?_) AllReadyH.nil
        go_simp
        refine (readslots_any g5 g4 (by have := N5.out; omega) l 0 112 112 134 l112_u8 (fun j => inl 112 (upL l j)) ?hC ?hz (by omega) (by rw [HL.out]; decide) (by rw [HL.out]; decide) _ HC5.out R45.out).mono ?_
        case hC =>
          intro k hk
          rw [Nat.zero_add]
          refine Eq.trans ?_ (upL_step l k hk)
          unfold rd rdn
          rw [off_s2]
          rfl
        case hz => exact fun k hk => ⟨_, by rw [Nat.zero_add]; exact inl_get _ hk⟩
        rintro e w7 ⟨rfl, _, hr7, ht7⟩
        have R47 := Lib.hid (p := Row w7 g4 134 (inl 112 (rd s2 l))) (by rw [← upL_all]; exact hr7.out)
        have R27 := Lib.hid (ht7.out.row R25.out (by have := N5.out; have := N24.out; omega) (by have := N24.out; omega))
        have HB7 := Lib.hid (p := Below w.heap.size w w7) (ht7.out.below HB5.out HB5.out.size (by have := N5.out; have := N24.out; have := Q2.out; omega) (by have := N24.out; have := Q2.out; omega))
        clear hr7 ht7 HC5 R45 R25 HB5
        refine hK.out _ _ trivial (fun hH3 => ?_)
        clear hK K
        refine wpAnyH_done (by kernel_rfl) ?_ _
        go_wp2_with (first
          | (refine step_load rfl 17 rfl 134 (.tmp 4) rfl g4 rfl (inl 112 (rd s2 l)) _ R47.out.all Tryz.underlying134 rfl (i1.out _) ?_)
          | (go_at_call 85; refine (HP.out _).mono ?_; rintro e8 w8 ⟨A8, c8, rfl, ho8, hb8⟩
             have R48 := Lib.hid (R47.out.kept hb8.out)
             have R28 := Lib.hid (R27.out.kept hb8.out)
             have HB8 := Lib.hid (below_nxt hb8.out HB7.out)
             have HH8 := Lib.hid (Hol.own ho8.out)
             clear hb8 ho8)
          | (go_at_call 80; refine (bequal_any A8 A 256 256 c8 c (blk s2 (rd s2 l) 112) l (blk_len s2 _ 112 (by decide)).symm HL.out.symm _ HH8.out (HA.out.below HB8.out)).mono ?_; rintro e9 w9 ⟨rfl, hw9⟩; obtain rfl := hw9.symm; rw [HE.out])
          | (refine step_load rfl 30 rfl 134 (.tmp 4) rfl g4 rfl (inl 112 (rd s2 l)) _ R48.out.all Tryz.underlying134 rfl (i1.out _) ?_)
          | (refine step_store rfl 134 (.tmp 2) (.tmp 30) rfl g2 (by rfl) _ (inl 112 ino0) (inl 112 (rd s2 l)) (by rfl) R28.out (by rw [inl_len, inl_len]) (i1.out _) (inl_one _ _) ?_; intro w9 hr9 hg9 hs9))
        refine bodyPost_ret (results_row_tmp rfl _ _ g2 _ _ _ _ rfl hr9 Tryz.underlying134 rfl (by simpa using i1.out (rd s2 l))) rfl ?_
        exact ⟨by rw [lV_ok HU.out]; rfl, HB8.out.grown hg9 HB8.out.size (fun q hq => by injection hq with hq; subst hq; exact Q2.out)⟩
  · have HU := Lib.hid (p := lOk l = false) (by unfold lOk; rw [decide_eq_false (by omega), Bool.false_and])
    have hne : ((n : Int) != 256) = true := by simp; omega
    have hlen' : (n : Int) ≤ 9223372036854775807 := by omega
    clear hA hn hlen h256
    go_enter Tryz.func82, Tryz.ntmps82
    go_wp2_with (first
      | (refine step_alloc rfl 2 rfl 134 rfl _ hz.out ?_; intro g2 w2 hr2 hg2 hb2 hs2
         have R2 := Lib.hid hr2
         have HB2 := Lib.hid hb2
         have Q2 := Lib.hid (p := w.heap.size ≤ g2) (by rw [hg2.out]; exact Nat.le_refl _)
         clear hr2 hb2 hg2 hs2)
      | (refine step_build rfl 134 #[] rfl [] ?hv _ built_112 ?_; case hv => simp)
      | (refine step_store rfl 134 (.tmp 2) (.tmp 10) rfl g2 (by rfl) _ (inl 112 ino0) (inl 112 ino0) (by rfl) R2.out rfl (i1.out _) (inl_one _ _) ?_; intro w9 hr9 hg9 hs9))
    refine bodyPost_ret (results_row_tmp rfl _ _ g2 _ _ _ _ rfl hr9 Tryz.underlying134 rfl (by simpa using i1.out ino0)) rfl ?_
    exact ⟨by rw [lV_bad HU.out]; rfl, HB2.out.grown hg9 HB2.out.size (fun q hq => by injection hq with hq; subst hq; exact Q2.out)⟩
end Go.Proofs.YtfbfeplegdpemaaGreat
