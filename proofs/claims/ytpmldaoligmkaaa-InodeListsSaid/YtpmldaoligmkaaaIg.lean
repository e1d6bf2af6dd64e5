/- Package inode: the inode of a block, or none. Conditions: those named. -/
import Derived.Test.YtpmldaoligmkaaaId
import Derived.Test.YtpmldaoligmkaaaIf
set_option linter.unusedVariables false
set_option maxRecDepth 20000
namespace Go.Proofs.Ytpmldaoligmkaaa
open Go.RowKit

theorem string_beq (a b : List UInt8) : ((⟨a.toArray⟩ : ByteArray).toList == (⟨b.toArray⟩ : ByteArray).toList) = decide (a = b) := by
  rw [ByteArray.toList_eq, ByteArray.toList_eq, Bool.eq_iff_iff]
  simp
theorem bequal_any (A B : Option Addr) (n m c d : Nat) (a b : List UInt8) (hn : n = a.length) (hm : m = b.length) (w : World) (hA : Hol w A a) (hB : Hol w B b) :
    Calls Try.prog 31 #[.slice A n c, .slice B m d] w fun e w' => e = .returned (.bool (decide (a = b))) ∧ w' = w := by
  have h1 := run_to_string (P := Try.prog) w 28 9 5 A c n a hn Try.underlying28 Try.underlying5 Try.underlying9 hA
  have h2 := run_to_string (P := Try.prog) w 28 9 5 B d m b hm Try.underlying28 Try.underlying5 Try.underlying9 hB
  have hs := string_beq a b
  generalize (⟨a.toArray⟩ : ByteArray) = S at *
  generalize (⟨b.toArray⟩ : ByteArray) = T at *
  clear hA hB hn hm
  go_enter Try.func31, Try.ntmps31
  go_wp2
  go_ret
  exact ⟨by rw [← hs]; rfl, rfl⟩
theorem kd_u32 {k : Nat} (h : kd k = .u32) : sz k = 4 := by
  unfold kd at h
  split at h
  · rename_i h1
    rcases h1 with rfl | rfl | rfl | rfl <;> rfl
  · split at h <;> cases h
theorem rd_wf (l : List UInt8) : Wf (rd sz l) := by
  refine ⟨fun k hk => ?_, ?_⟩
  · have h1 := rdn_lt sz l k
    rw [kd_u32 hk] at h1
    have e : (256 : Nat) ^ 4 = 4294967296 := rfl
    unfold rd
    omega
  · have h1 := rdn_lt sz l 6
    have e : (256 : Nat) ^ sz 6 = 18446744073709551616 := rfl
    unfold rd
    omega
/-- Whether a block is an inode's. -/
def iOk (l : List UInt8) : Bool := decide (l.length = 256) && (mayB (rd sz l) && decide (blk sz (rd sz l) 27 = l))
/-- What Unpack answers. -/
def iV (l : List UInt8) : Value := .tuple #[.agg (ncs (if iOk l = true then rd sz l else ino0)).toArray, .int .i64 (if iOk l = true then 0 else 210)]
theorem iV_bad {l : List UInt8} (h : iOk l = false) : iV l = .tuple #[.agg (ncs ino0).toArray, .int .i64 210] := by unfold iV; rw [h]; rfl
theorem iV_ok {l : List UInt8} (h : iOk l = true) : iV l = .tuple #[.agg (ncs (rd sz l)).toArray, .int .i64 0] := by unfold iV; rw [h]; rfl
set_option maxHeartbeats 2000000 in
theorem unpack_any (A : Option Addr) (n c : Nat) (l : List UInt8) (hn : l.length = n) (hlen : n < 9223372036854775808) (w : World) (hA : Hol w A l) :
    Calls Try.prog 13 #[.slice A n c] w fun e w' => e = .returned (iV l) ∧ Below w.heap.size w w' := by
  have i1 := Lib.hid (fun v => info_ncs v)
  have hz := Lib.hid zero_ino
  by_cases h256 : n = 256
  · subst h256
    have HNew : Hid (∀ w', Below w.heap.size w w' → Calls Try.prog 29 #[.slice A 256 c] w' fun e w'' => ∃ g, e = .returned (.pointer (some ⟨g, 0, none⟩)) ∧ w'.heap.size ≤ g ∧ Cur w'' g l false ∧ Below w'.heap.size w' w'') := fun w' hb => by
      have h := cur_new_any A c l w' (hA.below hb) (by omega)
      rwa [hn] at h
    have HA := Lib.hid hA
    have HL := Lib.hid hn
    have hok : iOk l = (mayB (rd sz l) && decide (blk sz (rd sz l) 27 = l)) := by unfold iOk; rw [decide_eq_true hn, Bool.true_and]
    cases hm : mayB (rd sz l)
    · rw [hm, Bool.false_and] at hok
      have HU := Lib.hid hok
      have HP := Lib.hid (fun w => pack_not (rd sz l) hm w)
      clear hA hn hlen hok hm
      go_enter Try.func13, Try.ntmps13
      go_wp2_with (first
        | (refine step_alloc rfl 2 rfl 26 rfl _ hz.out ?_; intro g2 w2 hr2 hg2 hb2 hs2
           have R2 := Lib.hid hr2
           have HB2 := Lib.hid hb2
           have Q2 := Lib.hid (p := w.heap.size ≤ g2) (by rw [hg2.out]; exact Nat.le_refl _)
           clear hr2 hb2 hg2 hs2)
        | (go_at_call 29; refine (HNew.out _ HB2.out).mono ?_; rintro e5 w5 ⟨g5, rfl, hq5, hc5, hb5⟩
           have R25 := Lib.hid (R2.out.kept hb5)
           have HB5 := Lib.hid (HB2.out.trans (hb5.mono HB2.out.size))
           have N5 := Lib.hid (p := g2 < g5 ∧ w.heap.size ≤ g5) ⟨Nat.lt_of_lt_of_le R2.out.lt hq5, Nat.le_trans HB2.out.size hq5⟩
           have HC5 := Lib.hid hc5
           clear hq5 hc5 hb5)
        | (go_at_call 28; refine (read_any g5 l _ HC5.out HL.out).mono ?_; rintro e6 w6 ⟨rfl, hg6⟩
           have R26 := Lib.hid (R25.out.grown hg6.out (fun e => by injection e with e; have := N5.out; omega))
           have HB6 := Lib.hid (p := Below w.heap.size w w6) (HB5.out.grown hg6.out HB5.out.size (fun q hq => by injection hq with hq; have := N5.out; omega))
           clear hg6 HC5)
        | (refine step_alloc rfl 4 rfl 26 rfl _ hz.out ?_; intro g4 w4 hr4 hg4 hb4 hs4
           have R4 := Lib.hid hr4
           have R24 := Lib.hid (R26.out.kept hb4)
           have HB4 := Lib.hid (below_nxt hb4 HB6.out)
           have N24 := Lib.hid (p := g2 < g4) (by rw [hg4.out]; exact R26.out.lt)
           clear hr4 hb4 hg4 hs4)
        | (refine step_store rfl 26 (.tmp 4) (.tmp 14) rfl g4 (by rfl) _ (ncs ino0) (ncs (rd sz l)) (by rfl) R4.out rfl (i1.out _) (ncs_one _) ?_; intro w7 hr7 hg7 hs7
           have R47 := Lib.hid hr7
           have R27 := Lib.hid (R24.out.grown hg7 (fun e => by injection e with e; have := N24.out; omega))
           have HB7 := Lib.hid (p := Below w.heap.size w w7) (HB4.out.grown hg7 HB4.out.size (fun q hq => by injection hq with hq; have := N24.out; have := Q2.out; omega))
           clear hr7 hg7 hs7)
        | (refine step_load rfl 16 rfl 26 (.tmp 4) rfl g4 rfl (ncs (rd sz l)) _ R47.out.all Try.underlying26 rfl (i1.out _) ?_)
        | (go_at_call 10; refine (HP.out _).mono ?_; rintro e8 w8 ⟨rfl, hb8⟩
           have R48 := Lib.hid (R47.out.kept hb8)
           have R28 := Lib.hid (R27.out.kept hb8)
           have HB8 := Lib.hid (below_nxt hb8 HB7.out)
           clear hb8)
        | (refine step_build rfl 26 #[] rfl [] ?hv _ built_ino0 ?_; case hv => simp)
        | (refine step_store rfl 26 (.tmp 2) (.tmp 28) rfl g2 (by rfl) _ (ncs ino0) (ncs ino0) (by rfl) R28.out rfl (i1.out _) (ncs_one _) ?_; intro w9 hr9 hg9 hs9))
      refine bodyPost_ret (results_row_tmp rfl _ _ g2 _ _ _ _ rfl hr9 Try.underlying26 rfl (by simpa using i1.out ino0)) rfl ?_
      exact ⟨by rw [iV_bad HU.out]; rfl, HB8.out.grown hg9 HB8.out.size (fun q hq => by injection hq with hq; subst hq; exact Q2.out)⟩
    · rw [hm, Bool.true_and] at hok
      have HP := Lib.hid (fun w => pack_ok (rd sz l) hm (rd_wf l) w)
      cases he : decide (blk sz (rd sz l) 27 = l)
      · rw [he] at hok
        have HE := Lib.hid he
        have HU := Lib.hid hok
        clear hA hn hlen hok hm he
        go_enter Try.func13, Try.ntmps13
        go_wp2_with (first
          | (refine step_alloc rfl 2 rfl 26 rfl _ hz.out ?_; intro g2 w2 hr2 hg2 hb2 hs2
             have R2 := Lib.hid hr2
             have HB2 := Lib.hid hb2
             have Q2 := Lib.hid (p := w.heap.size ≤ g2) (by rw [hg2.out]; exact Nat.le_refl _)
             clear hr2 hb2 hg2 hs2)
          | (go_at_call 29; refine (HNew.out _ HB2.out).mono ?_; rintro e5 w5 ⟨g5, rfl, hq5, hc5, hb5⟩
             have R25 := Lib.hid (R2.out.kept hb5)
             have HB5 := Lib.hid (HB2.out.trans (hb5.mono HB2.out.size))
             have N5 := Lib.hid (p := g2 < g5 ∧ w.heap.size ≤ g5) ⟨Nat.lt_of_lt_of_le R2.out.lt hq5, Nat.le_trans HB2.out.size hq5⟩
             have HC5 := Lib.hid hc5
             clear hq5 hc5 hb5)
          | (go_at_call 28; refine (read_any g5 l _ HC5.out HL.out).mono ?_; rintro e6 w6 ⟨rfl, hg6⟩
             have R26 := Lib.hid (R25.out.grown hg6.out (fun e => by injection e with e; have := N5.out; omega))
             have HB6 := Lib.hid (p := Below w.heap.size w w6) (HB5.out.grown hg6.out HB5.out.size (fun q hq => by injection hq with hq; have := N5.out; omega))
             clear hg6 HC5)
          | (refine step_alloc rfl 4 rfl 26 rfl _ hz.out ?_; intro g4 w4 hr4 hg4 hb4 hs4
             have R4 := Lib.hid hr4
             have R24 := Lib.hid (R26.out.kept hb4)
             have HB4 := Lib.hid (below_nxt hb4 HB6.out)
             have N24 := Lib.hid (p := g2 < g4) (by rw [hg4.out]; exact R26.out.lt)
             clear hr4 hb4 hg4 hs4)
          | (refine step_store rfl 26 (.tmp 4) (.tmp 14) rfl g4 (by rfl) _ (ncs ino0) (ncs (rd sz l)) (by rfl) R4.out rfl (i1.out _) (ncs_one _) ?_; intro w7 hr7 hg7 hs7
             have R47 := Lib.hid hr7
             have R27 := Lib.hid (R24.out.grown hg7 (fun e => by injection e with e; have := N24.out; omega))
             have HB7 := Lib.hid (p := Below w.heap.size w w7) (HB4.out.grown hg7 HB4.out.size (fun q hq => by injection hq with hq; have := N24.out; have := Q2.out; omega))
             clear hr7 hg7 hs7)
          | (refine step_load rfl 16 rfl 26 (.tmp 4) rfl g4 rfl (ncs (rd sz l)) _ R47.out.all Try.underlying26 rfl (i1.out _) ?_)
          | (go_at_call 10; refine (HP.out _).mono ?_; rintro e8 w8 ⟨A8, c8, rfl, ho8, hb8⟩
             have R48 := Lib.hid (R47.out.kept hb8.out)
             have R28 := Lib.hid (R27.out.kept hb8.out)
             have HB8 := Lib.hid (below_nxt hb8.out HB7.out)
             have HH8 := Lib.hid (Hol.own ho8.out)
             clear hb8 ho8)
          | (go_at_call 31; refine (bequal_any A8 A 256 256 c8 c (blk sz (rd sz l) 27) l (blk_len sz _ 27 (by decide)).symm HL.out.symm _ HH8.out (HA.out.below HB8.out)).mono ?_; rintro e9 w9 ⟨rfl, hw9⟩; obtain rfl := hw9.symm; rw [HE.out])
          | (refine step_build rfl 26 #[] rfl [] ?hv _ built_ino0 ?_; case hv => simp)
          | (refine step_store rfl 26 (.tmp 2) (.tmp 28) rfl g2 (by rfl) _ (ncs ino0) (ncs ino0) (by rfl) R28.out rfl (i1.out _) (ncs_one _) ?_; intro w9 hr9 hg9 hs9))
        refine bodyPost_ret (results_row_tmp rfl _ _ g2 _ _ _ _ rfl hr9 Try.underlying26 rfl (by simpa using i1.out ino0)) rfl ?_
        exact ⟨by rw [iV_bad HU.out]; rfl, HB8.out.grown hg9 HB8.out.size (fun q hq => by injection hq with hq; subst hq; exact Q2.out)⟩
      · rw [he] at hok
        have HE := Lib.hid he
        have HU := Lib.hid hok
        clear hA hn hlen hok hm he
        go_enter Try.func13, Try.ntmps13
        go_wp2_with (first
          | (refine step_alloc rfl 2 rfl 26 rfl _ hz.out ?_; intro g2 w2 hr2 hg2 hb2 hs2
             have R2 := Lib.hid hr2
             have HB2 := Lib.hid hb2
             have Q2 := Lib.hid (p := w.heap.size ≤ g2) (by rw [hg2.out]; exact Nat.le_refl _)
             clear hr2 hb2 hg2 hs2)
          | (go_at_call 29; refine (HNew.out _ HB2.out).mono ?_; rintro e5 w5 ⟨g5, rfl, hq5, hc5, hb5⟩
             have R25 := Lib.hid (R2.out.kept hb5)
             have HB5 := Lib.hid (HB2.out.trans (hb5.mono HB2.out.size))
             have N5 := Lib.hid (p := g2 < g5 ∧ w.heap.size ≤ g5) ⟨Nat.lt_of_lt_of_le R2.out.lt hq5, Nat.le_trans HB2.out.size hq5⟩
             have HC5 := Lib.hid hc5
             clear hq5 hc5 hb5)
          | (go_at_call 28; refine (read_any g5 l _ HC5.out HL.out).mono ?_; rintro e6 w6 ⟨rfl, hg6⟩
             have R26 := Lib.hid (R25.out.grown hg6.out (fun e => by injection e with e; have := N5.out; omega))
             have HB6 := Lib.hid (p := Below w.heap.size w w6) (HB5.out.grown hg6.out HB5.out.size (fun q hq => by injection hq with hq; have := N5.out; omega))
             clear hg6 HC5)
          | (refine step_alloc rfl 4 rfl 26 rfl _ hz.out ?_; intro g4 w4 hr4 hg4 hb4 hs4
             have R4 := Lib.hid hr4
             have R24 := Lib.hid (R26.out.kept hb4)
             have HB4 := Lib.hid (below_nxt hb4 HB6.out)
             have N24 := Lib.hid (p := g2 < g4) (by rw [hg4.out]; exact R26.out.lt)
             clear hr4 hb4 hg4 hs4)
          | (refine step_store rfl 26 (.tmp 4) (.tmp 14) rfl g4 (by rfl) _ (ncs ino0) (ncs (rd sz l)) (by rfl) R4.out rfl (i1.out _) (ncs_one _) ?_; intro w7 hr7 hg7 hs7
             have R47 := Lib.hid hr7
             have R27 := Lib.hid (R24.out.grown hg7 (fun e => by injection e with e; have := N24.out; omega))
             have HB7 := Lib.hid (p := Below w.heap.size w w7) (HB4.out.grown hg7 HB4.out.size (fun q hq => by injection hq with hq; have := N24.out; have := Q2.out; omega))
             clear hr7 hg7 hs7)
          | (refine step_load rfl 16 rfl 26 (.tmp 4) rfl g4 rfl (ncs (rd sz l)) _ R47.out.all Try.underlying26 rfl (i1.out _) ?_)
          | (go_at_call 10; refine (HP.out _).mono ?_; rintro e8 w8 ⟨A8, c8, rfl, ho8, hb8⟩
             have R48 := Lib.hid (R47.out.kept hb8.out)
             have R28 := Lib.hid (R27.out.kept hb8.out)
             have HB8 := Lib.hid (below_nxt hb8.out HB7.out)
             have HH8 := Lib.hid (Hol.own ho8.out)
             clear hb8 ho8)
          | (go_at_call 31; refine (bequal_any A8 A 256 256 c8 c (blk sz (rd sz l) 27) l (blk_len sz _ 27 (by decide)).symm HL.out.symm _ HH8.out (HA.out.below HB8.out)).mono ?_; rintro e9 w9 ⟨rfl, hw9⟩; obtain rfl := hw9.symm; rw [HE.out])
          | (refine step_load rfl 29 rfl 26 (.tmp 4) rfl g4 rfl (ncs (rd sz l)) _ R48.out.all Try.underlying26 rfl (i1.out _) ?_)
          | (refine step_store rfl 26 (.tmp 2) (.tmp 29) rfl g2 (by rfl) _ (ncs ino0) (ncs (rd sz l)) (by rfl) R28.out rfl (i1.out _) (ncs_one _) ?_; intro w9 hr9 hg9 hs9))
        refine bodyPost_ret (results_row_tmp rfl _ _ g2 _ _ _ _ rfl hr9 Try.underlying26 rfl (by simpa using i1.out (rd sz l))) rfl ?_
        exact ⟨by rw [iV_ok HU.out]; rfl, HB8.out.grown hg9 HB8.out.size (fun q hq => by injection hq with hq; subst hq; exact Q2.out)⟩
  · have HU := Lib.hid (p := iOk l = false) (by unfold iOk; rw [decide_eq_false (by omega), Bool.false_and])
    have hne : ((n : Int) != 256) = true := by simp; omega
    have hlen' : (n : Int) ≤ 9223372036854775807 := by omega
    clear hA hn hlen h256
    go_enter Try.func13, Try.ntmps13
    go_wp2_with (first
      | (refine step_alloc rfl 2 rfl 26 rfl _ hz.out ?_; intro g2 w2 hr2 hg2 hb2 hs2
         have R2 := Lib.hid hr2
         have HB2 := Lib.hid hb2
         have Q2 := Lib.hid (p := w.heap.size ≤ g2) (by rw [hg2.out]; exact Nat.le_refl _)
         clear hr2 hb2 hg2 hs2)
      | (refine step_build rfl 26 #[] rfl [] ?hv _ built_ino0 ?_; case hv => simp)
      | (refine step_store rfl 26 (.tmp 2) (.tmp 10) rfl g2 (by rfl) _ (ncs ino0) (ncs ino0) (by rfl) R2.out rfl (i1.out _) (ncs_one _) ?_; intro w9 hr9 hg9 hs9))
    refine bodyPost_ret (results_row_tmp rfl _ _ g2 _ _ _ _ rfl hr9 Try.underlying26 rfl (by simpa using i1.out ino0)) rfl ?_
    exact ⟨by rw [iV_bad HU.out]; rfl, HB2.out.grown hg9 HB2.out.size (fun q hq => by injection hq with hq; subst hq; exact Q2.out)⟩
end Go.Proofs.Ytpmldaoligmkaaa
