/- A block hidden, and its record: what package node's Seal leaves, for every place and every bytes; and what it refuses. Conditions: the veil makes masks; the listed tables. -/
import Derived.Test.YtibnmhaipogleaaDoorDig
import Derived.Test.YtibnmhaipogleaaDoorMask
import Derived.Test.YtibnmhaipogleaaDoorUnsh
set_option linter.unusedVariables false
set_option maxRecDepth 20000
namespace Go.Proofs.YtibnmhaipogleaaDoor
open Go.RowKit

theorem built_rec (a : Int) (e s : Nat) (f : Nat → UInt8) : Tryd.prog.built 26 [(0, .int .i64 a), (1, .int .u32 (e : Int)), (2, .int .u32 (s : Int)), (3, .agg (brr 32 f).toArray)] = some (RecV.cs ⟨a, e, s, f⟩).toArray := by kernel_rfl

theorem seal_bad (v : Value) (at_ : Int) (e s : Nat) (A : Option Addr) (n c : Nat) (h : at_ < 0 ∨ 1024 ≤ at_ ∨ n ≠ 256) (w : World) : Calls Tryd.prog 16 #[v, .int .i64 at_, .int .u32 (e : Int), .int .u32 (s : Int), .slice A n c] w fun x w' => x = .returned (.tuple #[.slice none 0 0, .agg rec0.cs.toArray, .int .i64 201]) ∧ Below w.heap.size w w' := by
  have hz := Lib.hid zero_rec
  have i35 := Lib.hid (p := (Tryd.prog.info? 26).map (·.size) = some rec0.cs.length) (by rw [rec0.cs_len]; exact info_rec)
  by_cases h1 : at_ < 0
  · clear h
    go_enter Tryd.func16, Tryd.ntmps16
    go_wp2_with (first
      | (refine step_alloc rfl 11 rfl 26 rfl _ hz ?_; intro g2 w2 hr2 hg2 hb2 hs2)
      | (refine step_build rfl 26 #[] rfl [] rfl _ rec0_cs ?_)
      | (refine step_store rfl 26 (.tmp 11) (.tmp 25) rfl g2 (by rfl) _ rec0.cs rec0.cs (by kernel_rfl) hr2 rfl i35 (RecV.cs_one _) ?_; intro w3 hr3 hg3 hs3))
    refine bodyPost_ret (results_tmp_row_tmp rfl _ _ g2 _ _ _ _ rfl hr3 Tryd.underlying26 rfl (by simpa using i35.out)) rfl ?_
    exact ⟨rfl, hb2.grown hg3 hb2.size (fun q hq => by injection hq with hq; subst hq; rw [hg2.out]; exact Nat.le_refl _)⟩
  by_cases h2 : 1024 ≤ at_
  · clear h
    go_enter Tryd.func16, Tryd.ntmps16
    go_wp2_with (first
      | (refine step_alloc rfl 11 rfl 26 rfl _ hz ?_; intro g2 w2 hr2 hg2 hb2 hs2)
      | (refine step_build rfl 26 #[] rfl [] rfl _ rec0_cs ?_)
      | (refine step_store rfl 26 (.tmp 11) (.tmp 25) rfl g2 (by rfl) _ rec0.cs rec0.cs (by kernel_rfl) hr2 rfl i35 (RecV.cs_one _) ?_; intro w3 hr3 hg3 hs3))
    refine bodyPost_ret (results_tmp_row_tmp rfl _ _ g2 _ _ _ _ rfl hr3 Tryd.underlying26 rfl (by simpa using i35.out)) rfl ?_
    exact ⟨rfl, hb2.grown hg3 hb2.size (fun q hq => by injection hq with hq; subst hq; rw [hg2.out]; exact Nat.le_refl _)⟩
  · have hn' : ((n : Int) != 256) = true := by simp; omega
    clear h
    go_enter Tryd.func16, Tryd.ntmps16
    go_wp2_with (first
      | (refine step_alloc rfl 11 rfl 26 rfl _ hz ?_; intro g2 w2 hr2 hg2 hb2 hs2)
      | (refine step_build rfl 26 #[] rfl [] rfl _ rec0_cs ?_)
      | (refine step_store rfl 26 (.tmp 11) (.tmp 25) rfl g2 (by rfl) _ rec0.cs rec0.cs (by kernel_rfl) hr2 rfl i35 (RecV.cs_one _) ?_; intro w3 hr3 hg3 hs3))
    refine bodyPost_ret (results_tmp_row_tmp rfl _ _ g2 _ _ _ _ rfl hr3 Tryd.underlying26 rfl (by simpa using i35.out)) rfl ?_
    exact ⟨rfl, hb2.grown hg3 hb2.size (fun q hq => by injection hq with hq; subst hq; rw [hg2.out]; exact Nat.le_refl _)⟩
/-- The record of a block that was hidden. -/
def sealR (a e s : Nat) (h : List UInt8) : RecV := ⟨(a : Int) + 1, e, s, shaF (nonB e s ++ h)⟩
/-- What Seal leaves. -/
def SealPost (a e s : Nat) (f : Nat → UInt8) (w : World) (x : Ending) (w' : World) : Prop :=
  ∃ g, x = .returned (.tuple #[.slice (some ⟨g, 0, none⟩) 256 256, .agg (sealR a e s (lst 256 f)).cs.toArray, .int .i64 0]) ∧ Hid (Row w' g 5 (brr 256 f)) ∧ Hid (w.heap.size ≤ g) ∧ Hid (Below w.heap.size w w')
set_option maxHeartbeats 1000000 in
theorem seal_any (gv : Nat) (M : Nat → Nat → Nat → UInt8) (a e s : Nat) (ha : a < 1024) (A : Option Addr) (c : Nat) (l : List UInt8) (he : e < 4294967296) (hs : s < 4294967296) (hl : l.length = 256) (w : World) (hM : MaskAt w gv M) (hA : Hol w A l) (hT : Tabs w) :
    Calls Tryd.prog 16 #[.pointer (some ⟨gv, 0, none⟩), .int .i64 (a : Int), .int .u32 (e : Int), .int .u32 (s : Int), .slice A 256 c] w (SealPost a e s (hid (M e s) l) w) := by
  have hz := Lib.hid zero_rec
  have i35 := Lib.hid (p := ∀ r : RecV, (Tryd.prog.info? 26).map (·.size) = some r.cs.length) (fun r => by rw [r.cs_len]; exact info_rec)
  have h1 : ¬ (a : Int) < 0 := by omega
  have h2 : ¬ (1024 : Int) ≤ (a : Int) := by omega
  have HE := Lib.hid he
  have HS := Lib.hid hs
  have HM := Lib.hid hM
  have HA := Lib.hid hA
  have HT := Lib.hid hT
  have HL := Lib.hid hl
  have ew : IntKind.i64.wrap ((a : Int) + 1) = (a : Int) + 1 := by rw [IntKind.wrap_i64]; omega
  have HD : Hid (∀ (g : Nat) (w' : World), Row w' g 5 (brr 256 (hid (M e s) l)) → Tabs w' → Calls Tryd.prog 21 #[.int .u32 (e : Int), .int .u32 (s : Int), .slice (some ⟨g, 0, none⟩) 256 256] w' fun x w'' => x = .returned (.agg (brr 32 (shaF (nonB e s ++ lst 256 (hid (M e s) l)))).toArray) ∧ Below w'.heap.size w' w'') := fun g w' hr ht => by
    have h := digest_any e s (some ⟨g, 0, none⟩) 256 (lst 256 (hid (M e s) l)) he hs w' hr.hol (by rw [lst_len]; exact Nat.le_refl _) (fun ad hd => by injection hd with hd; subst hd; exact hr.lt) (by rw [lst_len]; omega) ht
    rwa [lst_len] at h
  have HH : Hid (∀ w' : World, Below w.heap.size w w' → Calls Tryd.prog 35 #[.pointer (some ⟨gv, 0, none⟩), .int .u32 (e : Int), .int .u32 (s : Int), .slice A 256 c] w' (NewRow w' 256 (hid (M e s) l))) := fun w' hb => by
    have h := hide_any gv M A c l e s he hs (by omega) w' (hM.below hb) (hA.below hb)
    rwa [hl] at h
  clear he hs hM hA hT hl ha
  go_enter Tryd.func16, Tryd.ntmps16
  go_wp2_with (first
    | (refine step_alloc rfl 11 rfl 26 rfl _ hz ?_; intro g2 w2 hr2 hg2 hb2 hs2)
    | (go_at_call 35; refine (HH.out _ hb2).mono ?_; rintro x3 w3 ⟨g3, rfl, hr3, hq3, hb3⟩
       have HB3 := Lib.hid (hb2.trans (hb3.mono hb2.size))
       have R2 := Lib.hid (hr2.kept hb3)
       have R3 := Lib.hid hr3
       have Q2 := Lib.hid (p := w.heap.size ≤ g2) (by rw [hg2.out]; exact Nat.le_refl _)
       have Q3 := Lib.hid (p := w2.heap.size ≤ g3) hq3
       have N23 := Lib.hid (p := g2 < g3) (Nat.lt_of_lt_of_le hr2.lt hq3)
       clear hr2 hg2 hb2 hs2 hr3 hq3 hb3)
    | (go_at_call 21; refine (HD.out g3 _ R3.out (HT.out.below HB3.out)).mono ?_; rintro x4 w4 ⟨rfl, hb4⟩
       have HB4 := Lib.hid (HB3.out.trans (hb4.mono HB3.out.size))
       have R24 := Lib.hid (R2.out.kept hb4)
       have R34 := Lib.hid (R3.out.kept hb4)
       clear hb4)
    | (refine step_build rfl 26 #[(0, .tmp 33), (1, .tmp 34), (2, .tmp 35), (3, .tmp 39)] rfl [(0, .int .i64 ((a : Int) + 1)), (1, .int .u32 (e : Int)), (2, .int .u32 (s : Int)), (3, .agg (brr 32 (shaF (nonB e s ++ lst 256 (hid (M e s) l)))).toArray)] ?hv _ (built_rec _ e s _) ?_; case hv => (simp [Act.eval, Act.put]))
    | (refine step_store rfl 26 (.tmp 11) (.tmp 40) rfl g2 (by rfl) _ rec0.cs (sealR a e s (lst 256 (hid (M e s) l))).cs (by rfl) R24.out (by rw [RecV.cs_len, RecV.cs_len]) (i35.out _) (RecV.cs_one _) ?_; intro w5 hr5 hg5 hs5))
  refine bodyPost_ret (results_tmp_row_tmp rfl _ _ g2 _ _ _ _ rfl hr5 Tryd.underlying26 rfl (by simpa using i35.out _)) rfl ?_
  exact ⟨g3, rfl, R34.out.grown hg5 (fun e => by injection e with e; have := N23.out; omega), Nat.le_trans Q2.out (Nat.le_of_lt N23.out), HB4.out.grown hg5 HB4.out.size (fun q hq => by injection hq with hq; subst hq; exact Q2.out)⟩
end Go.Proofs.YtibnmhaipogleaaDoor
