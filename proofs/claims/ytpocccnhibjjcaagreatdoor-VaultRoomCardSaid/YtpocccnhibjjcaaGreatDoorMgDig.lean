/- A hidden block's digest, by package node: what the call leaves, for all bytes up to 2^40. Condition: the listed tables. -/
import Derived.Test.YtpocccnhibjjcaaGreatDoorMgAdd
import Derived.Test.YtpocccnhibjjcaaGreatDoorMgCalls
import Derived.Test.YtpocccnhibjjcaaGreatDoorMgTab
import Derived.Test.YtpocccnhibjjcaaGreatDoorMgUnsh
import Derived.Deep.RegionHeld
set_option linter.unusedVariables false
set_option maxRecDepth 20000
namespace Go.Proofs.YtpocccnhibjjcaaGreatDoor
open Go.RowKit

theorem nonce_nil (e s : Nat) (w : World) (he : e < 4294967296) (hs : s < 4294967296) : Calls Tryz.prog 124 #[.slice none 0 0, .int .u32 (e : Int), .int .u32 (s : Int)] w (OwnB (nonB e s) w) :=
  nonce_any none 0 0 [] e s rfl w .none_ he hs (by simp)
set_option maxHeartbeats 1000000 in
theorem digest_any (e s : Nat) (A : Option Addr) (c : Nat) (l : List UInt8) (he : e < 4294967296) (hs : s < 4294967296) (w : World) (hA : Hol w A l) (hc : l.length ≤ c) (hF : ∀ ad, A = some ad → ad.block < w.heap.size) (hlen : l.length ≤ 1099511627776) (hT : Tabs w) :
    Calls Tryz.prog 101 #[.int .u32 (e : Int), .int .u32 (s : Int), .slice A l.length c] w fun x w' => x = .returned (.agg (brr 32 (shaF (nonB e s ++ l))).toArray) ∧ Below w.heap.size w w' := by
  have i27 := Lib.hid (p := (Tryz.prog.info? 85).map (·.size) = some 32) (by kernel_rfl)
  have hz := Lib.hid zero_sum
  have HT := Lib.hid hT
  have HA := Lib.hid hA
  have HF := Lib.hid hF
  have HE := Lib.hid he
  have HS := Lib.hid hs
  have HC := Lib.hid hc
  have HL := Lib.hid hlen
  clear hT hA hF he hs hc hlen
  go_enter Tryz.func101, Tryz.ntmps101
  go_wp2_with (first
    | (refine step_alloc rfl 6 rfl 85 rfl _ hz ?_; intro g2 w2 hr2 hg2 hb2 hs2)
    | (go_at_call 122; refine (new_any _ (HT.out.below hb2)).mono ?_; rintro e3 w3 ⟨g3, rfl, hr3, hq3, hb3⟩
       have HB3 := Lib.hid (p := Below w.heap.size w w3) (hb2.trans (hb3.mono hb2.size))
       have Q2 := Lib.hid (p := w.heap.size ≤ g2 ∧ g2 < w3.heap.size) ⟨by have := hg2.out; omega, (Row.kept hr2 hb3).lt⟩
       have Q3 := Lib.hid (p := w2.heap.size ≤ g3) hq3
       have N23 := Lib.hid (p := g2 < g3) (Nat.lt_of_lt_of_le hr2.lt hq3)
       have R2 := Lib.hid (Row.kept hr2 hb3)
       have R3 := Lib.hid hr3
       clear hr2 hg2 hb2 hs2 hr3 hq3 hb3)
    | (go_at_call 124; refine (nonce_nil e s _ HE.out HS.out).mono ?_; rintro e4 w4 ⟨A4, n4, c4, rfl, hn4, ho4, hb4⟩
       obtain rfl := hn4.out
       have HB4 := Lib.hid (p := Below w.heap.size w w4) (HB3.out.trans (hb4.out.mono HB3.out.size))
       have R24 := Lib.hid (R2.out.kept hb4.out)
       have R34 := Lib.hid (Row.kept R3.out hb4.out)
       have HF4 := Lib.hid (p := Far A4 g3) (fun ad hd => by have h1 := (ho4.out.lt ad.block (by rw [hd]; rfl)).1; have h2 := R3.out.lt; omega)
       obtain ⟨_, A4', c4', e4', h41, _, h43⟩ := own_form ho4.out
       simp only [Value.slice.injEq] at e4'
       obtain ⟨rfl, _, rfl⟩ := e4'
       have HC4 := Lib.hid h41
       have HH4 := Lib.hid h43
       clear ho4 hn4 hb4 h41 h43)
    | (go_at_call_of 123 (Value.slice A4 (nonB e s).length c4)
       have hT4 := HT.out.below HB4.out
       have hne := HT.out.ne0 (show w.heap.size ≤ g3 by have := Q2.out.1; have := N23.out; omega)
       refine (add_any g3 A4 c4 [] (nonB e s) w4 (holds_new R34.out) HH4.out HF4.out HC4.out (by simp [nonB_len]) hT4 hne.1 hne.2).mono ?_
       rintro e5 w5 ⟨rfl, hh5, hg5⟩
       have HB5 := Lib.hid (p := Below w.heap.size w w5) (HB4.out.grown hg5 HB4.out.size (fun q hq => by injection hq with hq; have := Q2.out.1; have := N23.out; omega))
       have HH5 := Lib.hid hh5
       have R25 := Lib.hid (R24.out.grown hg5 (fun e => by injection e with e; have := N23.out; omega))
       clear hT4 hne hh5 hg5)
    | (go_at_call_of 123 (Value.slice A l.length c)
       have hT5 := HT.out.below HB5.out
       have hne := HT.out.ne0 (show w.heap.size ≤ g3 by have := Q2.out.1; have := N23.out; omega)
       refine (add_any g3 A c ([] ++ nonB e s) l w5 HH5.out (HA.out.below HB5.out) (fun ad hd => by have := HF.out ad hd; have := Q2.out.1; have := N23.out; omega) HC.out (by simp [nonB_len]; have := HL.out; omega) hT5 hne.1 hne.2).mono ?_
       rintro e6 w6 ⟨rfl, hh6, hg6⟩
       have HB6 := Lib.hid (p := Below w.heap.size w w6) (HB5.out.grown hg6 HB5.out.size (fun q hq => by injection hq with hq; have := Q2.out.1; have := N23.out; omega))
       have HH6 := Lib.hid hh6
       have R26 := Lib.hid (R25.out.grown hg6 (fun e => by injection e with e; have := N23.out; omega))
       clear hT5 hne hh6 hg6)
    | (go_at_call 125
       refine (sum_any g3 ([] ++ nonB e s ++ l) _ HH6.out (by simp [nonB_len]; have := HL.out; omega) (HT.out.below HB6.out)).mono ?_
       rintro e7 w7 ⟨rfl, hb7⟩
       have HB7 := Lib.hid (HB6.out.trans (hb7.mono HB6.out.size))
       have R27 := Lib.hid (R26.out.kept hb7)
       clear hb7)
    | (refine step_store rfl 85 (.tmp 6) (.tmp 18) rfl g2 (by rfl) _ (brr 32 (fun _ => 0)) (brr 32 (shaF ([] ++ nonB e s ++ l))) (by rfl) R27.out (by rw [brr_len, brr_len]) (by rw [brr_len]; exact i27) (brr_one _ _) ?_; intro w8 hr8 hg8 hs8))
  refine bodyPost_ret (results_cell_row rfl _ _ g2 _ _ _ _ rfl hr8 Tryz.underlying85 rfl (by simpa [brr_len] using i27.out)) rfl ?_
  exact ⟨rfl, HB7.out.grown hg8 HB7.out.size (fun q hq => by injection hq with hq; have := Q2.out.1; omega)⟩
end Go.Proofs.YtpocccnhibjjcaaGreatDoor
/- A block hidden, and its record: what package node's Seal leaves, for every place and every bytes; and what it refuses. Conditions: the veil makes masks; the listed tables. -/
set_option linter.unusedVariables false
set_option maxRecDepth 20000
namespace Go.Proofs.YtpocccnhibjjcaaGreatDoor
open Go.RowKit

theorem built_rec (a : Int) (e s : Nat) (f : Nat → UInt8) : Tryz.prog.built 87 [(0, .int .i64 a), (1, .int .u32 (e : Int)), (2, .int .u32 (s : Int)), (3, .agg (brr 32 f).toArray)] = some (RecV.cs ⟨a, e, s, f⟩).toArray := by kernel_rfl

def sealR (a e s : Nat) (h : List UInt8) : RecV := ⟨(a : Int) + 1, e, s, shaF (nonB e s ++ h)⟩
def SealPost (a e s : Nat) (f : Nat → UInt8) (w : World) (x : Ending) (w' : World) : Prop :=
  ∃ g, x = .returned (.tuple #[.slice (some ⟨g, 0, none⟩) 256 256, .agg (sealR a e s (lst 256 f)).cs.toArray, .int .i64 0]) ∧ Hid (Row w' g 5 (brr 256 f)) ∧ Hid (w.heap.size ≤ g) ∧ Hid (Below w.heap.size w w')
set_option maxHeartbeats 1000000 in
theorem seal_any (gv : Nat) (M : Nat → Nat → Nat → UInt8) (a e s : Nat) (ha : a < 1024) (A : Option Addr) (c : Nat) (l : List UInt8) (he : e < 4294967296) (hs : s < 4294967296) (hl : l.length = 256) (w : World) (hM : MaskAt w gv M) (hA : Hol w A l) (hT : Tabs w) :
    Calls Tryz.prog 113 #[.pointer (some ⟨gv, 0, none⟩), .int .i64 (a : Int), .int .u32 (e : Int), .int .u32 (s : Int), .slice A 256 c] w (SealPost a e s (hid (M e s) l) w) := by
  have hz := Lib.hid zero_rec
  have i35 := Lib.hid (p := ∀ r : RecV, (Tryz.prog.info? 87).map (·.size) = some r.cs.length) (fun r => by rw [r.cs_len]; exact info_rec)
  have h1 : ¬ (a : Int) < 0 := by omega
  have h2 : ¬ (1024 : Int) ≤ (a : Int) := by omega
  have HE := Lib.hid he
  have HS := Lib.hid hs
  have HM := Lib.hid hM
  have HA := Lib.hid hA
  have HT := Lib.hid hT
  have HL := Lib.hid hl
  have ew : IntKind.i64.wrap ((a : Int) + 1) = (a : Int) + 1 := by rw [IntKind.wrap_i64]; omega
  have HD : Hid (∀ (g : Nat) (w' : World), Row w' g 5 (brr 256 (hid (M e s) l)) → Tabs w' → Calls Tryz.prog 101 #[.int .u32 (e : Int), .int .u32 (s : Int), .slice (some ⟨g, 0, none⟩) 256 256] w' fun x w'' => x = .returned (.agg (brr 32 (shaF (nonB e s ++ lst 256 (hid (M e s) l)))).toArray) ∧ Below w'.heap.size w' w'') := fun g w' hr ht => by
    have h := digest_any e s (some ⟨g, 0, none⟩) 256 (lst 256 (hid (M e s) l)) he hs w' hr.hol (by rw [lst_len]; exact Nat.le_refl _) (fun ad hd => by injection hd with hd; subst hd; exact hr.lt) (by rw [lst_len]; omega) ht
    rwa [lst_len] at h
  have HH : Hid (∀ w' : World, Below w.heap.size w w' → Calls Tryz.prog 102 #[.pointer (some ⟨gv, 0, none⟩), .int .u32 (e : Int), .int .u32 (s : Int), .slice A 256 c] w' (NewRow w' 256 (hid (M e s) l))) := fun w' hb => by
    have h := hide_any gv M A c l e s he hs (by omega) w' (hM.below hb) (hA.below hb)
    rwa [hl] at h
  clear he hs hM hA hT hl ha
  go_enter Tryz.func113, Tryz.ntmps113
  go_wp2_with (first
    | (refine step_alloc rfl 11 rfl 87 rfl _ hz ?_; intro g2 w2 hr2 hg2 hb2 hs2)
    | (go_at_call 102; refine (HH.out _ hb2).mono ?_; rintro x3 w3 ⟨g3, rfl, hr3, hq3, hb3⟩
       have HB3 := Lib.hid (hb2.trans (hb3.mono hb2.size))
       have R2 := Lib.hid (hr2.kept hb3)
       have R3 := Lib.hid hr3
       have Q2 := Lib.hid (p := w.heap.size ≤ g2) (by rw [hg2.out]; exact Nat.le_refl _)
       have Q3 := Lib.hid (p := w2.heap.size ≤ g3) hq3
       have N23 := Lib.hid (p := g2 < g3) (Nat.lt_of_lt_of_le hr2.lt hq3)
       clear hr2 hg2 hb2 hs2 hr3 hq3 hb3)
    | (go_at_call 101; refine (HD.out g3 _ R3.out (HT.out.below HB3.out)).mono ?_; rintro x4 w4 ⟨rfl, hb4⟩
       have HB4 := Lib.hid (HB3.out.trans (hb4.mono HB3.out.size))
       have R24 := Lib.hid (R2.out.kept hb4)
       have R34 := Lib.hid (R3.out.kept hb4)
       clear hb4)
    | (refine step_build rfl 87 #[(0, .tmp 33), (1, .tmp 34), (2, .tmp 35), (3, .tmp 39)] rfl [(0, .int .i64 ((a : Int) + 1)), (1, .int .u32 (e : Int)), (2, .int .u32 (s : Int)), (3, .agg (brr 32 (shaF (nonB e s ++ lst 256 (hid (M e s) l)))).toArray)] ?hv _ (built_rec _ e s _) ?_; case hv => (simp [Act.eval, Act.put]))
    | (refine step_store rfl 87 (.tmp 11) (.tmp 40) rfl g2 (by rfl) _ rec0.cs (sealR a e s (lst 256 (hid (M e s) l))).cs (by rfl) R24.out (by rw [RecV.cs_len, RecV.cs_len]) (i35.out _) (RecV.cs_one _) ?_; intro w5 hr5 hg5 hs5))
  refine bodyPost_ret (results_tmp_row_tmp rfl _ _ g2 _ _ _ _ rfl hr5 Tryz.underlying87 rfl (by simpa using i35.out _)) rfl ?_
  exact ⟨g3, rfl, R34.out.grown hg5 (fun e => by injection e with e; have := N23.out; omega), Nat.le_trans Q2.out (Nat.le_of_lt N23.out), HB4.out.grown hg5 HB4.out.size (fun q hq => by injection hq with hq; subst hq; exact Q2.out)⟩
end Go.Proofs.YtpocccnhibjjcaaGreatDoor
/- Of a record that leads to no block package node's Open opens nothing. No conditions. -/
set_option linter.unusedVariables false
set_option maxRecDepth 20000
namespace Go.Proofs.YtpocccnhibjjcaaGreatDoor
open Go.RowKit

end Go.Proofs.YtpocccnhibjjcaaGreatDoor
