/- A hidden block's digest, by package node: what the call leaves, for all bytes up to 2^40. Condition: the listed tables. -/
import Derived.Test.YtibnmhaipogleaaDoorSum
import Derived.Test.YtibnmhaipogleaaDoorNodeB
set_option linter.unusedVariables false
set_option maxRecDepth 20000
namespace Go.Proofs.YtibnmhaipogleaaDoor
open Go.RowKit

theorem nonce_nil (e s : Nat) (w : World) (he : e < 4294967296) (hs : s < 4294967296) : Calls Tryd.prog 41 #[.slice none 0 0, .int .u32 (e : Int), .int .u32 (s : Int)] w (OwnB (nonB e s) w) :=
  nonce_any none 0 0 [] e s rfl w .none_ he hs (by simp)
set_option maxHeartbeats 1000000 in
theorem digest_any (e s : Nat) (A : Option Addr) (c : Nat) (l : List UInt8) (he : e < 4294967296) (hs : s < 4294967296) (w : World) (hA : Hol w A l) (hc : l.length ≤ c) (hF : ∀ ad, A = some ad → ad.block < w.heap.size) (hlen : l.length ≤ 1099511627776) (hT : Tabs w) :
    Calls Tryd.prog 21 #[.int .u32 (e : Int), .int .u32 (s : Int), .slice A l.length c] w fun x w' => x = .returned (.agg (brr 32 (shaF (nonB e s ++ l))).toArray) ∧ Below w.heap.size w w' := by
  have i27 := Lib.hid (p := (Tryd.prog.info? 24).map (·.size) = some 32) (by kernel_rfl)
  have hz := Lib.hid zero_sum
  have HT := Lib.hid hT
  have HA := Lib.hid hA
  have HF := Lib.hid hF
  have HE := Lib.hid he
  have HS := Lib.hid hs
  have HC := Lib.hid hc
  have HL := Lib.hid hlen
  clear hT hA hF he hs hc hlen
  go_enter Tryd.func21, Tryd.ntmps21
  go_wp2_with (first
    | (refine step_alloc rfl 6 rfl 24 rfl _ hz ?_; intro g2 w2 hr2 hg2 hb2 hs2)
    | (go_at_call 39; refine (new_any _ (HT.out.below hb2)).mono ?_; rintro e3 w3 ⟨g3, rfl, hr3, hq3, hb3⟩
       have HB3 := Lib.hid (p := Below w.heap.size w w3) (hb2.trans (hb3.mono hb2.size))
       have Q2 := Lib.hid (p := w.heap.size ≤ g2 ∧ g2 < w3.heap.size) ⟨by have := hg2.out; omega, (Row.kept hr2 hb3).lt⟩
       have Q3 := Lib.hid (p := w2.heap.size ≤ g3) hq3
       have N23 := Lib.hid (p := g2 < g3) (Nat.lt_of_lt_of_le hr2.lt hq3)
       have R2 := Lib.hid (Row.kept hr2 hb3)
       have R3 := Lib.hid hr3
       clear hr2 hg2 hb2 hs2 hr3 hq3 hb3)
    | (go_at_call 41; refine (nonce_nil e s _ HE.out HS.out).mono ?_; rintro e4 w4 ⟨A4, n4, c4, rfl, hn4, ho4, hb4⟩
       obtain rfl := hn4.out
       have HB4 := Lib.hid (p := Below w.heap.size w w4) (HB3.out.trans (hb4.out.mono HB3.out.size))
       have R24 := Lib.hid (R2.out.kept hb4.out)
       have R34 := Lib.hid (Row.kept R3.out hb4.out)
       have HF4 := Lib.hid (p := Far A4 g3) (fun ad hd => by have h1 := (ho4.out.lt ad.block (by rw [hd]; rfl)).1; have h2 := R3.out.lt; omega)
       obtain ⟨_, A4', c4', e4', h41, _, h43⟩ := own_form ho4.out
       simp only [Value.slice.injEq] at e4'
       obtain ⟨rfl, _, rfl⟩ := e4'
       have HC4 := Lib.hid h41
       have HH4 := Lib.hid h43
       clear ho4 hn4 hb4 h41 h43)
    | (go_at_call_of 40 (Value.slice A4 (nonB e s).length c4)
       have hT4 := HT.out.below HB4.out
       have hne := HT.out.ne0 (show w.heap.size ≤ g3 by have := Q2.out.1; have := N23.out; omega)
       refine (add_any g3 A4 c4 [] (nonB e s) w4 (holds_new R34.out) HH4.out HF4.out HC4.out (by simp [nonB_len]) hT4 hne.1 hne.2).mono ?_
       rintro e5 w5 ⟨rfl, hh5, hg5⟩
       have HB5 := Lib.hid (p := Below w.heap.size w w5) (HB4.out.grown hg5 HB4.out.size (fun q hq => by injection hq with hq; have := Q2.out.1; have := N23.out; omega))
       have HH5 := Lib.hid hh5
       have R25 := Lib.hid (R24.out.grown hg5 (fun e => by injection e with e; have := N23.out; omega))
       clear hT4 hne hh5 hg5)
    | (go_at_call_of 40 (Value.slice A l.length c)
       have hT5 := HT.out.below HB5.out
       have hne := HT.out.ne0 (show w.heap.size ≤ g3 by have := Q2.out.1; have := N23.out; omega)
       refine (add_any g3 A c ([] ++ nonB e s) l w5 HH5.out (HA.out.below HB5.out) (fun ad hd => by have := HF.out ad hd; have := Q2.out.1; have := N23.out; omega) HC.out (by simp [nonB_len]; have := HL.out; omega) hT5 hne.1 hne.2).mono ?_
       rintro e6 w6 ⟨rfl, hh6, hg6⟩
       have HB6 := Lib.hid (p := Below w.heap.size w w6) (HB5.out.grown hg6 HB5.out.size (fun q hq => by injection hq with hq; have := Q2.out.1; have := N23.out; omega))
       have HH6 := Lib.hid hh6
       have R26 := Lib.hid (R25.out.grown hg6 (fun e => by injection e with e; have := N23.out; omega))
       clear hT5 hne hh6 hg6)
    | (go_at_call 42
       refine (sum_any g3 ([] ++ nonB e s ++ l) _ HH6.out (by simp [nonB_len]; have := HL.out; omega) (HT.out.below HB6.out)).mono ?_
       rintro e7 w7 ⟨rfl, hb7⟩
       have HB7 := Lib.hid (HB6.out.trans (hb7.mono HB6.out.size))
       have R27 := Lib.hid (R26.out.kept hb7)
       clear hb7)
    | (refine step_store rfl 24 (.tmp 6) (.tmp 18) rfl g2 (by rfl) _ (brr 32 (fun _ => 0)) (brr 32 (shaF ([] ++ nonB e s ++ l))) (by rfl) R27.out (by rw [brr_len, brr_len]) (by rw [brr_len]; exact i27) (brr_one _ _) ?_; intro w8 hr8 hg8 hs8))
  refine bodyPost_ret (results_cell_row rfl _ _ g2 _ _ _ _ rfl hr8 Tryd.underlying24 rfl (by simpa [brr_len] using i27.out)) rfl ?_
  exact ⟨rfl, HB7.out.grown hg8 HB7.out.size (fun q hq => by injection hq with hq; have := Q2.out.1; omega)⟩
end Go.Proofs.YtibnmhaipogleaaDoor
