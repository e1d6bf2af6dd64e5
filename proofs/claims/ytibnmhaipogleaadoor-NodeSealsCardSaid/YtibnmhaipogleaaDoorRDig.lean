/- A hidden block's digest, by the reference: what the call leaves, for all bytes up to 2^40. No conditions. -/
import Derived.Test.YtibnmhaipogleaaDoorRefOf
import Derived.Test.YtibnmhaipogleaaDoorRMay
import Derived.Test.YtibnmhaipogleaaDoorDig
set_option linter.unusedVariables false
set_option maxRecDepth 20000
namespace Go.Proofs.YtibnmhaipogleaaDoor
open Go.RowKit

theorem ref_of_call (A : Option Addr) (n c : Nat) (l : List UInt8) (hn : n = l.length) (w : World) (hA : Hol w A l) (hlen : l.length ≤ 1099511627776) :
    Calls Tryd.prog 38 #[.slice A n c] w fun e w' => e = .returned (.agg (brr 32 (shaF l)).toArray) ∧ Below w.heap.size w w' := by
  subst hn
  exact ref_of_any A c l w hA hlen
set_option maxHeartbeats 1000000 in
theorem rdigest_any (e s : Nat) (A : Option Addr) (n c : Nat) (l : List UInt8) (hn : n = l.length) (he : e < 4294967296) (hs : s < 4294967296) (w : World) (hA : Hol w A l) (hlen : l.length ≤ 549755813888) :
    Calls Tryd.prog 20 #[.int .u32 (e : Int), .int .u32 (s : Int), .slice A n c] w fun x w' => x = .returned (.agg (brr 32 (shaF (nonB e s ++ l))).toArray) ∧ Below w.heap.size w w' := by
  obtain ⟨i, U⟩ := u8_tab
  have i27 := Lib.hid (p := (Tryd.prog.info? 24).map (·.size) = some 32) (by kernel_rfl)
  have hz := Lib.hid zero_sum
  have we := wrap_u64n he
  have ws := wrap_u64n hs
  have HA := Lib.hid hA
  have HE := Lib.hid he
  have HS := Lib.hid hs
  have HN := Lib.hid hn
  have HL := Lib.hid hlen
  clear hA he hs hlen hn
  go_enter Tryd.func20, Tryd.ntmps20
  go_wp2_with (first
    | (refine step_alloc rfl 6 rfl 24 rfl _ hz ?_; intro g2 w2 hr2 hg2 hb2 hs2
       have HR2 := Lib.hid hr2
       have HB2 := Lib.hid hb2
       have Q2 := Lib.hid (p := w.heap.size ≤ g2) (by rw [hg2.out]; exact Nat.le_refl _)
       have L2 := Lib.hid (p := g2 < w2.heap.size) hr2.lt
       clear hr2 hb2 hg2 hs2)
    | (go_at_call_of 37 (Value.int IntKind.u64 (e : Int)); refine (rput4' none 0 0 [] e rfl _ .none_ HE.out (by simp)).mono ?_; rintro x3 w3 ⟨A3, c3, m3, rfl, hm3, hH3, hb3⟩
       have HR3 := Lib.hid (HR2.out.kept hb3.out)
       have HB3 := Lib.hid (HB2.out.trans (hb3.out.mono HB2.out.size))
       have S3 := Lib.hid (p := w2.heap.size ≤ w3.heap.size) hb3.out.size
       clear hb3)
    | (go_at_call_of 37 (Value.int IntKind.u64 (s : Int)); refine (rput4o A3 c3 m3 ([] ++ leb e 4) s (hm3.out.trans (by simp [leb_len])) _ hH3.out HS.out (by simp [leb_len])).mono ?_; rintro x4 w4 ⟨A4, m4, c4, rfl, hm4, ho4, hb4⟩
       have HR4 := Lib.hid (HR3.out.kept hb4.out)
       have HB4 := Lib.hid (HB3.out.trans (hb4.out.mono HB3.out.size))
       have HO4 := Lib.hid (World.ownsRow.mono ho4.out S3.out)
       have HL4 := Lib.hid (HA.out.below HB4.out)
       have S4 := Lib.hid (p := w2.heap.size ≤ w4.heap.size) (Nat.le_trans S3.out hb4.out.size)
       clear hb4 ho4)
    | (at_builtin; refine wpList_app _ rfl _ _ _ rfl 5 i U w2.heap.size _ m4 _ rfl HO4.out A n c l rfl HN.out HL4.out (by have := hm4.out; simp [leb_len] at this; have h1 := HL.out; have h2 := HN.out; omega) S4.out ?_; intro v5 w5 ho5 hg5 hat5; obtain ⟨A5, c5, rfl⟩ := own_sl ho5
       have HB5 := Lib.hid (p := Below w.heap.size w w5) (HB4.out.grown hg5 HB4.out.size (fun q hq => Nat.le_trans (Nat.le_trans Q2.out (Nat.le_of_lt L2.out)) (HO4.out.lt q hq).1))
       have HR5 := Lib.hid (p := Row w5 g2 24 (brr 32 (fun _ => 0))) (HR4.out.grown hg5 (fun e => by have := (HO4.out.lt g2 e.symm).1; have := L2.out; omega))
       rw [← bc_app] at ho5
       have HO5 := Lib.hid ho5
       have HH5 := Lib.hid (p := Hol w5 A5 (nonB e s ++ l)) (by have h9 := Hol.own ho5; have e9 : [] ++ leb e 4 ++ leb s 4 ++ l = nonB e s ++ l := (by simp [nonB]); rw [e9] at h9; exact h9)
       have HM5 := Lib.hid (p := m4 + n = (nonB e s ++ l).length) (by have h2 := hm4.out; rw [List.length_append, leb_len] at h2; rw [List.length_append, nonB_len, ← HN.out, h2]; rfl)
       clear hg5 hat5 ho5)
    | (go_at_call 38; refine (ref_of_call A5 _ c5 _ HM5.out _ HH5.out (by rw [List.length_append, nonB_len]; have := HL.out; omega)).mono ?_; rintro x6 w6 ⟨rfl, hb6⟩
       have HB6 := Lib.hid (HB5.out.trans (hb6.mono HB5.out.size))
       have HR6 := Lib.hid (HR5.out.kept hb6)
       clear hb6)
    | (refine step_store rfl 24 (.tmp 6) (.tmp 25) rfl g2 (by rfl) _ (brr 32 (fun _ => 0)) (brr 32 (shaF (nonB e s ++ l))) (by rfl) HR6.out (by rw [brr_len, brr_len]) (by rw [brr_len]; exact i27) (brr_one _ _) ?_; intro w8 hr8 hg8 hs8))
  refine bodyPost_ret (results_cell_row rfl _ _ g2 _ _ _ _ rfl hr8 Tryd.underlying24 rfl (by simpa [brr_len] using i27.out)) rfl ?_
  exact ⟨rfl, HB6.out.grown hg8 HB6.out.size (fun q hq => by injection hq with hq; subst hq; exact Q2.out)⟩
end Go.Proofs.YtibnmhaipogleaaDoor
