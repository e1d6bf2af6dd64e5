/- The walk of GrantPacks. Conditions: those named. -/
import Derived.Test.YtcebbpdclgejdaaGa
import Derived.Test.YtcebbpdclgejdaaGd
import Derived.Test.YtcebbpdclgejdaaRBy
set_option linter.unusedVariables false
set_option maxRecDepth 20000
namespace Go.Proofs.Ytcebbpdclgejdaa
open Go.RowKit
theorem gpacks_not (x : Sup) (h : ¬ x.May) (w : World) : Calls Try.prog 3 #[.agg x.cs.toArray] w fun e w' => e = .returned (.bool true) ∧ Below w.heap.size w w' := by
  have i1 := Lib.hid (fun x : Sup => info_cs x)
  have HPK := Lib.hid (fun w => gpack_not x h w)
  have HRK := Lib.hid (fun w => rpack_not x h w)
  have HNN : Hid (∀ w, Calls Try.prog 10 #[.slice none 0 0, .slice none 0 0] w fun e w' => e = .returned (.bool true) ∧ Below w.heap.size w w') := Lib.hid (fun w => by
    have z := rbytes_any none none 0 0 [] [] w (.inl rfl) (.inl rfl) (by simp) (by simp)
    exact z)
  clear h
  go_enter Try.func3, Try.ntmps3
  go_wp2_with (first
    | (refine step_box rfl 1 rfl 27 (.tmp 0) rfl x.cs rfl ?_; intro g2 w2 hr2 hg2 hb2 hs2
       have R2 := Lib.hid hr2
       have HB2 := Lib.hid hb2
       clear hr2 hb2 hg2 hs2)
    | (go_at_call 7; refine (gawake_any _).mono ?_; rintro e w3 ⟨rfl, hb3⟩
       have R3 := Lib.hid (R2.out.kept hb3)
       have HB3 := Lib.hid (below_nxt hb3 HB2.out)
       clear hb3)
    | (refine step_load rfl 10 rfl 27 (.tmp 1) rfl g2 rfl x.cs _ R3.out.all Try.underlying27 rfl (i1.out _) ?_)
    | (go_at_call 8; refine (HPK.out _).mono ?_; rintro e w4 ⟨rfl, hb4⟩
       have R4 := Lib.hid (R3.out.kept hb4)
       have HB4 := Lib.hid (below_nxt hb4 HB3.out)
       clear hb4)
    | (refine step_load rfl 15 rfl 27 (.tmp 1) rfl g2 rfl x.cs _ R4.out.all Try.underlying27 rfl (i1.out _) ?_)
    | (go_at_call 9; refine (HRK.out _).mono ?_; rintro e w5 ⟨rfl, hb5⟩
       have HB5 := Lib.hid (below_nxt hb5 HB4.out)
       clear hb5)
    | (go_at_call 10; refine (HNN.out _).mono ?_; rintro e w6 ⟨rfl, hb6⟩
       have HB6 := Lib.hid (below_nxt hb6 HB5.out)
       clear hb6))
  go_ret
  exact ⟨rfl, HB6.out⟩
theorem gpacks_ok (x : Sup) (h : x.May) (hs64 : x.s < 18446744073709551616) (w : World) : Calls Try.prog 3 #[.agg x.cs.toArray] w fun e w' => e = .returned (.bool true) ∧ Below w.heap.size w w' := by
  have i1 := Lib.hid (fun x : Sup => info_cs x)
  have HPK := Lib.hid (fun w => gpack_ok x h hs64 w)
  have HRK := Lib.hid (fun w => rpack_ok x h hs64 w)
  clear h hs64
  go_enter Try.func3, Try.ntmps3
  go_wp2_with (first
    | (refine step_box rfl 1 rfl 27 (.tmp 0) rfl x.cs rfl ?_; intro g2 w2 hr2 hg2 hb2 hs2
       have R2 := Lib.hid hr2
       have HB2 := Lib.hid hb2
       clear hr2 hb2 hg2 hs2)
    | (go_at_call 7; refine (gawake_any _).mono ?_; rintro e w3 ⟨rfl, hb3⟩
       have R3 := Lib.hid (R2.out.kept hb3)
       have HB3 := Lib.hid (below_nxt hb3 HB2.out)
       clear hb3)
    | (refine step_load rfl 10 rfl 27 (.tmp 1) rfl g2 rfl x.cs _ R3.out.all Try.underlying27 rfl (i1.out _) ?_)
    | (go_at_call 8; refine (HPK.out _).mono ?_; rintro e w4 ⟨g4, c4, rfl, ho4, hb4⟩
       have R4 := Lib.hid (R3.out.kept hb4.out)
       have HB4 := Lib.hid (below_nxt hb4.out HB3.out)
       clear hb4)
    | (refine step_load rfl 15 rfl 27 (.tmp 1) rfl g2 rfl x.cs _ R4.out.all Try.underlying27 rfl (i1.out _) ?_)
    | (go_at_call 9; refine (HRK.out _).mono ?_; rintro e w5 ⟨g5, rfl, hr5, hb5⟩
       have H4 : Hol w5 (some ⟨g4, 0, none⟩) (lst 256 x.pb) := (Hol.own ho4.out).below hb5.out
       have HNN : Hid (Calls Try.prog 10 #[.slice (some ⟨g4, 0, none⟩) 256 c4, .slice (some ⟨g5, 0, none⟩) 256 256] w5 fun e w' => e = .returned (.bool true) ∧ Below w5.heap.size w5 w') := Lib.hid (by
         have z := rbytes_any (some ⟨g4, 0, none⟩) (some ⟨g5, 0, none⟩) c4 256 (lst 256 x.pb) (lst 256 x.pb) w5 H4 hr5.out.hol (by rw [lst_len]; omega) (by rw [lst_len]; omega)
         simp only [lst_len, decide_true] at z
         exact z)
       have HB5 := Lib.hid (below_nxt hb5.out HB4.out)
       clear hb5 hr5 H4)
    | (go_at_call 10; refine HNN.out.mono ?_; rintro e w6 ⟨rfl, hb6⟩
       have HB6 := Lib.hid (below_nxt hb6 HB5.out)
       clear hb6))
  go_ret
  exact ⟨rfl, HB6.out⟩
theorem gpacksW (x : Sup) (hs64 : x.s < 18446744073709551616) (w : World) : Calls Try.prog 3 #[.agg x.cs.toArray] w fun e w' => e = .returned (.bool true) ∧ Below w.heap.size w w' := by
  by_cases h : x.May
  · exact gpacks_ok x h hs64 w
  · exact gpacks_not x h w
end Go.Proofs.Ytcebbpdclgejdaa
