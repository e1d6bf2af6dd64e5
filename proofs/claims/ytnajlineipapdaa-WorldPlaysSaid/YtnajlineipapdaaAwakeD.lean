/- What the fifth stage's laws ask first: a disk and an anchor that answer as the document fixes. No conditions. -/
import Derived.Test.YtnajlineipapdaaMgPApi
import Derived.Test.YtnajlineipapdaaAnch
set_option linter.unusedVariables false
namespace Go.Proofs.Ytnajlineipapdaa
open Go.RowKit

theorem set_two' (w : World) (ga : Nat) (cs : Array Value) (hcs : cs = (rootC 2).toArray) (hA : Row w ga 88 (anchC 0 (.slice none 0 0))) : Calls Try.prog 33 #[.pointer (some ⟨ga, 0, none⟩), .agg cs] w fun x w' => x = .returned (.int .i64 205) ∧ Below w.heap.size w w' := by
  subst hcs
  exact set_two w ga hA
theorem set_one' (w : World) (ga : Nat) (cs : Array Value) (hcs : cs = (rootC 1).toArray) (hA : Row w ga 88 (anchC 0 (.slice none 0 0))) : Calls Try.prog 33 #[.pointer (some ⟨ga, 0, none⟩), .agg cs] w fun x w' => x = .returned (.int .i64 0) ∧ Chg [ga] w w' := by
  subst hcs
  exact set_one w ga hA
set_option maxRecDepth 20000 in
set_option maxHeartbeats 400000 in
theorem awake_any (w : World) : Calls Try.prog 8 #[] w fun e w' => e = .returned (.bool true) ∧ Below w.heap.size w w' := by
  go_enter Try.func8, Try.ntmps8
  go_wp2_with (first
    | (go_at_call 10; refine (new_in 2 (by omega) (by omega) _).mono ?_; rintro e1 w1 ⟨g, F, x0, rfl, hx0, hD1, hb1⟩
       have HD1 := Lib.hid hD1
       have HB1 := Lib.hid hb1
       have HF1 := Lib.hid (p := ∀ k ∈ F, w.heap.size ≤ k) (fun k hk => (hD1.lt k hk).1)
       clear hD1 hb1 hx0)
    | (go_at_call 31; (refine (whole_own (some ⟨w1.heap.size, 0, none⟩) 1 1 [7] rfl (by simp) _ (hol_byte (x := 7) (made_byte w1 5 (.int .u8 7)))).mono ?_); rintro e2 w2 ⟨x2, rfl, HX2, HO2, HB2⟩
       have HB12 := Lib.hid (p := Below w1.heap.size w1 w2) ((Below.refl w1.heap.size w1).alloc (Nat.le_refl _) _ |>.trans (HB2.out.mono (by simp))))
    | (go_at_call 18; (refine ((HD1.out.kept HB12.out).write 1 (by simp) x2.A _ x2.c x2.l rfl (by rw [HX2.out, pad_len]) HO2.out.hol (by simp) (by simp)).mono ?_); rintro e3 w3 ⟨x3, rfl, HX3, F3, HD3, HC3, HW3⟩)
    | (go_at_call 26; refine HD3.out.waiting.mono ?_; rintro e4 w4 ⟨rfl, hw4⟩; obtain rfl := hw4.symm)
    | (go_at_call 13; refine (HD3.out.read 1 (by simp) (by simp) (by simp)).mono ?_; rintro e5 w5 ⟨⟨⟨A5, c5, l5⟩, rfl, HX5, HO5⟩, F5, HD5, HC5, HW5⟩
       have h5 : l5 = pad [7] := by
         have e0 := HX5.out
         have e1 : (nowV (List.replicate 2 x0) ([] ++ [(1, x3)]) 1) = x3 := rfl
         rw [e1, HX3.out, HX2.out] at e0
         exact e0
       have hl5 : l5.length = 256 := by rw [h5, pad_len]
       obtain ⟨g5, o5, rfl, hg5, c50⟩ := HO5.out.hol.at_ (j := 0) (show 0 < l5.length by omega)
       have e7 : l5[0]'(by omega) = 7 := by simp [h5, pad, wh]
       rw [e7] at c50
       have hle : ((l5.length : Int) == 256) = true := by rw [hl5]; rfl
       have hl0 : (0 : Int) < (l5.length : Int) := by omega
       have hl0n : 0 < l5.length := by omega
       replace c50 : w5.cell? ⟨g5, o5, none⟩ = some (.int .u8 7) := c50
       have HL5 := Lib.hid hl5
       clear h5 hl5 e7)
    | (go_at_call 36; refine (newanchor _).mono ?_; rintro e6 w6 ⟨g6, rfl, hA6, hg6, hb6⟩
       have c56 := (hb6.cell (p := ⟨g5, o5, none⟩) hg5).trans c50
       have HA6 := Lib.hid hA6
       have HB6 := Lib.hid hb6
       have HG6 := Lib.hid hg6
       clear hA6 hb6 hg6 c50)
    | (go_at_call 33; (refine (set_two' _ g6 _ (by kernel_rfl) HA6.out).mono ?_); rintro e7 w7 ⟨rfl, hb7⟩
       have HA7 := Lib.hid (HA6.out.kept hb7)
       have HB7 := Lib.hid hb7
       clear hb7)
    | (go_at_call 33; (refine (set_one' _ g6 _ (by kernel_rfl) HA7.out).mono ?_); rintro e8 w8 ⟨rfl, hc8⟩
       have HC8 := Lib.hid hc8
       clear hc8))
  go_ret
  have s1 := HB1.out.size
  have s2 := HB12.out.size
  have s3 := HC3.out.size
  have s5 := HC5.out.size
  have s6 := HB6.out.size
  have s7 := HB7.out.size
  have k3 : ∀ k ∈ F3, w.heap.size ≤ k := fun k hk => by
    rcases HW3.out k hk with h | h
    · exact HF1.out k h
    · omega
  have b3 := HC3.out.below (b := w.heap.size) (by omega) HF1.out
  have b5 := HC5.out.below (b := w.heap.size) (by omega) k3
  have b8 := HC8.out.below (b := w.heap.size) (by omega) (fun x hx => by simp at hx; subst hx; have := HG6.out; omega)
  exact ⟨rfl, HB1.out.trans ((HB12.out.mono (by omega)).trans (b3.trans (b5.trans ((HB6.out.mono (by omega)).trans ((HB7.out.mono (by omega)).trans b8)))))⟩
end Go.Proofs.Ytnajlineipapdaa
