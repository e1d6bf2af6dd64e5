/- The laws' first test of stage 7: it answers true. No conditions. -/
import Derived.Test.YtpkmbgbglefcfaaPw
set_option linter.unusedVariables false
namespace Go.Proofs.Ytpkmbgbglefcfaa
open Go.RowKit

theorem way26 : wayL 2 6 = [1, 2] := by decide
theorem sl2 : sl 2 = 16 := by decide
theorem nd2 : nd (lv 2) = 5 := by decide
set_option maxHeartbeats 400000 in
theorem awake_any (w : World) : Calls Try.prog 9 #[] w fun e w' => e = .returned (.bool true) ∧ Below w.heap.size w w' := by
  have H1 := Lib.hid way26
  have H2 := Lib.hid sl2
  have H3 := Lib.hid nd2
  go_enter Try.func9, Try.ntmps9
  go_wp2_with (first
    | (go_at_call 16; refine (way_any 2 6 _).mono ?_; rintro e w1 ⟨A, c, rfl, hO, hB⟩
       rw [H1.out] at hO
       rw [H1.out]
       obtain ⟨g, o, rfl, hg, hc0⟩ := hO.hol.at_ (j := 0) (by decide)
       obtain ⟨g', o', e', hg', hc1⟩ := hO.hol.at_ (j := 1) (by decide)
       injection e' with e'
       injection e' with e1 e2
       subst e1 e2
       have hc0' : w1.cell? ⟨g, o, none⟩ = some (.int .i64 1) := hc0
       have hc1' : w1.cell? ⟨g, o + 1, none⟩ = some (.int .i64 2) := hc1
       have HB := Lib.hid hB
       clear hO hB hc0 hc1)
    | (go_at_call 11; refine (slots_any 2 _).mono ?_; rintro e w' ⟨rfl, rfl⟩; rw [H2.out])
    | (go_at_call 13; refine (nodes_any 2 _).mono ?_; rintro e w' ⟨rfl, rfl⟩; rw [H3.out]))
  go_ret
  exact ⟨rfl, HB.out⟩
end Go.Proofs.Ytpkmbgbglefcfaa
