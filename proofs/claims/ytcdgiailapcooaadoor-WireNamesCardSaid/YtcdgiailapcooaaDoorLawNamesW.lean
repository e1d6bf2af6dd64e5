/- Every text is a name that may be, or refused, as the document says: the statement on WireNames, its card. Condition: the listed tables hold what the library's text lays. -/
import Derived.Test.YtcdgiailapcooaaDoorIn
import Derived.Test.YtcdgiailapcooaaDoorRunesRef2
set_option linter.unusedVariables false
namespace Go.Proofs.YtcdgiailapcooaaDoor.wireNames
open Go.ChangeShapes Go.WideShapes Go.ChangeAt Go.RowKit
open Go.ChangeMaps (open_string shut_string)

theorem walk (s : ByteArray) (hs : s.size ≤ maxLen) (w : World) (hT : Tabs w) :
    Calls Tryd.prog 7 #[.string s] w fun e w' => e = .returned (.bool true) ∧ Below w.heap.size w w' := by
  unfold maxLen at hs
  by_cases h : 65536 < s.size
  · have hz : (65536 : Int) < (s.size : Int) := by omega
    go_enter Tryd.func7, Tryd.ntmps7
    go_wp2_with (go_at_call 12; refine (awake_any w hT).mono ?_; rintro e w1 ⟨rfl, hb1⟩)
    go_ret
    exact ⟨rfl, hb1⟩
  · have hz : ¬ (65536 : Int) < (s.size : Int) := by omega
    have cN := fun W hW => name_any s W (by omega) (tabs_below hT hW)
    have cR := fun W => rname_any s W (by omega)
    generalize nameR s.data.toList = R at cN cR
    have CN := Lib.hid cN
    have CR := Lib.hid cR
    clear cN cR h
    go_enter Tryd.func7, Tryd.ntmps7
    go_wp2_with (first
      | (go_at_call 12; refine (awake_any w hT).mono ?_; rintro e w1 ⟨rfl, hb1⟩)
      | (go_at_call 25; refine (CN.out w1 hb1).mono ?_; rintro e w2 ⟨rfl, hb2⟩)
      | (go_at_call 26; refine (CR.out w2).mono ?_; rintro e w3 ⟨rfl, hb3⟩))
    go_ret
    have hb12 := hb1.trans (hb2.mono hb1.size)
    exact ⟨by simp, hb12.trans (hb3.mono hb12.size)⟩
end Go.Proofs.YtcdgiailapcooaaDoor.wireNames
