/- Every text goes behind any bytes as the document says, or is refused: the statement on WireTexts, its card. Condition: the listed tables hold what the library's text lays. -/
import Derived.Test.YtcdgiailapcooaaDoorIn
import Derived.Test.YtcdgiailapcooaaDoorRef2
set_option linter.unusedVariables false
namespace Go.Proofs.YtcdgiailapcooaaDoor.wireTexts
open Go.ChangeShapes Go.WideShapes Go.ChangeAt Go.RowKit
open Go.ChangeMaps (open_string shut_string)

theorem walk (a : Option Addr) (len cap : Nat) (l : List UInt8) (s : ByteArray) (hs : s.size ≤ maxLen) (w : World) (hl : InB w a len cap l) (hT : Tabs w) :
    Calls Tryd.prog 4 #[.slice a len cap, .string s] w fun e w' => e = .returned (.bool true) ∧ Below w.heap.size w w' := by
  unfold maxLen at hs
  obtain ⟨rfl, hA, hcap, hmax⟩ := hl
  unfold maxLen at hmax
  have hl63 : (l.length : Int) ≤ 9223372036854775807 := by omega
  have hs63 : (s.size : Int) ≤ 9223372036854775807 := by omega
  by_cases h : 65536 < l.length
  · have hz : (65536 : Int) < (l.length : Int) := by omega
    go_enter Tryd.func4, Tryd.ntmps4
    go_wp2_with (go_at_call 12; refine (awake_any w hT).mono ?_; rintro e w1 ⟨rfl, hb1⟩)
    go_ret
    exact ⟨rfl, hb1⟩
  have hz : decide ((65536 : Int) < (l.length : Int)) = false := by simp; omega
  by_cases h2 : 262144 < s.size
  · have hz2 : (262144 : Int) < (s.size : Int) := by omega
    go_enter Tryd.func4, Tryd.ntmps4
    go_wp2_with (go_at_call 12; refine (awake_any w hT).mono ?_; rintro e w1 ⟨rfl, hb1⟩)
    go_ret
    exact ⟨rfl, hb1⟩
  have hz2 : ¬ (262144 : Int) < (s.size : Int) := by omega
  have cX := fun W (hW : Below w.heap.size w W) => txt_any a cap l s W (hA.below hW) (by omega) hs
  have cY := fun W (hW : Below w.heap.size w W) => rtxt_any a cap l s W (hA.below hW) (by omega) hs
  have hlen : (txtR l s.data.toList).1.length ≤ 1000000 := by
    unfold txtR
    split
    · simp
    · simp only [List.length_append, leb_len, ← Lib.size_eq]
      omega
  generalize txtR l s.data.toList = R at cX cY hlen
  obtain ⟨r, e0⟩ := R
  replace hlen : r.length ≤ 1000000 := hlen
  have CX := Lib.hid cX
  have CY := Lib.hid cY
  clear cX cY h h2 hs63 hl63
  go_enter Tryd.func4, Tryd.ntmps4
  go_wp2_with fail
  refine (awake_any w hT).mono ?_
  rintro e w1 ⟨rfl, hb1⟩
  go_wp2_with fail
  refine (CX.out w1 hb1).mono ?_
  rintro e w2 ⟨v, rfl, hown2, hb2⟩
  obtain ⟨_, A2, c2, rfl, _, _, hA2⟩ := own_form hown2
  have hb12 := hb1.trans (hb2.mono hb1.size)
  clear hown2
  go_wp2_with fail
  refine (CY.out w2 hb12).mono ?_
  rintro e w3 ⟨v, rfl, hown3, hb3⟩
  obtain ⟨_, A3, c3, rfl, _, _, hA3⟩ := own_form hown3
  have hb123 := hb12.trans (hb3.mono hb12.size)
  clear hown3
  go_wp2_with fail
  refine (bytes_any A2 A3 c2 c3 r r w3 (hA2.below hb3) hA3 (by omega) (by omega)).mono ?_
  rintro e w4 ⟨rfl, hb4⟩
  go_wp2
  go_ret
  exact ⟨by simp, hb123.trans (hb4.mono hb123.size)⟩
end Go.Proofs.YtcdgiailapcooaaDoor.wireTexts
