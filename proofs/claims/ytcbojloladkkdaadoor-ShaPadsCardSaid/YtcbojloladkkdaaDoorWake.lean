/- The laws' first test: what the document fixes. Condition: the listed tables. -/
import Derived.Test.YtcbojloladkkdaaDoorSum
import Derived.Test.YtcbojloladkkdaaDoorText
import Derived.Test.YtcbojloladkkdaaDoorEval
import Derived.Lib.SlBytesConst
set_option linter.unusedVariables false
namespace Go.Proofs.YtcbojloladkkdaaDoor
open Go.RowKit

theorem sha_abc : shaF [97, 98, 99] = dig ⟨0xba7816bf, 0x8f01cfea, 0x414140de, 0x5dae2223, 0xb00361a3, 0x96177a9c, 0xb410ff61, 0xf20015ad⟩ := by
  have e : ([97, 98, 99] : List UInt8) ++ padB ([97, 98, 99] : List UInt8).length = abc := by kernel_rfl
  unfold shaF
  rw [e, show abc.length / 64 = 1 from rfl, ← abc_cmp]
  rfl
theorem text_abc : hxs (shaF [97, 98, 99]) 32 = [98, 97, 55, 56, 49, 54, 98, 102, 56, 102, 48, 49, 99, 102, 101, 97, 52, 49, 52, 49, 52, 48, 100, 101, 53, 100, 97, 101, 50, 50, 50, 51, 98, 48, 48, 51, 54, 49, 97, 51, 57, 54, 49, 55, 55, 97, 57, 99, 98, 52, 49, 48, 102, 102, 54, 49, 102, 50, 48, 48, 49, 53, 97, 100] := by
  rw [sha_abc]
  kernel_rfl

theorem hol_abc (w : World) (e : TypeId) (fr : Nat × Nat) : Hol (w.alloc (.cells #[.int .u8 97, .int .u8 98, .int .u8 99] e fr)) (some ⟨w.heap.size, 0, none⟩) [97, 98, 99] := by
  refine .inr ⟨w.heap.size, 0, rfl, fun j z hz => ?_⟩
  match j, hz with
  | 0, hz =>
    simp at hz
    subst hz
    rw [cell_of_row _ _ _ _ _ _ (heap_alloc_new w _)]
    rfl
  | 1, hz =>
    simp at hz
    subst hz
    rw [cell_of_row _ _ _ _ _ _ (heap_alloc_new w _)]
    rfl
  | 2, hz =>
    simp at hz
    subst hz
    rw [cell_of_row _ _ _ _ _ _ (heap_alloc_new w _)]
    rfl

theorem awake_any (w : World) (hT : Tabs w) : Calls Tryd.prog 5 #[] w fun e w' => e = .returned (.bool true) ∧ Below w.heap.size w w' := by
  have HT := Lib.hid hT
  clear hT
  have kc := fun (w : World) (C : Array Value) (n c : Nat) => Lib.run_convert_bytes_const (P := Tryd.prog) w 24 5 C n c Tryd.underlying24 Tryd.underlying5
  go_enter Tryd.func5, Tryd.ntmps5
  have hb0 : ∀ e, Below w.heap.size w (w.alloc e) := fun e => (Below.refl _ _).alloc (Nat.le_refl _) _
  go_wp2_with (first
    | (go_at_call 7; refine (of_any (some ⟨w.heap.size, 0, none⟩) 3 [97, 98, 99] _ (hol_abc w _ _) (by simp) (by intro ad e; injection e with e; subst e; simp) (by simp) (HT.out.below (hb0 _))).mono ?_; rintro e w2 ⟨rfl, hb2⟩)
    | (go_at_call 9; refine (text_any _ _).mono ?_; rintro e w3 ⟨rfl, hb3⟩; rw [text_abc]))
  go_ret
  exact ⟨rfl, ((hb0 _).trans (hb2.mono (hb0 _).size)).trans (hb3.mono (Nat.le_trans (hb0 _).size hb2.size))⟩
end Go.Proofs.YtcbojloladkkdaaDoor
