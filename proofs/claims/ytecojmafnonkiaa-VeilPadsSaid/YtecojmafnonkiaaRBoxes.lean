/- The reference's table of boxes: what the call leaves. No conditions. -/
import Derived.Test.YtecojmafnonkiaaApp
import Derived.Test.YtecojmafnonkiaaBoxes
set_option linter.unusedVariables false
namespace Go.Proofs.Ytecojmafnonkiaa
open Go.RowKit

set_option maxRecDepth 20000 in
theorem rboxes_any (w : World) : Calls Try.prog 23 #[] w fun e w' => ∃ v, e = .returned v ∧ w'.ownsRow w.heap.size 5 1 v 256 (brr 256 sbf) ∧ Below w.heap.size w w' := by
  obtain ⟨i, U⟩ := u8_tab
  go_enter Try.func23, Try.ntmps23
  go_wp2
  go_loopw [2, 1] (fun x v wr => ∃ n : Nat, n ≤ 256 ∧ x = .int .i64 n ∧ wr.ownsRow w.heap.size 5 1 v n (brr n sbf) ∧ Below w.heap.size w wr) (fun x _ _ => 256 - (intOf x).toNat)
  case atStart => exact ⟨0, by omega, rfl, by rw [brr_zero]; exact World.ownsRow_nil _ _ _ _, Below.refl _ _⟩
  case round =>
    obtain ⟨n, hn, rfl, hown, hbel⟩ := hrel
    by_cases hlt : n < 256
    · have hcv : IntKind.u8.wrap (n : Int) = bv (UInt8.ofNat n) := by
        unfold bv
        rw [IntKind.wrap_u8', u8_toNat]
        omega
      have hcv' : (n : Int) % 256 = bv (UInt8.ofNat n) := by rw [← hcv, IntKind.wrap_u8']
      go_wp2_with (first
        | (go_at_call 33; refine (refbox_any (UInt8.ofNat n) _).mono ?_; rintro e w' ⟨rfl, rfl⟩)
        | (at_builtin; refine wp_one rfl (.tmp 7) (.tmp 11) 22 rfl 5 i U w.heap.size u1 n sbf rfl (hown.alloc _) _ rfl (made_byte _ _ _) (by omega) (by have := hbel.size; simp; omega) ?_; intro v2 w2 hown2 hg2 hat2))
      have hb2 : Below w.heap.size w w2 := (hbel.alloc hbel.size _).grown hg2 (by have := hbel.size; simp; omega) (fun k hk => (hown.lt k hk).1)
      go_roundw
      case rel => exact ⟨n + 1, by omega, by go_num, hown2, hb2⟩
      case measure => simp [intOf]; omega
    · obtain rfl : n = 256 := by omega
      go_wp2
      go_ret
      exact ⟨_, rfl, hown, hbel⟩

theorem times_two (x : UInt8) : times x 2 = dbl x := by
  have h0 : Nat.testBit 2 0 = false := by decide
  have h1 : Nat.testBit 2 1 = true := by decide
  have h : ∀ i, i < 6 → Nat.testBit 2 (i + 2) = false := by decide
  simp [times, tm, sel, dpow, h0, h1, h 0 (by decide), h 1 (by decide), h 2 (by decide), h 3 (by decide), h 4 (by decide), h 5 (by decide)]
/-- The table of boxes lies there. -/
def BoxAt (w : World) (g o : Nat) : Prop := g < w.heap.size ∧ ∀ x : UInt8, w.cell? ⟨g, o + x.toNat, none⟩ = some (B (sbox x))
theorem BoxAt.below {w w' : World} {n g o : Nat} (h : BoxAt w g o) (hb : Below n w w') (hg : g < n) : BoxAt w' g o := ⟨Nat.lt_of_lt_of_le h.1 hb.size, fun x => (hb.cell (p := ⟨g, o + x.toNat, none⟩) hg).trans (h.2 x)⟩
theorem BoxAt.drew {w : World} {g o : Nat} (h : BoxAt w g o) : BoxAt w.drew g o := h
theorem BoxAt.row {w : World} {g o : Nat} (hg : g < w.heap.size) (h : w.rangeAt g o (brr 256 sbf)) : BoxAt w g o := ⟨hg, fun x => by
  refine h _ _ ?_
  rw [brr_get _ (u8_lt x)]
  unfold sbf
  rw [UInt8.ofNat_toNat]⟩
theorem times_three (x : UInt8) : times 3 x = x ^^^ dbl x := by
  revert x
  exact each_byte (by decide +kernel)
theorem times_2l (x : UInt8) : times 2 x = dbl x := by
  revert x
  exact each_byte (by decide +kernel)
end Go.Proofs.Ytecojmafnonkiaa
