/- What the statements ask first, by the program: true. Condition: the library's two tables hold what their initialisers lay. -/
import Derived.Test.YtcdgiailapcooaaDoorWire
import Derived.Test.YtcdgiailapcooaaDoorLess
set_option linter.unusedVariables false
namespace Go.Proofs.YtcdgiailapcooaaDoor
open Go.RowKit

theorem hol_three (w : World) (e : TypeId) : Hol (w.alloc (.cells #[.int .u8 3, .int .u8 0, .int .u8 97] e)) (some ⟨w.heap.size, 0, none⟩) [3, 0, 97] := by
  refine .inr ⟨w.heap.size, 0, rfl, fun j x hx => ?_⟩
  match j, hx with
  | 0, hx => simp at hx; subst hx; simp
  | 1, hx => simp at hx; subst hx; simp
  | 2, hx => simp at hx; subst hx; simp

set_option maxHeartbeats 1000000 in
theorem awake_any (w : World) (hT : Tabs w) : Calls Tryd.prog 12 #[] w fun e w' => e = .returned (.bool true) ∧ Below w.heap.size w w' := by
  have cP : Calls Tryd.prog 13 #[.slice none 0 0, .int .i64 4, .int .u64 258] w (BytesPost w ([2, 1, 0, 0], 0)) := put_any none 0 [] 4 258 w (.inl rfl) (by omega) (by simp)
  have CP := Lib.hid cP
  clear cP
  go_enter Tryd.func12, Tryd.ntmps12
  go_wp2_with fail
  refine CP.out.mono ?_
  rintro e w1 ⟨v, rfl, hown1, hb1⟩
  obtain ⟨_, A, c, rfl, _, _, hA⟩ := own_form hown1
  obtain ⟨g, off, rfl, hgl, hcells⟩ := hA.some_ (by decide)
  have c0 : w1.cell? ⟨g, off + 0, none⟩ = some (.int .u8 2) := hcells 0 2 rfl
  have c1 : w1.cell? ⟨g, off + 1, none⟩ = some (.int .u8 1) := hcells 1 1 rfl
  clear hcells hown1 hA
  go_wp2_with fail
  refine (new_any _ 3 [3, 0, 97] _ (hol_three w1 5) (by simp)).mono ?_
  rintro e w2 ⟨q, rfl, hq, hcur, hb2⟩
  have hb12 : Below w1.heap.size w1 w2 := ((Below.refl _ _).alloc (Nat.le_refl _) _).trans (hb2.mono (by simp))
  have c0' : w2.cell? ⟨g, off, none⟩ = some (.int .u8 2) := (hb12.cell (p := ⟨g, off, none⟩) hgl).trans c0
  have c1' : w2.cell? ⟨g, off + 1, none⟩ = some (.int .u8 1) := (hb12.cell (p := ⟨g, off + 1, none⟩) hgl).trans c1
  have hbw : Below w.heap.size w w2 := hb1.trans (hb12.mono hb1.size)
  have hqw : w.heap.size ≤ q := by have := hb1.size; simp at hq; omega
  clear c0 c1 hb12 hb2 hq
  have ht : tnx [3, 0, 97] false = ([], [], true) := by decide
  have cT := text_any q [3, 0, 97] false w2 hcur (by simp)
  rw [ht] at cT
  have CT := Lib.hid cT
  clear cT ht
  go_wp2_with fail
  refine CT.out.mono ?_
  rintro e w3 ⟨rfl, hcur3, hg3⟩
  have hbw3 : Below w.heap.size w w3 := hbw.grown hg3 hbw.size (fun k hk => by injection hk with hk; omega)
  go_wp2_with fail
  refine (bad_any q [] true w3 hcur3).mono ?_
  rintro e w' ⟨rfl, rfl⟩
  go_wp2_with fail
  refine (left_any q [] true w3 hcur3).mono ?_
  rintro e w' ⟨rfl, rfl⟩
  have cL := less_any ⟨#[97]⟩ ⟨#[98]⟩ w3 (by decide) (by decide) (tabs_below hT hbw3)
  rw [show lessD (⟨#[97]⟩ : ByteArray).data.toList (⟨#[98]⟩ : ByteArray).data.toList = true by decide] at cL
  have CL := Lib.hid cL
  clear cL
  go_wp2_with fail
  refine CL.out.mono ?_
  rintro e w4 ⟨rfl, hb4⟩
  go_wp2
  go_ret
  exact ⟨rfl, hbw3.trans (hb4.mono hbw3.size)⟩
end Go.Proofs.YtcdgiailapcooaaDoor
