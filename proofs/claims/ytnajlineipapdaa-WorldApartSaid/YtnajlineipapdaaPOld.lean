/- The program's disk: a block's elder bytes; what an adversary does with them. Conditions: the disk lies there. -/
import Derived.Test.YtnajlineipapdaaPForce
set_option linter.unusedVariables false
namespace Go.Proofs.Ytnajlineipapdaa
open Go.RowKit

/-- A block's elder bytes, so many writes back. -/
def oldL (E : Nat → List BV) (a back : Nat) : List UInt8 := if back < (E a).length then ((E a).getD ((E a).length - 1 - back) noBV).l else pad []
section
variable {b : Nat} {w : World} {g gm n : Nat} {F : List Nat} {v1 v2 v4 : Value} {ev : Nat → Value} {ss : List BV} {rs : List (Nat × BV)} {E : Nat → List BV} {ts : List (Int × Int × BV)}
set_option maxHeartbeats 1000000 in
theorem pold (h : PDisk b w g F v1 v2 gm v4 ev n ss rs E ts) (hn : n ≤ 1000000) (a : Nat) (ha : a < ss.length) (back : Nat) (hb : back ≤ 9223372036854775807) :
    Calls Try.prog 47 #[.pointer (some ⟨g, 0, none⟩), .int .i64 (a : Int), .int .i64 (back : Int)] w fun e w' => ∃ x : BV, e = .returned (.slice x.A x.l.length x.c) ∧ Hid (x.l = oldL E a back) ∧ Hid (x.l.length = 256) ∧ Hid (Own8 b w' x) ∧ Hid (Below w.heap.size w w') := by
  have ha4 : a < 1024 := Nat.lt_of_lt_of_le ha h.most
  obtain ⟨Ae, ke, he⟩ := own_sl (h.oe a ha4)
  have hl : (Instr.lookup 70 (.map (some gm)) (.int .i64 (a : Int)) false).run Try.prog w = .ok (.slice Ae (E a).length ke) w := by rw [← he]; exact h.om.look (by omega)
  have c2 := h.c2
  have H := Lib.hid h
  have HBB := Lib.hid (p := b ≤ w.heap.size) (by have h1 := h.fl _ h.fg; omega)
  have HEL := Lib.hid (p := (E a).length ≤ 1000000) (by have := h.le a ha4; omega)
  by_cases hlt : back < (E a).length
  · obtain ⟨x, hx⟩ : ∃ x, (E a)[(E a).length - 1 - back]? = some x := ⟨_, List.getElem?_eq_getElem (by omega)⟩
    have ho := h.oe a ha4
    rw [he] at ho
    obtain ⟨g1, k1, e1, _, _, hc1⟩ := own_rec sc_len ho hx (by omega)
    simp only [Value.slice.injEq] at e1
    obtain ⟨rfl, _, rfl⟩ := e1
    have d0 := hc1 0 _ rfl
    rw [Nat.mul_one, Nat.add_zero] at d0
    unfold bvv at d0
    obtain ⟨j, hj⟩ : ∃ j, (E a).length - 1 - back = j := ⟨_, rfl⟩
    rw [hj] at d0 hx
    have HX := Lib.hid (h.me a ha4 x (List.mem_of_getElem? hx))
    have HOL := Lib.hid (p := x.l = oldL E a back) (by unfold oldL; rw [if_pos hlt, hj, List.getD_eq_getElem?_getD, hx]; rfl)
    have h1 : ¬ ((E a).length : Int) ≤ (back : Int) := by omega
    have hw1 : wrap64 (((E a).length : Int) - 1) = ((E a).length : Int) - 1 := by unfold wrap64; have := HEL.out; omega
    have hw2 : wrap64 (((E a).length : Int) - 1 - (back : Int)) = (j : Int) := by unfold wrap64; have := HEL.out; omega
    have hw3 : IntKind.i64.wrap (((E a).length : Int) - 1) = ((E a).length : Int) - 1 := by rw [IntKind.wrap_i64]; have := HEL.out; omega
    have hw4 : IntKind.i64.wrap (((E a).length : Int) - 1 - (back : Int)) = (j : Int) := by rw [IntKind.wrap_i64]; have := HEL.out; omega
    have hj0 : (0 : Int) ≤ (j : Int) := by omega
    have hj1 : (j : Int) < ((E a).length : Int) := by omega
    clear h ha hb ha4 ho hx hc1 he hj hlt
    go_enter Try.func47, Try.ntmps47
    go_wp2
    go_ret
    exact ⟨x, rfl, HOL, Lib.hid HX.out.2, Lib.hid HX.out.1, Lib.hid (Below.refl _ _)⟩
  · have h1 : ((E a).length : Int) ≤ (back : Int) := by omega
    have HOL := Lib.hid (p := oldL E a back = pad []) (by unfold oldL; rw [if_neg hlt])
    clear h ha hb ha4 he hlt
    go_enter Try.func47, Try.ntmps47
    go_wp2_with (go_at_call 38; refine (block_own none 0 0 [] rfl _ (.inl rfl)).mono ?_; rintro e2 w2 ⟨x, rfl, HXL, HX2, HB2⟩)
    go_ret
    exact ⟨x, rfl, Lib.hid (HXL.out.trans HOL.out.symm), Lib.hid (by rw [HXL.out, pad_len]), Lib.hid (HX2.out.lower HBB.out), HB2⟩
end
end Go.Proofs.Ytnajlineipapdaa
