/- The program's disk: a block forced to be what an adversary says; its elder bytes. Conditions: the disk lies there. -/
import Derived.Test.YtnajlineipapdaaMgPApi
import Derived.Test.YtnajlineipapdaaPDel
import Derived.Test.YtnajlineipapdaaPSettle
import Derived.Deep.RegionWith
set_option linter.unusedVariables false
namespace Go.Proofs.Ytnajlineipapdaa
open Go.RowKit

theorem own_block_len (A : Option Addr) (n m c : Nat) : (Value.slice A n c).ownBlock = (Value.slice A m c).ownBlock := by
  cases A <;> rfl
theorem gone_mem {a : Nat} {rs : List (Nat × BV)} {p : Nat × BV} (h : p ∈ gone a rs) : p ∈ rs := (List.mem_filter.1 h).1
theorem alloc_cell (w : World) (v : Value) (t : TypeId) : (w.alloc (.cells #[v] t)).cell? ⟨w.heap.size, 0, none⟩ = some v := by simp
section
variable {b : Nat} {w : World} {g gm n : Nat} {F : List Nat} {v1 v2 v4 : Value} {ev : Nat → Value} {ss : List BV} {rs : List (Nat × BV)} {E : Nat → List BV} {ts : List (Int × Int × BV)}
set_option maxRecDepth 20000 in
set_option maxHeartbeats 2000000 in
theorem pforce (h : PDisk b w g F v1 v2 gm v4 ev n ss rs E ts) (hr : rs.length ≤ 1000000) (a : Nat) (ha : a < ss.length) (x : BV) (hx : Own8 b w x ∧ x.l.length = 256) :
    Calls Try.prog 46 #[.pointer (some ⟨g, 0, none⟩), .int .i64 (a : Int), .slice x.A x.l.length x.c] w fun e w' => e = .returned (.tuple #[]) ∧
      ∃ v F', PDisk b w' g F' v1 v gm v4 ev n (ss.set a x) (gone a rs) E ts ∧ Chg F w w' ∧ Wider w F F' := by
  obtain ⟨A2, k2, rfl⟩ := own_sl h.o2
  obtain ⟨y, hy⟩ : ∃ y, ss[a]? = some y := ⟨_, List.getElem?_eq_getElem ha⟩
  obtain ⟨g1, k1, rfl, _, _, _⟩ := own_rec sc_len h.o1 hy (by omega)
  have HY := Lib.hid hy
  have ha1 : (0 : Int) ≤ (a : Int) := by omega
  have ha2 : (a : Int) < (ss.length : Int) := by omega
  have H := Lib.hid h
  have HR := Lib.hid hr
  have HA := Lib.hid ha
  have HX := Lib.hid hx
  have c1s := h.c1
  have f1s : w.frozen? ⟨g, 1, none⟩ = false := h.cells.free 1
  have HGL := Lib.hid h.cells.lt
  have HK := Lib.hid (p := ∀ k, A2 = some ⟨k, 0, none⟩ → k < w.heap.size) (fun k hk => (h.o2.lt k (by rw [hk]; rfl)).2)
  clear h hr ha hx hy
  go_enter Try.func46, Try.ntmps46
  go_wp2_with fail
  go_region_with (first
    | (go_at_call 53
       refine (of_any (a : Int) _).mono ?_
       rintro e5 w5 ⟨rfl, hw5⟩
       have hb5 : Below w.heap.size w w5 := by rw [hw5]; exact Below.alloc (below_drw w) (Nat.le_refl _) _
       have HB5 := Lib.hid hb5
       have HC5 := Lib.hid (p := w5.cell? ⟨w.heap.size, 0, none⟩ = some (.int .i64 (a : Int))) (by rw [hw5]; exact alloc_cell w.drew _ _)
       have c1s5 : w5.cell? ⟨g, 1, none⟩ = some _ := (hb5.cell (p := ⟨g, 1, none⟩) HGL.out).trans c1s
       clear hw5 hb5)
    | (go_at_call 54
       refine (del_any HR.out (own_kept H.out.o2 HB5.out) HC5.out (fun k hk => Nat.ne_of_lt (HK.out k hk))).mono ?_
       rintro e6 w6 ⟨rfl, ho6, hg6⟩
       have HO6 := Lib.hid ho6
       have HG6 := Lib.hid (grown_trans (grown_of_below HB5.out) hg6)
       have f1s6 : w6.frozen? ⟨g, 1, none⟩ = false := (row_turn H.out.cells HG6.out (NotT.own H.out.o2 (by decide))).free 1
       have c1s6 : w6.cell? ⟨g, 1, none⟩ = some (.slice A2 rs.length k2) := (row_turn H.out.cells HG6.out (NotT.own H.out.o2 (by decide))).cell 1
       clear ho6 hg6))
  all_goals
    obtain ⟨hw1, hw2, hw3⟩ := H.out.waits (w2 := w6) (v := .slice A2 (gone a rs).length k2) (rs' := gone a rs) HO6.out HG6.out (.inl (own_block_len A2 _ _ _)) (fun p hp => H.out.m2 p (gone_mem hp))
    obtain ⟨g1', k1', e1, _, _, hc1⟩ := own_rec sc_len hw1.o1 HY.out (by omega)
    simp only [Value.slice.injEq, Option.some.injEq, Addr.mk.injEq] at e1
    obtain ⟨⟨rfl, _⟩, _, rfl⟩ := e1
    have d0 := hc1 0 _ rfl
    rw [Nat.mul_one, Nat.add_zero] at d0
    unfold bvv at d0
    have f0 := hw1.o1.frozenAt a
    have c0 := hw1.c0
    have hx1 : Own8 b (w6.setCell ⟨g, 1, none⟩ (.slice A2 (gone a rs).length k2)) x := (HX.out.1.turn HG6.out (NotT.own H.out.o2 (by decide))).turn (grown_set _ _ _) (NotT.row (row_turn H.out.cells HG6.out (NotT.own H.out.o2 (by decide))) (by decide))
    obtain ⟨hs1, hs2⟩ := hw1.sync a x HA.out ⟨hx1, HX.out.2⟩
    have HS1 := Lib.hid hs1
    have HS2 := Lib.hid (hw2.trans hs2 (fun q hq => (hw3 q hq)))
    have HS3 := Lib.hid hw3
    clear hw1 hw2 hw3 hs1 hs2 hx1 hc1 c1s c1s5 c1s6 f1s f1s6 HC5 HO6
    unfold bvv at HS1 HS2
    generalize w6.setCell ⟨g, 1, none⟩ (.slice A2 (gone a rs).length k2) = wz at *
    go_wp2
    go_end0
    exact ⟨rfl, _, _, HS1.out, HS2.out, HS3.out⟩
end
end Go.Proofs.Ytnajlineipapdaa
/- The program's disk: a block's elder bytes; what an adversary does with them. Conditions: the disk lies there. -/
set_option linter.unusedVariables false
namespace Go.Proofs.Ytnajlineipapdaa
open Go.RowKit

/-- A block's elder bytes, so many writes back. -/
def oldL (E : Nat → List BV) (a back : Nat) : List UInt8 := if back < (E a).length then ((E a).getD ((E a).length - 1 - back) noBV).l else pad []
section
variable {b : Nat} {w : World} {g gm n : Nat} {F : List Nat} {v1 v2 v4 : Value} {ev : Nat → Value} {ss : List BV} {rs : List (Nat × BV)} {E : Nat → List BV} {ts : List (Int × Int × BV)}
set_option maxHeartbeats 1000000 in
theorem pold (h : PDisk b w g F v1 v2 gm v4 ev n ss rs E ts) (hn : n ≤ 1000000) (a : Nat) (ha : a < ss.length) (back : Nat) (hb : back ≤ 9223372036854775807) :
    Calls Try.prog 47 #[.pointer (some ⟨g, 0, none⟩), .int .i64 (a : Int), .int .i64 (back : Int)] w fun e w' => ∃ x : BV, e = .returned (.slice x.A x.l.length x.c) ∧ Hid (x.l = oldL E a back) ∧ Hid (x.l.length = 256) ∧ Hid (Own8 b w' x) ∧ Hid (Below w.heap.size w w') := by
  have ha4 : a < 1024 := Nat.lt_of_lt_of_le ha h.most
  obtain ⟨Ae, ke, he⟩ := own_sl (h.oe a ha4)
  have hl : (Instr.lookup 70 (.map (some gm)) (.int .i64 (a : Int)) false).run Try.prog w = .ok (.slice Ae (E a).length ke) w := by rw [← he]; exact h.om.look (by omega)
  have c2 := h.c2
  have H := Lib.hid h
  have HBB := Lib.hid (p := b ≤ w.heap.size) (by have h1 := h.fl _ h.fg; omega)
  have HEL := Lib.hid (p := (E a).length ≤ 1000000) (by have := h.le a ha4; omega)
  by_cases hlt : back < (E a).length
  · obtain ⟨x, hx⟩ : ∃ x, (E a)[(E a).length - 1 - back]? = some x := ⟨_, List.getElem?_eq_getElem (by omega)⟩
    have ho := h.oe a ha4
    rw [he] at ho
    obtain ⟨g1, k1, e1, _, _, hc1⟩ := own_rec sc_len ho hx (by omega)
    simp only [Value.slice.injEq] at e1
    obtain ⟨rfl, _, rfl⟩ := e1
    have d0 := hc1 0 _ rfl
    rw [Nat.mul_one, Nat.add_zero] at d0
    unfold bvv at d0
    obtain ⟨j, hj⟩ : ∃ j, (E a).length - 1 - back = j := ⟨_, rfl⟩
    rw [hj] at d0 hx
    have HX := Lib.hid (h.me a ha4 x (List.mem_of_getElem? hx))
    have HOL := Lib.hid (p := x.l = oldL E a back) (by unfold oldL; rw [if_pos hlt, hj, List.getD_eq_getElem?_getD, hx]; rfl)
    have h1 : ¬ ((E a).length : Int) ≤ (back : Int) := by omega
    have hw1 : wrap64 (((E a).length : Int) - 1) = ((E a).length : Int) - 1 := by unfold wrap64; have := HEL.out; omega
    have hw2 : wrap64 (((E a).length : Int) - 1 - (back : Int)) = (j : Int) := by unfold wrap64; have := HEL.out; omega
    have hw3 : IntKind.i64.wrap (((E a).length : Int) - 1) = ((E a).length : Int) - 1 := by rw [IntKind.wrap_i64]; have := HEL.out; omega
    have hw4 : IntKind.i64.wrap (((E a).length : Int) - 1 - (back : Int)) = (j : Int) := by rw [IntKind.wrap_i64]; have := HEL.out; omega
    have hj0 : (0 : Int) ≤ (j : Int) := by omega
    have hj1 : (j : Int) < ((E a).length : Int) := by omega
    clear h ha hb ha4 ho hx hc1 he hj hlt
    go_enter Try.func47, Try.ntmps47
    go_wp2
    go_ret
    exact ⟨x, rfl, HOL, Lib.hid HX.out.2, Lib.hid HX.out.1, Lib.hid (Below.refl _ _)⟩
  · have h1 : ((E a).length : Int) ≤ (back : Int) := by omega
    have HOL := Lib.hid (p := oldL E a back = pad []) (by unfold oldL; rw [if_neg hlt])
    clear h ha hb ha4 he hlt
    go_enter Try.func47, Try.ntmps47
    go_wp2_with (go_at_call 38; refine (block_own none 0 0 [] rfl _ (.inl rfl)).mono ?_; rintro e2 w2 ⟨x, rfl, HXL, HX2, HB2⟩)
    go_ret
    exact ⟨x, rfl, Lib.hid (HXL.out.trans HOL.out.symm), Lib.hid (by rw [HXL.out, pad_len]), Lib.hid (HX2.out.lower HBB.out), HB2⟩
end
end Go.Proofs.Ytnajlineipapdaa
