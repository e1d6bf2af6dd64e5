/- A record as bytes, by package node: what the call leaves. Conditions: those named. -/
import Derived.Test.YtibnmhaipogleaaDoorPackP
set_option linter.unusedVariables false
set_option maxRecDepth 20000
namespace Go.Proofs.YtibnmhaipogleaaDoor
open Go.RowKit

/-- A record whose numbers fit. -/
structure RecV.Ok (r : RecV) : Prop where
  e : r.e < 4294967296
  s : r.s < 4294967296
theorem RecV.hol_l {w : World} {g : Nat} {t : TypeId} {r : RecV} (h : Row w g t r.cs) : Hol w (some ⟨g, 3, none⟩) r.l := by
  refine .inr ⟨g, 3, rfl, fun j x hx => ?_⟩
  rw [h.cell]
  unfold RecV.cs
  rw [List.getElem?_append_right (by simp), show 3 + j - [Value.int IntKind.i64 r.a, Value.int IntKind.u32 ↑r.e, Value.int IntKind.u32 ↑r.s].length = j by simp, lst_bc]
  exact get_bc hx
set_option maxHeartbeats 1000000 in
theorem record_any (r : RecV) (k : Nat) (hk : r.a = (k : Int)) (hk2 : k < 65536) (hr : r.Ok) (w : World) : Calls Tryd.prog 26 #[.agg r.cs.toArray] w (OwnB r.b w) := by
  obtain ⟨i, U⟩ := u8_tab
  have wk := wrap_u64n (show k < 4294967296 by omega)
  have HK2 := Lib.hid hk2
  have HR := Lib.hid hr
  have HK := Lib.hid hk
  clear hk2 hr
  go_enter Tryd.func26, Tryd.ntmps26
  go_wp2_with (first
    | (refine step_box rfl 1 rfl 26 _ rfl r.cs rfl ?_; intro g w1 hr1 hg hb1 hs
       have c0 : w1.cell? ⟨g, 0, none⟩ = some (.int .i64 (k : Int)) := by rw [RecV.c0 hr1, hk]
       have c1 := RecV.c1 hr1
       have c2 := RecV.c2 hr1
       have HR1 := Lib.hid hr1
       have HB1 := Lib.hid hb1
       clear hr1 hb1 hg hs hk))
  go_region_with (first
    | (go_at_call 47; refine (nnumber2 none 0 0 [] k rfl _ (.inl rfl) HK2.out (by simp)).mono ?_; rintro e2 w2 ⟨A2, n2, d2, rfl, hn2, ho2, hb2⟩
       have HB2 := Lib.hid (p := Below w1.heap.size w1 w2) (below_next hb2.out (below_draw w1))
       have c12 := (HB2.out.cell (p := ⟨g, 1, none⟩) HR1.out.lt).trans c1
       have c22 := (HB2.out.cell (p := ⟨g, 2, none⟩) HR1.out.lt).trans c2
       have HO2 := Lib.hid (Hol.own ho2.out)
       clear ho2 hb2)
    | (go_at_call 41; refine (nonce_any A2 n2 d2 ([] ++ leb k 2) r.e r.s hn2.out _ HO2.out HR.out.e HR.out.s (by simp [leb_len])).mono ?_; rintro e3 w3 ⟨A3, n3, d3, rfl, hn3, ho3, hb3⟩
       have HB3 := Lib.hid (p := Below w1.heap.size w1 w3) (HB2.out.trans (hb3.out.mono HB2.out.size))
       clear hb3))
  all_goals
    have HR3 := Lib.hid (HR1.out.kept HB3.out)
    have HL3 := Lib.hid (RecV.hol_l HR3.out)
    have HO3 := Lib.hid (World.ownsRow.mono ho3.out (Nat.le_trans HB1.out.size HB2.out.size))
    have HS3 := Lib.hid (Nat.le_trans HB1.out.size HB3.out.size)
    clear c0 c1 c2 c12 c22 ho3
    go_wp2_with (at_builtin; refine wpList_app _ rfl _ _ _ rfl 5 i U w.heap.size _ n3 _ rfl HO3.out (some ⟨g, 3, none⟩) 32 32 r.l rfl (r.l_len.symm) HL3.out (by have := hn3.out; simp [leb_len, nonB_len] at this; omega) HS3.out ?_; intro v4 w4 ho4 hg4 hat4; obtain ⟨A4, c4, rfl⟩ := own_sl ho4)
    go_ret
    have e9 : r.b = [] ++ leb k 2 ++ nonB r.e r.s ++ r.l := by unfold RecV.b; rw [HK.out]; rfl
    have hn4 : n3 + 32 = r.b.length := by rw [hn3.out, e9, List.length_append (bs := r.l), r.l_len]
    refine ⟨A4, n3 + 32, c4, rfl, hn4, ?_, (HB1.out.trans (HB3.out.mono HB1.out.size)).grown hg4 HS3.out (fun q hq => (HO3.out.lt q hq).1)⟩
    rw [e9, bc_app (b := r.l)]
    exact ho4
end Go.Proofs.YtibnmhaipogleaaDoor
