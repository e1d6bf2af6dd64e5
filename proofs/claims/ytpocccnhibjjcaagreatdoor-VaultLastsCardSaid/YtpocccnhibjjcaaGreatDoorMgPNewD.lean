/- The program's new disk: what world.New leaves, for every number of blocks. No conditions. -/
import Derived.Test.YtpocccnhibjjcaaGreatDoorMgPRead
import Derived.Test.YtpocccnhibjjcaaGreatDoorMgCalls
import Derived.Deep.QuietTactic
import Derived.Deep.Onto
set_option linter.unusedVariables false
namespace Go.Proofs.YtpocccnhibjjcaaGreatDoor
open Go.RowKit

theorem built_disk (p : Option Addr) (n c gm : Nat) : Tryz.prog.built 77 [(0, .slice p n c), (2, .map (some gm))] = some #[.slice p n c, .slice none 0 0, .map (some gm), .slice none 0 0] := by
  kernel_rfl
def NewD (w : World) (m : Nat) (e : Ending) (w' : World) : Prop :=
  ∃ g F x, e = .returned (.tuple #[.pointer (some ⟨g, 0, none⟩), .int .i64 0]) ∧ x.l = pad [] ∧ PD w.heap.size w' g F (List.replicate m x) [] (fun _ => []) [] ∧ Below w.heap.size w w'
theorem flat_rep (m : Nat) (x : BV) : (List.replicate m x).flatMap sc = List.replicate m (bvv x) := by
  rw [flat_sc, List.map_replicate]
set_option maxHeartbeats 2000000 in
theorem new_in (m : Nat) (h1 : 1 ≤ m) (h2 : m ≤ 1024) (w : World) :
    Calls Tryz.prog 8 #[.int .i64 (m : Int)] w (NewD w m) := by
  have i1 : ¬ (m : Int) < 1 := by omega
  have i2 : ¬ (1024 : Int) < (m : Int) := by omega
  have H1 := Lib.hid h1
  have H2 := Lib.hid h2
  have hmm := @run_makeMap Tryz.prog
  clear h1 h2
  go_enter Tryz.func8, Tryz.ntmps8
  go_wp2_with (first
    | (go_at_call 37; refine (block_own none 0 0 [] rfl _ (.inl rfl)).mono ?_; rintro e2 w2 ⟨x, rfl, HXL, HX2, HB2⟩)
    | (go_at_call 36; refine (repeat_any w2.heap.size (.slice x.A x.l.length x.c) rfl m H1.out H2.out _ (made_byte _ _ _)).mono ?_; rintro e3 w3 ⟨g3, rfl, hr3, hg3, hb3⟩
       have HR3 := Lib.hid hr3
       have HG3 := Lib.hid hg3
       have HB3 := Lib.hid (p := Below w.heap.size w w3) (HB2.out.trans ((((Below.refl w2.heap.size w2).alloc (Nat.le_refl _) (.cells #[.slice x.A x.l.length x.c] 35)).trans (hb3.mono (by simp))).mono HB2.out.size))
       have HX3 := Lib.hid (p := Own8 w.heap.size w3 x) (HX2.out.below ((((Below.refl w2.heap.size w2).alloc (Nat.le_refl _) (.cells #[.slice x.A x.l.length x.c] 35)).trans (hb3.mono (by simp)))))
       clear hr3 hg3 hb3)
    | (refine step_build rfl 77 _ rfl [(0, .slice (some ⟨g3, 0, none⟩) m m), (2, .map (some w3.heap.size))] ?hv _ (built_disk _ _ _ _) ?_; case hv => (simp [Act.eval])))
  go_ret2
  obtain ⟨W, hW⟩ : ∃ W, (w3.alloc (.map #[] 0)).alloc (.cells #[Value.slice (some ⟨g3, 0, none⟩) m m, .slice none 0 0, .map (some w3.heap.size), .slice none 0 0] 77) = W := ⟨_, rfl⟩
  have hM : Below w3.heap.size w3 W := by rw [← hW]; exact ((Below.refl _ _).alloc (Nat.le_refl _) _).alloc (by simp) _
  have hR : Row W (w3.heap.size + 1) 77 [Value.slice (some ⟨g3, 0, none⟩) m m, .slice none 0 0, .map (some w3.heap.size), .slice none 0 0] := by
    have h := Row.made (w3.alloc (.map #[] 0)) 77 [Value.slice (some ⟨g3, 0, none⟩) m m, .slice none 0 0, .map (some w3.heap.size), .slice none 0 0]
    rw [World.size_alloc] at h
    rw [← hW]
    exact h
  have hE : ElAt W w3.heap.size 0 fun _ => nos := by
    rw [← hW]
    exact (ElAt.made w3).below ((Below.refl _ _).alloc (Nat.le_refl _) _)
  have hS : W.heap.size = w3.heap.size + 2 := by rw [← hW]; simp
  rw [hW]
  clear hW
  have hg3 : g3 < w3.heap.size := HR3.out.lt
  have hw := HB3.out.size
  have hg2 : w.heap.size ≤ g3 := Nat.le_trans (Nat.le_trans HB2.out.size (by simp)) HG3.out
  have hx : Own8 w.heap.size W x := HX3.out.below hM
  have hx2 : x.l.length = 256 := by rw [HXL.out, pad_len]
  refine ⟨w3.heap.size + 1, [w3.heap.size + 1, w3.heap.size, g3], x, rfl, HXL.out, ⟨.slice (some ⟨g3, 0, none⟩) m m, .slice none 0 0, w3.heap.size, .slice none 0 0, fun _ => nos, 0, Nat.le_refl _, ?_⟩, HB3.out.trans (hM.mono hw)⟩
  exact { cells := hR
          o1 := by
            rw [flat_rep, List.length_replicate]
            refine ⟨by simp, .inr ⟨g3, m, (List.replicate m (bvv x)).toArray, rfl, hg2, ((hM.block g3 hg3).trans HR3.out.heap), Nat.le_refl _, by have := H2.out; unfold maxLen; omega, by simp, ?_⟩⟩
            exact List.take_of_length_le (by simp)
          o2 := World.ownsRow_nil _ _ _ _
          o4 := World.ownsRow_nil _ _ _ _
          om := hE
          oe := fun a ha => World.ownsRow_nil _ _ _ _
          sep1 := fun a ha => .inl rfl
          sepe := fun a a' _ _ _ => .inl rfl
          m1 := fun y hy => by rw [List.eq_of_mem_replicate hy]; exact ⟨hx, hx2⟩
          m2 := fun p hp => by cases hp
          m4 := fun t ht => by cases ht
          me := fun a ha y hy => by cases hy
          le := fun a ha => Nat.le_refl _
          most := by rw [List.length_replicate]; exact H2.out
          fx := fun k => by
            unfold InFoot
            simp only [List.mem_cons, List.not_mem_nil, or_false]
            constructor
            · rintro (h | h | h)
              · exact .inl h
              · exact .inr (.inl h)
              · exact .inr (.inr (.inl (by rw [h]; rfl)))
            · rintro (h | h | h | h | h | ⟨a, _, h⟩)
              · exact .inl h
              · exact .inr (.inl h)
              · injection h with h
                exact .inr (.inr h.symm)
              · cases h
              · cases h
              · cases h
          fl := fun k hk => by
            simp at hk
            rcases hk with rfl | rfl | rfl <;> omega }
end Go.Proofs.YtpocccnhibjjcaaGreatDoor
/- The program's anchor: a new one, and what Set leaves of the roots without a record that the laws lay in. Conditions: the anchor is new. -/
set_option linter.unusedVariables false
namespace Go.Proofs.YtpocccnhibjjcaaGreatDoor
open Go.RowKit

def recC : List Value := [.int .i64 0, .int .u32 0, .int .u32 0] ++ brr 32 (fun _ => 0)
def rootC (e : Nat) : List Value := [.int .u32 (e : Int)] ++ recC
def anchC (e : Nat) (v : Value) : List Value := rootC e ++ [v]
theorem info_root : (Tryz.prog.info? 92).map (·.size) = some 36 := by kernel_rfl
def NewA (w : World) (e : Ending) (w' : World) : Prop := ∃ g, e = .returned (.pointer (some ⟨g, 0, none⟩)) ∧ Row w' g 94 (anchC 0 (.slice none 0 0)) ∧ w.heap.size ≤ g ∧ Below w.heap.size w w'
theorem newanchor (w : World) : Calls Tryz.prog 10 #[] w (NewA w) := by
  go_enter Tryz.func10, Tryz.ntmps10
  go_wp2
  go_ret
  refine ⟨w.heap.size, rfl, ?_, Nat.le_refl _, (Below.refl _ _).alloc (Nat.le_refl _) _⟩
  unfold Row
  rw [World.alloc_heap_new]
  kernel_rfl
def SomeB (w : World) (e : Ending) (w' : World) : Prop := ∃ A n c, e = .returned (.slice A n c) ∧ Below w.heap.size w w'
def RootS (g3 : Nat) (W : World) : Prop := W.cell? ⟨g3, 0, none⟩ = some (.int .u32 1) ∧ W.rangeAt g3 1 recC
theorem RootS.far {g3 ga : Nat} {W : World} (h : RootS g3 W) (hne : g3 ≠ ga) (u : Value) : RootS g3 (W.setCell ⟨ga, 36, none⟩ u) :=
  ⟨(World.cell?_of_block (w := W) (Below.heap_setCell W ⟨ga, 36, none⟩ u g3 hne)).trans h.1, fun j v hv => (World.cell?_of_block (w := W) (Below.heap_setCell W ⟨ga, 36, none⟩ u g3 hne)).trans (h.2 j v hv)⟩
theorem made_src (w : World) (t : TypeId) (cs : List Value) : (1 : Nat) = 0 ∧ (some (⟨w.heap.size, 0, none⟩ : Addr)) = none ∨ ∃ ad, some (⟨w.heap.size, 0, none⟩ : Addr) = some ad ∧ ∀ j u, cs[j]? = some u → (w.alloc (.cells cs.toArray t)).cell? (ad.add j) = some u :=
  .inr ⟨_, rfl, fun j u hu => by rw [Addr.add_lit, Nat.zero_add, (Row.made w t cs).cell]; exact hu⟩
theorem three_one (a b : Int) (A : Option Addr) (n c : Nat) : ∀ u ∈ [Value.int .i64 a, .int .i64 b, .slice A n c], u.oneCell' = true := by
  intro u hu
  simp at hu
  rcases hu with rfl | rfl | rfl <;> rfl
end Go.Proofs.YtpocccnhibjjcaaGreatDoor
/- A record as bytes, by package node: what the call leaves. Conditions: those named. -/
set_option linter.unusedVariables false
set_option maxRecDepth 20000
namespace Go.Proofs.YtpocccnhibjjcaaGreatDoor
open Go.RowKit

structure RecV.Ok (r : RecV) : Prop where
  e : r.e < 4294967296
  s : r.s < 4294967296
theorem RecV.hol_l {w : World} {g : Nat} {t : TypeId} {r : RecV} (h : Row w g t r.cs) : Hol w (some ⟨g, 3, none⟩) r.l := by
  refine .inr ⟨g, 3, rfl, fun j x hx => ?_⟩
  rw [h.cell]
  unfold RecV.cs
  rw [List.getElem?_append_right (by simp), show 3 + j - [Value.int IntKind.i64 r.a, Value.int IntKind.u32 ↑r.e, Value.int IntKind.u32 ↑r.s].length = j by simp, lst_bc]
  exact get_bc hx
set_option maxHeartbeats 1000000 in
theorem record_any (r : RecV) (k : Nat) (hk : r.a = (k : Int)) (hk2 : k < 65536) (hr : r.Ok) (w : World) : Calls Tryz.prog 142 #[.agg r.cs.toArray] w (OwnB r.b w) := by
  obtain ⟨i, U⟩ := u8_tab
  have wk := wrap_u64n (show k < 4294967296 by omega)
  have HK2 := Lib.hid hk2
  have HR := Lib.hid hr
  have HK := Lib.hid hk
  clear hk2 hr
  go_enter Tryz.func142, Tryz.ntmps142
  go_wp2_with (first
    | (refine step_box rfl 1 rfl 87 _ rfl r.cs rfl ?_; intro g w1 hr1 hg hb1 hs
       have c0 : w1.cell? ⟨g, 0, none⟩ = some (.int .i64 (k : Int)) := by rw [RecV.c0 hr1, hk]
       have c1 := RecV.c1 hr1
       have c2 := RecV.c2 hr1
       have HR1 := Lib.hid hr1
       have HB1 := Lib.hid hb1
       clear hr1 hb1 hg hs hk))
  go_region_with (first
    | (go_at_call 157; refine (nnumber2 none 0 0 [] k rfl _ (.inl rfl) HK2.out (by simp)).mono ?_; rintro e2 w2 ⟨A2, n2, d2, rfl, hn2, ho2, hb2⟩
       have HB2 := Lib.hid (p := Below w1.heap.size w1 w2) (below_next hb2.out (below_draw w1))
       have c12 := (HB2.out.cell (p := ⟨g, 1, none⟩) HR1.out.lt).trans c1
       have c22 := (HB2.out.cell (p := ⟨g, 2, none⟩) HR1.out.lt).trans c2
       have HO2 := Lib.hid (Hol.own ho2.out)
       clear ho2 hb2)
    | (go_at_call 124; refine (nonce_any A2 n2 d2 ([] ++ leb k 2) r.e r.s hn2.out _ HO2.out HR.out.e HR.out.s (by simp [leb_len])).mono ?_; rintro e3 w3 ⟨A3, n3, d3, rfl, hn3, ho3, hb3⟩
       have HB3 := Lib.hid (p := Below w1.heap.size w1 w3) (HB2.out.trans (hb3.out.mono HB2.out.size))
       clear hb3))
  all_goals
    have HR3 := Lib.hid (HR1.out.kept HB3.out)
    have HL3 := Lib.hid (RecV.hol_l HR3.out)
    have HO3 := Lib.hid (World.ownsRow.mono ho3.out (Nat.le_trans HB1.out.size HB2.out.size))
    have HS3 := Lib.hid (Nat.le_trans HB1.out.size HB3.out.size)
    clear c0 c1 c2 c12 c22 ho3
    go_wp2_with (at_builtin; refine wpList_app _ rfl _ _ _ rfl 5 i U w.heap.size _ n3 _ rfl HO3.out (some ⟨g, 3, none⟩) 32 32 r.l rfl (r.l_len.symm) HL3.out (by have := hn3.out; simp [leb_len, nonB_len] at this; omega) HS3.out ?_; intro v4 w4 ho4 hg4 hat4; obtain ⟨A4, c4, rfl⟩ := own_sl ho4)
    go_ret
    have e9 : r.b = [] ++ leb k 2 ++ nonB r.e r.s ++ r.l := by unfold RecV.b; rw [HK.out]; rfl
    have hn4 : n3 + 32 = r.b.length := by rw [hn3.out, e9, List.length_append (bs := r.l), r.l_len]
    refine ⟨A4, n3 + 32, c4, rfl, hn4, ?_, (HB1.out.trans (HB3.out.mono HB1.out.size)).grown hg4 HS3.out (fun q hq => (HO3.out.lt q hq).1)⟩
    rw [e9, bc_app (b := r.l)]
    exact ho4
end Go.Proofs.YtpocccnhibjjcaaGreatDoor
