/- The program's new disk: what world.New leaves, for every number of blocks. No conditions. -/
import Derived.Test.YtnajlineipapdaaPNew
set_option linter.unusedVariables false
namespace Go.Proofs.Ytnajlineipapdaa
open Go.RowKit

theorem built_disk (p : Option Addr) (n c gm : Nat) : Try.prog.built 73 [(0, .slice p n c), (2, .map (some gm))] = some #[.slice p n c, .slice none 0 0, .map (some gm), .slice none 0 0] := by
  kernel_rfl
theorem new_out (z : Int) (hz : z < 1 ∨ 1024 < z) (w : World) :
    Calls Try.prog 10 #[.int .i64 z] w fun e w' => e = .returned (.tuple #[.pointer none, .int .i64 201]) ∧ w' = w := by
  by_cases h : z < 1
  · clear hz
    go_enter Try.func10, Try.ntmps10
    go_wp2
    go_ret2
    exact ⟨rfl, rfl⟩
  · have h2 : (1024 : Int) < z := by omega
    clear hz
    go_enter Try.func10, Try.ntmps10
    go_wp2
    go_ret2
    exact ⟨rfl, rfl⟩
/-- A new disk of m blocks that are all x. -/
def NewD (w : World) (m : Nat) (e : Ending) (w' : World) : Prop :=
  ∃ g F x, e = .returned (.tuple #[.pointer (some ⟨g, 0, none⟩), .int .i64 0]) ∧ x.l = pad [] ∧ PD w.heap.size w' g F (List.replicate m x) [] (fun _ => []) [] ∧ Below w.heap.size w w'
theorem flat_rep (m : Nat) (x : BV) : (List.replicate m x).flatMap sc = List.replicate m (bvv x) := by
  rw [flat_sc, List.map_replicate]
set_option maxHeartbeats 2000000 in
theorem new_in (m : Nat) (h1 : 1 ≤ m) (h2 : m ≤ 1024) (w : World) :
    Calls Try.prog 10 #[.int .i64 (m : Int)] w (NewD w m) := by
  have i1 : ¬ (m : Int) < 1 := by omega
  have i2 : ¬ (1024 : Int) < (m : Int) := by omega
  have H1 := Lib.hid h1
  have H2 := Lib.hid h2
  have hmm := @run_makeMap Try.prog
  clear h1 h2
  go_enter Try.func10, Try.ntmps10
  go_wp2_with (first
    | (go_at_call 38; refine (block_own none 0 0 [] rfl _ (.inl rfl)).mono ?_; rintro e2 w2 ⟨x, rfl, HXL, HX2, HB2⟩)
    | (go_at_call 37; refine (repeat_any w2.heap.size (.slice x.A x.l.length x.c) rfl m H1.out H2.out _ (made_byte _ _ _)).mono ?_; rintro e3 w3 ⟨g3, rfl, hr3, hg3, hb3⟩
       have HR3 := Lib.hid hr3
       have HG3 := Lib.hid hg3
       have HB3 := Lib.hid (p := Below w.heap.size w w3) (HB2.out.trans ((((Below.refl w2.heap.size w2).alloc (Nat.le_refl _) (.cells #[.slice x.A x.l.length x.c] 32)).trans (hb3.mono (by simp))).mono HB2.out.size))
       have HX3 := Lib.hid (p := Own8 w.heap.size w3 x) (HX2.out.below ((((Below.refl w2.heap.size w2).alloc (Nat.le_refl _) (.cells #[.slice x.A x.l.length x.c] 32)).trans (hb3.mono (by simp)))))
       clear hr3 hg3 hb3)
    | (refine step_build rfl 73 _ rfl [(0, .slice (some ⟨g3, 0, none⟩) m m), (2, .map (some w3.heap.size))] ?hv _ (built_disk _ _ _ _) ?_; case hv => (simp [Act.eval])))
  go_ret2
  obtain ⟨W, hW⟩ : ∃ W, (w3.alloc (.map #[] 0)).alloc (.cells #[Value.slice (some ⟨g3, 0, none⟩) m m, .slice none 0 0, .map (some w3.heap.size), .slice none 0 0] 73) = W := ⟨_, rfl⟩
  have hM : Below w3.heap.size w3 W := by rw [← hW]; exact ((Below.refl _ _).alloc (Nat.le_refl _) _).alloc (by simp) _
  have hR : Row W (w3.heap.size + 1) 73 [Value.slice (some ⟨g3, 0, none⟩) m m, .slice none 0 0, .map (some w3.heap.size), .slice none 0 0] := by
    have h := Row.made (w3.alloc (.map #[] 0)) 73 [Value.slice (some ⟨g3, 0, none⟩) m m, .slice none 0 0, .map (some w3.heap.size), .slice none 0 0]
    rw [World.size_alloc] at h
    rw [← hW]
    exact h
  have hE : ElAt W w3.heap.size 0 fun _ => nos := by
    rw [← hW]
    exact (ElAt.made w3).below ((Below.refl _ _).alloc (Nat.le_refl _) _)
  have hS : W.heap.size = w3.heap.size + 2 := by rw [← hW]; simp
  rw [hW]
  clear hW
  have hg3 : g3 < w3.heap.size := HR3.out.lt
  have hw := HB3.out.size
  have hg2 : w.heap.size ≤ g3 := Nat.le_trans (Nat.le_trans HB2.out.size (by simp)) HG3.out
  have hx : Own8 w.heap.size W x := HX3.out.below hM
  have hx2 : x.l.length = 256 := by rw [HXL.out, pad_len]
  refine ⟨w3.heap.size + 1, [w3.heap.size + 1, w3.heap.size, g3], x, rfl, HXL.out, ⟨.slice (some ⟨g3, 0, none⟩) m m, .slice none 0 0, w3.heap.size, .slice none 0 0, fun _ => nos, 0, Nat.le_refl _, ?_⟩, HB3.out.trans (hM.mono hw)⟩
  exact { cells := hR
          o1 := by
            rw [flat_rep, List.length_replicate]
            refine ⟨by simp, .inr ⟨g3, m, (List.replicate m (bvv x)).toArray, rfl, hg2, ((hM.block g3 hg3).trans HR3.out.heap), Nat.le_refl _, by have := H2.out; unfold maxLen; omega, by simp, ?_⟩⟩
            exact List.take_of_length_le (by simp)
          o2 := World.ownsRow_nil _ _ _ _
          o4 := World.ownsRow_nil _ _ _ _
          om := hE
          oe := fun a ha => World.ownsRow_nil _ _ _ _
          sep1 := fun a ha => .inl rfl
          sepe := fun a a' _ _ _ => .inl rfl
          m1 := fun y hy => by rw [List.eq_of_mem_replicate hy]; exact ⟨hx, hx2⟩
          m2 := fun p hp => by cases hp
          m4 := fun t ht => by cases ht
          me := fun a ha y hy => by cases hy
          le := fun a ha => Nat.le_refl _
          most := by rw [List.length_replicate]; exact H2.out
          fx := fun k => by
            unfold InFoot
            simp only [List.mem_cons, List.not_mem_nil, or_false]
            constructor
            · rintro (h | h | h)
              · exact .inl h
              · exact .inr (.inl h)
              · exact .inr (.inr (.inl (by rw [h]; rfl)))
            · rintro (h | h | h | h | h | ⟨a, _, h⟩)
              · exact .inl h
              · exact .inr (.inl h)
              · injection h with h
                exact .inr (.inr h.symm)
              · cases h
              · cases h
              · cases h
          fl := fun k hk => by
            simp at hk
            rcases hk with rfl | rfl | rfl <;> omega }
end Go.Proofs.Ytnajlineipapdaa
