/- A veil's table: what its closure tells of a nonce. Conditions: the table lies there; the length is at most 4096. -/
import Derived.Test.YtibnmhaipogleaaDoorMaps
import Derived.Test.YtibnmhaipogleaaDoorCopy
import Derived.Test.YtibnmhaipogleaaDoorRPads
import Derived.BigQuiet
import Derived.StillTailTactics
set_option linter.unusedVariables false
namespace Go.Proofs.YtibnmhaipogleaaDoor
open Go.RowKit

theorem info8 : (Tryd.prog.info? 5).map (·.size) = some 1 := by kernel_rfl
theorem built_nonce (e s : Nat) : Tryd.prog.built 72 [(0, .int .u32 (e : Int)), (1, .int .u32 (s : Int))] = some #[.int .u32 (e : Int), .int .u32 (s : Int)] := by
  kernel_rfl
/-- The blocks from B on that there are stay as they are. -/
def Kept (B : Nat) (w w' : World) : Prop := w.heap.size ≤ w'.heap.size ∧ ∀ j, B ≤ j → j < w.heap.size → w'.heap[j]? = w.heap[j]?
theorem Kept.of {B : Nat} {w w' : World} (h : Below w.heap.size w w') : Kept B w w' := ⟨h.size, fun j _ hj => h.block j hj⟩
theorem Kept.trans {B : Nat} {a b c : World} (h : Kept B a b) (k : Kept B b c) : Kept B a c :=
  ⟨Nat.le_trans h.1 k.1, fun j hB hj => (k.2 j hB (Nat.lt_of_lt_of_le hj h.1)).trans (h.2 j hB hj)⟩
theorem Kept.cell {B : Nat} {w w' : World} (h : Kept B w w') {g o : Nat} (hB : B ≤ g) {v : Value} (hc : w.cell? ⟨g, o, none⟩ = some v) : w'.cell? ⟨g, o, none⟩ = some v :=
  (World.cell?_of_block (h.2 g hB (World.block_lt_of_cell? w _ hc))).trans hc
/-- What a table holds at a nonce: a row of bytes in a block from B on, or nothing. -/
def Told (B : Nat) (w : World) (v : Value) (l : List UInt8) : Prop := ∃ A c, v = .slice A l.length c ∧ Hol w A l ∧ (l ≠ [] → ∀ g o, A = some ⟨g, o, none⟩ → B ≤ g)
theorem Told.nob (B : Nat) (w : World) : Told B w nob [] := ⟨none, 0, rfl, .inl rfl, fun h => absurd rfl h⟩
theorem Told.kept {B : Nat} {w w' : World} {v : Value} {l : List UInt8} (h : Told B w v l) (hb : Kept B w w') : Told B w' v l := by
  obtain ⟨A, c, h1, h2, h3⟩ := h
  refine ⟨A, c, h1, ?_, h3⟩
  rcases h2 with rfl | ⟨g, o, rfl, hc⟩
  · exact .inl rfl
  · by_cases hl : l = []
    · exact .inl hl
    · exact .inr ⟨g, o, rfl, fun j x hx => hb.cell (h3 hl g o rfl) (hc j x hx)⟩
theorem Told.below {B : Nat} {w w' : World} {v : Value} {l : List UInt8} (h : Told B w v l) (hb : Below w.heap.size w w') : Told B w' v l := h.kept (.of hb)
theorem MapAt.kept {B : Nat} {w w' : World} {b n : Nat} {f : Nat → Nat → Option Value} (h : MapAt w b n f) (hB : B ≤ b) (hk : Kept B w w') : MapAt w' b n f := by
  have hlt := h.lt
  obtain ⟨D, ⟨es, clock, hb, r⟩, k⟩ := h
  exact ⟨D, ⟨es, clock, (hk.2 b hB hlt).trans hb, r⟩, k⟩
/-- A table as the closure has it: at each nonce the bytes that L says. -/
def TabAt (B : Nat) (w : World) (gv : Nat) (L : Nat → Nat → List UInt8) : Prop :=
  ∃ gm n f, B ≤ gv ∧ B ≤ gm ∧ w.cell? ⟨gv, 0, none⟩ = some (.map (some gm)) ∧ MapAt w gm n f ∧ ∀ e s, e < 4294967296 → s < 4294967296 → Told B w ((f e s).getD nob) (L e s)
theorem TabAt.kept {B : Nat} {w w' : World} {gv : Nat} {L : Nat → Nat → List UInt8} (h : TabAt B w gv L) (hb : Kept B w w') : TabAt B w' gv L := by
  obtain ⟨gm, n, f, q1, q2, h1, h2, h3⟩ := h
  exact ⟨gm, n, f, q1, q2, hb.cell q1 h1, h2.kept q2 hb, fun e s he hs => (h3 e s he hs).kept hb⟩
theorem TabAt.below {B : Nat} {w w' : World} {gv : Nat} {L : Nat → Nat → List UInt8} (h : TabAt B w gv L) (hb : Below w.heap.size w w') : TabAt B w' gv L := h.kept (.of hb)

theorem tab_any (B gv : Nat) (L : Nat → Nat → List UInt8) (e s n : Nat) (he : e < 4294967296) (hs : s < 4294967296) (hn : n ≤ 4096) (w : World) (hT : TabAt B w gv L) :
    Calls Tryd.prog 36 #[.int .u32 e, .int .u32 s, .int .i64 n, .pointer (some ⟨gv, 0, none⟩)] w fun x w' => ∃ g, x = .returned (.slice (some ⟨g, 0, none⟩) n n) ∧ Row w' g 5 (brr n fun j => (L e s).getD j 0) ∧ w.heap.size ≤ g ∧ Below w.heap.size w w' := by
  obtain ⟨i, U⟩ := u8_tab
  have HT := Lib.hid hT
  have HN := Lib.hid hn
  have HE := Lib.hid he
  have HS := Lib.hid hs
  clear hT hn he hs
  go_enter Tryd.func36, Tryd.ntmps36
  go_wp2_with (first
    | (refine step_make rfl _ _ 29 5 i U rfl n rfl rfl (by have := HN.out; omega) ?_; intro g w1 hr1 hg1 hb1 hs1
       have hT1 := HT.out.below hb1
       obtain ⟨gm, m, f, _, _, cM, hM, hL⟩ := hT1
       obtain ⟨A, c, hv, hA, _⟩ := hL e s HE.out HS.out
       have hlook : (Instr.lookup 70 (.map (some gm)) (.agg #[.int .u32 (e : Int), .int .u32 (s : Int)]) false).run Tryd.prog w1 = .ok (.slice A (L e s).length c) w1 := by rw [← hv]; exact hM.look HE.out HS.out
       clear hv hL hM)
    | (refine step_build rfl 72 _ rfl [(0, .int .u32 (e : Int)), (1, .int .u32 (s : Int))] ?hv _ (built_nonce e s) ?_; case hv => (simp [Act.eval, Act.put]))
    | (refine wp_copy rfl _ _ 29 29 rfl 5 U.ht info8 g 0 n n n 5 (fun _ => 0) rfl hr1 A _ c (L e s) rfl rfl hA (by rw [Nat.zero_add]; exact Nat.min_le_right _ _) ?_; intro w2 k hr2 hu2))
  go_ret
  refine ⟨g, rfl, ?_, by rw [hg1.out]; exact Nat.le_refl _, ?_⟩
  · have : brr n (ov 0 ((L e s).take n) fun _ => 0) = brr n fun j => (L e s).getD j 0 := brr_congr fun j hj => by
      by_cases h : j < (L e s).length
      · rw [ov_in (by omega) (by rw [List.length_take]; omega)]
        simp [List.getElem?_take, hj]
      · rw [ov_out (by rw [List.length_take]; omega), List.getD_eq_getElem?_getD, List.getElem?_eq_none (by omega)]
        rfl
    rw [← this]
    exact hr2
  · exact hb1.grown hu2.out.by_ hb1.size (fun k hk => by injection hk with hk; rw [← hk, hg1.out]; exact Nat.le_refl _)
end Go.Proofs.YtibnmhaipogleaaDoor
