/- What numbers, texts and wants that came in read as. No conditions. -/
import Derived.Test.YtcdgiailapcooaaDoorIn
import Derived.SliceStrings
import Derived.Deep.SlicePairs
set_option linter.unusedVariables false
namespace Go.Proofs.YtcdgiailapcooaaDoor
open Go.ChangeShapes Go.WideShapes Go.ChangeAt Go.RowKit

/-- The address holds these cells, a cell an element. -/
def HolV (w : World) (A : Option Addr) (vs : List Value) : Prop :=
  vs = [] ∨ ∃ g off, A = some ⟨g, off, none⟩ ∧ ∀ j x, vs[j]? = some x → w.cell? ⟨g, off + j, none⟩ = some x
theorem HolV.at_ {w : World} {A : Option Addr} {vs : List Value} (h : HolV w A vs) {j : Nat} {x : Value} (hj : vs[j]? = some x) : ∃ g off, A = some ⟨g, off, none⟩ ∧ g < w.heap.size ∧ w.cell? ⟨g, off + j, none⟩ = some x := by
  rcases h with rfl | ⟨g, off, rfl, hc⟩
  · simp at hj
  · exact ⟨g, off, rfl, World.block_lt_of_cell? w _ (hc j x hj), hc j x hj⟩
theorem HolV.below {w w' : World} {A : Option Addr} {vs : List Value} (h : HolV w A vs) (hb : Below w.heap.size w w') : HolV w' A vs := by
  rcases h with rfl | ⟨g, off, rfl, hc⟩
  · exact .inl rfl
  · exact .inr ⟨g, off, rfl, fun j x hx => (hb.cell (p := ⟨g, off + j, none⟩) (World.block_lt_of_cell? w _ (hc j x hx))).trans (hc j x hx)⟩
/-- An address whose cells are told one by one. -/
theorem holV_of {w : World} {x : Addr} {vs : List Value} (h : ∀ j u, vs[j]? = some u → w.cell? (x.add j) = some u) : HolV w (some x) vs := by
  by_cases h0 : vs = []
  · exact .inl h0
  · obtain ⟨b, off, spot⟩ := x
    have hp : 0 < vs.length := List.length_pos_iff.2 h0
    have h1 := h 0 vs[0] (List.getElem?_eq_getElem hp)
    have hs : spot = none := by
      have : (Addr.add ⟨b, off, spot⟩ 0) = ⟨b, off, spot⟩ := by simp [Addr.add]
      rw [this] at h1
      exact cell_spot h1
    subst hs
    refine .inr ⟨b, off, rfl, fun j u hu => ?_⟩
    have h2 := h j u hu
    rw [Addr.add_lit] at h2
    exact h2

structure InN (w : World) (a : Option Addr) (len cap : Nat) (ns : List Nat) : Prop where
  len_ : len = ns.length
  hol : HolV w a (ns.map fun x : Nat => Value.int .u64 (x : Int))
  cap_ : len ≤ cap
  max_ : cap ≤ maxLen
  lt_ : ∀ x ∈ ns, x < 18446744073709551616
structure InT (w : World) (a : Option Addr) (len cap : Nat) (ts : List ByteArray) : Prop where
  len_ : len = ts.length
  hol : HolV w a (ts.map Value.string)
  cap_ : len ≤ cap
  max_ : cap ≤ maxLen
  lt_ : ∀ x ∈ ts, x.size ≤ maxLen
structure InW (w : World) (a : Option Addr) (len cap : Nat) (ws : List (Int × Int)) : Prop where
  len_ : len = ws.length
  hol : ws = [] ∨ ∃ g off, a = some ⟨g, off, none⟩ ∧ ∀ i y, ws[i]? = some y → w.cell? ⟨g, off + i * 2, none⟩ = some (.int .i64 y.1) ∧ w.cell? ⟨g, off + i * 2 + 1, none⟩ = some (.int .i64 y.2)
  cap_ : len ≤ cap
  max_ : cap ≤ maxLen
  wf_ : ∀ x ∈ ws, (Lit.int .i64 x.1).wf = true ∧ (Lit.int .i64 x.2).wf = true

theorem nums_in {H : Type} {enc : TypeId × Value → H} {W : World} {a : Option Addr} {len cap : Nat} {d : DataW H} {p : List MemPlace} {sp : Nat → Bool} {held : Bool} {base : Nat}
    (h : DataW.Trod enc Tryd.prog W base sp held 43 (.slice a len cap) d p) : ∃ l, InN W a len cap l := by
  obtain ⟨fuel, hf⟩ := h
  rcases open_ints Tryd.underlying43 Tryd.underlying23 (by kernel_rfl) hf with ⟨hcs, _⟩ | ⟨x, l, c, zs, hcs, _, hl, hm, hz, _, hcell, hwz⟩
  · simp [Value.cells] at hcs
    obtain ⟨rfl, rfl, rfl⟩ := hcs
    exact ⟨[], rfl, .inl rfl, Nat.le_refl _, by decide, by simp⟩
  · simp [Value.cells] at hcs
    obtain ⟨rfl, rfl, rfl⟩ := hcs
    have hzl : len ≤ zs.length := by rw [hz]; split <;> omega
    refine ⟨(zs.take len).map Int.toNat, by simp; omega, holV_of fun j u hu => ?_, hl, hm, ?_⟩
    · rw [List.getElem?_map, List.getElem?_map] at hu
      obtain ⟨y, hy1, rfl⟩ := Option.map_eq_some_iff.1 hu
      obtain ⟨z, hz1, rfl⟩ := Option.map_eq_some_iff.1 hy1
      rw [List.getElem?_take] at hz1
      split at hz1
      · have hj := (List.getElem?_eq_some_iff.1 hz1).1
        rw [hcell j hj]
        have hg : zs.getD j 0 = z := by simp [List.getD, hz1]
        rw [hg]
        have := bounds_u64 (hwz z (List.mem_of_getElem? hz1))
        rw [show ((z.toNat : Nat) : Int) = z by omega]
      · cases hz1
    · intro x hx
      obtain ⟨z, hz1, rfl⟩ := List.mem_map.1 hx
      have := bounds_u64 (hwz z (List.mem_of_mem_take hz1))
      omega

theorem texts_in {H : Type} {enc : TypeId × Value → H} {W : World} {a : Option Addr} {len cap : Nat} {d : DataW H} {p : List MemPlace} {sp : Nat → Bool} {held : Bool} {base : Nat}
    (h : DataW.Trod enc Tryd.prog W base sp held 44 (.slice a len cap) d p) : ∃ l, InT W a len cap l := by
  obtain ⟨fuel, hf⟩ := h
  rcases open_strings Tryd.underlying44 Tryd.underlying9 (by kernel_rfl) hf with ⟨hcs, _⟩ | ⟨x, l, c, ss, hcs, _, hl, hm, hz, _, hcell, hws⟩
  · simp [Value.cells] at hcs
    obtain ⟨rfl, rfl, rfl⟩ := hcs
    exact ⟨[], rfl, .inl rfl, Nat.le_refl _, by decide, by simp⟩
  · simp [Value.cells] at hcs
    obtain ⟨rfl, rfl, rfl⟩ := hcs
    have hzl : len ≤ ss.length := by rw [hz]; split <;> omega
    refine ⟨ss.take len, by simp; omega, holV_of fun j u hu => ?_, hl, hm, fun s hs => hws s (List.mem_of_mem_take hs)⟩
    rw [List.getElem?_map] at hu
    obtain ⟨z, hz1, rfl⟩ := Option.map_eq_some_iff.1 hu
    rw [List.getElem?_take] at hz1
    split at hz1
    · have hj := (List.getElem?_eq_some_iff.1 hz1).1
      rw [hcell j hj]
      have hg : ss.getD j ByteArray.empty = z := by simp [List.getD, hz1]
      rw [hg]
    · cases hz1

theorem wants_in {H : Type} {enc : TypeId × Value → H} {W : World} {a : Option Addr} {len cap : Nat} {d : DataW H} {p : List MemPlace} {sp : Nat → Bool} {held : Bool} {base : Nat}
    (h : DataW.Trod enc Tryd.prog W base sp held 32 (.slice a len cap) d p) : ∃ l, InW W a len cap l := by
  obtain ⟨fuel, hf⟩ := h
  rcases Deep.open_slice_pairs Tryd.underlying32 Tryd.underlying36 (by kernel_rfl) rfl rfl (by kernel_rfl) (by kernel_rfl) hf with ⟨hcs, _⟩ | ⟨x, l, c, m, n, V0, V1, D0, D1, P0, P1, hcs, _, hl, hm, hz, _, hx⟩
  · simp [Value.cells] at hcs
    obtain ⟨rfl, rfl, rfl⟩ := hcs
    exact ⟨[], rfl, .inl rfl, Nat.le_refl _, by decide, by simp⟩
  · simp [Value.cells] at hcs
    obtain ⟨rfl, rfl, rfl⟩ := hcs
    have hlm : len ≤ m := by rw [hz]; split <;> omega
    have hv : ∀ i, i < len → ∃ q : Int × Int, V0 i = .int .i64 q.1 ∧ V1 i = .int .i64 q.2 ∧ (Lit.int .i64 q.1).wf = true ∧ (Lit.int .i64 q.2).wf = true := by
      intro i hi
      obtain ⟨_, _, h0, h1⟩ := hx i (by omega)
      obtain ⟨q0, e0, _, w0⟩ := DataW.trod_int Tryd.underlying3 h0
      obtain ⟨q1, e1, _, w1⟩ := DataW.trod_int Tryd.underlying3 h1
      exact ⟨(q0, q1), by injection e0, by injection e1, w0, w1⟩
    obtain ⟨q, hq⟩ := Deep.choose_lt hv
    refine ⟨(List.range len).map q, by simp, ?_, hl, hm, ?_⟩
    · by_cases h0 : len = 0
      · subst h0
        exact .inl rfl
      · have h1 := (hx 0 (by omega)).1
        obtain ⟨b, off, spot⟩ := x
        have hs : spot = none := by
          have : (Addr.add ⟨b, off, spot⟩ (0 * 2)) = ⟨b, off, spot⟩ := by simp [Addr.add]
          rw [this] at h1
          exact cell_spot h1
        subst hs
        refine .inr ⟨b, off, rfl, fun i y hy => ?_⟩
        rw [List.getElem?_map] at hy
        obtain ⟨i', hi', rfl⟩ := Option.map_eq_some_iff.1 hy
        obtain ⟨hi, rfl⟩ := List.getElem?_eq_some_iff.1 hi'
        simp only [List.length_range] at hi
        simp only [List.getElem_range]
        have hc := hx i (by omega)
        have hqi := hq i hi
        rw [Addr.add_lit, Addr.add_lit, hqi.1, hqi.2.1] at hc
        exact ⟨hc.1, hc.2.1⟩
    · intro y hy
      obtain ⟨i, hi, rfl⟩ := List.mem_map.1 hy
      have := hq i (List.mem_range.1 hi)
      exact ⟨this.2.2.1, this.2.2.2⟩
end Go.Proofs.YtcdgiailapcooaaDoor
