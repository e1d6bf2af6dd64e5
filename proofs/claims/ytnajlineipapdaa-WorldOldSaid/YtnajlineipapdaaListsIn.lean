/- Lists of bytes that came in. No conditions. -/
import Derived.Test.YtnajlineipapdaaFrmD
import Derived.Test.YtnajlineipapdaaChg
set_option linter.unusedVariables false
namespace Go.Proofs.Ytnajlineipapdaa
open Go.ChangeShapes Go.WideShapes Go.ChangeAt Go.RowKit

/-- Lists of bytes that came in. -/
structure InL (w : World) (A : Option Addr) (len cap : Nat) (ls : List BV) : Prop where
  len_ : len = ls.length
  at_ : ∀ (j : Nat) (x : BV), ls[j]? = some x → (∃ g o, A = some ⟨g, o, none⟩ ∧ w.cell? ⟨g, o + j, none⟩ = some (.slice x.A x.l.length x.c)) ∧ Hol w x.A x.l
  cap_ : len ≤ cap
  max_ : cap ≤ maxLen
theorem InL.below {w w' : World} {A : Option Addr} {n c : Nat} {ls : List BV} (h : InL w A n c ls) (hb : Below w.heap.size w w') : InL w' A n c ls :=
  ⟨h.len_, fun j d hd => by
    obtain ⟨⟨g, o, rfl, h1⟩, h2⟩ := h.at_ j d hd
    exact ⟨⟨g, o, rfl, (hb.cell (p := ⟨g, o + j, none⟩) (World.block_lt_of_cell? w _ h1)).trans h1⟩, h2.below hb⟩, h.cap_, h.max_⟩
section
variable {H : Type} {enc : TypeId × Value → H} {W : World} {sp : Nat → Bool} {held : Bool} {base : Nat}
theorem lists_in {a : Option Addr} {len cap : Nat} {d : DataW H} {p : List MemPlace} (h : DataW.Trod enc Try.prog W base sp held 45 (.slice a len cap) d p) : ∃ ls, InL W a len cap ls := by
  have ce : Try.prog.cellsOf 32 = 1 := by kernel_rfl
  obtain ⟨fuel, hf⟩ := h
  rcases Deep.open_slice Try.underlying45 hf with ⟨hcs, _⟩ | ⟨a', len', cap', m, n, D, Pl, hcs, hb, hl, hm, hmm, _, hx⟩
  · simp [Value.cells] at hcs
    obtain ⟨rfl, rfl, rfl⟩ := hcs
    exact ⟨[], rfl, fun j d hd => by simp at hd, Nat.le_refl _, by decide⟩
  · simp [Value.cells] at hcs
    obtain ⟨rfl, rfl, rfl⟩ := hcs
    have hlm : len ≤ m := by rw [hmm]; split <;> omega
    have each : ∀ i, i < len → ∃ x : BV, W.cell? (a'.add i) = some (.slice x.A x.l.length x.c) ∧ Hol W x.A x.l := by
      intro i hi
      obtain ⟨cs', h1, h2⟩ := hx i (by omega)
      rw [ce, Nat.mul_one] at h1
      obtain ⟨_, hlen, hcell⟩ := World.cells?_some h1
      obtain ⟨A, len2, c, l, e3, i3⟩ := bytes_cs h2
      subst e3
      obtain rfl := i3.len_
      have h3 := hcell 0 (by omega)
      rw [Deep.add_add] at h3
      exact ⟨⟨A, c, l⟩, by simpa using h3, i3.hol⟩
    obtain ⟨q, hq⟩ := @Deep.choose_lt BV ⟨noBV⟩ _ _ each
    refine ⟨(List.range len).map q, by simp, fun j x hx => ?_, hl, hm⟩
    rw [List.getElem?_map] at hx
    obtain ⟨j', hj', rfl⟩ := Option.map_eq_some_iff.1 hx
    obtain ⟨hj, rfl⟩ := List.getElem?_eq_some_iff.1 hj'
    simp only [List.length_range] at hj
    simp only [List.getElem_range]
    obtain ⟨k0, k1⟩ := hq j hj
    obtain ⟨b, off, spot⟩ := a'
    have hs : spot = none := by
      have h1 := (hq 0 (by omega)).1
      have e1 : (Addr.add ⟨b, off, spot⟩ 0) = ⟨b, off, spot⟩ := by simp [Addr.add]
      rw [e1] at h1
      exact cell_spot h1
    subst hs
    rw [Addr.add_lit] at k0
    exact ⟨⟨b, off, rfl, k0⟩, k1⟩
end
end Go.Proofs.Ytnajlineipapdaa
