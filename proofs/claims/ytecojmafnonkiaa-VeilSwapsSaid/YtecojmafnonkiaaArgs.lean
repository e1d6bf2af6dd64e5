/- What bytes, nonces, keys, two texts and tables that came in read as. No conditions. -/
import Derived.Test.YtecojmafnonkiaaApp
import Derived.Test.YtecojmafnonkiaaRPads
import Derived.Test.YtecojmafnonkiaaIdeal
import Derived.ProofKit
import Derived.OpenShut
import Derived.Lib.LaidU8
import Derived.Lib.SmallJoins
import Derived.Deep.SlicePairs
set_option linter.unusedVariables false
namespace Go.Proofs.Ytecojmafnonkiaa
open Go.ChangeShapes Go.WideShapes Go.ChangeAt Go.RowKit

/-- What a list of bytes that came in reads as. -/
structure InB (w : World) (a : Option Addr) (len cap : Nat) (l : List UInt8) : Prop where
  len_ : len = l.length
  hol : Hol w a l
  cap_ : len ≤ cap
  max_ : cap ≤ maxLen
theorem u8_of {z : Int} (h : (Lit.int .u8 z).wf = true) : z = ((UInt8.ofNat z.toNat).toNat : Int) := by
  have hb := bounds_u8 h
  have e : (UInt8.ofNat z.toNat).toNat = z.toNat % 256 := UInt8.toNat_ofNat' ..
  rw [e]
  omega
theorem u32_of {z : Int} (h : (Lit.int .u32 z).wf = true) : ∃ n : Nat, z = (n : Int) ∧ n < 4294967296 := by
  simp [Lit.wf, IntKind.min, IntKind.max, IntKind.bits, IntKind.signed] at h
  exact ⟨z.toNat, by omega, by omega⟩
section
variable {H : Type} {enc : TypeId × Value → H} {W : World} {sp : Nat → Bool} {held : Bool} {base : Nat}
theorem bytes_cs {fuel : Nat} {cs : List Value} {x : DataW H × List MemPlace} (hf : DataW.trod enc Try.prog W base sp held fuel 22 cs = some x) : ∃ a len cap l, cs = [.slice a len cap] ∧ InB W a len cap l := by
  rcases open_ints Try.underlying22 Try.underlying5 (by kernel_rfl) hf with ⟨hcs, _⟩ | ⟨x, len, c, zs, hcs, _, hl, hm, hz, _, hcell, hwz⟩
  · exact ⟨none, 0, 0, [], hcs, rfl, .inl rfl, Nat.le_refl _, by decide⟩
  · have hzl : len ≤ zs.length := by rw [hz]; split <;> omega
    refine ⟨some x, len, c, (zs.take len).map fun z => UInt8.ofNat z.toNat, hcs, by simp; omega, ?_, hl, hm⟩
    by_cases h0 : len = 0
    · subst h0
      exact .inl rfl
    · have h1 := hcell 0 (by omega)
      obtain ⟨b, off, spot⟩ := x
      have hs : spot = none := by
        have : (Addr.add ⟨b, off, spot⟩ 0) = ⟨b, off, spot⟩ := by simp [Addr.add]
        rw [this] at h1
        exact cell_spot h1
      subst hs
      refine .inr ⟨b, off, rfl, fun j y hy => ?_⟩
      rw [List.getElem?_map] at hy
      obtain ⟨z, hz1, rfl⟩ := Option.map_eq_some_iff.1 hy
      rw [List.getElem?_take] at hz1
      split at hz1
      · have hj := (List.getElem?_eq_some_iff.1 hz1).1
        have h2 := hcell j hj
        rw [Addr.add_lit] at h2
        rw [h2]
        have hg : zs.getD j 0 = z := by simp [List.getD, hz1]
        rw [hg]
        have := u8_of (hwz z (List.mem_of_getElem? hz1))
        rw [← this]
      · cases hz1
theorem bytes_in {a : Option Addr} {len cap : Nat} {d : DataW H} {p : List MemPlace} (h : DataW.Trod enc Try.prog W base sp held 22 (.slice a len cap) d p) : ∃ l, InB W a len cap l := by
  obtain ⟨fuel, hf⟩ := h
  obtain ⟨a', len', cap', l, hcs, hI⟩ := bytes_cs hf
  simp [Value.cells] at hcs
  obtain ⟨rfl, rfl, rfl⟩ := hcs
  exact ⟨l, hI⟩
/-- A nonce. -/
theorem nonce_in {r : Reach} {b0 : Nat} {v : Value} {d : DataW H} {p : List MemPlace} (hv : Value.okWide Try.prog W r b0 25 v) (h : DataW.Trod enc Try.prog W base sp held 25 v d p) :
    ∃ e s : Nat, v = .agg #[.int .u32 (e : Int), .int .u32 (s : Int)] ∧ e < 4294967296 ∧ s < 4294967296 := by
  obtain ⟨v0, v1, y0, y1, n, rfl, _, _, h0, h1⟩ := Joins.open_agg2 Try.underlying25 (by kernel_rfl) (by kernel_rfl) hv h
  obtain ⟨z0, e0, _, w0⟩ := DataW.trod_int Try.underlying23 h0
  obtain ⟨z1, e1, _, w1⟩ := DataW.trod_int Try.underlying23 h1
  obtain ⟨e, rfl, he⟩ := u32_of w0
  obtain ⟨s, rfl, hs⟩ := u32_of w1
  simp at e0 e1
  exact ⟨e, s, by rw [e0, e1], he, hs⟩
/-- A row's value, as an argument. -/
theorem okWide_row {P : Program} {w : World} {r : Reach} {b : Nat} {t e : TypeId} {n : Nat} {v : Value} (ht : P.underlying t = some (.array n e)) (h : Value.okWide P w r b t v) : ∃ cs, v = .agg cs ∧ cs.size = P.cellsOf t := by
  simp only [Value.okWide, ht] at h
  obtain ⟨cs, h1, h2, _⟩ := h
  exact ⟨cs, h1, h2⟩
/-- Two texts. -/
theorem two_in {r : Reach} {b0 : Nat} {v : Value} {d : DataW H} {p : List MemPlace} (hv : Value.okWide Try.prog W r b0 49 v) (h : DataW.Trod enc Try.prog W base sp held 49 v d p) :
    ∃ a0 n0 c0 l0 a1 n1 c1 l1, v = .agg #[.slice a0 n0 c0, .slice a1 n1 c1] ∧ InB W a0 n0 c0 l0 ∧ InB W a1 n1 c1 l1 := by
  obtain ⟨cs, rfl, hsz⟩ := okWide_row Try.underlying49 hv
  have hc : Try.prog.cellsOf 49 = 2 := by kernel_rfl
  have hc1 : Try.prog.cellsOf 22 = 1 := by kernel_rfl
  obtain ⟨c0, c1, rfl⟩ := Joins.array2 (hsz.trans hc)
  obtain ⟨fuel, hf⟩ := h
  obtain ⟨xs, m, _, _, _, hlen, hg⟩ := DataW.trod_array Try.underlying49 hf
  have g0 := hg 0 (by omega)
  have g1 := hg 1 (by omega)
  rw [hc1, List.getElem?_eq_getElem (by omega)] at g0 g1
  obtain ⟨a0, n0, k0, l0, e0, i0⟩ := bytes_cs g0
  obtain ⟨a1, n1, k1, l1, e1, i1⟩ := bytes_cs g1
  simp [Value.cells] at e0 e1
  exact ⟨a0, n0, k0, l0, a1, n1, k1, l1, by rw [e0, e1], i0, i1⟩
end
end Go.Proofs.Ytecojmafnonkiaa
