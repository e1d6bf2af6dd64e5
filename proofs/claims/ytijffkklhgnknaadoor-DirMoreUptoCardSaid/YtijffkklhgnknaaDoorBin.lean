/- What bytes that came in read as. No conditions. -/
import Derived.Test.YtijffkklhgnknaaDoorMgMem
import Derived.ProofKit
import Derived.OpenShut
import Derived.Lib.LaidU8
import Derived.Lib.SmallJoins
import Derived.Deep.SlicePairs
set_option linter.unusedVariables false
namespace Go.Proofs.YtijffkklhgnknaaDoor
open Go.ChangeShapes Go.WideShapes Go.ChangeAt Go.RowKit

/-- What a list of bytes that came in reads as. -/
structure InB (w : World) (a : Option Addr) (len cap : Nat) (l : List UInt8) : Prop where
  len_ : len = l.length
  hol : Hol w a l
  cap_ : len ≤ cap
  max_ : cap ≤ maxLen
theorem u8_of {z : Int} (h : (Lit.int .u8 z).wf = true) : z = ((UInt8.ofNat z.toNat).toNat : Int) := by
  have hb := bounds_u8 h
  have e : (UInt8.ofNat z.toNat).toNat = z.toNat % 256 := UInt8.toNat_ofNat' ..
  rw [e]
  omega
theorem u32_of {z : Int} (h : (Lit.int .u32 z).wf = true) : ∃ n : Nat, z = (n : Int) ∧ n < 4294967296 := by
  simp [Lit.wf, IntKind.min, IntKind.max, IntKind.bits, IntKind.signed] at h
  exact ⟨z.toNat, by omega, by omega⟩
section
variable {H : Type} {enc : TypeId × Value → H} {W : World} {sp : Nat → Bool} {held : Bool} {base : Nat}
theorem bytes_cs {fuel : Nat} {cs : List Value} {x : DataW H × List MemPlace} (hf : DataW.trod enc Tryd.prog W base sp held fuel 33 cs = some x) : ∃ a len cap l, cs = [.slice a len cap] ∧ InB W a len cap l := by
  rcases open_ints Tryd.underlying33 Tryd.underlying5 (by kernel_rfl) hf with ⟨hcs, _⟩ | ⟨x, len, c, zs, hcs, _, hl, hm, hz, _, hcell, hwz⟩
  · exact ⟨none, 0, 0, [], hcs, rfl, .inl rfl, Nat.le_refl _, by decide⟩
  · have hzl : len ≤ zs.length := by rw [hz]; split <;> omega
    refine ⟨some x, len, c, (zs.take len).map fun z => UInt8.ofNat z.toNat, hcs, by simp; omega, ?_, hl, hm⟩
    by_cases h0 : len = 0
    · subst h0
      exact .inl rfl
    · have h1 := hcell 0 (by omega)
      obtain ⟨b, off, spot⟩ := x
      have hs : spot = none := by
        have : (Addr.add ⟨b, off, spot⟩ 0) = ⟨b, off, spot⟩ := by simp [Addr.add]
        rw [this] at h1
        exact cell_spot h1
      subst hs
      refine .inr ⟨b, off, rfl, fun j y hy => ?_⟩
      rw [List.getElem?_map] at hy
      obtain ⟨z, hz1, rfl⟩ := Option.map_eq_some_iff.1 hy
      rw [List.getElem?_take] at hz1
      split at hz1
      · have hj := (List.getElem?_eq_some_iff.1 hz1).1
        have h2 := hcell j hj
        rw [Addr.add_lit] at h2
        rw [h2]
        have hg : zs.getD j 0 = z := by simp [List.getD, hz1]
        rw [hg]
        have := u8_of (hwz z (List.mem_of_getElem? hz1))
        rw [← this]
      · cases hz1
theorem bytes_in {a : Option Addr} {len cap : Nat} {d : DataW H} {p : List MemPlace} (h : DataW.Trod enc Tryd.prog W base sp held 33 (.slice a len cap) d p) : ∃ l, InB W a len cap l := by
  obtain ⟨fuel, hf⟩ := h
  obtain ⟨a', len', cap', l, hcs, hI⟩ := bytes_cs hf
  simp [Value.cells] at hcs
  obtain ⟨rfl, rfl, rfl⟩ := hcs
  exact ⟨l, hI⟩
/-- A row's value, as an argument. -/
theorem okWide_row {P : Program} {w : World} {r : Reach} {b : Nat} {t e : TypeId} {n : Nat} {v : Value} (ht : P.underlying t = some (.array n e)) (h : Value.okWide P w r b t v) : ∃ cs, v = .agg cs ∧ cs.size = P.cellsOf t := by
  simp only [Value.okWide, ht] at h
  obtain ⟨cs, h1, h2, _⟩ := h
  exact ⟨cs, h1, h2⟩
/-- Bytes in a row, as cells. -/
theorem row_cs {t : TypeId} {n fuel : Nat} {cs : List Value} {x : DataW H × List MemPlace} (ht : Tryd.prog.underlying t = some (.array n 5)) (hct : Tryd.prog.cellsOf t = n)
    (hf : DataW.trod enc Tryd.prog W base sp held fuel t cs = some x) : ∃ f : Nat → UInt8, cs = brr n f := by
  have hce : Tryd.prog.cellsOf 5 = 1 := by kernel_rfl
  obtain ⟨xs, m, _, _, hl, hlen, hg⟩ := DataW.trod_array ht hf
  refine ⟨fun i => match cs[i]? with | some (.int _ z) => UInt8.ofNat z.toNat | _ => 0, ?_⟩
  apply List.ext_getElem?
  intro i
  by_cases hi : i < n
  · have h1 := hg i hi
    rw [hce, Nat.mul_one] at h1
    have hx : i < xs.length := by omega
    rw [List.getElem?_eq_getElem hx] at h1
    obtain ⟨z, hz, _, hwf⟩ := DataW.trod_int Tryd.underlying5 h1
    have hc : cs[i]? = some (.int .u8 z) := by
      have := congrArg (·[0]?) hz
      simp only [List.getElem?_take, List.getElem?_drop] at this
      simpa using this
    rw [brr_get _ hi]
    simp only [hc]
    have hb := bounds_u8 hwf
    have : z = bv (UInt8.ofNat z.toNat) := by
      unfold bv
      rw [u8_toNat]
      omega
    exact congrArg (fun y => some (Value.int .u8 y)) this
  · rw [brr_none _ (by omega), List.getElem?_eq_none (by rw [hl, hct]; omega)]
end
theorem u8_nat {z : Int} (h : (Lit.int .u8 z).wf = true) : ∃ n : Nat, z = (n : Int) ∧ n < 256 := by
  have hb := bounds_u8 h
  exact ⟨z.toNat, by omega, by omega⟩
end Go.Proofs.YtijffkklhgnknaaDoor
