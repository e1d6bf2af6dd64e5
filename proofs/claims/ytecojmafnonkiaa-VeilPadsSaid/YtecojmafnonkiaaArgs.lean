/- What bytes, nonces, keys, two texts and tables that came in read as. No conditions. -/
import Derived.Test.YtecojmafnonkiaaApp
import Derived.Test.YtecojmafnonkiaaRPads
import Derived.Test.YtecojmafnonkiaaIdeal
import Derived.ProofKit
import Derived.OpenShut
import Derived.Lib.LaidU8
import Derived.Lib.SmallJoins
import Derived.Deep.SlicePairs
set_option linter.unusedVariables false
namespace Go.Proofs.Ytecojmafnonkiaa
open Go.ChangeShapes Go.WideShapes Go.ChangeAt Go.RowKit

/-- What a list of bytes that came in reads as. -/
structure InB (w : World) (a : Option Addr) (len cap : Nat) (l : List UInt8) : Prop where
  len_ : len = l.length
  hol : Hol w a l
  cap_ : len ≤ cap
  max_ : cap ≤ maxLen
theorem u8_of {z : Int} (h : (Lit.int .u8 z).wf = true) : z = ((UInt8.ofNat z.toNat).toNat : Int) := by
  have hb := bounds_u8 h
  have e : (UInt8.ofNat z.toNat).toNat = z.toNat % 256 := UInt8.toNat_ofNat' ..
  rw [e]
  omega
theorem u32_of {z : Int} (h : (Lit.int .u32 z).wf = true) : ∃ n : Nat, z = (n : Int) ∧ n < 4294967296 := by
  simp [Lit.wf, IntKind.min, IntKind.max, IntKind.bits, IntKind.signed] at h
  exact ⟨z.toNat, by omega, by omega⟩
section
variable {H : Type} {enc : TypeId × Value → H} {W : World} {sp : Nat → Bool} {held : Bool} {base : Nat}
theorem bytes_cs {fuel : Nat} {cs : List Value} {x : DataW H × List MemPlace} (hf : DataW.trod enc Try.prog W base sp held fuel 22 cs = some x) : ∃ a len cap l, cs = [.slice a len cap] ∧ InB W a len cap l := by
  rcases open_ints Try.underlying22 Try.underlying5 (by kernel_rfl) hf with ⟨hcs, _⟩ | ⟨x, len, c, zs, hcs, _, hl, hm, hz, _, hcell, hwz⟩
  · exact ⟨none, 0, 0, [], hcs, rfl, .inl rfl, Nat.le_refl _, by decide⟩
  · have hzl : len ≤ zs.length := by rw [hz]; split <;> omega
    refine ⟨some x, len, c, (zs.take len).map fun z => UInt8.ofNat z.toNat, hcs, by simp; omega, ?_, hl, hm⟩
    by_cases h0 : len = 0
    · subst h0
      exact .inl rfl
    · have h1 := hcell 0 (by omega)
      obtain ⟨b, off, spot⟩ := x
      have hs : spot = none := by
        have : (Addr.add ⟨b, off, spot⟩ 0) = ⟨b, off, spot⟩ := by simp [Addr.add]
        rw [this] at h1
        exact cell_spot h1
      subst hs
      refine .inr ⟨b, off, rfl, fun j y hy => ?_⟩
      rw [List.getElem?_map] at hy
      obtain ⟨z, hz1, rfl⟩ := Option.map_eq_some_iff.1 hy
      rw [List.getElem?_take] at hz1
      split at hz1
      · have hj := (List.getElem?_eq_some_iff.1 hz1).1
        have h2 := hcell j hj
        rw [Addr.add_lit] at h2
        rw [h2]
        have hg : zs.getD j 0 = z := by simp [List.getD, hz1]
        rw [hg]
        have := u8_of (hwz z (List.mem_of_getElem? hz1))
        rw [← this]
      · cases hz1
theorem bytes_in {a : Option Addr} {len cap : Nat} {d : DataW H} {p : List MemPlace} (h : DataW.Trod enc Try.prog W base sp held 22 (.slice a len cap) d p) : ∃ l, InB W a len cap l := by
  obtain ⟨fuel, hf⟩ := h
  obtain ⟨a', len', cap', l, hcs, hI⟩ := bytes_cs hf
  simp [Value.cells] at hcs
  obtain ⟨rfl, rfl, rfl⟩ := hcs
  exact ⟨l, hI⟩
/-- A nonce. -/
theorem nonce_in {r : Reach} {b0 : Nat} {v : Value} {d : DataW H} {p : List MemPlace} (hv : Value.okWide Try.prog W r b0 25 v) (h : DataW.Trod enc Try.prog W base sp held 25 v d p) :
    ∃ e s : Nat, v = .agg #[.int .u32 (e : Int), .int .u32 (s : Int)] ∧ e < 4294967296 ∧ s < 4294967296 := by
  obtain ⟨v0, v1, y0, y1, n, rfl, _, _, h0, h1⟩ := Joins.open_agg2 Try.underlying25 (by kernel_rfl) (by kernel_rfl) hv h
  obtain ⟨z0, e0, _, w0⟩ := DataW.trod_int Try.underlying23 h0
  obtain ⟨z1, e1, _, w1⟩ := DataW.trod_int Try.underlying23 h1
  obtain ⟨e, rfl, he⟩ := u32_of w0
  obtain ⟨s, rfl, hs⟩ := u32_of w1
  simp at e0 e1
  exact ⟨e, s, by rw [e0, e1], he, hs⟩
/-- A row's value, as an argument. -/
theorem okWide_row {P : Program} {w : World} {r : Reach} {b : Nat} {t e : TypeId} {n : Nat} {v : Value} (ht : P.underlying t = some (.array n e)) (h : Value.okWide P w r b t v) : ∃ cs, v = .agg cs ∧ cs.size = P.cellsOf t := by
  simp only [Value.okWide, ht] at h
  obtain ⟨cs, h1, h2, _⟩ := h
  exact ⟨cs, h1, h2⟩
/-- Two texts. -/
theorem two_in {r : Reach} {b0 : Nat} {v : Value} {d : DataW H} {p : List MemPlace} (hv : Value.okWide Try.prog W r b0 49 v) (h : DataW.Trod enc Try.prog W base sp held 49 v d p) :
    ∃ a0 n0 c0 l0 a1 n1 c1 l1, v = .agg #[.slice a0 n0 c0, .slice a1 n1 c1] ∧ InB W a0 n0 c0 l0 ∧ InB W a1 n1 c1 l1 := by
  obtain ⟨cs, rfl, hsz⟩ := okWide_row Try.underlying49 hv
  have hc : Try.prog.cellsOf 49 = 2 := by kernel_rfl
  have hc1 : Try.prog.cellsOf 22 = 1 := by kernel_rfl
  obtain ⟨c0, c1, rfl⟩ := Joins.array2 (hsz.trans hc)
  obtain ⟨fuel, hf⟩ := h
  obtain ⟨xs, m, _, _, _, hlen, hg⟩ := DataW.trod_array Try.underlying49 hf
  have g0 := hg 0 (by omega)
  have g1 := hg 1 (by omega)
  rw [hc1, List.getElem?_eq_getElem (by omega)] at g0 g1
  obtain ⟨a0, n0, k0, l0, e0, i0⟩ := bytes_cs g0
  obtain ⟨a1, n1, k1, l1, e1, i1⟩ := bytes_cs g1
  simp [Value.cells] at e0 e1
  exact ⟨a0, n0, k0, l0, a1, n1, k1, l1, by rw [e0, e1], i0, i1⟩
/-- Bytes in a row, as cells. -/
theorem row_cs {t : TypeId} {n fuel : Nat} {cs : List Value} {x : DataW H × List MemPlace} (ht : Try.prog.underlying t = some (.array n 5)) (hct : Try.prog.cellsOf t = n)
    (hf : DataW.trod enc Try.prog W base sp held fuel t cs = some x) : ∃ f : Nat → UInt8, cs = brr n f := by
  have hce : Try.prog.cellsOf 5 = 1 := by kernel_rfl
  obtain ⟨xs, m, _, _, hl, hlen, hg⟩ := DataW.trod_array ht hf
  refine ⟨fun i => match cs[i]? with | some (.int _ z) => UInt8.ofNat z.toNat | _ => 0, ?_⟩
  apply List.ext_getElem?
  intro i
  by_cases hi : i < n
  · have h1 := hg i hi
    rw [hce, Nat.mul_one] at h1
    have hx : i < xs.length := by omega
    rw [List.getElem?_eq_getElem hx] at h1
    obtain ⟨z, hz, _, hwf⟩ := DataW.trod_int Try.underlying5 h1
    have hc : cs[i]? = some (.int .u8 z) := by
      have := congrArg (·[0]?) hz
      simp only [List.getElem?_take, List.getElem?_drop] at this
      simpa using this
    rw [brr_get _ hi]
    simp only [hc]
    have hb := bounds_u8 hwf
    have : z = bv (UInt8.ofNat z.toNat) := by
      unfold bv
      rw [u8_toNat]
      omega
    exact congrArg (fun y => some (Value.int .u8 y)) this
  · rw [brr_none _ (by omega), List.getElem?_eq_none (by rw [hl, hct]; omega)]
/-- A key. -/
theorem key_in {r : Reach} {b0 : Nat} {v : Value} {d : DataW H} {p : List MemPlace} (hv : Value.okWide Try.prog W r b0 42 v) (h : DataW.Trod enc Try.prog W base sp held 42 v d p) :
    ∃ f : Nat → UInt8, v = .agg (brr 32 f).toArray := by
  obtain ⟨cs, rfl, hsz⟩ := okWide_row Try.underlying42 hv
  obtain ⟨fuel, hf⟩ := h
  obtain ⟨f, hf'⟩ := row_cs (t := 42) (n := 32) Try.underlying42 (by kernel_rfl) hf
  refine ⟨f, ?_⟩
  have : cs.toList = brr 32 f := by simpa [Value.cells] using hf'
  rw [← this]
/-- A table that came in. -/
structure InP (w : World) (A : Option Addr) (len cap : Nat) (ps : List PadV) : Prop where
  len_ : len = ps.length
  at_ : ∀ (j : Nat) (p : PadV), ps[j]? = some p → ∃ g o, A = some ⟨g, o, none⟩ ∧ w.cell? ⟨g, o + j * 3, none⟩ = some (.int .u32 (p.e : Nat)) ∧ w.cell? ⟨g, o + j * 3 + 1, none⟩ = some (.int .u32 (p.s : Nat)) ∧
    w.cell? ⟨g, o + j * 3 + 2, none⟩ = some (.slice p.A p.l.length p.c) ∧ Hol w p.A p.l
  ok : PadsOk ps
  cap_ : len ≤ cap
  max_ : cap ≤ maxLen
theorem InP.pads {w : World} {A : Option Addr} {len cap : Nat} {ps : List PadV} (h : InP w A len cap ps) (hl : ∀ (j : Nat) (p : PadV), ps[j]? = some p → p.l.length ≤ 1099511627776) : PadsAt w A ps := fun j p hp => by
  obtain ⟨g, o, e, h1, h2, h3, h4⟩ := h.at_ j p hp
  exact ⟨g, o, e, h1, h2, h3, h4, hl j p hp⟩
theorem pads_cs {fuel : Nat} {cs : List Value} {x : DataW H × List MemPlace} (hf : DataW.trod enc Try.prog W base sp held fuel 35 cs = some x) : ∃ a len cap ps, cs = [.slice a len cap] ∧ InP W a len cap ps := by
  have ce : Try.prog.cellsOf 38 = 3 := by kernel_rfl
  have c0 : Try.prog.cellsOf 23 = 1 := by kernel_rfl
  have c2 : Try.prog.cellsOf 22 = 1 := by kernel_rfl
  rcases Deep.open_slice Try.underlying35 hf with ⟨hcs, _⟩ | ⟨a, len, cap, m, n, D, Pl, hcs, hb, hl, hm, hmm, _, hx⟩
  · exact ⟨none, 0, 0, [], hcs, rfl, fun j p hp => by simp at hp, fun j p hp => by simp at hp, Nat.le_refl _, by decide⟩
  · have hlm : len ≤ m := by rw [hmm]; split <;> omega
    have each : ∀ i, i < len → ∃ p : PadV, W.cell? (a.add (i * 3)) = some (.int .u32 (p.e : Nat)) ∧ W.cell? (a.add (i * 3 + 1)) = some (.int .u32 (p.s : Nat)) ∧
        W.cell? (a.add (i * 3 + 2)) = some (.slice p.A p.l.length p.c) ∧ Hol W p.A p.l ∧ p.e < 4294967296 ∧ p.s < 4294967296 ∧ p.l.length ≤ p.c := by
      intro i hi
      obtain ⟨cs', h1, h2⟩ := hx i (by omega)
      rw [ce] at h1
      obtain ⟨_, hlen, hcell⟩ := World.cells?_some h1
      obtain ⟨xs, k, hk, hxy, _, hxl, hf'⟩ := DataW.trod_struct Try.underlying38 h2
      match xs, hxl, cs', hlen with
      | [y0, y1, y2], _, [v0, v1, v2], _ =>
        have g0 := hf' 0 _ rfl
        have g1 := hf' 1 _ rfl
        have g2 := hf' 2 _ rfl
        simp [c0, c2] at g0 g1 g2
        obtain ⟨z0, e0, _, w0⟩ := DataW.trod_int Try.underlying23 g0
        obtain ⟨z1, e1, _, w1⟩ := DataW.trod_int Try.underlying23 g1
        obtain ⟨A2, n2, k2, l2, e2, i2⟩ := bytes_cs g2
        obtain ⟨e, rfl, he⟩ := u32_of w0
        obtain ⟨s, rfl, hs⟩ := u32_of w1
        simp at e0 e1 e2
        subst e0 e1 e2
        have q0 := hcell 0 (by omega)
        have q1 := hcell 1 (by omega)
        have q2 := hcell 2 (by omega)
        rw [Deep.add_add] at q0 q1 q2
        obtain rfl := i2.len_
        exact ⟨⟨e, s, A2, k2, l2⟩, by simpa using q0, by simpa using q1, by simpa using q2, i2.hol, he, hs, i2.cap_⟩
    obtain ⟨q, hq⟩ := @Deep.choose_lt PadV ⟨⟨0, 0, none, 0, []⟩⟩ _ _ each
    refine ⟨some a, len, cap, (List.range len).map q, hcs, by simp, fun j p hp => ?_, fun j p hp => ?_, hl, hm⟩
    · rw [List.getElem?_map] at hp
      obtain ⟨j', hj', rfl⟩ := Option.map_eq_some_iff.1 hp
      obtain ⟨hj, rfl⟩ := List.getElem?_eq_some_iff.1 hj'
      simp only [List.length_range] at hj
      simp only [List.getElem_range]
      obtain ⟨k0, k1, k2, k3, _⟩ := hq j hj
      obtain ⟨b, off, spot⟩ := a
      have hs : spot = none := by
        have h1 := (hq 0 (by omega)).1
        have e1 : (Addr.add ⟨b, off, spot⟩ (0 * 3)) = ⟨b, off, spot⟩ := by simp [Addr.add]
        rw [e1] at h1
        exact cell_spot h1
      subst hs
      rw [Addr.add_lit] at k0 k1 k2
      exact ⟨b, off, rfl, k0, by rw [Nat.add_assoc]; exact k1, by rw [Nat.add_assoc]; exact k2, k3⟩
    · rw [List.getElem?_map] at hp
      obtain ⟨j', hj', rfl⟩ := Option.map_eq_some_iff.1 hp
      obtain ⟨hj, rfl⟩ := List.getElem?_eq_some_iff.1 hj'
      simp only [List.length_range] at hj
      simp only [List.getElem_range]
      obtain ⟨_, _, _, _, k4, k5, k6⟩ := hq j hj
      exact ⟨k4, k5, k6⟩
theorem pads_in {a : Option Addr} {len cap : Nat} {d : DataW H} {p : List MemPlace} (h : DataW.Trod enc Try.prog W base sp held 35 (.slice a len cap) d p) : ∃ ps, InP W a len cap ps := by
  obtain ⟨fuel, hf⟩ := h
  obtain ⟨a', len', cap', ps, hcs, hI⟩ := pads_cs hf
  simp [Value.cells] at hcs
  obtain ⟨rfl, rfl, rfl⟩ := hcs
  exact ⟨ps, hI⟩
/-- A key and a table. -/
theorem hidden_in {r : Reach} {b0 : Nat} {v : Value} {d : DataW H} {p : List MemPlace} (hv : Value.okWide Try.prog W r b0 44 v) (h : DataW.Trod enc Try.prog W base sp held 44 v d p) :
    ∃ f a n c ps, v = .agg (brr 32 f ++ [Value.slice a n c]).toArray ∧ InP W a n c ps := by
  have c0 : Try.prog.cellsOf 42 = 32 := by kernel_rfl
  have c1 : Try.prog.cellsOf 35 = 1 := by kernel_rfl
  have c2 : Try.prog.cellsOf 44 = 33 := by kernel_rfl
  obtain ⟨cs, rfl, hsz⟩ := okWide_struct Try.underlying44 hv
  obtain ⟨fuel, hf⟩ := h
  obtain ⟨y0, y1, n, _, hl, h0, h1⟩ := trod_struct2 Try.underlying44 hf
  simp [c0, c1, Value.cells] at h0 h1
  obtain ⟨f, hf0⟩ := row_cs (t := 42) (n := 32) Try.underlying42 c0 h0
  obtain ⟨a, n', c, ps, hf1, hI⟩ := pads_cs h1
  refine ⟨f, a, n', c, ps, ?_, hI⟩
  have hlen : cs.toList.length = 33 := by simpa [Value.cells, c2] using hl
  have e2 : (cs.toList.drop 32).take 1 = cs.toList.drop 32 := List.take_of_length_le (by rw [List.length_drop, hlen]; omega)
  have e1 : cs.toList = brr 32 f ++ [Value.slice a n' c] := by
    rw [← hf0, ← hf1, e2, List.take_append_drop]
  rw [← e1]
end
theorem u8_nat {z : Int} (h : (Lit.int .u8 z).wf = true) : ∃ n : Nat, z = (n : Int) ∧ n < 256 := by
  have hb := bounds_u8 h
  exact ⟨z.toNat, by omega, by omega⟩
end Go.Proofs.Ytecojmafnonkiaa
