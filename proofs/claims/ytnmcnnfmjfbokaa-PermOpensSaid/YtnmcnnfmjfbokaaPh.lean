/- What an inode and two numbers that came in read as; what the fifteenth stage's statements share. No conditions. -/
import Derived.Test.YtnmcnnfmjfbokaaPa
import Derived.Carry
import Derived.ProofKit
import Derived.OpenShut
import Derived.SizedLaws
import Derived.Lib.SmallJoins
import Derived.Deep.SlicePairs
set_option linter.unusedVariables false
set_option maxRecDepth 20000
namespace Go.Proofs.Ytnmcnnfmjfbokaa
open Go.ChangeShapes Go.WideShapes Go.ChangeAt Go.RowKit
theorem own : ownKnob Try.prog.godebug = none := by kernel_rfl
theorem laidOut : laidOutB Try.prog = true := by kernel_rfl
theorem kept_args {H : Type} {enc : TypeId × Value → H} {W : World} {b : Nat} {sp : Nat → Bool} {hd : Bool} {t : TypeId} {v : Value} {d : DataW H} {p : List MemPlace} (h : DataW.Trod enc Try.prog W b sp hd t v d p) : ∀ x ∈ p, x.block < W.heap.size := by
  obtain ⟨m, hm⟩ := h
  exact DataW.trod_lt m _ _ _ hm
theorem u8_num {z : Int} (h : (Lit.int .u8 z).wf = true) : ∃ n : Nat, z = (n : Int) ∧ n < 256 := by
  have hb := bounds_u8 h
  exact ⟨z.toNat, by omega, by omega⟩
theorem int_top {z : Int} (h : (Lit.int .i64 z).wf = true) : z < 9223372036854775808 := by
  have hb := bounds_i64 h
  omega
section
variable {H : Type} {enc : TypeId × Value → H} {W : World} {sp : Nat → Bool} {held : Bool} {base : Nat}
theorem inl_cs {t : TypeId} {n fuel : Nat} {cs : List Value} {x : DataW H × List MemPlace} (ht : Try.prog.underlying t = some (.array n 3)) (hct : Try.prog.cellsOf t = n)
    (hf : DataW.trod enc Try.prog W base sp held fuel t cs = some x) : ∃ f : Nat → Int, cs = inl n f := by
  have hce : Try.prog.cellsOf 3 = 1 := by kernel_rfl
  obtain ⟨xs, m, _, _, hl, hlen, hg⟩ := DataW.trod_array ht hf
  refine ⟨fun i => match cs[i]? with | some (.int _ z) => z | _ => 0, ?_⟩
  apply List.ext_getElem?
  intro i
  by_cases hi : i < n
  · have h1 := hg i hi
    rw [hce, Nat.mul_one] at h1
    have hx : i < xs.length := by omega
    rw [List.getElem?_eq_getElem hx] at h1
    obtain ⟨z, hz, _, hwf⟩ := DataW.trod_int Try.underlying3 h1
    have hc : cs[i]? = some (.int .i64 z) := by
      have := congrArg (·[0]?) hz
      simp only [List.getElem?_take, List.getElem?_drop] at this
      simpa using this
    rw [inl_get _ hi]
    simp only [hc]
  · rw [List.getElem?_eq_none (by omega), List.getElem?_eq_none (by rw [inl_len]; omega)]
theorem ino_cs {fuel : Nat} {cs : List Value} {x : DataW H × List MemPlace} (hf : DataW.trod enc Try.prog W base sp held fuel 26 cs = some x) : ∃ v : Nat → Int, cs = ncs v := by
  have ci : Try.prog.cellsOf 3 = 1 := by kernel_rfl
  have c32 : Try.prog.cellsOf 22 = 1 := by kernel_rfl
  have c64 : Try.prog.cellsOf 23 = 1 := by kernel_rfl
  have c16 : Try.prog.cellsOf 24 = 16 := by kernel_rfl
  have cr : Try.prog.cellsOf 26 = 27 := by kernel_rfl
  obtain ⟨xs, k, hk, hxy, hl, hxl, hf'⟩ := DataW.trod_struct Try.underlying26 hf
  rw [cr] at hl
  match xs, hxl, cs, hl with
  | [y0, y1, y2, y3, y4, y5, y6, y7, y8, y9, y10, y11], _, v0 :: v1 :: v2 :: v3 :: v4 :: v5 :: v6 :: v7 :: v8 :: v9 :: t, hl =>
    have g0 := hf' 0 _ rfl
    have g1 := hf' 1 _ rfl
    have g2 := hf' 2 _ rfl
    have g3 := hf' 3 _ rfl
    have g4 := hf' 4 _ rfl
    have g5 := hf' 5 _ rfl
    have g6 := hf' 6 _ rfl
    have g7 := hf' 7 _ rfl
    have g8 := hf' 8 _ rfl
    have g9 := hf' 9 _ rfl
    have g10 := hf' 10 _ rfl
    have g11 := hf' 11 _ rfl
    simp [ci, c32, c64, c16] at g0 g1 g2 g3 g4 g5 g6 g7 g8 g9 g10 g11
    obtain ⟨z0, e0, _, w0⟩ := DataW.trod_int Try.underlying3 g0
    obtain ⟨z1, e1, _, w1⟩ := DataW.trod_int Try.underlying3 g1
    obtain ⟨z2, e2, _, w2⟩ := DataW.trod_int Try.underlying22 g2
    obtain ⟨z3, e3, _, w3⟩ := DataW.trod_int Try.underlying22 g3
    obtain ⟨z4, e4, _, w4⟩ := DataW.trod_int Try.underlying3 g4
    obtain ⟨z5, e5, _, w5⟩ := DataW.trod_int Try.underlying3 g5
    obtain ⟨z6, e6, _, w6⟩ := DataW.trod_int Try.underlying23 g6
    obtain ⟨z7, e7, _, w7⟩ := DataW.trod_int Try.underlying22 g7
    obtain ⟨z8, e8, _, w8⟩ := DataW.trod_int Try.underlying3 g8
    obtain ⟨z9, e9, _, w9⟩ := DataW.trod_int Try.underlying22 g9
    obtain ⟨f, ef⟩ := inl_cs (t := 24) (n := 16) Try.underlying24 c16 g10
    obtain ⟨z26, e26, _, w26⟩ := DataW.trod_int Try.underlying3 g11
    simp at e0 e1 e2 e3 e4 e5 e6 e7 e8 e9
    subst e0 e1 e2 e3 e4 e5 e6 e7 e8 e9
    refine ⟨fun k => match k with | 0 => z0 | 1 => z1 | 2 => z2 | 3 => z3 | 4 => z4 | 5 => z5 | 6 => z6 | 7 => z7 | 8 => z8 | 9 => z9 | 26 => z26 | j + 10 => f j, ?_⟩
    have ht : t.take 16 ++ t.drop 16 = t := List.take_append_drop 16 t
    have h26 : t.drop 16 = [.int .i64 z26] := by
      rw [← e26]
      simp at hl
      rw [List.take_of_length_le (by rw [List.length_drop]; omega)]
    unfold ncs
    rw [← ht, ef, h26]
    rfl
theorem ino_in {r : Reach} {b0 : Nat} {v : Value} {d : DataW H} {p : List MemPlace} (hv : Value.okWide Try.prog W r b0 26 v) (h : DataW.Trod enc Try.prog W base sp held 26 v d p) : ∃ q : Nat → Int, v = .agg (ncs q).toArray := by
  obtain ⟨cs, rfl, hsz⟩ := okWide_struct Try.underlying26 hv
  obtain ⟨fuel, hf⟩ := h
  obtain ⟨q, e⟩ := ino_cs hf
  refine ⟨q, ?_⟩
  have e' : cs.toList = ncs q := by simpa [Value.cells] using e
  rw [← Array.toArray_toList (xs := cs), e']
theorem okWide_row {P : Program} {w : World} {r : Reach} {b : Nat} {t e : TypeId} {n : Nat} {v : Value} (ht : P.underlying t = some (.array n e)) (h : Value.okWide P w r b t v) : ∃ cs, v = .agg cs ∧ cs.size = P.cellsOf t := by
  simp only [Value.okWide, ht] at h
  obtain ⟨cs, h1, h2, _⟩ := h
  exact ⟨cs, h1, h2⟩
theorem pair_in {r : Reach} {b0 : Nat} {v : Value} {d : DataW H} {p : List MemPlace} (hv : Value.okWide Try.prog W r b0 27 v) (h : DataW.Trod enc Try.prog W base sp held 27 v d p) : ∃ x y : Int, v = .agg #[.int .u32 x, .int .u32 y] := by
  obtain ⟨cs, rfl, hsz⟩ := okWide_row Try.underlying27 hv
  obtain ⟨fuel, hf⟩ := h
  have hce : Try.prog.cellsOf 22 = 1 := by kernel_rfl
  have hct : Try.prog.cellsOf 27 = 2 := by kernel_rfl
  obtain ⟨xs, m, _, _, hl, hlen, hg⟩ := DataW.trod_array Try.underlying27 hf
  have hone : ∀ i, i < 2 → ∃ z : Int, cs.toList[i]? = some (.int .u32 z) := fun i hi => by
    have h1 := hg i hi
    rw [hce, Nat.mul_one] at h1
    have hx : i < xs.length := by omega
    rw [List.getElem?_eq_getElem hx] at h1
    obtain ⟨z, hz, _, hwf⟩ := DataW.trod_int Try.underlying22 h1
    refine ⟨z, ?_⟩
    have := congrArg (·[0]?) hz
    simp only [List.getElem?_take, List.getElem?_drop, Value.cells] at this
    simpa using this
  obtain ⟨x, hx⟩ := hone 0 (by decide)
  obtain ⟨y, hy⟩ := hone 1 (by decide)
  refine ⟨x, y, ?_⟩
  have hl2 : cs.toList.length = 2 := by
    rw [← hct]
    simpa using hsz
  have e' : cs.toList = [.int .u32 x, .int .u32 y] := by
    apply List.ext_getElem?
    intro i
    rcases i with _ | _ | i
    · exact hx
    · exact hy
    · rw [List.getElem?_eq_none (by omega)]
      rfl
  rw [← Array.toArray_toList (xs := cs), e']
end
end Go.Proofs.Ytnmcnnfmjfbokaa
