/- What a super that came in reads as; what the tenth stage's statements share. No conditions. -/
import Derived.Test.YtcebbpdclgejdaaGs
import Derived.Carry
import Derived.ProofKit
import Derived.OpenShut
import Derived.SizedLaws
import Derived.Lib.SmallJoins
import Derived.Deep.SlicePairs
set_option linter.unusedVariables false
set_option maxRecDepth 20000
namespace Go.Proofs.Ytcebbpdclgejdaa
open Go.ChangeShapes Go.WideShapes Go.ChangeAt Go.RowKit
theorem own : ownKnob Try.prog.godebug = none := by kernel_rfl
theorem laidOut : laidOutB Try.prog = true := by kernel_rfl
theorem kept_args {H : Type} {enc : TypeId × Value → H} {W : World} {b : Nat} {sp : Nat → Bool} {hd : Bool} {t : TypeId} {v : Value} {d : DataW H} {p : List MemPlace} (h : DataW.Trod enc Try.prog W b sp hd t v d p) : ∀ x ∈ p, x.block < W.heap.size := by
  obtain ⟨m, hm⟩ := h
  exact DataW.trod_lt m _ _ _ hm
section
variable {H : Type} {enc : TypeId × Value → H} {W : World} {sp : Nat → Bool} {held : Bool} {base : Nat}
theorem bls_cs {t : TypeId} {n fuel : Nat} {cs : List Value} {x : DataW H × List MemPlace} (ht : Try.prog.underlying t = some (.array n 4)) (hct : Try.prog.cellsOf t = n)
    (hf : DataW.trod enc Try.prog W base sp held fuel t cs = some x) : ∃ f : Nat → Bool, cs = bls n f := by
  have hce : Try.prog.cellsOf 4 = 1 := by kernel_rfl
  obtain ⟨xs, m, _, _, hl, hlen, hg⟩ := DataW.trod_array ht hf
  refine ⟨fun i => match cs[i]? with | some (.bool z) => z | _ => false, ?_⟩
  apply List.ext_getElem?
  intro i
  by_cases hi : i < n
  · have h1 := hg i hi
    rw [hce, Nat.mul_one] at h1
    have hx : i < xs.length := by omega
    rw [List.getElem?_eq_getElem hx] at h1
    obtain ⟨z, hz, _⟩ := DataW.trod_bool Try.underlying4 h1
    have hc : cs[i]? = some (.bool z) := by
      have := congrArg (·[0]?) hz
      simp only [List.getElem?_take, List.getElem?_drop] at this
      simpa using this
    rw [bls_get _ hi]
    simp only [hc]
  · rw [List.getElem?_eq_none (by omega), List.getElem?_eq_none (by rw [bls_len]; omega)]
theorem inl_cs {t : TypeId} {n fuel : Nat} {cs : List Value} {x : DataW H × List MemPlace} (ht : Try.prog.underlying t = some (.array n 3)) (hct : Try.prog.cellsOf t = n)
    (hf : DataW.trod enc Try.prog W base sp held fuel t cs = some x) : ∃ f : Nat → Int, cs = inl n f := by
  have hce : Try.prog.cellsOf 3 = 1 := by kernel_rfl
  obtain ⟨xs, m, _, _, hl, hlen, hg⟩ := DataW.trod_array ht hf
  refine ⟨fun i => match cs[i]? with | some (.int _ z) => z | _ => 0, ?_⟩
  apply List.ext_getElem?
  intro i
  by_cases hi : i < n
  · have h1 := hg i hi
    rw [hce, Nat.mul_one] at h1
    have hx : i < xs.length := by omega
    rw [List.getElem?_eq_getElem hx] at h1
    obtain ⟨z, hz, _, hwf⟩ := DataW.trod_int Try.underlying3 h1
    have hc : cs[i]? = some (.int .i64 z) := by
      have := congrArg (·[0]?) hz
      simp only [List.getElem?_take, List.getElem?_drop] at this
      simpa using this
    rw [inl_get _ hi]
    simp only [hc]
  · rw [List.getElem?_eq_none (by omega), List.getElem?_eq_none (by rw [inl_len]; omega)]
theorem sup_cs {fuel : Nat} {cs : List Value} {x : DataW H × List MemPlace} (hf : DataW.trod enc Try.prog W base sp held fuel 27 cs = some x) : ∃ r : Sup, cs = r.cs ∧ r.s < 18446744073709551616 := by
  have c0 : Try.prog.cellsOf 22 = 1 := by kernel_rfl
  have c1 : Try.prog.cellsOf 23 = 256 := by kernel_rfl
  have c2 : Try.prog.cellsOf 24 = 65 := by kernel_rfl
  have c3 : Try.prog.cellsOf 25 = 65 := by kernel_rfl
  have cr : Try.prog.cellsOf 27 = 387 := by kernel_rfl
  obtain ⟨xs, k, hk, hxy, hl, hxl, hf'⟩ := DataW.trod_struct Try.underlying27 hf
  rw [cr] at hl
  match xs, hxl, cs, hl with
  | [y0, y1, y2, y3], _, v0 :: t, hl =>
    have g0 := hf' 0 _ rfl
    have g1 := hf' 1 _ rfl
    have g2 := hf' 2 _ rfl
    have g3 := hf' 3 _ rfl
    simp [c0, c1, c2, c3] at g0 g1 g2 g3
    obtain ⟨z0, e0, _, w0⟩ := DataW.trod_int Try.underlying22 g0
    obtain ⟨f1, e1⟩ := bls_cs (t := 23) (n := 256) Try.underlying23 c1 g1
    obtain ⟨f2, e2⟩ := inl_cs (t := 24) (n := 65) Try.underlying24 c2 g2
    obtain ⟨f3, e3⟩ := bls_cs (t := 25) (n := 65) Try.underlying25 c3 g3
    have hb := bounds_u64 w0
    simp at e0
    subst e0
    refine ⟨⟨z0.toNat, f1, f2, f3⟩, ?_, by show z0.toNat < _; omega⟩
    have hz : ((z0.toNat : Nat) : Int) = z0 := by omega
    have ht : t.take 256 ++ ((t.drop 256).take 65 ++ (t.drop 321).take 65) = t := by
      have s1 : t.take 256 ++ t.drop 256 = t := List.take_append_drop 256 t
      have s2 : (t.drop 256).take 65 ++ (t.drop 256).drop 65 = t.drop 256 := List.take_append_drop 65 _
      have s3 : (t.drop 321).take 65 = t.drop 321 := List.take_of_length_le (by simp at hl ⊢; omega)
      rw [List.drop_drop] at s2
      rw [s3, show 321 = 256 + 65 from rfl, s2, s1]
    unfold Sup.cs
    dsimp only
    rw [hz, ← e1, ← e2, ← e3, ht]
theorem sup_in {r : Reach} {b0 : Nat} {v : Value} {d : DataW H} {p : List MemPlace} (hv : Value.okWide Try.prog W r b0 27 v) (h : DataW.Trod enc Try.prog W base sp held 27 v d p) : ∃ q : Sup, v = .agg q.cs.toArray ∧ q.s < 18446744073709551616 := by
  obtain ⟨cs, rfl, hsz⟩ := okWide_struct Try.underlying27 hv
  obtain ⟨fuel, hf⟩ := h
  obtain ⟨q, e, hq⟩ := sup_cs hf
  refine ⟨q, ?_, hq⟩
  have e' : cs.toList = q.cs := by simpa [Value.cells] using e
  rw [← Array.toArray_toList (xs := cs), e']
end
end Go.Proofs.Ytcebbpdclgejdaa
