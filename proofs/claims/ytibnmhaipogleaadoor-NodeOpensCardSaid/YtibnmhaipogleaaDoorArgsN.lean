/- What records, nodes and ways that came in read as. No conditions. -/
import Derived.Test.YtibnmhaipogleaaDoorBin
import Derived.Test.YtibnmhaipogleaaDoorNodeR
import Derived.Deep.Strs
set_option linter.unusedVariables false
set_option maxRecDepth 20000
namespace Go.Proofs.YtibnmhaipogleaaDoor
open Go.ChangeShapes Go.WideShapes Go.ChangeAt Go.RowKit

section
variable {H : Type} {enc : TypeId × Value → H} {W : World} {sp : Nat → Bool} {held : Bool} {base : Nat}
theorem i64_eq (z : Int) : z = z := rfl
theorem rec_cs {fuel : Nat} {cs : List Value} {x : DataW H × List MemPlace} (hf : DataW.trod enc Tryd.prog W base sp held fuel 26 cs = some x) : ∃ r : RecV, cs = r.cs ∧ r.Ok := by
  have c0 : Tryd.prog.cellsOf 3 = 1 := by kernel_rfl
  have c1 : Tryd.prog.cellsOf 22 = 1 := by kernel_rfl
  have c3 : Tryd.prog.cellsOf 24 = 32 := by kernel_rfl
  have cr : Tryd.prog.cellsOf 26 = 35 := by kernel_rfl
  obtain ⟨xs, k, hk, hxy, hl, hxl, hf'⟩ := DataW.trod_struct Tryd.underlying26 hf
  rw [cr] at hl
  match xs, hxl, cs, hl with
  | [y0, y1, y2, y3], _, v0 :: v1 :: v2 :: t, hl =>
    have g0 := hf' 0 _ rfl
    have g1 := hf' 1 _ rfl
    have g2 := hf' 2 _ rfl
    have g3 := hf' 3 _ rfl
    simp [c0, c1, c3] at g0 g1 g2 g3
    obtain ⟨z0, e0, _, w0⟩ := DataW.trod_int Tryd.underlying3 g0
    obtain ⟨z1, e1, _, w1⟩ := DataW.trod_int Tryd.underlying22 g1
    obtain ⟨z2, e2, _, w2⟩ := DataW.trod_int Tryd.underlying22 g2
    obtain ⟨f, e3⟩ := row_cs (t := 24) (n := 32) Tryd.underlying24 c3 g3
    obtain ⟨e, rfl, he⟩ := u32_of w1
    obtain ⟨s, rfl, hs⟩ := u32_of w2
    simp at e0 e1 e2
    subst e0 e1 e2
    refine ⟨⟨z0, e, s, f⟩, ?_, he, hs⟩
    have ht : t.take 32 = t := List.take_of_length_le (by simp at hl; omega)
    rw [ht] at e3
    subst e3
    rfl
theorem rec_in {r : Reach} {b0 : Nat} {v : Value} {d : DataW H} {p : List MemPlace} (hv : Value.okWide Tryd.prog W r b0 26 v) (h : DataW.Trod enc Tryd.prog W base sp held 26 v d p) : ∃ q : RecV, v = .agg q.cs.toArray ∧ q.Ok := by
  obtain ⟨cs, rfl, hsz⟩ := okWide_struct Tryd.underlying26 hv
  obtain ⟨fuel, hf⟩ := h
  obtain ⟨q, e, hq⟩ := rec_cs hf
  refine ⟨q, ?_, hq⟩
  have e' : cs.toList = q.cs := by simpa [Value.cells] using e
  rw [← Array.toArray_toList (xs := cs), e']
theorem recs_in {r : Reach} {b0 : Nat} {v : Value} {d : DataW H} {p : List MemPlace} (hv : Value.okWide Tryd.prog W r b0 27 v) (h : DataW.Trod enc Tryd.prog W base sp held 27 v d p) : ∃ R : Nat → RecV, v = .agg (recsC R).toArray ∧ ∀ k, k < 4 → (R k).Ok := by
  have ce : Tryd.prog.cellsOf 26 = 35 := by kernel_rfl
  have ct : Tryd.prog.cellsOf 27 = 140 := by kernel_rfl
  obtain ⟨cs, rfl, hsz⟩ := okWide_row Tryd.underlying27 hv
  obtain ⟨fuel, hf⟩ := h
  obtain ⟨xs, m, _, _, hl, hlen, hg⟩ := DataW.trod_array Tryd.underlying27 hf
  have each : ∀ i, i < 4 → ∃ q : RecV, (cs.toList.drop (i * 35)).take 35 = q.cs ∧ q.Ok := fun i hi => by
    have h1 := hg i hi
    rw [ce, List.getElem?_eq_getElem (by omega)] at h1
    simp only [Value.cells] at h1
    exact rec_cs h1
  obtain ⟨q, hq⟩ := @Deep.choose_lt RecV ⟨rec0⟩ _ _ each
  refine ⟨q, ?_, fun k hk => (hq k hk).2⟩
  have hl' : cs.toList.length = 140 := by simp only [Array.length_toList]; rw [hsz, ct]
  generalize hL : cs.toList = L at *
  have e : L = recsC q := by
    unfold recsC
    rw [← (hq 0 (by omega)).1, ← (hq 1 (by omega)).1, ← (hq 2 (by omega)).1, ← (hq 3 (by omega)).1]
    have s1 : L.take 35 ++ L.drop 35 = L := List.take_append_drop 35 L
    have s2 : (L.drop 35).take 35 ++ (L.drop 35).drop 35 = L.drop 35 := List.take_append_drop 35 _
    have s3 : (L.drop 70).take 35 ++ (L.drop 70).drop 35 = L.drop 70 := List.take_append_drop 35 _
    have s4 : (L.drop 105).take 35 = L.drop 105 := List.take_of_length_le (by simp; omega)
    rw [List.drop_drop] at s2 s3
    rw [show 0 * 35 = 0 from rfl, show 1 * 35 = 35 from rfl, show 2 * 35 = 70 from rfl, show 3 * 35 = 105 from rfl, List.drop_zero, s4, s3, s2, s1]
  rw [← Array.toArray_toList (xs := cs), hL, e]
theorem way_in {r : Reach} {b0 : Nat} {v : Value} {d : DataW H} {p : List MemPlace} (hv : Value.okWide Tryd.prog W r b0 39 v) (h : DataW.Trod enc Tryd.prog W base sp held 39 v d p) :
    ∃ (e s : Nat) (A : Option Addr) (n c : Nat) (l : List UInt8), v = .agg #[.int .u32 (e : Int), .int .u32 (s : Int), .slice A n c] ∧ e < 4294967296 ∧ s < 4294967296 ∧ InB W A n c l := by
  obtain ⟨v0, v1, v2, y0, y1, y2, n, rfl, _, _, h0, h1, h2⟩ := Joins.open_agg3 Tryd.underlying39 (by kernel_rfl) (by kernel_rfl) hv h
  obtain ⟨z0, e0, _, w0⟩ := DataW.trod_int Tryd.underlying22 h0
  obtain ⟨z1, e1, _, w1⟩ := DataW.trod_int Tryd.underlying22 h1
  obtain ⟨A, m, c, l, e2, hI⟩ := bytes_cs h2
  obtain ⟨e, rfl, he⟩ := u32_of w0
  obtain ⟨s, rfl, hs⟩ := u32_of w1
  simp at e0 e1 e2
  subst e0 e1 e2
  exact ⟨e, s, A, m, c, l, rfl, he, hs, hI⟩
theorem how_in {r : Reach} {b0 : Nat} {v : Value} {d : DataW H} {p : List MemPlace} (hv : Value.okWide Tryd.prog W r b0 57 v) (h : DataW.Trod enc Tryd.prog W base sp held 57 v d p) :
    ∃ f : Nat → UInt8, v = .agg (brr 2 f).toArray := by
  obtain ⟨cs, rfl, hsz⟩ := okWide_row Tryd.underlying57 hv
  obtain ⟨fuel, hf⟩ := h
  obtain ⟨f, hf'⟩ := row_cs (t := 57) (n := 2) Tryd.underlying57 (by kernel_rfl) hf
  refine ⟨f, ?_⟩
  have : cs.toList = brr 2 f := by simpa [Value.cells] using hf'
  rw [← this]
end
end Go.Proofs.YtibnmhaipogleaaDoor
