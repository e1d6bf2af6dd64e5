/- What bytes, Booleans and steps that came in read as, for the fifth stage's laws. No conditions. -/
import Derived.Test.YtnajlineipapdaaBin
import Derived.BigQuiet
set_option linter.unusedVariables false
namespace Go.Proofs.Ytnajlineipapdaa
open Go.ChangeShapes Go.WideShapes Go.ChangeAt Go.RowKit

/-- The address holds these cells, a cell an element. -/
def HolV (w : World) (A : Option Addr) (vs : List Value) : Prop :=
  vs = [] ∨ ∃ g off, A = some ⟨g, off, none⟩ ∧ ∀ j x, vs[j]? = some x → w.cell? ⟨g, off + j, none⟩ = some x
theorem HolV.at_ {w : World} {A : Option Addr} {vs : List Value} (h : HolV w A vs) {j : Nat} {x : Value} (hj : vs[j]? = some x) : ∃ g off, A = some ⟨g, off, none⟩ ∧ g < w.heap.size ∧ w.cell? ⟨g, off + j, none⟩ = some x := by
  rcases h with rfl | ⟨g, off, rfl, hc⟩
  · simp at hj
  · exact ⟨g, off, rfl, World.block_lt_of_cell? w _ (hc j x hj), hc j x hj⟩
theorem HolV.below {w w' : World} {A : Option Addr} {vs : List Value} (h : HolV w A vs) (hb : Below w.heap.size w w') : HolV w' A vs := by
  rcases h with rfl | ⟨g, off, rfl, hc⟩
  · exact .inl rfl
  · exact .inr ⟨g, off, rfl, fun j x hx => (hb.cell (p := ⟨g, off + j, none⟩) (World.block_lt_of_cell? w _ (hc j x hx))).trans (hc j x hx)⟩
/-- Booleans that came in. -/
structure InK (w : World) (a : Option Addr) (len cap : Nat) (l : List Bool) : Prop where
  len_ : len = l.length
  hol : HolV w a (l.map Value.bool)
  cap_ : len ≤ cap
  max_ : cap ≤ maxLen
/-- A step, as it lies. -/
structure DoV where
  k : Int
  a : Int
  A : Option Addr
  c : Nat
  l : List UInt8
  odd : Bool
  KA : Option Addr
  kc : Nat
  kl : List Bool
  tk : Int
  ta : Int
  tn : Int
  TA : Option Addr
  tcap : Nat
  tl : List UInt8
/-- Its nine cells. -/
def dc (d : DoV) : List Value := [.int .i64 d.k, .int .i64 d.a, .slice d.A d.l.length d.c, .bool d.odd, .slice d.KA d.kl.length d.kc, .int .i64 d.tk, .int .i64 d.ta, .int .i64 d.tn, .slice d.TA d.tl.length d.tcap]
theorem dc_len (d : DoV) : (dc d).length = 9 := rfl
/-- What of it lies elsewhere. -/
structure DoAt (w : World) (d : DoV) : Prop where
  b : Hol w d.A d.l
  k : HolV w d.KA (d.kl.map Value.bool)
  t : Hol w d.TA d.tl
  bc : d.l.length ≤ d.c
  kc : d.kl.length ≤ d.kc
  tc : d.tl.length ≤ d.tcap
  w1 : (Lit.int .i64 d.k).wf = true
  w2 : (Lit.int .i64 d.a).wf = true
  w3 : (Lit.int .i64 d.tk).wf = true
  w4 : (Lit.int .i64 d.ta).wf = true
  w5 : (Lit.int .i64 d.tn).wf = true
theorem DoAt.below {w w' : World} {d : DoV} (h : DoAt w d) (hb : Below w.heap.size w w') : DoAt w' d := ⟨h.b.below hb, h.k.below hb, h.t.below hb, h.bc, h.kc, h.tc, h.w1, h.w2, h.w3, h.w4, h.w5⟩
/-- Steps that came in. -/
structure InDo (w : World) (A : Option Addr) (len cap : Nat) (ds : List DoV) : Prop where
  len_ : len = ds.length
  at_ : ∀ (j : Nat) (d : DoV), ds[j]? = some d → (∃ g o, A = some ⟨g, o, none⟩ ∧ ∀ i u, (dc d)[i]? = some u → w.cell? ⟨g, o + j * 9 + i, none⟩ = some u) ∧ DoAt w d
  cap_ : len ≤ cap
  max_ : cap ≤ maxLen
theorem InDo.below {w w' : World} {A : Option Addr} {n c : Nat} {ds : List DoV} (h : InDo w A n c ds) (hb : Below w.heap.size w w') : InDo w' A n c ds :=
  ⟨h.len_, fun j d hd => by
    obtain ⟨⟨g, o, rfl, h1⟩, h2⟩ := h.at_ j d hd
    exact ⟨⟨g, o, rfl, fun i u hu => (hb.cell (p := ⟨g, o + j * 9 + i, none⟩) (World.block_lt_of_cell? w _ (h1 i u hu))).trans (h1 i u hu)⟩, h2.below hb⟩, h.cap_, h.max_⟩
theorem list6 {α : Type} : ∀ {l : List α}, l.length = 6 → ∃ a b c d e f, l = [a, b, c, d, e, f]
  | [a, b, c, d, e, f], _ => ⟨a, b, c, d, e, f, rfl⟩
theorem list4 {α : Type} : ∀ {l : List α}, l.length = 4 → ∃ a b c d, l = [a, b, c, d]
  | [a, b, c, d], _ => ⟨a, b, c, d, rfl⟩
theorem list9 {α : Type} : ∀ {l : List α}, l.length = 9 → ∃ a b c d e f g h i, l = [a, b, c, d, e, f, g, h, i]
  | [a, b, c, d, e, f, g, h, i], _ => ⟨a, b, c, d, e, f, g, h, i, rfl⟩
section
variable {H : Type} {enc : TypeId × Value → H} {W : World} {sp : Nat → Bool} {held : Bool} {base : Nat}
theorem bools_cs {fuel : Nat} {cs : List Value} {x : DataW H × List MemPlace} (hf : DataW.trod enc Try.prog W base sp held fuel 33 cs = some x) : ∃ a len cap l, cs = [.slice a len cap] ∧ InK W a len cap l := by
  have ce : Try.prog.cellsOf 4 = 1 := by kernel_rfl
  rcases Deep.open_slice Try.underlying33 hf with ⟨hcs, _⟩ | ⟨a, len, cap, m, n, D, Pl, hcs, hb, hl, hm, hmm, _, hx⟩
  · exact ⟨none, 0, 0, [], hcs, rfl, .inl rfl, Nat.le_refl _, by decide⟩
  · have hlm : len ≤ m := by rw [hmm]; split <;> omega
    have each : ∀ i, i < len → ∃ b : Bool, W.cell? (a.add i) = some (.bool b) := by
      intro i hi
      obtain ⟨cs', h1, h2⟩ := hx i (by omega)
      rw [ce, Nat.mul_one] at h1
      obtain ⟨_, hlen, hcell⟩ := World.cells?_some h1
      obtain ⟨b, rfl, _⟩ := DataW.trod_bool Try.underlying4 h2
      have h3 := hcell 0 (by omega)
      rw [Deep.add_add] at h3
      exact ⟨b, by simpa using h3⟩
    obtain ⟨q, hq⟩ := Deep.choose_lt each
    refine ⟨some a, len, cap, (List.range len).map q, hcs, by simp, ?_, hl, hm⟩
    by_cases h0 : len = 0
    · subst h0
      exact .inl rfl
    · obtain ⟨b, off, spot⟩ := a
      have hs : spot = none := by
        have h1 := hq 0 (by omega)
        have e1 : (Addr.add ⟨b, off, spot⟩ 0) = ⟨b, off, spot⟩ := by simp [Addr.add]
        rw [e1] at h1
        exact cell_spot h1
      subst hs
      refine .inr ⟨b, off, rfl, fun j x hx => ?_⟩
      rw [List.getElem?_map, List.getElem?_map] at hx
      obtain ⟨y, hy1, rfl⟩ := Option.map_eq_some_iff.1 hx
      obtain ⟨j', hj', rfl⟩ := Option.map_eq_some_iff.1 hy1
      obtain ⟨hj, rfl⟩ := List.getElem?_eq_some_iff.1 hj'
      simp only [List.length_range] at hj
      have h2 := hq j hj
      rw [Addr.add_lit] at h2
      simpa using h2
theorem tamper_cs {fuel : Nat} {cs : List Value} {x : DataW H × List MemPlace} (hf : DataW.trod enc Try.prog W base sp held fuel 35 cs = some x) :
    ∃ (k a n : Int) (A : Option Addr) (c : Nat) (l : List UInt8), cs = [.int .i64 k, .int .i64 a, .int .i64 n, .slice A l.length c] ∧ Hol W A l ∧ l.length ≤ c ∧ (Lit.int .i64 k).wf = true ∧ (Lit.int .i64 a).wf = true ∧ (Lit.int .i64 n).wf = true := by
  have ci : Try.prog.cellsOf 3 = 1 := by kernel_rfl
  have cb : Try.prog.cellsOf 32 = 1 := by kernel_rfl
  have ct : Try.prog.cellsOf 35 = 4 := by kernel_rfl
  obtain ⟨xs, m, _, _, hl, hlen, hf'⟩ := DataW.trod_struct Try.underlying35 hf
  obtain ⟨y0, y1, y2, y3, rfl⟩ := list4 hlen
  obtain ⟨v0, v1, v2, v3, rfl⟩ := list4 (hl.trans ct)
  have g0 := hf' 0 _ rfl
  have g1 := hf' 1 _ rfl
  have g2 := hf' 2 _ rfl
  have g3 := hf' 3 _ rfl
  simp [ci, cb] at g0 g1 g2 g3
  obtain ⟨k, e0, _, w0⟩ := DataW.trod_int Try.underlying3 g0
  obtain ⟨a, e1, _, w1⟩ := DataW.trod_int Try.underlying3 g1
  obtain ⟨n, e2, _, w2⟩ := DataW.trod_int Try.underlying3 g2
  obtain ⟨A, len, c, l, e3, i3⟩ := bytes_cs g3
  simp at e0 e1 e2 e3
  subst e0 e1 e2 e3
  obtain rfl := i3.len_
  exact ⟨k, a, n, A, c, l, rfl, i3.hol, i3.cap_, w0, w1, w2⟩
theorem do_cs {fuel : Nat} {cs : List Value} {x : DataW H × List MemPlace} (hf : DataW.trod enc Try.prog W base sp held fuel 37 cs = some x) : ∃ d : DoV, cs = dc d ∧ DoAt W d := by
  have ci : Try.prog.cellsOf 3 = 1 := by kernel_rfl
  have cb : Try.prog.cellsOf 32 = 1 := by kernel_rfl
  have cl : Try.prog.cellsOf 33 = 1 := by kernel_rfl
  have co : Try.prog.cellsOf 4 = 1 := by kernel_rfl
  have ct : Try.prog.cellsOf 35 = 4 := by kernel_rfl
  have cd : Try.prog.cellsOf 37 = 9 := by kernel_rfl
  obtain ⟨xs, m, _, _, hl, hlen, hf'⟩ := DataW.trod_struct Try.underlying37 hf
  obtain ⟨y0, y1, y2, y3, y4, y5, rfl⟩ := list6 hlen
  obtain ⟨v0, v1, v2, v3, v4, v5, v6, v7, v8, rfl⟩ := list9 (hl.trans cd)
  have g0 := hf' 0 _ rfl
  have g1 := hf' 1 _ rfl
  have g2 := hf' 2 _ rfl
  have g3 := hf' 3 _ rfl
  have g4 := hf' 4 _ rfl
  have g5 := hf' 5 _ rfl
  simp [ci, cb, cl, co, ct] at g0 g1 g2 g3 g4 g5
  obtain ⟨k, e0, _, w0⟩ := DataW.trod_int Try.underlying3 g0
  obtain ⟨a, e1, _, w1⟩ := DataW.trod_int Try.underlying3 g1
  obtain ⟨A, len, c, l, e2, i2⟩ := bytes_cs g2
  obtain ⟨odd, e3, _⟩ := DataW.trod_bool Try.underlying4 g3
  obtain ⟨KA, klen, kc, kl, e4, i4⟩ := bools_cs g4
  obtain ⟨tk, ta, tn, TA, tcap, tl, e5, t1, t2, t3, t4, t5⟩ := tamper_cs g5
  simp at e0 e1 e2 e3 e4 e5
  obtain ⟨q5, q6, q7, q8⟩ := e5
  subst e0 e1 e2 e3 e4 q5 q6 q7 q8
  obtain rfl := i2.len_
  obtain rfl := i4.len_
  exact ⟨⟨k, a, A, c, l, odd, KA, kc, kl, tk, ta, tn, TA, tcap, tl⟩, rfl, ⟨i2.hol, i4.hol, t1, i2.cap_, i4.cap_, t2, w0, w1, t3, t4, t5⟩⟩
theorem dos_in {a : Option Addr} {len cap : Nat} {d : DataW H} {p : List MemPlace} (h : DataW.Trod enc Try.prog W base sp held 22 (.slice a len cap) d p) : ∃ ds, InDo W a len cap ds := by
  have ce : Try.prog.cellsOf 37 = 9 := by kernel_rfl
  obtain ⟨fuel, hf⟩ := h
  rcases Deep.open_slice Try.underlying22 hf with ⟨hcs, _⟩ | ⟨a', len', cap', m, n, D, Pl, hcs, hb, hl, hm, hmm, _, hx⟩
  · simp [Value.cells] at hcs
    obtain ⟨rfl, rfl, rfl⟩ := hcs
    exact ⟨[], rfl, fun j d hd => by simp at hd, Nat.le_refl _, by decide⟩
  · simp [Value.cells] at hcs
    obtain ⟨rfl, rfl, rfl⟩ := hcs
    have hlm : len ≤ m := by rw [hmm]; split <;> omega
    have each : ∀ i, i < len → ∃ d : DoV, (∀ u v, (dc d)[u]? = some v → W.cell? (a'.add (i * 9 + u)) = some v) ∧ DoAt W d := by
      intro i hi
      obtain ⟨cs', h1, h2⟩ := hx i (by omega)
      rw [ce] at h1
      obtain ⟨_, hlen, hcell⟩ := World.cells?_some h1
      obtain ⟨d, rfl, hd⟩ := do_cs h2
      refine ⟨d, fun u v hu => ?_, hd⟩
      have hul := (List.getElem?_eq_some_iff.1 hu).1
      have h3 := hcell u (by rw [dc_len] at hul; exact hul)
      rw [Deep.add_add, hu] at h3
      exact h3
    obtain ⟨q, hq⟩ := @Deep.choose_lt DoV ⟨⟨0, 0, none, 0, [], false, none, 0, [], 0, 0, 0, none, 0, []⟩⟩ _ _ each
    refine ⟨(List.range len).map q, by simp, fun j d hd => ?_, hl, hm⟩
    rw [List.getElem?_map] at hd
    obtain ⟨j', hj', rfl⟩ := Option.map_eq_some_iff.1 hd
    obtain ⟨hj, rfl⟩ := List.getElem?_eq_some_iff.1 hj'
    simp only [List.length_range] at hj
    simp only [List.getElem_range]
    obtain ⟨k0, k1⟩ := hq j hj
    obtain ⟨b, off, spot⟩ := a'
    have hs : spot = none := by
      have h1 := (hq 0 (by omega)).1 0 _ rfl
      have e1 : (Addr.add ⟨b, off, spot⟩ (0 * 9 + 0)) = ⟨b, off, spot⟩ := by simp [Addr.add]
      rw [e1] at h1
      exact cell_spot h1
    subst hs
    refine ⟨⟨b, off, rfl, fun u v hu => ?_⟩, k1⟩
    have h2 := k0 u v hu
    rw [Addr.add_lit] at h2
    rw [Nat.add_assoc]
    exact h2
end
end Go.Proofs.Ytnajlineipapdaa
