/- What bytes that came in read as. No conditions. -/
import Derived.Test.YtnajlineipapdaaApp
import Derived.ProofKit
import Derived.OpenShut
import Derived.Lib.LaidU8
import Derived.Lib.SmallJoins
import Derived.Deep.SlicePairs
import Derived.BigQuiet
import Derived.Test.YtnajlineipapdaaRows
import Derived.Carry
import Derived.SizedLaws
import Derived.Deep.QuietTactic
set_option linter.unusedVariables false
namespace Go.Proofs.Ytnajlineipapdaa
open Go.ChangeShapes Go.WideShapes Go.ChangeAt Go.RowKit

/-- What a list of bytes that came in reads as. -/
structure InB (w : World) (a : Option Addr) (len cap : Nat) (l : List UInt8) : Prop where
  len_ : len = l.length
  hol : Hol w a l
  cap_ : len ≤ cap
  max_ : cap ≤ maxLen
theorem u8_of {z : Int} (h : (Lit.int .u8 z).wf = true) : z = ((UInt8.ofNat z.toNat).toNat : Int) := by
  have hb := bounds_u8 h
  have e : (UInt8.ofNat z.toNat).toNat = z.toNat % 256 := UInt8.toNat_ofNat' ..
  rw [e]
  omega
theorem u32_of {z : Int} (h : (Lit.int .u32 z).wf = true) : ∃ n : Nat, z = (n : Int) ∧ n < 4294967296 := by
  simp [Lit.wf, IntKind.min, IntKind.max, IntKind.bits, IntKind.signed] at h
  exact ⟨z.toNat, by omega, by omega⟩
section
variable {H : Type} {enc : TypeId × Value → H} {W : World} {sp : Nat → Bool} {held : Bool} {base : Nat}
theorem bytes_cs {fuel : Nat} {cs : List Value} {x : DataW H × List MemPlace} (hf : DataW.trod enc Try.prog W base sp held fuel 32 cs = some x) : ∃ a len cap l, cs = [.slice a len cap] ∧ InB W a len cap l := by
  rcases open_ints Try.underlying32 Try.underlying5 (by kernel_rfl) hf with ⟨hcs, _⟩ | ⟨x, len, c, zs, hcs, _, hl, hm, hz, _, hcell, hwz⟩
  · exact ⟨none, 0, 0, [], hcs, rfl, .inl rfl, Nat.le_refl _, by decide⟩
  · have hzl : len ≤ zs.length := by rw [hz]; split <;> omega
    refine ⟨some x, len, c, (zs.take len).map fun z => UInt8.ofNat z.toNat, hcs, by simp; omega, ?_, hl, hm⟩
    by_cases h0 : len = 0
    · subst h0
      exact .inl rfl
    · have h1 := hcell 0 (by omega)
      obtain ⟨b, off, spot⟩ := x
      have hs : spot = none := by
        have : (Addr.add ⟨b, off, spot⟩ 0) = ⟨b, off, spot⟩ := by simp [Addr.add]
        rw [this] at h1
        exact cell_spot h1
      subst hs
      refine .inr ⟨b, off, rfl, fun j y hy => ?_⟩
      rw [List.getElem?_map] at hy
      obtain ⟨z, hz1, rfl⟩ := Option.map_eq_some_iff.1 hy
      rw [List.getElem?_take] at hz1
      split at hz1
      · have hj := (List.getElem?_eq_some_iff.1 hz1).1
        have h2 := hcell j hj
        rw [Addr.add_lit] at h2
        rw [h2]
        have hg : zs.getD j 0 = z := by simp [List.getD, hz1]
        rw [hg]
        have := u8_of (hwz z (List.mem_of_getElem? hz1))
        rw [← this]
      · cases hz1
theorem bytes_in {a : Option Addr} {len cap : Nat} {d : DataW H} {p : List MemPlace} (h : DataW.Trod enc Try.prog W base sp held 32 (.slice a len cap) d p) : ∃ l, InB W a len cap l := by
  obtain ⟨fuel, hf⟩ := h
  obtain ⟨a', len', cap', l, hcs, hI⟩ := bytes_cs hf
  simp [Value.cells] at hcs
  obtain ⟨rfl, rfl, rfl⟩ := hcs
  exact ⟨l, hI⟩
/-- A row's value, as an argument. -/
theorem okWide_row {P : Program} {w : World} {r : Reach} {b : Nat} {t e : TypeId} {n : Nat} {v : Value} (ht : P.underlying t = some (.array n e)) (h : Value.okWide P w r b t v) : ∃ cs, v = .agg cs ∧ cs.size = P.cellsOf t := by
  simp only [Value.okWide, ht] at h
  obtain ⟨cs, h1, h2, _⟩ := h
  exact ⟨cs, h1, h2⟩
/-- Bytes in a row, as cells. -/
theorem row_cs {t : TypeId} {n fuel : Nat} {cs : List Value} {x : DataW H × List MemPlace} (ht : Try.prog.underlying t = some (.array n 5)) (hct : Try.prog.cellsOf t = n)
    (hf : DataW.trod enc Try.prog W base sp held fuel t cs = some x) : ∃ f : Nat → UInt8, cs = brr n f := by
  have hce : Try.prog.cellsOf 5 = 1 := by kernel_rfl
  obtain ⟨xs, m, _, _, hl, hlen, hg⟩ := DataW.trod_array ht hf
  refine ⟨fun i => match cs[i]? with | some (.int _ z) => UInt8.ofNat z.toNat | _ => 0, ?_⟩
  apply List.ext_getElem?
  intro i
  by_cases hi : i < n
  · have h1 := hg i hi
    rw [hce, Nat.mul_one] at h1
    have hx : i < xs.length := by omega
    rw [List.getElem?_eq_getElem hx] at h1
    obtain ⟨z, hz, _, hwf⟩ := DataW.trod_int Try.underlying5 h1
    have hc : cs[i]? = some (.int .u8 z) := by
      have := congrArg (·[0]?) hz
      simp only [List.getElem?_take, List.getElem?_drop] at this
      simpa using this
    rw [brr_get _ hi]
    simp only [hc]
    have hb := bounds_u8 hwf
    have : z = bv (UInt8.ofNat z.toNat) := by
      unfold bv
      rw [u8_toNat]
      omega
    exact congrArg (fun y => some (Value.int .u8 y)) this
  · rw [brr_none _ (by omega), List.getElem?_eq_none (by rw [hl, hct]; omega)]
end
theorem u8_nat {z : Int} (h : (Lit.int .u8 z).wf = true) : ∃ n : Nat, z = (n : Int) ∧ n < 256 := by
  have hb := bounds_u8 h
  exact ⟨z.toNat, by omega, by omega⟩
end Go.Proofs.Ytnajlineipapdaa
/- What bytes, Booleans and steps that came in read as, for the fifth stage's laws. No conditions. -/
set_option linter.unusedVariables false
namespace Go.Proofs.Ytnajlineipapdaa
open Go.ChangeShapes Go.WideShapes Go.ChangeAt Go.RowKit

/-- The address holds these cells, a cell an element. -/
def HolV (w : World) (A : Option Addr) (vs : List Value) : Prop :=
  vs = [] ∨ ∃ g off, A = some ⟨g, off, none⟩ ∧ ∀ j x, vs[j]? = some x → w.cell? ⟨g, off + j, none⟩ = some x
theorem HolV.at_ {w : World} {A : Option Addr} {vs : List Value} (h : HolV w A vs) {j : Nat} {x : Value} (hj : vs[j]? = some x) : ∃ g off, A = some ⟨g, off, none⟩ ∧ g < w.heap.size ∧ w.cell? ⟨g, off + j, none⟩ = some x := by
  rcases h with rfl | ⟨g, off, rfl, hc⟩
  · simp at hj
  · exact ⟨g, off, rfl, World.block_lt_of_cell? w _ (hc j x hj), hc j x hj⟩
theorem HolV.below {w w' : World} {A : Option Addr} {vs : List Value} (h : HolV w A vs) (hb : Below w.heap.size w w') : HolV w' A vs := by
  rcases h with rfl | ⟨g, off, rfl, hc⟩
  · exact .inl rfl
  · exact .inr ⟨g, off, rfl, fun j x hx => (hb.cell (p := ⟨g, off + j, none⟩) (World.block_lt_of_cell? w _ (hc j x hx))).trans (hc j x hx)⟩
/-- Booleans that came in. -/
structure InK (w : World) (a : Option Addr) (len cap : Nat) (l : List Bool) : Prop where
  len_ : len = l.length
  hol : HolV w a (l.map Value.bool)
  cap_ : len ≤ cap
  max_ : cap ≤ maxLen
/-- A step, as it lies. -/
structure DoV where
  k : Int
  a : Int
  A : Option Addr
  c : Nat
  l : List UInt8
  odd : Bool
  KA : Option Addr
  kc : Nat
  kl : List Bool
  tk : Int
  ta : Int
  tn : Int
  TA : Option Addr
  tcap : Nat
  tl : List UInt8
/-- Its nine cells. -/
def dc (d : DoV) : List Value := [.int .i64 d.k, .int .i64 d.a, .slice d.A d.l.length d.c, .bool d.odd, .slice d.KA d.kl.length d.kc, .int .i64 d.tk, .int .i64 d.ta, .int .i64 d.tn, .slice d.TA d.tl.length d.tcap]
theorem dc_len (d : DoV) : (dc d).length = 9 := rfl
/-- What of it lies elsewhere. -/
structure DoAt (w : World) (d : DoV) : Prop where
  b : Hol w d.A d.l
  k : HolV w d.KA (d.kl.map Value.bool)
  t : Hol w d.TA d.tl
  bc : d.l.length ≤ d.c
  kc : d.kl.length ≤ d.kc
  tc : d.tl.length ≤ d.tcap
  w1 : (Lit.int .i64 d.k).wf = true
  w2 : (Lit.int .i64 d.a).wf = true
  w3 : (Lit.int .i64 d.tk).wf = true
  w4 : (Lit.int .i64 d.ta).wf = true
  w5 : (Lit.int .i64 d.tn).wf = true
theorem DoAt.below {w w' : World} {d : DoV} (h : DoAt w d) (hb : Below w.heap.size w w') : DoAt w' d := ⟨h.b.below hb, h.k.below hb, h.t.below hb, h.bc, h.kc, h.tc, h.w1, h.w2, h.w3, h.w4, h.w5⟩
/-- Steps that came in. -/
structure InDo (w : World) (A : Option Addr) (len cap : Nat) (ds : List DoV) : Prop where
  len_ : len = ds.length
  at_ : ∀ (j : Nat) (d : DoV), ds[j]? = some d → (∃ g o, A = some ⟨g, o, none⟩ ∧ ∀ i u, (dc d)[i]? = some u → w.cell? ⟨g, o + j * 9 + i, none⟩ = some u) ∧ DoAt w d
  cap_ : len ≤ cap
  max_ : cap ≤ maxLen
theorem InDo.below {w w' : World} {A : Option Addr} {n c : Nat} {ds : List DoV} (h : InDo w A n c ds) (hb : Below w.heap.size w w') : InDo w' A n c ds :=
  ⟨h.len_, fun j d hd => by
    obtain ⟨⟨g, o, rfl, h1⟩, h2⟩ := h.at_ j d hd
    exact ⟨⟨g, o, rfl, fun i u hu => (hb.cell (p := ⟨g, o + j * 9 + i, none⟩) (World.block_lt_of_cell? w _ (h1 i u hu))).trans (h1 i u hu)⟩, h2.below hb⟩, h.cap_, h.max_⟩
theorem list6 {α : Type} : ∀ {l : List α}, l.length = 6 → ∃ a b c d e f, l = [a, b, c, d, e, f]
  | [a, b, c, d, e, f], _ => ⟨a, b, c, d, e, f, rfl⟩
theorem list4 {α : Type} : ∀ {l : List α}, l.length = 4 → ∃ a b c d, l = [a, b, c, d]
  | [a, b, c, d], _ => ⟨a, b, c, d, rfl⟩
theorem list9 {α : Type} : ∀ {l : List α}, l.length = 9 → ∃ a b c d e f g h i, l = [a, b, c, d, e, f, g, h, i]
  | [a, b, c, d, e, f, g, h, i], _ => ⟨a, b, c, d, e, f, g, h, i, rfl⟩
section
variable {H : Type} {enc : TypeId × Value → H} {W : World} {sp : Nat → Bool} {held : Bool} {base : Nat}
theorem bools_cs {fuel : Nat} {cs : List Value} {x : DataW H × List MemPlace} (hf : DataW.trod enc Try.prog W base sp held fuel 33 cs = some x) : ∃ a len cap l, cs = [.slice a len cap] ∧ InK W a len cap l := by
  have ce : Try.prog.cellsOf 4 = 1 := by kernel_rfl
  rcases Deep.open_slice Try.underlying33 hf with ⟨hcs, _⟩ | ⟨a, len, cap, m, n, D, Pl, hcs, hb, hl, hm, hmm, _, hx⟩
  · exact ⟨none, 0, 0, [], hcs, rfl, .inl rfl, Nat.le_refl _, by decide⟩
  · have hlm : len ≤ m := by rw [hmm]; split <;> omega
    have each : ∀ i, i < len → ∃ b : Bool, W.cell? (a.add i) = some (.bool b) := by
      intro i hi
      obtain ⟨cs', h1, h2⟩ := hx i (by omega)
      rw [ce, Nat.mul_one] at h1
      obtain ⟨_, hlen, hcell⟩ := World.cells?_some h1
      obtain ⟨b, rfl, _⟩ := DataW.trod_bool Try.underlying4 h2
      have h3 := hcell 0 (by omega)
      rw [Deep.add_add] at h3
      exact ⟨b, by simpa using h3⟩
    obtain ⟨q, hq⟩ := Deep.choose_lt each
    refine ⟨some a, len, cap, (List.range len).map q, hcs, by simp, ?_, hl, hm⟩
    by_cases h0 : len = 0
    · subst h0
      exact .inl rfl
    · obtain ⟨b, off, spot⟩ := a
      have hs : spot = none := by
        have h1 := hq 0 (by omega)
        have e1 : (Addr.add ⟨b, off, spot⟩ 0) = ⟨b, off, spot⟩ := by simp [Addr.add]
        rw [e1] at h1
        exact cell_spot h1
      subst hs
      refine .inr ⟨b, off, rfl, fun j x hx => ?_⟩
      rw [List.getElem?_map, List.getElem?_map] at hx
      obtain ⟨y, hy1, rfl⟩ := Option.map_eq_some_iff.1 hx
      obtain ⟨j', hj', rfl⟩ := Option.map_eq_some_iff.1 hy1
      obtain ⟨hj, rfl⟩ := List.getElem?_eq_some_iff.1 hj'
      simp only [List.length_range] at hj
      have h2 := hq j hj
      rw [Addr.add_lit] at h2
      simpa using h2
theorem tamper_cs {fuel : Nat} {cs : List Value} {x : DataW H × List MemPlace} (hf : DataW.trod enc Try.prog W base sp held fuel 35 cs = some x) :
    ∃ (k a n : Int) (A : Option Addr) (c : Nat) (l : List UInt8), cs = [.int .i64 k, .int .i64 a, .int .i64 n, .slice A l.length c] ∧ Hol W A l ∧ l.length ≤ c ∧ (Lit.int .i64 k).wf = true ∧ (Lit.int .i64 a).wf = true ∧ (Lit.int .i64 n).wf = true := by
  have ci : Try.prog.cellsOf 3 = 1 := by kernel_rfl
  have cb : Try.prog.cellsOf 32 = 1 := by kernel_rfl
  have ct : Try.prog.cellsOf 35 = 4 := by kernel_rfl
  obtain ⟨xs, m, _, _, hl, hlen, hf'⟩ := DataW.trod_struct Try.underlying35 hf
  obtain ⟨y0, y1, y2, y3, rfl⟩ := list4 hlen
  obtain ⟨v0, v1, v2, v3, rfl⟩ := list4 (hl.trans ct)
  have g0 := hf' 0 _ rfl
  have g1 := hf' 1 _ rfl
  have g2 := hf' 2 _ rfl
  have g3 := hf' 3 _ rfl
  simp [ci, cb] at g0 g1 g2 g3
  obtain ⟨k, e0, _, w0⟩ := DataW.trod_int Try.underlying3 g0
  obtain ⟨a, e1, _, w1⟩ := DataW.trod_int Try.underlying3 g1
  obtain ⟨n, e2, _, w2⟩ := DataW.trod_int Try.underlying3 g2
  obtain ⟨A, len, c, l, e3, i3⟩ := bytes_cs g3
  simp at e0 e1 e2 e3
  subst e0 e1 e2 e3
  obtain rfl := i3.len_
  exact ⟨k, a, n, A, c, l, rfl, i3.hol, i3.cap_, w0, w1, w2⟩
theorem do_cs {fuel : Nat} {cs : List Value} {x : DataW H × List MemPlace} (hf : DataW.trod enc Try.prog W base sp held fuel 37 cs = some x) : ∃ d : DoV, cs = dc d ∧ DoAt W d := by
  have ci : Try.prog.cellsOf 3 = 1 := by kernel_rfl
  have cb : Try.prog.cellsOf 32 = 1 := by kernel_rfl
  have cl : Try.prog.cellsOf 33 = 1 := by kernel_rfl
  have co : Try.prog.cellsOf 4 = 1 := by kernel_rfl
  have ct : Try.prog.cellsOf 35 = 4 := by kernel_rfl
  have cd : Try.prog.cellsOf 37 = 9 := by kernel_rfl
  obtain ⟨xs, m, _, _, hl, hlen, hf'⟩ := DataW.trod_struct Try.underlying37 hf
  obtain ⟨y0, y1, y2, y3, y4, y5, rfl⟩ := list6 hlen
  obtain ⟨v0, v1, v2, v3, v4, v5, v6, v7, v8, rfl⟩ := list9 (hl.trans cd)
  have g0 := hf' 0 _ rfl
  have g1 := hf' 1 _ rfl
  have g2 := hf' 2 _ rfl
  have g3 := hf' 3 _ rfl
  have g4 := hf' 4 _ rfl
  have g5 := hf' 5 _ rfl
  simp [ci, cb, cl, co, ct] at g0 g1 g2 g3 g4 g5
  obtain ⟨k, e0, _, w0⟩ := DataW.trod_int Try.underlying3 g0
  obtain ⟨a, e1, _, w1⟩ := DataW.trod_int Try.underlying3 g1
  obtain ⟨A, len, c, l, e2, i2⟩ := bytes_cs g2
  obtain ⟨odd, e3, _⟩ := DataW.trod_bool Try.underlying4 g3
  obtain ⟨KA, klen, kc, kl, e4, i4⟩ := bools_cs g4
  obtain ⟨tk, ta, tn, TA, tcap, tl, e5, t1, t2, t3, t4, t5⟩ := tamper_cs g5
  simp at e0 e1 e2 e3 e4 e5
  obtain ⟨q5, q6, q7, q8⟩ := e5
  subst e0 e1 e2 e3 e4 q5 q6 q7 q8
  obtain rfl := i2.len_
  obtain rfl := i4.len_
  exact ⟨⟨k, a, A, c, l, odd, KA, kc, kl, tk, ta, tn, TA, tcap, tl⟩, rfl, ⟨i2.hol, i4.hol, t1, i2.cap_, i4.cap_, t2, w0, w1, t3, t4, t5⟩⟩
theorem dos_in {a : Option Addr} {len cap : Nat} {d : DataW H} {p : List MemPlace} (h : DataW.Trod enc Try.prog W base sp held 22 (.slice a len cap) d p) : ∃ ds, InDo W a len cap ds := by
  have ce : Try.prog.cellsOf 37 = 9 := by kernel_rfl
  obtain ⟨fuel, hf⟩ := h
  rcases Deep.open_slice Try.underlying22 hf with ⟨hcs, _⟩ | ⟨a', len', cap', m, n, D, Pl, hcs, hb, hl, hm, hmm, _, hx⟩
  · simp [Value.cells] at hcs
    obtain ⟨rfl, rfl, rfl⟩ := hcs
    exact ⟨[], rfl, fun j d hd => by simp at hd, Nat.le_refl _, by decide⟩
  · simp [Value.cells] at hcs
    obtain ⟨rfl, rfl, rfl⟩ := hcs
    have hlm : len ≤ m := by rw [hmm]; split <;> omega
    have each : ∀ i, i < len → ∃ d : DoV, (∀ u v, (dc d)[u]? = some v → W.cell? (a'.add (i * 9 + u)) = some v) ∧ DoAt W d := by
      intro i hi
      obtain ⟨cs', h1, h2⟩ := hx i (by omega)
      rw [ce] at h1
      obtain ⟨_, hlen, hcell⟩ := World.cells?_some h1
      obtain ⟨d, rfl, hd⟩ := do_cs h2
      refine ⟨d, fun u v hu => ?_, hd⟩
      have hul := (List.getElem?_eq_some_iff.1 hu).1
      have h3 := hcell u (by rw [dc_len] at hul; exact hul)
      rw [Deep.add_add, hu] at h3
      exact h3
    obtain ⟨q, hq⟩ := @Deep.choose_lt DoV ⟨⟨0, 0, none, 0, [], false, none, 0, [], 0, 0, 0, none, 0, []⟩⟩ _ _ each
    refine ⟨(List.range len).map q, by simp, fun j d hd => ?_, hl, hm⟩
    rw [List.getElem?_map] at hd
    obtain ⟨j', hj', rfl⟩ := Option.map_eq_some_iff.1 hd
    obtain ⟨hj, rfl⟩ := List.getElem?_eq_some_iff.1 hj'
    simp only [List.length_range] at hj
    simp only [List.getElem_range]
    obtain ⟨k0, k1⟩ := hq j hj
    obtain ⟨b, off, spot⟩ := a'
    have hs : spot = none := by
      have h1 := (hq 0 (by omega)).1 0 _ rfl
      have e1 : (Addr.add ⟨b, off, spot⟩ (0 * 9 + 0)) = ⟨b, off, spot⟩ := by simp [Addr.add]
      rw [e1] at h1
      exact cell_spot h1
    subst hs
    refine ⟨⟨b, off, rfl, fun u v hu => ?_⟩, k1⟩
    have h2 := k0 u v hu
    rw [Addr.add_lit] at h2
    rw [Nat.add_assoc]
    exact h2
end
end Go.Proofs.Ytnajlineipapdaa
/- What the fifth stage's statements share: that the program lays its types as it should; a Tamper by value. No conditions. -/
set_option linter.unusedVariables false
namespace Go.Proofs.Ytnajlineipapdaa
open Go.ChangeShapes Go.WideShapes Go.ChangeAt Go.RowKit
theorem own : ownKnob Try.prog.godebug = none := by kernel_rfl
theorem laidOut : laidOutB Try.prog = true := by kernel_rfl
theorem kept_args {H : Type} {enc : TypeId × Value → H} {W : World} {b : Nat} {sp : Nat → Bool} {hd : Bool} {t : TypeId} {v : Value} {d : DataW H} {p : List MemPlace} (h : DataW.Trod enc Try.prog W b sp hd t v d p) : ∀ x ∈ p, x.block < W.heap.size := by
  obtain ⟨m, hm⟩ := h
  exact DataW.trod_lt m _ _ _ hm
set_option maxRecDepth 20000 in
theorem okWide_struct {P : Program} {w : World} {r : Reach} {b : Nat} {t : TypeId} {fs : Array Field} {v : Value} (ht : P.underlying t = some (.struct fs)) (h : Value.okWide P w r b t v) : ∃ cs, v = .agg cs ∧ cs.size = P.cellsOf t := by
  unfold Value.okWide at h
  rw [ht] at h
  cases v <;> simp_all
set_option maxRecDepth 20000 in
theorem tamper_in {H : Type} {enc : TypeId × Value → H} {W : World} {sp : Nat → Bool} {held : Bool} {base : Nat} {r : Reach} {b0 : Nat} {v : Value} {d : DataW H} {p : List MemPlace} (hv : Value.okWide Try.prog W r b0 35 v) (h : DataW.Trod enc Try.prog W base sp held 35 v d p) :
    ∃ (k a n : Int) (A : Option Addr) (c : Nat) (l : List UInt8), v = .agg #[.int .i64 k, .int .i64 a, .int .i64 n, .slice A l.length c] ∧ Hol W A l := by
  obtain ⟨cs, rfl, hsz⟩ := okWide_struct Try.underlying35 hv
  obtain ⟨fuel, hf⟩ := h
  obtain ⟨k, a, n, A, c, l, e, hA, _⟩ := tamper_cs hf
  refine ⟨k, a, n, A, c, l, ?_, hA⟩
  have e' : cs.toList = [.int .i64 k, .int .i64 a, .int .i64 n, .slice A l.length c] := by simpa [Value.cells] using e
  rw [← Array.toArray_toList (xs := cs), e']
end Go.Proofs.Ytnajlineipapdaa
/- Whether a script is small enough, as the fifth stage's laws ask. Conditions: the steps lie there, their lists of at most 2^47. -/
set_option linter.unusedVariables false
namespace Go.Proofs.Ytnajlineipapdaa
open Go.RowKit

/-- The first steps' lists are short. -/
def FewD (ds : List DoV) : Prop := ∀ (j : Nat) (d : DoV), j < 120 → ds[j]? = some d → d.l.length ≤ 131072 ∧ d.tl.length ≤ 131072 ∧ d.kl.length ≤ 131072
def ShortD (ds : List DoV) : Prop := ∀ (j : Nat) (d : DoV), ds[j]? = some d → d.l.length ≤ 140737488355328 ∧ d.tl.length ≤ 140737488355328 ∧ d.kl.length ≤ 140737488355328
def FewPost (w : World) (ds : List DoV) (e : Ending) (w' : World) : Prop := ∃ b, e = .returned (.bool b) ∧ Below w.heap.size w w' ∧ (b = true → FewD ds)
set_option maxRecDepth 20000 in
set_option maxHeartbeats 2000000 in
theorem fewd_any (A : Option Addr) (c : Nat) (ds : List DoV) (hlen : ds.length ≤ 9223372036854775807) (hS : ShortD ds) (w : World) (hD : InDo w A ds.length c ds) :
    Calls Try.prog 9 #[.slice A ds.length c] w (FewPost w ds) := by
  have HD := Lib.hid hD
  have HS := Lib.hid hS
  clear hD hS hlen
  go_enter Try.func9, Try.ntmps9
  go_wp2
  go_loopw [3, 4] (fun y x wr => ∃ k m : Nat, k ≤ ds.length ∧ k ≤ 120 ∧ m ≤ 131072 ∧ x = .int .i64 (k : Int) ∧ y = .int .i64 (m : Int) ∧ Hid (∀ (j : Nat) (d : DoV), j < k → ds[j]? = some d → d.l.length ≤ 131072 ∧ d.tl.length ≤ 131072 ∧ d.kl.length ≤ 131072) ∧ Below w.heap.size w wr) (fun _ x _ => 120 - (intOf x).toNat)
  case atStart => exact ⟨0, 0, by omega, by omega, by omega, rfl, rfl, Lib.hid (fun j d hj => by omega), Below.refl _ _⟩
  case round =>
    obtain ⟨k, m, hk, hk2, hm, rfl, rfl, hno, hB⟩ := hrel
    have hkw : IntKind.i64.wrap ((k : Int) + 1) = (k : Int) + 1 := by rw [IntKind.wrap_i64]; omega
    by_cases h1 : k < ds.length
    · by_cases h2 : k < 120
      · have h1i : (k : Int) < (ds.length : Int) := by omega
        have h2i : (k : Int) < 120 := by omega
        obtain ⟨d, hd⟩ : ∃ d, ds[k]? = some d := ⟨_, List.getElem?_eq_getElem h1⟩
        obtain ⟨⟨g, o, rfl, hc⟩, _⟩ := (HD.out.below hB).at_ k d hd
        obtain ⟨s1, s2, s3⟩ := HS.out k d hd
        have c2 := hc 2 _ rfl
        have c4 := hc 4 _ rfl
        have c8 : wr.cell? ⟨g, o + k * 9 + 5 + 3, none⟩ = some (.slice d.TA d.tl.length d.tcap) := hc 8 _ rfl
        have HDK := Lib.hid hd
        have HBR := Lib.hid hB
        have HM := Lib.hid hm
        obtain ⟨n1, hn1⟩ : ∃ n1, n1 = m + d.l.length := ⟨_, rfl⟩
        obtain ⟨n2, hn2⟩ : ∃ n2, n2 = n1 + d.tl.length := ⟨_, rfl⟩
        obtain ⟨n3, hn3⟩ : ∃ n3, n3 = n2 + d.kl.length := ⟨_, rfl⟩
        have e1 : IntKind.i64.wrap ((m : Int) + (d.l.length : Int)) = (n1 : Int) := by rw [IntKind.wrap_i64]; omega
        have e2 : IntKind.i64.wrap ((n1 : Int) + (d.tl.length : Int)) = (n2 : Int) := by rw [IntKind.wrap_i64]; omega
        have e3 : IntKind.i64.wrap ((n2 : Int) + (d.kl.length : Int)) = (n3 : Int) := by rw [IntKind.wrap_i64]; omega
        have HN1 := Lib.hid hn1
        have HN2 := Lib.hid hn2
        have HN3 := Lib.hid hn3
        have HNO := hno
        clear hd hc s1 s2 s3 hB hm hn1 hn2 hn3 hno
        by_cases hbig : (131072 : Int) < (n3 : Int)
        · go_wp2
          go_quiet (fail)
          go_wp2
          go_ret
          exact ⟨false, rfl, below_drewN HBR.out _, fun h => by cases h⟩
        · have HBG := Lib.hid (p := n3 ≤ 131072) (by omega)
          go_wp2
          go_quiet (fail)
          go_wp2
          go_roundw
          case rel => exact ⟨k + 1, n3, by omega, by omega, HBG.out, by go_num, rfl, Lib.hid (fun j q hj hq => by
            rcases Nat.lt_or_ge j k with h | h
            · exact HNO.out j q h hq
            · obtain rfl : j = k := by omega
              have := HDK.out
              rw [hq] at this
              injection this with this
              subst this
              have a1 := HN1.out
              have a2 := HN2.out
              have a3 := HN3.out
              have a4 := HBG.out
              omega), below_drewN HBR.out _⟩
          case measure => simp [intOf]; omega
      · have h2i : ¬ (k : Int) < 120 := by omega
        have h1i : (k : Int) < (ds.length : Int) := by omega
        go_wp2
        go_ret
        exact ⟨true, rfl, hB, fun _ j d hj hd => hno.out j d (by omega) hd⟩
    · have h1i : ¬ (k : Int) < (ds.length : Int) := by omega
      go_wp2
      go_ret
      exact ⟨true, rfl, hB, fun _ j d hj hd => hno.out j d (by have := (List.getElem?_eq_some_iff.1 hd).1; omega) hd⟩
end Go.Proofs.Ytnajlineipapdaa
/- Steps that came in, with their lists' lengths: within the reach. No conditions. -/
set_option linter.unusedVariables false
namespace Go.Proofs.Ytnajlineipapdaa
open Go.ChangeShapes Go.WideShapes Go.ChangeAt Go.RowKit

/-- What a datum weighs is within the reach. -/
def Sized {H : Type} (t : TypeId) (d : DataW H) : Prop := ∀ n ∈ d.weights Try.prog t, n ≤ reachBytes
section
variable {H : Type} {enc : TypeId × Value → H} {W : World} {sp : Nat → Bool} {held : Bool} {base : Nat}
theorem all_mem {e : TypeId} : ∀ {ds : List (DataW H)} {d : DataW H}, d ∈ ds → ∀ n ∈ d.weights Try.prog e, n ∈ DataW.weightsAll Try.prog e ds
  | d0 :: ds, d, h, n, hn => by
    simp only [DataW.weightsAll, List.mem_append]
    rcases List.mem_cons.1 h with rfl | h
    · exact .inl hn
    · exact .inr (all_mem h n hn)
theorem slice_sz {t e : TypeId} {fuel : Nat} {cs : List Value} {x : DataW H × List MemPlace} (ht : Try.prog.underlying t = some (.slice e)) (hb : 1 ≤ Try.prog.bytesOf e) (h : DataW.trod enc Try.prog W base sp held fuel t cs = some x) (hw : Sized t x.1) {a : Option Addr} {len cap : Nat} (hc : cs = [.slice a len cap]) : len ≤ reachBytes := by
  rcases Deep.open_slice ht h with ⟨rfl, _⟩ | ⟨a', len', cap', m, n, D, Pl, rfl, _, _, _, _, rfl, _⟩
  · simp at hc
    omega
  · simp at hc
    obtain ⟨_, rfl, _⟩ := hc
    have := hw ((((List.range len').map D).length + ((List.range (m - len')).map fun j => D (len' + j)).length) * Try.prog.bytesOf e) (by simp [DataW.weights, ht])
    simp at this
    have h2 : len' * 1 ≤ (len' + (m - len')) * Try.prog.bytesOf e := Nat.mul_le_mul (by omega) hb
    omega
theorem struct_sz {t : TypeId} {fs : Array Field} (ht : Try.prog.underlying t = some (.struct fs)) {xs : List (DataW H × List MemPlace)} (hw : Sized t (DataW.agg (xs.map (·.1)))) {j : Nat} {f : Field} {x : DataW H × List MemPlace} (hf : fs[j]? = some f) (hx : xs[j]? = some x) : Sized f.type x.1 := fun n hn => hw n (by
  simp only [DataW.weights, ht]
  exact DataW.weights_mem_each (j := j) (t := f.type) (d := x.1) (by rw [List.getElem?_map, Array.getElem?_toList, hf]; rfl) (by rw [List.getElem?_map, hx]; rfl) n hn)
set_option maxRecDepth 20000 in
theorem do_sz {fuel : Nat} {cs : List Value} {x : DataW H × List MemPlace} (h : DataW.trod enc Try.prog W base sp held fuel 37 cs = some x) (hw : Sized 37 x.1) {d : DoV} (hc : cs = dc d) : d.l.length ≤ reachBytes ∧ d.tl.length ≤ reachBytes ∧ d.kl.length ≤ reachBytes := by
  subst hc
  have ci : Try.prog.cellsOf 3 = 1 := by kernel_rfl
  have cb : Try.prog.cellsOf 32 = 1 := by kernel_rfl
  have cl : Try.prog.cellsOf 33 = 1 := by kernel_rfl
  have ct : Try.prog.cellsOf 35 = 4 := by kernel_rfl
  obtain ⟨xs, m, _, hx, hl, hlen, hf'⟩ := DataW.trod_struct Try.underlying37 h
  obtain ⟨y0, y1, y2, y3, y4, y5, rfl⟩ := list6 hlen
  have g2 := hf' 2 _ rfl
  have g4 := hf' 4 _ rfl
  have g5 := hf' 5 _ rfl
  rw [hx] at hw
  have s2 := struct_sz Try.underlying37 (j := 2) hw rfl rfl
  have s4 := struct_sz Try.underlying37 (j := 4) hw rfl rfl
  have s5 := struct_sz Try.underlying37 (j := 5) hw rfl rfl
  simp [cb, cl, ct, dc] at g2 g4 g5
  obtain ⟨ys, m', _, hy, _, hlen', hf5⟩ := DataW.trod_struct Try.underlying35 g5
  obtain ⟨z0, z1, z2, z3, rfl⟩ := list4 hlen'
  have g53 := hf5 3 _ rfl
  rw [hy] at s5
  have s53 := struct_sz Try.underlying35 (j := 3) s5 rfl rfl
  simp [cb] at g53
  exact ⟨slice_sz Try.underlying32 (of_decide_eq_true (by kernel_rfl)) g2 s2 rfl, slice_sz Try.underlying32 (of_decide_eq_true (by kernel_rfl)) g53 s53 rfl, slice_sz Try.underlying33 (of_decide_eq_true (by kernel_rfl)) g4 s4 rfl⟩
theorem dos_in_sz {a : Option Addr} {len cap : Nat} {d : DataW H} {p : List MemPlace} (h : DataW.Trod enc Try.prog W base sp held 22 (.slice a len cap) d p) (hw : Sized 22 d) : ∃ ds, InDo W a len cap ds ∧ ShortD ds := by
  have ce : Try.prog.cellsOf 37 = 9 := by kernel_rfl
  obtain ⟨fuel, hf⟩ := h
  rcases Deep.open_slice Try.underlying22 hf with ⟨hcs, _⟩ | ⟨a', len', cap', m, n, D, Pl, hcs, hb, hl, hm, hmm, hxx, hx⟩
  · simp [Value.cells] at hcs
    obtain ⟨rfl, rfl, rfl⟩ := hcs
    exact ⟨[], ⟨rfl, fun j d hd => by simp at hd, Nat.le_refl _, by decide⟩, fun j d hd => by simp at hd⟩
  · simp [Value.cells] at hcs
    obtain ⟨rfl, rfl, rfl⟩ := hcs
    simp only [Prod.mk.injEq] at hxx
    obtain ⟨rfl, _⟩ := hxx
    have hlm : len ≤ m := by rw [hmm]; split <;> omega
    have each : ∀ i, i < len → ∃ d : DoV, (∀ u v, (dc d)[u]? = some v → W.cell? (a'.add (i * 9 + u)) = some v) ∧ DoAt W d ∧ (d.l.length ≤ reachBytes ∧ d.tl.length ≤ reachBytes ∧ d.kl.length ≤ reachBytes) := by
      intro i hi
      obtain ⟨cs', h1, h2⟩ := hx i (by omega)
      rw [ce] at h1
      obtain ⟨_, hlen, hcell⟩ := World.cells?_some h1
      obtain ⟨d, e0, hd⟩ := do_cs h2
      have hsz : Sized 37 (D i) := fun n hn => hw n (by
        simp only [DataW.weights, Try.underlying22]
        refine List.mem_cons_of_mem _ (List.mem_append.2 (.inl (all_mem (d := D i) ?_ n hn)))
        exact List.mem_map.2 ⟨i, List.mem_range.2 hi, rfl⟩)
      have hs := do_sz h2 hsz e0
      subst e0
      refine ⟨d, fun u v hu => ?_, hd, hs⟩
      have hul := (List.getElem?_eq_some_iff.1 hu).1
      have h3 := hcell u (by rw [dc_len] at hul; exact hul)
      rw [Deep.add_add, hu] at h3
      exact h3
    obtain ⟨q, hq⟩ := @Deep.choose_lt DoV ⟨⟨0, 0, none, 0, [], false, none, 0, [], 0, 0, 0, none, 0, []⟩⟩ _ _ each
    refine ⟨(List.range len).map q, ⟨by simp, fun j d hd => ?_, hl, hm⟩, fun j d hd => ?_⟩
    · rw [List.getElem?_map] at hd
      obtain ⟨j', hj', rfl⟩ := Option.map_eq_some_iff.1 hd
      obtain ⟨hj, rfl⟩ := List.getElem?_eq_some_iff.1 hj'
      simp only [List.length_range] at hj
      simp only [List.getElem_range]
      obtain ⟨k0, k1, _⟩ := hq j hj
      obtain ⟨b, off, spot⟩ := a'
      have hs : spot = none := by
        have h1 := (hq 0 (by omega)).1 0 _ rfl
        have e1 : (Addr.add ⟨b, off, spot⟩ (0 * 9 + 0)) = ⟨b, off, spot⟩ := by simp [Addr.add]
        rw [e1] at h1
        exact cell_spot h1
      subst hs
      refine ⟨⟨b, off, rfl, fun u v hu => ?_⟩, k1⟩
      have h2 := k0 u v hu
      rw [Addr.add_lit] at h2
      rw [Nat.add_assoc]
      exact h2
    · rw [List.getElem?_map] at hd
      obtain ⟨j', hj', rfl⟩ := Option.map_eq_some_iff.1 hd
      obtain ⟨hj, rfl⟩ := List.getElem?_eq_some_iff.1 hj'
      simp only [List.length_range] at hj
      simp only [List.getElem_range]
      obtain ⟨_, _, k2⟩ := hq j hj
      unfold reachBytes at k2
      omega
theorem bools_in {a : Option Addr} {len cap : Nat} {d : DataW H} {p : List MemPlace} (h : DataW.Trod enc Try.prog W base sp held 33 (.slice a len cap) d p) : ∃ l, InK W a len cap l := by
  obtain ⟨fuel, hf⟩ := h
  obtain ⟨a', len', cap', l, e, hk⟩ := bools_cs hf
  simp [Value.cells] at e
  obtain ⟨rfl, rfl, rfl⟩ := e
  exact ⟨l, hk⟩
end
end Go.Proofs.Ytnajlineipapdaa
