/- What every statement's frame shares: the listed tables, a world that holds them; what lists of entries that came in read as. No conditions. -/
import Derived.Test.YtijffkklhgnknaaDoorCards
import Derived.Test.YtijffkklhgnknaaDoorTie
import Derived.Test.YtijffkklhgnknaaDoorRows
import Derived.Test.YtijffkklhgnknaaDoorMgMem
import Derived.Test.YtijffkklhgnknaaDoorMgRunes
import Derived.Test.YtijffkklhgnknaaDoorRf
import Derived.Test.YtijffkklhgnknaaDoorBin
import Derived.Carry
import Derived.SizedLaws
import Derived.Lib.SmallJoins
import Derived.Deep.SlicePairs
import Derived.ProofKit
import Derived.OpenShut
import Derived.ShutString
import Derived.Deep.DeepHandedRow
import Derived.Lib.LaidTab
import Derived.Lib.LaidU8
set_option linter.unusedVariables false
set_option maxRecDepth 20000
namespace Go.Proofs.YtijffkklhgnknaaDoor
open Go.ChangeShapes Go.WideShapes Go.ChangeAt Go.RowKit

theorem own : ownKnob Tryd.prog.godebug = none := by kernel_rfl
theorem laidOut : laidOutB Tryd.prog = true := by kernel_rfl
theorem u8x : U8Extra Tryd.prog Tryd.lays260_ren := { n3 := by kernel_rfl, n4 := by kernel_rfl, y3 := by kernel_rfl, y4 := by kernel_rfl, c5 := by kernel_rfl, c119 := by kernel_rfl, c138 := by kernel_rfl }
theorem first_eq : (Rows.laid_unicode_utf8_first : DataW Unit) = Lib.firstData := by kernel_rfl
theorem accept_eq : (Rows.laid_unicode_utf8_acceptRanges : DataW Unit) = Lib.acceptData := by kernel_rfl
/-- What the list says of the library's tables. -/
theorem tabs_of {W : World} (h : laidMetH Tryd.prog Rows.dirToldRow.laid W) : Tabs W := by
  rw [MakeChecks.laidMetH_plain _ _ _ (by kernel_rfl)] at h
  have h1 := Lib.laidMet.reads h (.head _)
  have h2 := Lib.laidMet.reads h (.tail _ (.head _))
  rw [accept_eq] at h1
  rw [first_eq] at h2
  exact utf8Tabs_of_reads Tryd.lays260 u8x h2 h1

/-- The cells of the two tables. -/
def firstCells : Array Value := ((List.range 256).map fun c => Value.int .u8 (Lib.firstT c)).toArray
def acceptCells : Array Value := ((List.range 16).flatMap fun i => [Value.int .u8 (Lib.accLo i), Value.int .u8 (Lib.accHi i)]).toArray
def recell (cs : Array Value) : Obj → Obj
  | .cells _ t frozen => .cells cs t frozen
  | o => o
/-- A world that holds them. -/
noncomputable def laidWorld (os : Os) : World :=
  { World.holding Tryd.prog os ⟨#[], #[], []⟩ with heap := ((World.holding Tryd.prog os ⟨#[], #[], []⟩).heap.modify 0 (recell firstCells)).modify 1 (recell acceptCells) }
theorem laid_met (os : Os) (args : Array Value) : laidMet Tryd.prog Rows.dirToldRow.laid ((laidWorld os).forCall (fun _ _ => 0) ⟨#[], args, []⟩).memory :=
  laidMet_of_run' 8 (by kernel_rfl) (by kernel_rfl)
section
variable {H : Type} {enc : TypeId × Value → H} {W : World} {sp : Nat → Bool} {held : Bool} {base : Nat}
/-- What a datum weighs is within the reach. -/
def Sized {H : Type} (t : TypeId) (d : DataW H) : Prop := ∀ n ∈ d.weights Tryd.prog t, n ≤ reachBytes
theorem all_mem {e : TypeId} : ∀ {ds : List (DataW H)} {d : DataW H}, d ∈ ds → ∀ n ∈ d.weights Tryd.prog e, n ∈ DataW.weightsAll Tryd.prog e ds
  | d0 :: ds, d, h, n, hn => by
    simp only [DataW.weightsAll, List.mem_append]
    rcases List.mem_cons.1 h with rfl | h
    · exact .inl hn
    · exact .inr (all_mem h n hn)
theorem slice_sz {t e : TypeId} {fuel : Nat} {cs : List Value} {x : DataW H × List MemPlace} (ht : Tryd.prog.underlying t = some (.slice e)) (hb : 1 ≤ Tryd.prog.bytesOf e) (h : DataW.trod enc Tryd.prog W base sp held fuel t cs = some x) (hw : Sized t x.1) {a : Option Addr} {len cap : Nat} (hc : cs = [.slice a len cap]) : len ≤ reachBytes := by
  rcases Deep.open_slice ht h with ⟨rfl, _⟩ | ⟨a', len', cap', m, n, D, Pl, rfl, _, _, _, _, rfl, _⟩
  · simp at hc
    omega
  · simp at hc
    obtain ⟨_, rfl, _⟩ := hc
    have := hw ((((List.range len').map D).length + ((List.range (m - len')).map fun j => D (len' + j)).length) * Tryd.prog.bytesOf e) (by simp [DataW.weights, ht])
    simp at this
    have h2 : len' * 1 ≤ (len' + (m - len')) * Tryd.prog.bytesOf e := Nat.mul_le_mul (by omega) hb
    omega
theorem struct_sz {t : TypeId} {fs : Array Field} (ht : Tryd.prog.underlying t = some (.struct fs)) {xs : List (DataW H × List MemPlace)} (hw : Sized t (DataW.agg (xs.map (·.1)))) {j : Nat} {f : Field} {x : DataW H × List MemPlace} (hf : fs[j]? = some f) (hx : xs[j]? = some x) : Sized f.type x.1 := fun n hn => hw n (by
  simp only [DataW.weights, ht]
  exact DataW.weights_mem_each (j := j) (t := f.type) (d := x.1) (by rw [List.getElem?_map, Array.getElem?_toList, hf]; rfl) (by rw [List.getElem?_map, hx]; rfl) n hn)
theorem list_cs {α : Type} (dflt : α) {f : α → List Value} {k : Nat} {Q : α → Prop} {t e : TypeId} (ht : Tryd.prog.underlying t = some (.slice e)) (hby : 1 ≤ Tryd.prog.bytesOf e) (ce : Tryd.prog.cellsOf e = k) (hk : 0 < k) (hfl : ∀ x, (f x).length = k)
    (hel : ∀ (fuel : Nat) (cs : List Value) (x : DataW H × List MemPlace), DataW.trod enc Tryd.prog W base sp held fuel e cs = some x → Sized e x.1 → ∃ d, cs = f d ∧ Q d)
    {fuel : Nat} {cs : List Value} {x : DataW H × List MemPlace} (hf : DataW.trod enc Tryd.prog W base sp held fuel t cs = some x) (hw : Sized t x.1) :
    ∃ (A : Option Addr) (len cap : Nat) (xs : List α), cs = [.slice A len cap] ∧ len = xs.length ∧ Lies f k W A xs ∧ (∀ x ∈ xs, Q x) ∧ len ≤ reachBytes ∧ len ≤ cap := by
  have hlen0 := fun (a : Option Addr) (len cap : Nat) (hc : cs = [.slice a len cap]) => slice_sz ht hby hf hw hc
  rcases Deep.open_slice ht hf with ⟨hcs, _⟩ | ⟨a, len, cap, m, n, D, Pl, hcs, hb, hl, hm, hmm, hxx, hx⟩
  · exact ⟨none, 0, 0, [], hcs, rfl, .inl rfl, by simp, Nat.zero_le _, Nat.le_refl _⟩
  · have hlm : len ≤ m := by rw [hmm]; split <;> omega
    have each : ∀ i, i < len → ∃ d : α, (∀ u v, (f d)[u]? = some v → W.cell? (a.add (i * k + u)) = some v) ∧ Q d := by
      intro i hi
      obtain ⟨cs', h1, h2⟩ := hx i (by omega)
      rw [ce] at h1
      obtain ⟨_, hlen, hcell⟩ := World.cells?_some h1
      have hsz : Sized e (D i) := fun n hn => hw n (by
        rw [hxx]
        simp only [DataW.weights, ht]
        refine List.mem_cons_of_mem _ (List.mem_append.2 (.inl (all_mem (d := D i) ?_ n hn)))
        exact List.mem_map.2 ⟨i, List.mem_range.2 hi, rfl⟩)
      obtain ⟨d, rfl, hd⟩ := hel _ _ _ h2 hsz
      refine ⟨d, fun u v hu => ?_, hd⟩
      have hul := (List.getElem?_eq_some_iff.1 hu).1
      have h3 := hcell u (by rw [hfl] at hul; exact hul)
      rw [Deep.add_add, hu] at h3
      exact h3
    obtain ⟨q, hq⟩ := @Deep.choose_lt α ⟨dflt⟩ _ _ each
    refine ⟨some a, len, cap, (List.range len).map q, hcs, by simp, ?_, fun x hx => ?_, hlen0 _ _ _ hcs, hl⟩
    · by_cases h0 : len = 0
      · subst h0
        exact .inl rfl
      · obtain ⟨b, off, spot⟩ := a
        have hs : spot = none := by
          have h1 := (hq 0 (by omega)).1 0 _ (List.getElem?_eq_getElem (by rw [hfl]; exact hk))
          have e1 : (Addr.add ⟨b, off, spot⟩ (0 * k + 0)) = ⟨b, off, spot⟩ := by simp [Addr.add]
          rw [e1] at h1
          exact cell_spot h1
        subst hs
        refine .inr ⟨b, off, rfl, fun j x hx i u hu => ?_⟩
        rw [List.getElem?_map] at hx
        obtain ⟨j', hj', rfl⟩ := Option.map_eq_some_iff.1 hx
        obtain ⟨hj, rfl⟩ := List.getElem?_eq_some_iff.1 hj'
        simp only [List.length_range] at hj
        simp only [List.getElem_range] at hu
        have h2 := (hq j hj).1 i u hu
        rw [Addr.add_lit, ← Nat.add_assoc] at h2
        exact h2
    · obtain ⟨j, hj, rfl⟩ := List.mem_map.1 hx
      exact (hq j (List.mem_range.1 hj)).2
/-- What an entry that came in keeps to. -/
def EntOk (e : Ent) : Prop := e.nm.size ≤ reachBytes ∧ e.ser < 18446744073709551616 ∧ e.ck < 4294967296 ∧ (-9223372036854775808 ≤ e.ino ∧ e.ino < 9223372036854775808) ∧ (-9223372036854775808 ≤ e.kind ∧ e.kind < 9223372036854775808)
theorem list4 {α : Type} : ∀ {l : List α}, l.length = 4 → ∃ a b c d, l = [a, b, c, d]
  | [a, b, c, d], _ => ⟨a, b, c, d, rfl⟩
theorem list2 {α : Type} : ∀ {l : List α}, l.length = 2 → ∃ a b, l = [a, b]
  | [a, b], _ => ⟨a, b, rfl⟩
theorem list5 {α : Type} : ∀ {l : List α}, l.length = 5 → ∃ a b c d e, l = [a, b, c, d, e]
  | [a, b, c, d, e], _ => ⟨a, b, c, d, e, rfl⟩
theorem ref_cs {fuel : Nat} {cs : List Value} {x : DataW H × List MemPlace} (hf : DataW.trod enc Tryd.prog W base sp held fuel 40 cs = some x) : ∃ (i : Int) (s : Nat), cs = [.int .i64 i, .int .u64 (s : Int)] ∧ s < 18446744073709551616 ∧ -9223372036854775808 ≤ i ∧ i < 9223372036854775808 := by
  have ci : Tryd.prog.cellsOf 3 = 1 := by kernel_rfl
  have cu : Tryd.prog.cellsOf 38 = 1 := by kernel_rfl
  have cd : Tryd.prog.cellsOf 40 = 2 := by kernel_rfl
  obtain ⟨xs, m, _, hx, hl, hlen, hf'⟩ := DataW.trod_struct Tryd.underlying40 hf
  obtain ⟨y0, y1, rfl⟩ := list2 hlen
  obtain ⟨v0, v1, rfl⟩ := list2 (hl.trans cd)
  have g0 := hf' 0 _ rfl
  have g1 := hf' 1 _ rfl
  simp [ci, cu] at g0 g1
  obtain ⟨i, e0, _, w0⟩ := DataW.trod_int Tryd.underlying3 g0
  obtain ⟨s, e1, _, w1⟩ := DataW.trod_int Tryd.underlying38 g1
  have b0 := bounds_i64 w0
  have b1 := bounds_u64 w1
  simp at e0 e1
  subst e0 e1
  exact ⟨i, s.toNat, by rw [Int.toNat_of_nonneg (by omega)], by omega, by omega, by omega⟩
theorem ent_cs {fuel : Nat} {cs : List Value} {x : DataW H × List MemPlace} (hf : DataW.trod enc Tryd.prog W base sp held fuel 42 cs = some x) (hw : Sized 42 x.1) : ∃ e : Ent, cs = ecs e ∧ EntOk e := by
  have ci : Tryd.prog.cellsOf 3 = 1 := by kernel_rfl
  have cs1 : Tryd.prog.cellsOf 9 = 1 := by kernel_rfl
  have c32 : Tryd.prog.cellsOf 35 = 1 := by kernel_rfl
  have cr : Tryd.prog.cellsOf 40 = 2 := by kernel_rfl
  have cd : Tryd.prog.cellsOf 42 = 5 := by kernel_rfl
  obtain ⟨xs, m, _, hx, hl, hlen, hf'⟩ := DataW.trod_struct Tryd.underlying42 hf
  rw [hx] at hw
  obtain ⟨y0, y1, y2, y3, rfl⟩ := list4 hlen
  obtain ⟨v0, v1, v2, v3, v4, rfl⟩ := list5 (hl.trans cd)
  have g0 := hf' 0 _ rfl
  have g1 := hf' 1 _ rfl
  have g2 := hf' 2 _ rfl
  have g3 := hf' 3 _ rfl
  have s0 := struct_sz Tryd.underlying42 (j := 0) hw rfl rfl
  simp [ci, cs1, c32, cr] at g0 g1 g2 g3
  obtain ⟨nm, e0, hz, hm⟩ := DataW.trod_string Tryd.underlying9 g0
  obtain ⟨i, s, e1, h1, h2, h3⟩ := ref_cs g1
  obtain ⟨k, e2, _, w2⟩ := DataW.trod_int Tryd.underlying3 g2
  obtain ⟨c, e3, _, w3⟩ := DataW.trod_int Tryd.underlying35 g3
  have b2 := bounds_i64 w2
  have b3 := bounds_u32 w3
  have hnm : nm.size ≤ reachBytes := by
    have h5 := s0 nm.data.toList.length (by rw [hz]; simp [DataW.weights])
    rwa [Array.length_toList] at h5
  simp at e0 e1 e2 e3
  subst e0 e2 e3
  obtain ⟨rfl, rfl⟩ := e1
  have hk : -9223372036854775808 ≤ k ∧ k < 9223372036854775808 := ⟨by omega, by omega⟩
  have hc : c.toNat < 4294967296 := by omega
  refine ⟨⟨nm, i, s, k, c.toNat⟩, ?_, hnm, h1, hc, ⟨h2, h3⟩, hk⟩
  unfold ecs
  rw [Int.toNat_of_nonneg (by omega)]
/-- A list of entries that came in. -/
structure InE (W : World) (A : Option Addr) (n c : Nat) (X : List Ent) : Prop where
  len_ : X.length = n
  lies : Lies ecs 5 W A X
  cap_ : n ≤ c
  reach : n ≤ reachBytes
  ok : ∀ e ∈ X, EntOk e
theorem ents_in {A : Option Addr} {n c : Nat} {d : DataW H} {p : List MemPlace} (h : DataW.Trod enc Tryd.prog W base sp held 22 (.slice A n c) d p) (hw : Sized 22 d) : ∃ X, InE W A n c X := by
  obtain ⟨fuel, hf⟩ := h
  obtain ⟨A', n', c', X, hc, hn, hl, hok, hr, hcap⟩ := list_cs ent0 Tryd.underlying22 (of_decide_eq_true (by kernel_rfl)) (by kernel_rfl) (by decide) ecs_len (fun fuel cs x hf hw => ent_cs hf hw) hf hw
  simp [Value.cells] at hc
  obtain ⟨rfl, rfl, rfl⟩ := hc
  exact ⟨X, hn.symm, hl, hcap, hr, hok⟩
theorem ent_in {r : Reach} {b0 : Nat} {v : Value} {d : DataW H} {p : List MemPlace} (hv : Value.okWide Tryd.prog W r b0 42 v) (h : DataW.Trod enc Tryd.prog W base sp held 42 v d p) (hw : Sized 42 d) : ∃ e : Ent, v = .agg (ecs e).toArray ∧ EntOk e := by
  obtain ⟨cs, rfl, hsz⟩ := okWide_struct Tryd.underlying42 hv
  obtain ⟨fuel, hf⟩ := h
  obtain ⟨e, he, hok⟩ := ent_cs hf hw
  refine ⟨e, ?_, hok⟩
  have e' : cs.toList = ecs e := by simpa [Value.cells] using he
  rw [← Array.toArray_toList (xs := cs), e']
end
theorem EntOk.wide {X : List Ent} (h : ∀ e ∈ X, EntOk e) : Wide X := fun e he => ⟨(h e he).2.1, (h e he).2.2.1⟩
end Go.Proofs.YtijffkklhgnknaaDoor
