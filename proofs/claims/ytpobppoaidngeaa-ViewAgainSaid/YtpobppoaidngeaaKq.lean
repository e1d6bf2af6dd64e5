/- What a source and a script that came in read as; what the twelfth stage's statements share. No conditions. -/
import Derived.Test.YtpobppoaidngeaaKn
import Derived.Test.YtpobppoaidngeaaBin
import Derived.Test.YtpobppoaidngeaaRows
import Derived.Carry
import Derived.ProofKit
import Derived.OpenShut
import Derived.SizedLaws
import Derived.Lib.SmallJoins
import Derived.Deep.SlicePairs
set_option linter.unusedVariables false
set_option maxRecDepth 20000
namespace Go.Proofs.Ytpobppoaidngeaa
open Go.ChangeShapes Go.WideShapes Go.ChangeAt Go.RowKit
theorem own : ownKnob Try.prog.godebug = none := by kernel_rfl
theorem laidOut : laidOutB Try.prog = true := by kernel_rfl
theorem kept_args {H : Type} {enc : TypeId × Value → H} {W : World} {b : Nat} {sp : Nat → Bool} {hd : Bool} {t : TypeId} {v : Value} {d : DataW H} {p : List MemPlace} (h : DataW.Trod enc Try.prog W b sp hd t v d p) : ∀ x ∈ p, x.block < W.heap.size := by
  obtain ⟨m, hm⟩ := h
  exact DataW.trod_lt m _ _ _ hm
section
variable {H : Type} {enc : TypeId × Value → H} {W : World} {sp : Nat → Bool} {held : Bool} {base : Nat}
/-- What a datum weighs is within the reach. -/
def Sized {H : Type} (t : TypeId) (d : DataW H) : Prop := ∀ n ∈ d.weights Try.prog t, n ≤ reachBytes
theorem all_mem {e : TypeId} : ∀ {ds : List (DataW H)} {d : DataW H}, d ∈ ds → ∀ n ∈ d.weights Try.prog e, n ∈ DataW.weightsAll Try.prog e ds
  | d0 :: ds, d, h, n, hn => by
    simp only [DataW.weightsAll, List.mem_append]
    rcases List.mem_cons.1 h with rfl | h
    · exact .inl hn
    · exact .inr (all_mem h n hn)
theorem slice_sz {t e : TypeId} {fuel : Nat} {cs : List Value} {x : DataW H × List MemPlace} (ht : Try.prog.underlying t = some (.slice e)) (hb : 1 ≤ Try.prog.bytesOf e) (h : DataW.trod enc Try.prog W base sp held fuel t cs = some x) (hw : Sized t x.1) {a : Option Addr} {len cap : Nat} (hc : cs = [.slice a len cap]) : len ≤ reachBytes := by
  rcases Deep.open_slice ht h with ⟨rfl, _⟩ | ⟨a', len', cap', m, n, D, Pl, rfl, _, _, _, _, rfl, _⟩
  · simp at hc
    omega
  · simp at hc
    obtain ⟨_, rfl, _⟩ := hc
    have := hw ((((List.range len').map D).length + ((List.range (m - len')).map fun j => D (len' + j)).length) * Try.prog.bytesOf e) (by simp [DataW.weights, ht])
    simp at this
    have h2 : len' * 1 ≤ (len' + (m - len')) * Try.prog.bytesOf e := Nat.mul_le_mul (by omega) hb
    omega
theorem struct_sz {t : TypeId} {fs : Array Field} (ht : Try.prog.underlying t = some (.struct fs)) {xs : List (DataW H × List MemPlace)} (hw : Sized t (DataW.agg (xs.map (·.1)))) {j : Nat} {f : Field} {x : DataW H × List MemPlace} (hf : fs[j]? = some f) (hx : xs[j]? = some x) : Sized f.type x.1 := fun n hn => hw n (by
  simp only [DataW.weights, ht]
  exact DataW.weights_mem_each (j := j) (t := f.type) (d := x.1) (by rw [List.getElem?_map, Array.getElem?_toList, hf]; rfl) (by rw [List.getElem?_map, hx]; rfl) n hn)
theorem list_cs {α : Type} (dflt : α) {f : α → List Value} {k : Nat} {Q : α → Prop} {t e : TypeId} (ht : Try.prog.underlying t = some (.slice e)) (hby : 1 ≤ Try.prog.bytesOf e) (ce : Try.prog.cellsOf e = k) (hk : 0 < k) (hfl : ∀ x, (f x).length = k)
    (hel : ∀ (fuel : Nat) (cs : List Value) (x : DataW H × List MemPlace), DataW.trod enc Try.prog W base sp held fuel e cs = some x → Sized e x.1 → ∃ d, cs = f d ∧ Q d)
    {fuel : Nat} {cs : List Value} {x : DataW H × List MemPlace} (hf : DataW.trod enc Try.prog W base sp held fuel t cs = some x) (hw : Sized t x.1) :
    ∃ (A : Option Addr) (len cap : Nat) (xs : List α), cs = [.slice A len cap] ∧ len = xs.length ∧ Lies f k W A xs ∧ (∀ x ∈ xs, Q x) ∧ len ≤ reachBytes := by
  have hlen0 := fun (a : Option Addr) (len cap : Nat) (hc : cs = [.slice a len cap]) => slice_sz ht hby hf hw hc
  rcases Deep.open_slice ht hf with ⟨hcs, _⟩ | ⟨a, len, cap, m, n, D, Pl, hcs, hb, hl, hm, hmm, hxx, hx⟩
  · exact ⟨none, 0, 0, [], hcs, rfl, .inl rfl, by simp, Nat.zero_le _⟩
  · have hlm : len ≤ m := by rw [hmm]; split <;> omega
    have each : ∀ i, i < len → ∃ d : α, (∀ u v, (f d)[u]? = some v → W.cell? (a.add (i * k + u)) = some v) ∧ Q d := by
      intro i hi
      obtain ⟨cs', h1, h2⟩ := hx i (by omega)
      rw [ce] at h1
      obtain ⟨_, hlen, hcell⟩ := World.cells?_some h1
      have hsz : Sized e (D i) := fun n hn => hw n (by
        rw [hxx]
        simp only [DataW.weights, ht]
        refine List.mem_cons_of_mem _ (List.mem_append.2 (.inl (all_mem (d := D i) ?_ n hn)))
        exact List.mem_map.2 ⟨i, List.mem_range.2 hi, rfl⟩)
      obtain ⟨d, rfl, hd⟩ := hel _ _ _ h2 hsz
      refine ⟨d, fun u v hu => ?_, hd⟩
      have hul := (List.getElem?_eq_some_iff.1 hu).1
      have h3 := hcell u (by rw [hfl] at hul; exact hul)
      rw [Deep.add_add, hu] at h3
      exact h3
    obtain ⟨q, hq⟩ := @Deep.choose_lt α ⟨dflt⟩ _ _ each
    refine ⟨some a, len, cap, (List.range len).map q, hcs, by simp, ?_, fun x hx => ?_, hlen0 _ _ _ hcs⟩
    · by_cases h0 : len = 0
      · subst h0
        exact .inl rfl
      · obtain ⟨b, off, spot⟩ := a
        have hs : spot = none := by
          have h1 := (hq 0 (by omega)).1 0 _ (List.getElem?_eq_getElem (by rw [hfl]; exact hk))
          have e1 : (Addr.add ⟨b, off, spot⟩ (0 * k + 0)) = ⟨b, off, spot⟩ := by simp [Addr.add]
          rw [e1] at h1
          exact cell_spot h1
        subst hs
        refine .inr ⟨b, off, rfl, fun j x hx i u hu => ?_⟩
        rw [List.getElem?_map] at hx
        obtain ⟨j', hj', rfl⟩ := Option.map_eq_some_iff.1 hx
        obtain ⟨hj, rfl⟩ := List.getElem?_eq_some_iff.1 hj'
        simp only [List.length_range] at hj
        simp only [List.getElem_range] at hu
        have h2 := (hq j hj).1 i u hu
        rw [Addr.add_lit, ← Nat.add_assoc] at h2
        exact h2
    · obtain ⟨j, hj, rfl⟩ := List.mem_map.1 hx
      exact (hq j (List.mem_range.1 hj)).2
theorem bv_cs {fuel : Nat} {cs : List Value} {x : DataW H × List MemPlace} (hf : DataW.trod enc Try.prog W base sp held fuel 44 cs = some x) (hw : Sized 44 x.1) : ∃ y : BV, cs = sc y ∧ Hol W y.A y.l ∧ y.l.length ≤ reachBytes := by
  have hlen0 := fun (a : Option Addr) (len cap : Nat) (hc : cs = [.slice a len cap]) => slice_sz Try.underlying44 (of_decide_eq_true (by kernel_rfl)) hf hw hc
  obtain ⟨a, len, cap, l, rfl, hI⟩ := bytes_cs hf
  obtain rfl := hI.len_
  exact ⟨⟨a, cap, l⟩, rfl, hI.hol, hlen0 _ _ _ rfl⟩
theorem bool_cs {fuel : Nat} {cs : List Value} {x : DataW H × List MemPlace} (hf : DataW.trod enc Try.prog W base sp held fuel 4 cs = some x) : ∃ y : Bool, cs = bcs y ∧ True := by
  obtain ⟨b, rfl, _⟩ := DataW.trod_bool Try.underlying4 hf
  exact ⟨b, rfl, trivial⟩
theorem list3 {α : Type} : ∀ {l : List α}, l.length = 3 → ∃ a b c, l = [a, b, c]
  | [a, b, c], _ => ⟨a, b, c, rfl⟩
theorem list2 {α : Type} : ∀ {l : List α}, l.length = 2 → ∃ a b, l = [a, b]
  | [a, b], _ => ⟨a, b, rfl⟩
theorem do_cs {fuel : Nat} {cs : List Value} {x : DataW H × List MemPlace} (hf : DataW.trod enc Try.prog W base sp held fuel 46 cs = some x) (hw : Sized 46 x.1) : ∃ d : DV, cs = dcs d ∧ Hol W d.blk.A d.blk.l ∧ d.blk.l.length ≤ reachBytes ∧ I64 d.slot := by
  have ci : Try.prog.cellsOf 3 = 1 := by kernel_rfl
  have cb : Try.prog.cellsOf 44 = 1 := by kernel_rfl
  have co : Try.prog.cellsOf 4 = 1 := by kernel_rfl
  have cd : Try.prog.cellsOf 46 = 3 := by kernel_rfl
  obtain ⟨xs, m, _, hx, hl, hlen, hf'⟩ := DataW.trod_struct Try.underlying46 hf
  rw [hx] at hw
  obtain ⟨y0, y1, y2, rfl⟩ := list3 hlen
  obtain ⟨v0, v1, v2, rfl⟩ := list3 (hl.trans cd)
  have g0 := hf' 0 _ rfl
  have g1 := hf' 1 _ rfl
  have g2 := hf' 2 _ rfl
  have s2 := struct_sz Try.underlying46 (j := 2) hw rfl rfl
  simp [ci, cb, co] at g0 g1 g2
  obtain ⟨p, e0, _⟩ := DataW.trod_bool Try.underlying4 g0
  obtain ⟨a, e1, _, w1⟩ := DataW.trod_int Try.underlying3 g1
  obtain ⟨y, e2, h1, h2⟩ := bv_cs g2 s2
  simp [sc] at e0 e1 e2
  subst e0 e1 e2
  exact ⟨⟨p, a, y⟩, rfl, h1, h2, wf_i64 w1⟩
/-- A source's two slices that came in. -/
structure SrcI (W : World) (A : Option Addr) (n c : Nat) (B : Option Addr) (m d : Nat) (Bs : List BV) (Ks : List Bool) : Prop where
  nB : n = Bs.length
  nK : m = Ks.length
  lB : Lies sc 1 W A Bs
  lK : Lies bcs 1 W B Ks
  hol : ∀ x ∈ Bs, Hol W x.A x.l ∧ x.l.length ≤ reachBytes
  mB : Bs.length ≤ reachBytes
  mK : Ks.length ≤ reachBytes
theorem src_cs {fuel : Nat} {cs : List Value} {x : DataW H × List MemPlace} (hf : DataW.trod enc Try.prog W base sp held fuel 25 cs = some x) (hw : Sized 25 x.1) : ∃ A n c B m d Bs Ks, cs = [.slice A n c, .slice B m d] ∧ SrcI W A n c B m d Bs Ks := by
  have cb : Try.prog.cellsOf 22 = 1 := by kernel_rfl
  have co : Try.prog.cellsOf 23 = 1 := by kernel_rfl
  have cd : Try.prog.cellsOf 25 = 2 := by kernel_rfl
  obtain ⟨xs, m, _, hx, hl, hlen, hf'⟩ := DataW.trod_struct Try.underlying25 hf
  rw [hx] at hw
  obtain ⟨y0, y1, rfl⟩ := list2 hlen
  obtain ⟨v0, v1, rfl⟩ := list2 (hl.trans cd)
  have g0 := hf' 0 _ rfl
  have g1 := hf' 1 _ rfl
  have s0 := struct_sz Try.underlying25 (j := 0) hw rfl rfl
  have s1 := struct_sz Try.underlying25 (j := 1) hw rfl rfl
  simp [cb, co] at g0 g1
  obtain ⟨A, n, c, Bs, e0, h1, h2, h3, h4⟩ := list_cs (⟨none, 0, []⟩ : BV) Try.underlying22 (of_decide_eq_true (by kernel_rfl)) (k := 1) (by kernel_rfl) (by decide) sc_len (fun _ _ _ h hw => bv_cs h hw) g0 s0
  obtain ⟨B, n', c', Ks, e1, k1, k2, k3, k4⟩ := list_cs true Try.underlying23 (of_decide_eq_true (by kernel_rfl)) (k := 1) (by kernel_rfl) (by decide) bcs_len (fun _ _ _ h _ => bool_cs h) g1 s1
  simp at e0 e1
  subst e0 e1
  exact ⟨A, n, c, B, n', c', Bs, Ks, rfl, h1, k1, h2, k2, h3, by omega, by omega⟩
theorem src_in {r : Reach} {b0 : Nat} {v : Value} {d : DataW H} {p : List MemPlace} (hv : Value.okWide Try.prog W r b0 25 v) (h : DataW.Trod enc Try.prog W base sp held 25 v d p) (hw : Sized 25 d) : ∃ A n c B m d' Bs Ks, v = .agg #[.slice A n c, .slice B m d'] ∧ SrcI W A n c B m d' Bs Ks := by
  obtain ⟨cs, rfl, hsz⟩ := okWide_struct Try.underlying25 hv
  obtain ⟨fuel, hf⟩ := h
  obtain ⟨A, n, c, B, m, d', Bs, Ks, e, hI⟩ := src_cs hf hw
  refine ⟨A, n, c, B, m, d', Bs, Ks, ?_, hI⟩
  have e' : cs.toList = [.slice A n c, .slice B m d'] := by simpa [Value.cells] using e
  rw [← Array.toArray_toList (xs := cs), e']
theorem dos_in {a : Option Addr} {len cap : Nat} {d : DataW H} {p : List MemPlace} (h : DataW.Trod enc Try.prog W base sp held 26 (.slice a len cap) d p) (hw : Sized 26 d) : ∃ ds, len = ds.length ∧ ScR W a ds := by
  obtain ⟨fuel, hf⟩ := h
  obtain ⟨A, n, c, ds, e, h1, h2, h3, h4⟩ := list_cs (⟨false, 0, ⟨none, 0, []⟩⟩ : DV) Try.underlying26 (of_decide_eq_true (by kernel_rfl)) (k := 3) (by kernel_rfl) (by decide) dcs_len (fun _ _ _ h hw => do_cs h hw) hf hw
  simp [Value.cells] at e
  obtain ⟨rfl, rfl, rfl⟩ := e
  have hm : reachBytes ≤ 1000000000000000 := by decide
  exact ⟨ds, h1, h2, fun d hd => (h3 d hd).1, fun d hd => (h3 d hd).2.2, fun d hd => Nat.le_trans (h3 d hd).2.1 hm, by omega⟩
/-- A source that came in, laid into a variable. -/
theorem SrcI.made {W w' : World} {A B : Option Addr} {n c m d gs : Nat} {Bs : List BV} {Ks : List Bool} (h : SrcI W A n c B m d Bs Ks) (hr : Row w' gs 25 [.slice A n c, .slice B m d]) (hb : Below W.heap.size W w') : SrcR w' gs Bs Ks := by
  have hm : reachBytes ≤ 1000000000000000 := by decide
  obtain rfl := h.nB
  obtain rfl := h.nK
  exact ⟨hr.lt, ⟨A, c, (hr.cell 0).trans rfl, h.lB.below hb⟩, ⟨B, d, (hr.cell 1).trans rfl, h.lK.below hb⟩, fun x hx => (h.hol x hx).1.below hb, fun x hx => Nat.le_trans (h.hol x hx).2 hm, Nat.le_trans h.mB hm, Nat.le_trans h.mK hm⟩
end
end Go.Proofs.Ytpobppoaidngeaa
