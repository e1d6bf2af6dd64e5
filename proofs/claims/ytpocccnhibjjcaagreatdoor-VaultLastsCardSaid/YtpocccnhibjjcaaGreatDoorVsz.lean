/- Steps that came in, with their lists' lengths: within the reach. No conditions. -/
import Derived.Test.YtpocccnhibjjcaaGreatDoorVdo
set_option linter.unusedVariables false
set_option maxRecDepth 20000
namespace Go.Proofs.YtpocccnhibjjcaaGreatDoor.V9
open Go.ChangeShapes Go.WideShapes Go.ChangeAt Go.RowKit

def Sized {H : Type} (t : TypeId) (d : DataW H) : Prop := ∀ n ∈ d.weights Tryz.prog t, n ≤ reachBytes
section
variable {H : Type} {enc : TypeId × Value → H} {W : World} {sp : Nat → Bool} {held : Bool} {base : Nat}
theorem all_mem {e : TypeId} : ∀ {ds : List (DataW H)} {d : DataW H}, d ∈ ds → ∀ n ∈ d.weights Tryz.prog e, n ∈ DataW.weightsAll Tryz.prog e ds
  | d0 :: ds, d, h, n, hn => by
    simp only [DataW.weightsAll, List.mem_append]
    rcases List.mem_cons.1 h with rfl | h
    · exact .inl hn
    · exact .inr (all_mem h n hn)
theorem slice_sz {t e : TypeId} {fuel : Nat} {cs : List Value} {x : DataW H × List MemPlace} (ht : Tryz.prog.underlying t = some (.slice e)) (hb : 1 ≤ Tryz.prog.bytesOf e) (h : DataW.trod enc Tryz.prog W base sp held fuel t cs = some x) (hw : Sized t x.1) {a : Option Addr} {len cap : Nat} (hc : cs = [.slice a len cap]) : len ≤ reachBytes := by
  rcases Deep.open_slice ht h with ⟨rfl, _⟩ | ⟨a', len', cap', m, n, D, Pl, rfl, _, _, _, _, rfl, _⟩
  · simp at hc
    omega
  · simp at hc
    obtain ⟨_, rfl, _⟩ := hc
    have := hw ((((List.range len').map D).length + ((List.range (m - len')).map fun j => D (len' + j)).length) * Tryz.prog.bytesOf e) (by simp [DataW.weights, ht])
    simp at this
    have h2 : len' * 1 ≤ (len' + (m - len')) * Tryz.prog.bytesOf e := Nat.mul_le_mul (by omega) hb
    omega
theorem struct_sz {t : TypeId} {fs : Array Field} (ht : Tryz.prog.underlying t = some (.struct fs)) {xs : List (DataW H × List MemPlace)} (hw : Sized t (DataW.agg (xs.map (·.1)))) {j : Nat} {f : Field} {x : DataW H × List MemPlace} (hf : fs[j]? = some f) (hx : xs[j]? = some x) : Sized f.type x.1 := fun n hn => hw n (by
  simp only [DataW.weights, ht]
  exact DataW.weights_mem_each (j := j) (t := f.type) (d := x.1) (by rw [List.getElem?_map, Array.getElem?_toList, hf]; rfl) (by rw [List.getElem?_map, hx]; rfl) n hn)
set_option maxRecDepth 20000 in
theorem do_sz {fuel : Nat} {cs : List Value} {x : DataW H × List MemPlace} (h : DataW.trod enc Tryz.prog W base sp held fuel 60 cs = some x) (hw : Sized 60 x.1) {d : DoV} (hc : cs = dc d) : d.l.length ≤ reachBytes ∧ d.tl.length ≤ reachBytes ∧ d.kl.length ≤ reachBytes := by
  subst hc
  have ci : Tryz.prog.cellsOf 3 = 1 := by kernel_rfl
  have cb : Tryz.prog.cellsOf 35 = 1 := by kernel_rfl
  have cl : Tryz.prog.cellsOf 50 = 1 := by kernel_rfl
  have ct : Tryz.prog.cellsOf 58 = 4 := by kernel_rfl
  obtain ⟨xs, m, _, hx, hl, hlen, hf'⟩ := DataW.trod_struct Tryz.underlying60 h
  obtain ⟨y0, y1, y2, y3, y4, rfl⟩ := list5 hlen
  have g2 := hf' 2 _ rfl
  have g4 := hf' 3 _ rfl
  have g5 := hf' 4 _ rfl
  rw [hx] at hw
  have s2 := struct_sz Tryz.underlying60 (j := 2) hw rfl rfl
  have s4 := struct_sz Tryz.underlying60 (j := 3) hw rfl rfl
  have s5 := struct_sz Tryz.underlying60 (j := 4) hw rfl rfl
  simp [cb, cl, ct, dc] at g2 g4 g5
  obtain ⟨ys, m', _, hy, _, hlen', hf5⟩ := DataW.trod_struct Tryz.underlying58 g5
  obtain ⟨z0, z1, z2, z3, rfl⟩ := list4 hlen'
  have g53 := hf5 3 _ rfl
  rw [hy] at s5
  have s53 := struct_sz Tryz.underlying58 (j := 3) s5 rfl rfl
  simp [cb] at g53
  exact ⟨slice_sz Tryz.underlying35 (of_decide_eq_true (by kernel_rfl)) g2 s2 rfl, slice_sz Tryz.underlying35 (of_decide_eq_true (by kernel_rfl)) g53 s53 rfl, slice_sz Tryz.underlying50 (of_decide_eq_true (by kernel_rfl)) g4 s4 rfl⟩
theorem dos_in_sz {a : Option Addr} {len cap : Nat} {d : DataW H} {p : List MemPlace} (h : DataW.Trod enc Tryz.prog W base sp held 49 (.slice a len cap) d p) (hw : Sized 49 d) : ∃ ds, InDo W a len cap ds ∧ ShortD ds := by
  have ce : Tryz.prog.cellsOf 60 = 8 := by kernel_rfl
  obtain ⟨fuel, hf⟩ := h
  rcases Deep.open_slice Tryz.underlying49 hf with ⟨hcs, _⟩ | ⟨a', len', cap', m, n, D, Pl, hcs, hb, hl, hm, hmm, hxx, hx⟩
  · simp [Value.cells] at hcs
    obtain ⟨rfl, rfl, rfl⟩ := hcs
    exact ⟨[], ⟨rfl, fun j d hd => by simp at hd, Nat.le_refl _, by decide⟩, fun j d hd => by simp at hd⟩
  · simp [Value.cells] at hcs
    obtain ⟨rfl, rfl, rfl⟩ := hcs
    simp only [Prod.mk.injEq] at hxx
    obtain ⟨rfl, _⟩ := hxx
    have hlm : len ≤ m := by rw [hmm]; split <;> omega
    have each : ∀ i, i < len → ∃ d : DoV, (∀ u v, (dc d)[u]? = some v → W.cell? (a'.add (i * 8 + u)) = some v) ∧ DoAt W d ∧ (d.l.length ≤ reachBytes ∧ d.tl.length ≤ reachBytes ∧ d.kl.length ≤ reachBytes) := by
      intro i hi
      obtain ⟨cs', h1, h2⟩ := hx i (by omega)
      rw [ce] at h1
      obtain ⟨_, hlen, hcell⟩ := World.cells?_some h1
      obtain ⟨d, e0, hd⟩ := do_cs h2
      have hsz : Sized 60 (D i) := fun n hn => hw n (by
        simp only [DataW.weights, Tryz.underlying49]
        refine List.mem_cons_of_mem _ (List.mem_append.2 (.inl (all_mem (d := D i) ?_ n hn)))
        exact List.mem_map.2 ⟨i, List.mem_range.2 hi, rfl⟩)
      have hs := do_sz h2 hsz e0
      subst e0
      refine ⟨d, fun u v hu => ?_, hd, hs⟩
      have hul := (List.getElem?_eq_some_iff.1 hu).1
      have h3 := hcell u (by rw [dc_len] at hul; exact hul)
      rw [Deep.add_add, hu] at h3
      exact h3
    obtain ⟨q, hq⟩ := @Deep.choose_lt DoV ⟨⟨0, 0, none, 0, [], none, 0, [], 0, 0, 0, none, 0, []⟩⟩ _ _ each
    refine ⟨(List.range len).map q, ⟨by simp, fun j d hd => ?_, hl, hm⟩, fun j d hd => ?_⟩
    · rw [List.getElem?_map] at hd
      obtain ⟨j', hj', rfl⟩ := Option.map_eq_some_iff.1 hd
      obtain ⟨hj, rfl⟩ := List.getElem?_eq_some_iff.1 hj'
      simp only [List.length_range] at hj
      simp only [List.getElem_range]
      obtain ⟨k0, k1, _⟩ := hq j hj
      obtain ⟨b, off, spot⟩ := a'
      have hs : spot = none := by
        have h1 := (hq 0 (by omega)).1 0 _ rfl
        have e1 : (Addr.add ⟨b, off, spot⟩ (0 * 8 + 0)) = ⟨b, off, spot⟩ := by simp [Addr.add]
        rw [e1] at h1
        exact cell_spot h1
      subst hs
      refine ⟨⟨b, off, rfl, fun u v hu => ?_⟩, k1⟩
      have h2 := k0 u v hu
      rw [Addr.add_lit] at h2
      rw [Nat.add_assoc]
      exact h2
    · rw [List.getElem?_map] at hd
      obtain ⟨j', hj', rfl⟩ := Option.map_eq_some_iff.1 hd
      obtain ⟨hj, rfl⟩ := List.getElem?_eq_some_iff.1 hj'
      simp only [List.length_range] at hj
      simp only [List.getElem_range]
      obtain ⟨_, _, k2⟩ := hq j hj
      unfold reachBytes at k2
      omega
theorem cut_in {r : Reach} {b0 : Nat} {v : Value} {d : DataW H} {p : List MemPlace} (hv : Value.okWide Tryz.prog W r b0 52 v) (h : DataW.Trod enc Tryz.prog W base sp held 52 v d p) : ∃ (k : Nat) (A : Option Addr) (c : Nat) (l : List Bool), v = .agg #[.int .u8 (k : Int), .slice A l.length c] ∧ k < 256 ∧ HolV W A (l.map Value.bool) ∧ l.length ≤ 9223372036854775807 := by
  obtain ⟨v0, v1, y0, y1, n, rfl, _, _, h0, h1⟩ := Joins.open_agg2 Tryz.underlying52 (by kernel_rfl) (by kernel_rfl) hv h
  obtain ⟨z0, e0, _, w0⟩ := DataW.trod_int Tryz.underlying5 h0
  obtain ⟨A, m, c, l, e1, hI⟩ := bools_cs h1
  obtain ⟨k, rfl, hk⟩ := u8_nat w0
  simp at e0 e1
  subst e0 e1
  obtain rfl := hI.len_
  exact ⟨k, A, c, l, rfl, hk, hI.hol, by have h8 := hI.cap_; have h9 := hI.max_; unfold maxLen at h9; omega⟩
end
end Go.Proofs.YtpocccnhibjjcaaGreatDoor.V9
