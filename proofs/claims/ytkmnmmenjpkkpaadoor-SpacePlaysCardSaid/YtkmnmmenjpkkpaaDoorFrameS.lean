/- What the eighth stage's statements share: the library's table, as it is laid; a world that holds it; steps that came in. No conditions. -/
import Derived.Test.YtkmnmmenjpkkpaaDoorCards
import Derived.Test.YtkmnmmenjpkkpaaDoorTie
import Derived.Test.YtkmnmmenjpkkpaaDoorSm
import Derived.ProofKit
import Derived.OpenShut
import Derived.ShutString
import Derived.Carry
import Derived.Deep.DeepHandedRow
import Derived.Deep.Strs
import Derived.Lib.LaidTab
import Derived.Lib.LaidU8
set_option linter.unusedVariables false
namespace Go.Proofs.YtkmnmmenjpkkpaaDoor
open Go.ChangeShapes Go.WideShapes Go.ChangeAt Go.RowKit

theorem own : ownKnob Tryd.prog.godebug = none := by kernel_rfl
theorem laidOut : laidOutB Tryd.prog = true := by kernel_rfl

def bz64 : List Int := Lib.deBruijn64tab.map fun (n : Nat) => (n : Int)
theorem b_eq : (Rows.laid_math_bits_deBruijn64tab : DataW Unit) = Lib.tabData .u8 bz64 := by kernel_rfl
theorem tab_cell {w : World} {n : String} {g : Nat} {t e : TypeId} {m : Nat} {zs : List Int} (h : Lib.VarReads Tryd.prog w n (Lib.tabData .u8 zs)) (hn : Tryd.prog.globalNamed n = some g) (hy : (Tryd.prog.globals[g]?).map (·.type) = some t)
    (ht : Tryd.prog.underlying t = some (.array m e)) (he : Tryd.prog.underlying e = some (.int .u8)) (hce : Tryd.prog.cellsOf e = 1) (hct : Tryd.prog.cellsOf t = m) : w.rangeAt g 0 (zs.map fun z => Value.int .u8 z) := by
  obtain ⟨g', t', cs, fuel, p, hg, hty, hvar, hd⟩ := h
  obtain rfl := Option.some.inj (hn.symm.trans hg)
  obtain rfl := Option.some.inj (hy.symm.trans hty)
  have hcs := Lib.cells_of_tab ht he hce hct hd
  intro j v hv
  rw [Nat.zero_add, World.var?_cell hg hvar j, ← Array.getElem?_toList, hcs]
  exact hv
/-- What the list says of the table. -/
theorem tabs_of {W : World} (h : laidMetH Tryd.prog Rows.spaceNoneRow.laid W) : Tab W := by
  rw [MakeChecks.laidMetH_plain _ _ _ (by kernel_rfl)] at h
  have h1 := Lib.laidMet.reads h (.head _)
  rw [b_eq] at h1
  have := tab_cell (g := 0) (t := 62) (e := 5) (m := 64) h1 (by kernel_rfl) (by kernel_rfl) Tryd.underlying62 Tryd.underlying5 (by kernel_rfl) (by kernel_rfl)
  intro j hj
  have hg := this j (.int .u8 (Lib.deBruijn64tab.getD j 0 : Nat)) (by
    unfold bz64
    rw [List.map_map, List.getElem?_map, List.getD_eq_getElem?_getD, List.getElem?_eq_getElem hj]
    rfl)
  rw [Nat.zero_add] at hg
  exact hg

def recell (cs : Array Value) : Obj → Obj
  | .cells _ t frozen => .cells cs t frozen
  | o => o
/-- A world that holds it. -/
noncomputable def laidWorld (os : Os) : World :=
  { World.holding Tryd.prog os ⟨#[], #[], []⟩ with heap := (World.holding Tryd.prog os ⟨#[], #[], []⟩).heap.modify 0 (recell (bz64.map fun z => Value.int .u8 z).toArray) }
theorem laid_met (os : Os) (args : Array Value) : laidMet Tryd.prog Rows.spaceNoneRow.laid ((laidWorld os).forCall (fun _ _ => 0) ⟨#[], args, []⟩).memory :=
  laidMet_of_run' 8 (by kernel_rfl) (by kernel_rfl)

theorem kept_args {H : Type} {enc : TypeId × Value → H} {W : World} {b : Nat} {sp : Nat → Bool} {hd : Bool} {t : TypeId} {v : Value} {d : DataW H} {p : List MemPlace} (h : DataW.Trod enc Tryd.prog W b sp hd t v d p) : ∀ x ∈ p, x.block < W.heap.size := by
  obtain ⟨m, hm⟩ := h
  exact DataW.trod_lt m _ _ _ hm
theorem u8_num {z : Int} (h : (Lit.int .u8 z).wf = true) : ∃ n : Nat, z = (n : Int) ∧ n < 256 := by
  have hb := bounds_u8 h
  exact ⟨z.toNat, by omega, by omega⟩
theorem u16_num {z : Int} (h : (Lit.int .u16 z).wf = true) : ∃ n : Nat, z = (n : Int) ∧ n < 65536 := by
  have hb := bounds_u16 h
  exact ⟨z.toNat, by omega, by omega⟩

/-- Steps that came in: what to do, and where. -/
structure InP (w : World) (A : Option Addr) (len cap : Nat) (ds : List (Int × Int)) : Prop where
  len_ : len = ds.length
  at_ : ∀ (j : Nat) (d : Int × Int), ds[j]? = some d → ∃ g o, A = some ⟨g, o, none⟩ ∧ w.cell? ⟨g, o + j * 2, none⟩ = some (.int .i64 d.1) ∧ w.cell? ⟨g, o + j * 2 + 1, none⟩ = some (.int .i64 d.2)
  cap_ : len ≤ cap
  max_ : cap ≤ maxLen
theorem InP.below {w w' : World} {A : Option Addr} {n c : Nat} {ds : List (Int × Int)} (h : InP w A n c ds) (hb : Below w.heap.size w w') : InP w' A n c ds :=
  ⟨h.len_, fun j d hd => by
    obtain ⟨g, o, rfl, h1, h2⟩ := h.at_ j d hd
    exact ⟨g, o, rfl, (hb.cell (p := ⟨g, o + j * 2, none⟩) (World.block_lt_of_cell? w _ h1)).trans h1, (hb.cell (p := ⟨g, o + j * 2 + 1, none⟩) (World.block_lt_of_cell? w _ h2)).trans h2⟩, h.cap_, h.max_⟩
theorem list2 {α : Type} : ∀ {l : List α}, l.length = 2 → ∃ a b, l = [a, b]
  | [a, b], _ => ⟨a, b, rfl⟩
theorem cell_spot {w : World} {b o : Nat} {q : Option Nat} {v : Value} (h : w.cell? ⟨b, o, q⟩ = some v) : q = none := by
  cases q with
  | none => rfl
  | some k =>
    unfold World.cell? at h
    split at h <;> simp at h
section
variable {H : Type} {enc : TypeId × Value → H} {W : World} {sp : Nat → Bool} {held : Bool} {base : Nat}
theorem do_cs {fuel : Nat} {cs : List Value} {x : DataW H × List MemPlace} (hf : DataW.trod enc Tryd.prog W base sp held fuel 31 cs = some x) : ∃ k a : Int, cs = [.int .i64 k, .int .i64 a] := by
  have ci : Tryd.prog.cellsOf 3 = 1 := by kernel_rfl
  have cd : Tryd.prog.cellsOf 31 = 2 := by kernel_rfl
  obtain ⟨xs, m, _, _, hl, hlen, hf'⟩ := DataW.trod_struct Tryd.underlying31 hf
  obtain ⟨y0, y1, rfl⟩ := list2 hlen
  obtain ⟨v0, v1, rfl⟩ := list2 (hl.trans cd)
  have g0 := hf' 0 _ rfl
  have g1 := hf' 1 _ rfl
  simp [ci] at g0 g1
  obtain ⟨k, e0, _, _⟩ := DataW.trod_int Tryd.underlying3 g0
  obtain ⟨a, e1, _, _⟩ := DataW.trod_int Tryd.underlying3 g1
  simp at e0 e1
  subst e0 e1
  exact ⟨k, a, rfl⟩
theorem dos_in {a : Option Addr} {len cap : Nat} {d : DataW H} {p : List MemPlace} (h : DataW.Trod enc Tryd.prog W base sp held 22 (.slice a len cap) d p) : ∃ ds, InP W a len cap ds := by
  have ce : Tryd.prog.cellsOf 31 = 2 := by kernel_rfl
  obtain ⟨fuel, hf⟩ := h
  rcases Deep.open_slice Tryd.underlying22 hf with ⟨hcs, _⟩ | ⟨a', len', cap', m, n, D, Pl, hcs, hb, hl, hm, hmm, _, hx⟩
  · simp [Value.cells] at hcs
    obtain ⟨rfl, rfl, rfl⟩ := hcs
    exact ⟨[], rfl, fun j d hd => by simp at hd, Nat.le_refl _, by decide⟩
  · simp [Value.cells] at hcs
    obtain ⟨rfl, rfl, rfl⟩ := hcs
    have hlm : len ≤ m := by rw [hmm]; split <;> omega
    have each : ∀ i, i < len → ∃ d : Int × Int, W.cell? (a'.add (i * 2 + 0)) = some (.int .i64 d.1) ∧ W.cell? (a'.add (i * 2 + 1)) = some (.int .i64 d.2) := by
      intro i hi
      obtain ⟨cs', h1, h2⟩ := hx i (by omega)
      rw [ce] at h1
      obtain ⟨_, hlen, hcell⟩ := World.cells?_some h1
      obtain ⟨k, a, rfl⟩ := do_cs h2
      have c0 := hcell 0 (by omega)
      have c1 := hcell 1 (by omega)
      rw [Deep.add_add] at c0 c1
      exact ⟨(k, a), c0, c1⟩
    obtain ⟨q, hq⟩ := @Deep.choose_lt (Int × Int) ⟨(0, 0)⟩ _ _ each
    refine ⟨(List.range len).map q, by simp, fun j d hd => ?_, hl, hm⟩
    rw [List.getElem?_map] at hd
    obtain ⟨j', hj', rfl⟩ := Option.map_eq_some_iff.1 hd
    obtain ⟨hj, rfl⟩ := List.getElem?_eq_some_iff.1 hj'
    simp only [List.length_range] at hj
    simp only [List.getElem_range]
    obtain ⟨k0, k1⟩ := hq j hj
    obtain ⟨b, off, spot⟩ := a'
    have hs : spot = none := by
      have h1 := (hq 0 (by omega)).1
      have e1 : (Addr.add ⟨b, off, spot⟩ (0 * 2 + 0)) = ⟨b, off, spot⟩ := by simp [Addr.add]
      rw [e1] at h1
      exact cell_spot h1
    subst hs
    rw [Addr.add_lit] at k0 k1
    exact ⟨b, off, rfl, k0, by rw [Nat.add_assoc]; exact k1⟩
end
end Go.Proofs.YtkmnmmenjpkkpaaDoor
