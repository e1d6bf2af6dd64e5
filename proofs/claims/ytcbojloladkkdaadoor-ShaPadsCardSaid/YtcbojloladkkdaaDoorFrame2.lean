/- What the second stage's statements share: the listed tables, a world that holds them, and a digest as an argument. No conditions. -/
import Derived.Test.YtcbojloladkkdaaDoorCards
import Derived.Test.YtcbojloladkkdaaDoorTie
import Derived.Test.YtcbojloladkkdaaDoorChange
import Derived.ProofKit
import Derived.OpenShut
import Derived.ShutString
import Derived.Deep.DeepHandedRow
import Derived.Lib.LaidTab
import Derived.Lib.LaidU8
set_option linter.unusedVariables false
namespace Go.Proofs.YtcbojloladkkdaaDoor
open Go.ChangeShapes Go.WideShapes Go.ChangeAt Go.RowKit

theorem own : ownKnob Tryd.prog.godebug = none := by kernel_rfl
theorem laidOut : laidOutB Tryd.prog = true := by kernel_rfl

/-- The numbers of the two tables. -/
def hz8 : List Int := [0x6a09e667, 0xbb67ae85, 0x3c6ef372, 0xa54ff53a, 0x510e527f, 0x9b05688c, 0x1f83d9ab, 0x5be0cd19]
def kz64 : List Int := ksL.map uv
theorem h_eq : (Rows.laid_oubliette_sha_beginnings : DataW Unit) = Lib.tabData .u32 hz8 := by kernel_rfl
theorem k_eq : (Rows.laid_oubliette_sha_constants : DataW Unit) = Lib.tabData .u32 kz64 := by kernel_rfl
theorem h_cells : (hz8.map fun z => Value.int .u32 z) = arr 8 h0.at := by kernel_rfl
theorem k_cells : (kz64.map fun z => Value.int .u32 z) = arr 64 kk := by kernel_rfl

theorem tab_range {w : World} {n : String} {g : Nat} {t e : TypeId} {m : Nat} {zs : List Int} (h : Lib.VarReads Tryd.prog w n (Lib.tabData .u32 zs)) (hn : Tryd.prog.globalNamed n = some g) (hy : (Tryd.prog.globals[g]?).map (·.type) = some t)
    (ht : Tryd.prog.underlying t = some (.array m e)) (he : Tryd.prog.underlying e = some (.int .u32)) (hce : Tryd.prog.cellsOf e = 1) (hct : Tryd.prog.cellsOf t = m) : w.rangeAt g 0 (zs.map fun z => Value.int .u32 z) := by
  obtain ⟨g', t', cs, fuel, p, hg, hty, hvar, hd⟩ := h
  obtain rfl := Option.some.inj (hn.symm.trans hg)
  obtain rfl := Option.some.inj (hy.symm.trans hty)
  have hcs := Lib.cells_of_tab ht he hce hct hd
  intro j v hv
  rw [Nat.zero_add, World.var?_cell hg hvar j, ← Array.getElem?_toList, hcs]
  exact hv
/-- What the list says of the two tables. -/
theorem tabs_of {W : World} (h : laidMetH Tryd.prog Rows.shaPadsRow.laid W) : Tabs W := by
  rw [MakeChecks.laidMetH_plain _ _ _ (by kernel_rfl)] at h
  have h1 := Lib.laidMet.reads h (.head _)
  have h2 := Lib.laidMet.reads h (.tail _ (.head _))
  rw [h_eq] at h1
  rw [k_eq] at h2
  refine ⟨?_, ?_⟩
  · have := tab_range (g := 0) (t := 42) (e := 38) (m := 8) h1 (by kernel_rfl) (by kernel_rfl) Tryd.underlying42 Tryd.underlying38 (by kernel_rfl) (by kernel_rfl)
    rwa [h_cells] at this
  · have := tab_range (g := 1) (t := 51) (e := 38) (m := 64) h2 (by kernel_rfl) (by kernel_rfl) Tryd.underlying51 Tryd.underlying38 (by kernel_rfl) (by kernel_rfl)
    rwa [k_cells] at this

def recell (cs : Array Value) : Obj → Obj
  | .cells _ t frozen => .cells cs t frozen
  | o => o
/-- A world that holds them. -/
noncomputable def laidWorld (os : Os) : World :=
  { World.holding Tryd.prog os ⟨#[], #[], []⟩ with heap := ((World.holding Tryd.prog os ⟨#[], #[], []⟩).heap.modify 0 (recell (hz8.map fun z => Value.int .u32 z).toArray)).modify 1 (recell (kz64.map fun z => Value.int .u32 z).toArray) }
theorem laid_met (os : Os) (args : Array Value) : laidMet Tryd.prog Rows.shaPadsRow.laid ((laidWorld os).forCall (fun _ _ => 0) ⟨#[], args, []⟩).memory :=
  laidMet_of_run' 8 (by kernel_rfl) (by kernel_rfl)

/-- A row's value, as an argument. -/
theorem okWide_row {P : Program} {w : World} {r : Reach} {b : Nat} {t e : TypeId} {n : Nat} {v : Value} (ht : P.underlying t = some (.array n e)) (h : Value.okWide P w r b t v) : ∃ cs, v = .agg cs ∧ cs.size = P.cellsOf t := by
  simp only [Value.okWide, ht] at h
  obtain ⟨cs, h1, h2, _⟩ := h
  exact ⟨cs, h1, h2⟩
theorem open_bytes {H : Type} {enc : TypeId × Value → H} {P : Program} {w : World} {base : Nat} {sp : Nat → Bool} {held : Bool} {t e : TypeId} {n : Nat} {cs : Array Value} {d : DataW H} {p : List MemPlace}
    (ht : P.underlying t = some (.array n e)) (he : P.underlying e = some (.int .u8)) (hce : P.cellsOf e = 1) (hct : P.cellsOf t = n) (hs : cs.size = n)
    (h : DataW.Trod enc P w base sp held t (.agg cs) d p) : ∃ f : Nat → UInt8, cs = (brr n f).toArray := by
  obtain ⟨fuel, hf⟩ := h
  obtain ⟨xs, m, _, _, _, hlen, hg⟩ := DataW.trod_array ht hf
  refine ⟨fun i => match cs[i]? with | some (.int _ z) => UInt8.ofNat z.toNat | _ => 0, ?_⟩
  apply Array.ext'
  show cs.toList = brr n _
  apply List.ext_getElem?
  intro i
  by_cases hi : i < n
  · have h1 := hg i hi
    rw [hce, Nat.mul_one] at h1
    have hx : i < xs.length := by omega
    rw [List.getElem?_eq_getElem hx] at h1
    obtain ⟨z, hz, _, hwf⟩ := DataW.trod_int he h1
    have hb := bounds_u8 hwf
    have hc : cs.toList[i]? = some (.int .u8 z) := by
      have := congrArg (·[0]?) hz
      simp only [List.getElem?_take, List.getElem?_drop] at this
      simpa [Value.cells] using this
    have hc' : cs[i]? = some (.int .u8 z) := by simpa using hc
    rw [hc, brr_get _ hi]
    simp only [hc']
    have : z = bv (UInt8.ofNat z.toNat) := by
      unfold bv
      rw [u8_toNat]
      omega
    exact congrArg (fun y => some (Value.int .u8 y)) this
  · rw [brr_none _ (by omega), List.getElem?_eq_none (by simp; omega)]
end Go.Proofs.YtcbojloladkkdaaDoor
