/- What the ninth stage's statements share: the listed tables, as they are laid; a world that holds them. No conditions. -/
import Derived.Test.YtpocccnhibjjcaaGreatDoorCards
import Derived.Test.YtpocccnhibjjcaaGreatDoorTie
import Derived.Test.YtpocccnhibjjcaaGreatDoorMgSpread
import Derived.Test.YtpocccnhibjjcaaGreatDoorSm
import Derived.ProofKit
import Derived.OpenShut
import Derived.ShutString
import Derived.Deep.DeepHandedRow
import Derived.Lib.LaidTab
import Derived.Lib.LaidU8
set_option linter.unusedVariables false
namespace Go.Proofs.YtpocccnhibjjcaaGreatDoor
open Go.ChangeShapes Go.WideShapes Go.ChangeAt Go.RowKit

theorem own : ownKnob Tryz.prog.godebug = none := by kernel_rfl
theorem laidOut : laidOutB Tryz.prog = true := by kernel_rfl
def hz8 : List Int := [0x6a09e667, 0xbb67ae85, 0x3c6ef372, 0xa54ff53a, 0x510e527f, 0x9b05688c, 0x1f83d9ab, 0x5be0cd19]
def kz64 : List Int := ksL.map uv
theorem h_eq : (Rows.laid_oubliette_sha_beginnings : DataW Unit) = Lib.tabData .u32 hz8 := by kernel_rfl
theorem k_eq : (Rows.laid_oubliette_sha_constants : DataW Unit) = Lib.tabData .u32 kz64 := by kernel_rfl
theorem h_cells : (hz8.map fun z => Value.int .u32 z) = arr 8 h0.at := by kernel_rfl
theorem k_cells : (kz64.map fun z => Value.int .u32 z) = arr 64 kk := by kernel_rfl

theorem tab_range {w : World} {n : String} {g : Nat} {t e : TypeId} {m : Nat} {zs : List Int} (h : Lib.VarReads Tryz.prog w n (Lib.tabData .u32 zs)) (hn : Tryz.prog.globalNamed n = some g) (hy : (Tryz.prog.globals[g]?).map (·.type) = some t)
    (ht : Tryz.prog.underlying t = some (.array m e)) (he : Tryz.prog.underlying e = some (.int .u32)) (hce : Tryz.prog.cellsOf e = 1) (hct : Tryz.prog.cellsOf t = m) : w.rangeAt g 0 (zs.map fun z => Value.int .u32 z) := by
  obtain ⟨g', t', cs, fuel, p, hg, hty, hvar, hd⟩ := h
  obtain rfl := Option.some.inj (hn.symm.trans hg)
  obtain rfl := Option.some.inj (hy.symm.trans hty)
  have hcs := Lib.cells_of_tab ht he hce hct hd
  intro j v hv
  rw [Nat.zero_add, World.var?_cell hg hvar j, ← Array.getElem?_toList, hcs]
  exact hv
def bz64 : List Int := Lib.deBruijn64tab.map fun (n : Nat) => (n : Int)
theorem b_eq : (Rows.laid_math_bits_deBruijn64tab : DataW Unit) = Lib.tabData .u8 bz64 := by kernel_rfl
theorem tab_cell {w : World} {n : String} {g : Nat} {t e : TypeId} {m : Nat} {zs : List Int} (h : Lib.VarReads Tryz.prog w n (Lib.tabData .u8 zs)) (hn : Tryz.prog.globalNamed n = some g) (hy : (Tryz.prog.globals[g]?).map (·.type) = some t)
    (ht : Tryz.prog.underlying t = some (.array m e)) (he : Tryz.prog.underlying e = some (.int .u8)) (hce : Tryz.prog.cellsOf e = 1) (hct : Tryz.prog.cellsOf t = m) : w.rangeAt g 0 (zs.map fun z => Value.int .u8 z) := by
  obtain ⟨g', t', cs, fuel, p, hg, hty, hvar, hd⟩ := h
  obtain rfl := Option.some.inj (hn.symm.trans hg)
  obtain rfl := Option.some.inj (hy.symm.trans hty)
  have hcs := Lib.cells_of_tab ht he hce hct hd
  intro j v hv
  rw [Nat.zero_add, World.var?_cell hg hvar j, ← Array.getElem?_toList, hcs]
  exact hv
theorem tabs_of {W : World} (h : laidMetH Tryz.prog Rows.vaultNewsRow.laid W) : Tabs W ∧ S8.Tab W := by
  rw [MakeChecks.laidMetH_plain _ _ _ (by kernel_rfl)] at h
  have h3 := Lib.laidMet.reads h (.head _)
  have h1 := Lib.laidMet.reads h (.tail _ (.head _))
  have h2 := Lib.laidMet.reads h (.tail _ (.tail _ (.head _)))
  rw [h_eq] at h1
  rw [k_eq] at h2
  rw [b_eq] at h3
  refine ⟨⟨?_, ?_⟩, ?_⟩
  · have := tab_range (g := 0) (t := 203) (e := 44) (m := 8) h1 (by kernel_rfl) (by kernel_rfl) Tryz.underlying203 Tryz.underlying44 (by kernel_rfl) (by kernel_rfl)
    rwa [h_cells] at this
  · have := tab_range (g := 1) (t := 219) (e := 44) (m := 64) h2 (by kernel_rfl) (by kernel_rfl) Tryz.underlying219 Tryz.underlying44 (by kernel_rfl) (by kernel_rfl)
    rwa [k_cells] at this
  · have := tab_cell (g := 2) (t := 204) (e := 5) (m := 64) h3 (by kernel_rfl) (by kernel_rfl) Tryz.underlying204 Tryz.underlying5 (by kernel_rfl) (by kernel_rfl)
    intro j hj
    have hg := this j (.int .u8 (Lib.deBruijn64tab.getD j 0 : Nat)) (by
      unfold bz64
      rw [List.map_map, List.getElem?_map, List.getD_eq_getElem?_getD, List.getElem?_eq_getElem hj]
      rfl)
    rw [Nat.zero_add] at hg
    exact hg

def recell (cs : Array Value) : Obj → Obj
  | .cells _ t frozen => .cells cs t frozen
  | o => o
noncomputable def laidWorld (os : Os) : World :=
  { World.holding Tryz.prog os ⟨#[], #[], []⟩ with heap := (((World.holding Tryz.prog os ⟨#[], #[], []⟩).heap.modify 0 (recell (hz8.map fun z => Value.int .u32 z).toArray)).modify 1 (recell (kz64.map fun z => Value.int .u32 z).toArray)).modify 2 (recell (bz64.map fun z => Value.int .u8 z).toArray) }
theorem laid_met (os : Os) (args : Array Value) : laidMet Tryz.prog Rows.vaultNewsRow.laid ((laidWorld os).forCall (fun _ _ => 0) ⟨#[], args, []⟩).memory :=
  laidMet_of_run' 8 (by kernel_rfl) (by kernel_rfl)
end Go.Proofs.YtpocccnhibjjcaaGreatDoor
