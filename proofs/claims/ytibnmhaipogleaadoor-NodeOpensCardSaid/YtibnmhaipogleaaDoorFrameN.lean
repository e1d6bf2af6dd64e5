/- What the sixth stage's statements share: the listed tables, and a world that holds them. No conditions. -/
import Derived.Test.YtibnmhaipogleaaDoorCards
import Derived.Test.YtibnmhaipogleaaDoorTie
import Derived.Test.YtibnmhaipogleaaDoorMgSpread
import Derived.Test.YtibnmhaipogleaaDoorArgsN
import Derived.ProofKit
import Derived.OpenShut
import Derived.ShutString
import Derived.Deep.DeepHandedRow
import Derived.Lib.LaidTab
import Derived.Lib.LaidU8
set_option linter.unusedVariables false
namespace Go.Proofs.YtibnmhaipogleaaDoor
open Go.ChangeShapes Go.WideShapes Go.ChangeAt Go.RowKit

theorem own : ownKnob Tryd.prog.godebug = none := by kernel_rfl

/-- The numbers of the two tables. -/
def hz8 : List Int := [0x6a09e667, 0xbb67ae85, 0x3c6ef372, 0xa54ff53a, 0x510e527f, 0x9b05688c, 0x1f83d9ab, 0x5be0cd19]
def kz64 : List Int := ksL.map uv
theorem h_eq : (Rows.laid_oubliette_sha_beginnings : DataW Unit) = Lib.tabData .u32 hz8 := by kernel_rfl
theorem k_eq : (Rows.laid_oubliette_sha_constants : DataW Unit) = Lib.tabData .u32 kz64 := by kernel_rfl
theorem h_cells : (hz8.map fun z => Value.int .u32 z) = arr 8 h0.at := by kernel_rfl
theorem k_cells : (kz64.map fun z => Value.int .u32 z) = arr 64 kk := by kernel_rfl

theorem tab_range {w : World} {n : String} {g : Nat} {t e : TypeId} {m : Nat} {zs : List Int} (h : Lib.VarReads Tryd.prog w n (Lib.tabData .u32 zs)) (hn : Tryd.prog.globalNamed n = some g) (hy : (Tryd.prog.globals[g]?).map (·.type) = some t)
    (ht : Tryd.prog.underlying t = some (.array m e)) (he : Tryd.prog.underlying e = some (.int .u32)) (hce : Tryd.prog.cellsOf e = 1) (hct : Tryd.prog.cellsOf t = m) : w.rangeAt g 0 (zs.map fun z => Value.int .u32 z) := by
  obtain ⟨g', t', cs, fuel, p, hg, hty, hvar, hd⟩ := h
  obtain rfl := Option.some.inj (hn.symm.trans hg)
  obtain rfl := Option.some.inj (hy.symm.trans hty)
  have hcs := Lib.cells_of_tab ht he hce hct hd
  intro j v hv
  rw [Nat.zero_add, World.var?_cell hg hvar j, ← Array.getElem?_toList, hcs]
  exact hv
/-- What the list says of the two tables. -/
theorem tabs_of {W : World} (h : laidMetH Tryd.prog Rows.nodePacksRow.laid W) : Tabs W := by
  rw [MakeChecks.laidMetH_plain _ _ _ (by kernel_rfl)] at h
  have h1 := Lib.laidMet.reads h (.head _)
  have h2 := Lib.laidMet.reads h (.tail _ (.head _))
  rw [h_eq] at h1
  rw [k_eq] at h2
  refine ⟨?_, ?_⟩
  · have := tab_range (g := 0) (t := 97) (e := 22) (m := 8) h1 (by kernel_rfl) (by kernel_rfl) Tryd.underlying97 Tryd.underlying22 (by kernel_rfl) (by kernel_rfl)
    rwa [h_cells] at this
  · have := tab_range (g := 1) (t := 115) (e := 22) (m := 64) h2 (by kernel_rfl) (by kernel_rfl) Tryd.underlying115 Tryd.underlying22 (by kernel_rfl) (by kernel_rfl)
    rwa [k_cells] at this

def recell (cs : Array Value) : Obj → Obj
  | .cells _ t frozen => .cells cs t frozen
  | o => o
/-- A world that holds them. -/
noncomputable def laidWorld (os : Os) : World :=
  { World.holding Tryd.prog os ⟨#[], #[], []⟩ with heap := ((World.holding Tryd.prog os ⟨#[], #[], []⟩).heap.modify 0 (recell (hz8.map fun z => Value.int .u32 z).toArray)).modify 1 (recell (kz64.map fun z => Value.int .u32 z).toArray) }
theorem laid_met (os : Os) (args : Array Value) : laidMet Tryd.prog Rows.nodePacksRow.laid ((laidWorld os).forCall (fun _ _ => 0) ⟨#[], args, []⟩).memory :=
  laidMet_of_run' 8 (by kernel_rfl) (by kernel_rfl)
end Go.Proofs.YtibnmhaipogleaaDoor
