/- A table of rows of bytes by epoch and sequence, as a map in memory: what is looked up, what is laid in. No conditions but those named. -/
import Derived.Test.YtibnmhaipogleaaDoorCalm
import Derived.Test.YtibnmhaipogleaaDoorChecked
import Derived.Maps.OwnSet
import Derived.DeepKeys4
import Derived.WalkKit
import Derived.WalkMore
import Derived.Deep.RegionLaw
set_option linter.unusedVariables false
set_option maxRecDepth 20000
namespace Go.Proofs.YtibnmhaipogleaaDoor
open Go.RowKit Go.Maps

theorem laidOut : laidOutB Tryd.prog = true := by kernel_rfl
theorem nonce_row : (72 : TypeId) < Tryd.prog.types.size := of_decide_eq_true (by kernel_rfl)
theorem nonce_wide : (match Tryd.prog.underlying 72 with | some (.array _ _) | some (.struct _) => true | _ => false) = true := by kernel_rfl
theorem nonce_law : Keyed Tryd.prog 72 := Keyed.of_law (deep_law_laid laidOut (m := 2) (by omega) nonce_row (by kernel_rfl) nonce_wide)
theorem nonce_type : Tryd.prog.keyType 72 = true := by kernel_rfl
/-- A key. -/
def kv (e s : Nat) : Value := .agg #[.int .u32 (e : Int), .int .u32 (s : Int)]
theorem u32_wf {e : Nat} (h : e < 4294967296) : (Lit.int .u32 (e : Int)).wf = true := by
  simp [Lit.wf, IntKind.min, IntKind.max, IntKind.bits, IntKind.signed]
  omega
theorem nonce_keyed {e s : Nat} (he : e < 4294967296) (hs : s < 4294967296) : ∃ l, keyOf Tryd.prog 72 (kv e s) = some l := by
  have hu := Tryd.underlying72
  have h32 := Tryd.underlying22
  have hc : Tryd.prog.cellsOf 72 = 2 := by kernel_rfl
  have hc1 : Tryd.prog.cellsOf 22 = 1 := by kernel_rfl
  have hf : (kv e s).formed Tryd.prog 72 = true := by
    simp [kv, Value.formed, hu, hc]
  have hwe := u32_wf he
  have hws := u32_wf hs
  have hsz : ∃ m, Tryd.prog.types.size = m + 1 := ⟨Tryd.prog.types.size - 1, by have h9 := Nat.lt_of_le_of_lt (Nat.zero_le _) nonce_row; exact (Nat.sub_add_cancel h9).symm⟩
  obtain ⟨m, hm⟩ := hsz
  have hkl : ∃ ls, Tryd.prog.keyLits (Tryd.prog.types.size + 1) 72 (kv e s).cells.toList = some ls := by
    rw [hm]
    simp [Program.keyLits, hu, h32, hc, hc1, kv, Value.cells, hwe, hws]
  obtain ⟨ls, hls⟩ := hkl
  unfold keyOf
  rw [hu]
  simp only [nonce_type, hf, hls]
  exact ⟨_, rfl⟩
/-- What a key reads as. -/
noncomputable def kl (e s : Nat) : Lit := (keyOf Tryd.prog 72 (kv e s)).getD (.bool false)
theorem kl_of {e s : Nat} (he : e < 4294967296) (hs : s < 4294967296) : keyOf Tryd.prog 72 (kv e s) = some (kl e s) := by
  obtain ⟨l, hl⟩ := nonce_keyed he hs
  unfold kl
  rw [hl]
  rfl
theorem kl_inj {e s e' s' : Nat} (he : e < 4294967296) (hs : s < 4294967296) (he' : e' < 4294967296) (hs' : s' < 4294967296) (h : kl e s = kl e' s') : e = e' ∧ s = s' := by
  have h1 := kl_of he hs
  have h2 := kl_of he' hs'
  rw [← h] at h2
  have h3 := nonce_law.inj h1 h2
  simp only [kv, Value.agg.injEq] at h3
  have h4 := congrArg Array.toList h3
  simp at h4
  omega
/-- Every element reads as itself. -/
def itself (v : Value) : Option (DataW Value × List MemPlace) := some (.held v, [])
/-- No bytes, nil. -/
def nob : Value := .slice none 0 0
/-- Block b is a map of at most n entries, which tells f. -/
def MapAt (w : World) (b n : Nat) (f : Nat → Nat → Option Value) : Prop :=
  ∃ D : DataW Value, w.ownsMap Tryd.prog 72 itself b n D ∧
    ∀ e s, e < 4294967296 → s < 4294967296 → D.atKey (kl e s) (.held nob) = .held ((f e s).getD nob) ∧ Maps.has D (kl e s) = (f e s).isSome

section
variable {w w' : World} {b n : Nat} {f : Nat → Nat → Option Value}
theorem MapAt.lt (h : MapAt w b n f) : b < w.heap.size := by obtain ⟨D, h, _⟩ := h; exact h.lt
theorem MapAt.grown {row : Option Nat} (h : MapAt w b n f) (hg : w.grownBy w' row) (hne : some b ≠ row) : MapAt w' b n f := by
  obtain ⟨D, h, k⟩ := h
  exact ⟨D, h.kept hg hne, k⟩
theorem MapAt.below (h : MapAt w b n f) (hb : Below w.heap.size w w') : MapAt w' b n f := h.grown (row := none) (grown_of_below hb) (by simp)
theorem MapAt.drew (h : MapAt w b n f) : MapAt w.drew b n f := h
theorem MapAt.mono (h : MapAt w b n f) {n' : Nat} (hn : n ≤ n') : MapAt w b n' f := by
  obtain ⟨D, h, k⟩ := h
  exact ⟨D, h.mono hn, k⟩
theorem MapAt.made (w : World) : MapAt (w.alloc (.map #[] 0)) w.heap.size 0 fun _ _ => none :=
  ⟨_, World.ownsMap_made w _ _ _, fun e s he hs => ⟨rfl, rfl⟩⟩
theorem nob_zero (w : World) : (zeroValue 29).run Tryd.prog w = .ok nob w := by kernel_rfl
theorem MapAt.look (h : MapAt w b n f) {e s : Nat} (he : e < 4294967296) (hs : s < 4294967296) : (Instr.lookup 70 (.map (some b)) (kv e s) false).run Tryd.prog w = .ok ((f e s).getD nob) w := by
  obtain ⟨D, h, k⟩ := h
  obtain ⟨v, ps, hrun, hv⟩ := h.lookup nonce_law Tryd.underlying70 (nob_zero w) (zd := .held nob) (zp := []) rfl (kl_of he hs)
  rw [(k e s he hs).1] at hv
  simp only [itself, Option.some.injEq, Prod.mk.injEq, DataW.held.injEq] at hv
  rw [hrun, hv.1]
theorem MapAt.look_ok (h : MapAt w b n f) {e s : Nat} (he : e < 4294967296) (hs : s < 4294967296) :
    (Instr.lookup 70 (.map (some b)) (kv e s) true).run Tryd.prog w = .ok (.tuple #[(f e s).getD nob, .bool (f e s).isSome]) w := by
  obtain ⟨D, h, k⟩ := h
  obtain ⟨v, ps, hrun, hv⟩ := h.look_ok nonce_law Tryd.underlying70 (nob_zero w) (zd := .held nob) (zp := []) rfl (kl_of he hs)
  rw [(k e s he hs).1] at hv
  simp only [itself, Option.some.injEq, Prod.mk.injEq, DataW.held.injEq] at hv
  rw [hrun, hv.1, (k e s he hs).2]
/-- One more. -/
def one (f : Nat → Nat → Option Value) (e s : Nat) (v : Value) : Nat → Nat → Option Value := fun e' s' => if e' = e ∧ s' = s then some v else f e' s'
theorem MapAt.put (h : MapAt w b n f) {e s : Nat} (he : e < 4294967296) (hs : s < 4294967296) (hn : n < maxLen) (v : Value) :
    ∃ w', (Instr.mapUpdate 70 (.map (some b)) (kv e s) v).run Tryd.prog w = .ok () w' ∧ MapAt w' b (n + 1) (one f e s v) ∧ w.grownBy w' (some b) := by
  obtain ⟨D, h, k⟩ := h
  obtain ⟨w', hrun, hown, hg⟩ := h.update nonce_law Tryd.underlying70 hn (kl_of he hs) (val := v) (d := .held v) (ps := []) rfl
  have hm := h.isMap
  have hkey := nonce_law.key (kl_of he hs)
  refine ⟨w', hrun, ⟨_, hown, fun e' s' he' hs' => ?_⟩, hg⟩
  by_cases hes : e' = e ∧ s' = s
  · obtain ⟨rfl, rfl⟩ := hes
    rw [atKey_put_same hm hkey, has_put_same hm hkey]
    simp [one]
  · have hne : kl e' s' ≠ kl e s := fun e0 => hes (kl_inj he' hs' he hs e0)
    rw [atKey_put_other hne, has_put_other hne]
    simp only [one, if_neg hes]
    exact k e' s' he' hs'
end
end Go.Proofs.YtibnmhaipogleaaDoor
