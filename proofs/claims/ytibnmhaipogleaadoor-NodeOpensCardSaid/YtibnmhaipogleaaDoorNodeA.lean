/- Whether a record leads to a block, and whether it may be, by the program and by the reference: what each call leaves, for every record. No conditions. -/
import Derived.Test.YtibnmhaipogleaaDoorRecE
import Derived.Test.YtibnmhaipogleaaDoorCalm
import Derived.WalkKit
import Derived.WalkMore
import Derived.WalkSpells
import Derived.WalkLawsBesides
import Derived.Outline
set_option linter.unusedVariables false
set_option maxRecDepth 20000
namespace Go.Proofs.YtibnmhaipogleaaDoor
open Go.RowKit

def RecV.leads (r : RecV) : Bool := decide (1 ≤ r.a) && decide (r.a ≤ 1024)
def RecV.may (r : RecV) : Bool := r.leads || r.eqb rec0
theorem rec0_cs : Tryd.prog.built 26 [] = some rec0.cs.toArray := by kernel_rfl
theorem eq_recw (r q : RecV) (w : World) : (Op.equalIn 10000 26 (.agg r.cs.toArray) (.agg q.cs.toArray)).run Tryd.prog w = .ok (r.eqb q) w := eq_rec 9997 r q w
theorem RecV.c0 {w : World} {g : Nat} {t : TypeId} {r : RecV} (h : Row w g t r.cs) : w.cell? ⟨g, 0, none⟩ = some (.int .i64 r.a) := by rw [h.cell]; rfl
theorem RecV.c1 {w : World} {g : Nat} {t : TypeId} {r : RecV} (h : Row w g t r.cs) : w.cell? ⟨g, 1, none⟩ = some (.int .u32 (r.e : Int)) := by rw [h.cell]; rfl
theorem RecV.c2 {w : World} {g : Nat} {t : TypeId} {r : RecV} (h : Row w g t r.cs) : w.cell? ⟨g, 2, none⟩ = some (.int .u32 (r.s : Int)) := by rw [h.cell]; rfl
theorem RecV.leads_not {r : RecV} (h : ¬ (1 ≤ r.a ∧ r.a ≤ 1024)) : r.leads = false := by
  unfold RecV.leads
  by_cases h1 : 1 ≤ r.a
  · have h2 : ¬ r.a ≤ 1024 := fun h2 => h ⟨h1, h2⟩
    simp [h2]
  · simp [h1]
theorem RecV.leads_yes {r : RecV} (h1 : 1 ≤ r.a) (h2 : r.a ≤ 1024) : r.leads = true := by simp [RecV.leads, h1, h2]

theorem leads_any (r : RecV) (w : World) : Calls Tryd.prog 46 #[.agg r.cs.toArray] w fun e w' => e = .returned (.bool r.leads) ∧ Below w.heap.size w w' := by
  by_cases h1 : 1 ≤ r.a
  · by_cases h2 : r.a ≤ 1024
    · rw [RecV.leads_yes h1 h2]
      go_enter Tryd.func46, Tryd.ntmps46
      go_wp2_with (refine step_box rfl 1 rfl 26 _ rfl r.cs rfl ?_; intro g w1 hr hg hb hs; have c0 := RecV.c0 hr)
      go_ret
      exact ⟨rfl, hb⟩
    · rw [RecV.leads_not (fun h => h2 h.2)]
      go_enter Tryd.func46, Tryd.ntmps46
      go_wp2_with (refine step_box rfl 1 rfl 26 _ rfl r.cs rfl ?_; intro g w1 hr hg hb hs; have c0 := RecV.c0 hr)
      go_ret
      exact ⟨rfl, hb⟩
  · rw [RecV.leads_not (fun h => h1 h.1)]
    go_enter Tryd.func46, Tryd.ntmps46
    go_wp2_with (refine step_box rfl 1 rfl 26 _ rfl r.cs rfl ?_; intro g w1 hr hg hb hs; have c0 := RecV.c0 hr)
    go_ret
    exact ⟨rfl, hb⟩
theorem mayBe_any (r : RecV) (w : World) : Calls Tryd.prog 25 #[.agg r.cs.toArray] w fun e w' => e = .returned (.bool r.may) ∧ Below w.heap.size w w' := by
  have hq := eq_recw r rec0
  have i35 : (Tryd.prog.info? 26).map (·.size) = some r.cs.length := by rw [r.cs_len]; exact info_rec
  unfold RecV.may
  cases hl : r.leads
  · go_enter Tryd.func25, Tryd.ntmps25
    go_wp2_with (first
      | (refine step_box rfl 1 rfl 26 _ rfl r.cs rfl ?_; intro g w1 hr hg hb hs)
      | (go_at_call 46; refine (leads_any r _).mono ?_; rintro e w2 ⟨rfl, hb2⟩; rw [hl])
      | (refine step_load rfl 3 rfl 26 (.tmp 1) rfl g rfl r.cs _ hr.all Tryd.underlying26 rfl i35 ?_)
      | (refine step_load_g (by rfl) 6 rfl 26 (.tmp 1) rfl g rfl r.cs _ (hr.kept hb2).all Tryd.underlying26 rfl i35 ?_)
      | (refine step_eql (by rfl) 26 26 (.tmp 6) (.tmp 7) rfl r.cs.toArray rec0.cs.toArray rfl (by kernel_rfl) rec_guard (r.eqb rec0) hq ?_))
    go_ret
    exact ⟨by simp, hb.trans (hb2.mono hb.size)⟩
  · go_enter Tryd.func25, Tryd.ntmps25
    go_wp2_with (first
      | (refine step_box rfl 1 rfl 26 _ rfl r.cs rfl ?_; intro g w1 hr hg hb hs)
      | (go_at_call 46; refine (leads_any r _).mono ?_; rintro e w2 ⟨rfl, hb2⟩; rw [hl])
      | (refine step_load rfl 3 rfl 26 (.tmp 1) rfl g rfl r.cs _ hr.all Tryd.underlying26 rfl i35 ?_))
    go_ret
    exact ⟨rfl, hb.trans (hb2.mono hb.size)⟩
end Go.Proofs.YtibnmhaipogleaaDoor
