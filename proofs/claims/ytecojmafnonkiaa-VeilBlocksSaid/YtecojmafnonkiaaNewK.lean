/- A cipher made of a key's bytes: what the call leaves, for every bytes. Conditions: those named. -/
import Derived.Test.YtecojmafnonkiaaSprd
import Derived.Laws.Cover3
set_option linter.unusedVariables false
namespace Go.Proofs.Ytecojmafnonkiaa
open Go.RowKit

/-- A list's bytes by place. -/
def byl (l : List UInt8) (j : Nat) : UInt8 := l.getD j 0
theorem brr_byl (l : List UInt8) : brr l.length (byl l) = bc l := by
  apply List.ext_getElem?
  intro j
  by_cases h : j < l.length
  · rw [brr_get _ h, get_bc (List.getElem?_eq_getElem h)]
    unfold byl
    rw [List.getD_eq_getElem?_getD, List.getElem?_eq_getElem h]
    rfl
  · rw [brr_none _ (by omega), List.getElem?_eq_none (by rw [bc_len]; omega)]
theorem range_calm {w w' : World} {b o : Nat} {cs : List Value} (h : w.rangeAt b o cs) (hb : b < w.heap.size) (k : Calm w w') : w'.rangeAt b o cs := fun j v hv => (k.below.cell (p := ⟨b, o + j, none⟩) hb).trans (h j v hv)
theorem built_cipher : Try.prog.built 74 [(0, .agg (brr 256 sbf).toArray)] = some (cph fun _ => 0).toArray := by
  kernel_rfl

set_option maxRecDepth 20000 in
theorem new_any (A : Option Addr) (c : Nat) (l : List UInt8) (w : World) (hA : Hol w A l) :
    Calls Try.prog 18 #[.slice A l.length c] w fun e w' =>
      (l.length ≠ 32 → e = .returned (.tuple #[.pointer none, .int .i64 201]) ∧ Calm w w') ∧
      (l.length = 32 → ∃ g, e = .returned (.tuple #[.pointer (some ⟨g, 0, none⟩), .int .i64 0]) ∧ w.heap.size ≤ g ∧ CipherAt w' g (kx (byl l)) ∧ Calm w w') := by
  by_cases hl : l.length = 32
  · obtain ⟨gk, off, rfl, hgk, hcell⟩ := hA.some_ (by omega)
    have i32 := Lib.hid (p := (Try.prog.info? 42).map (·.size) = some 32) (by kernel_rfl)
    have hll : (l.length : Int) = 32 := by omega
    have HL := Lib.hid hl
    have hrg : w.rangeAt gk off (brr 32 (byl l)) := fun j v hv => by
      rw [← hl, brr_byl] at hv
      obtain ⟨x, hx, rfl⟩ := bc_get hv
      exact hcell j x hx
    have HR := Lib.hid hrg
    have hat : ∀ w, (Instr.arrayAt 42 (.slice (some ⟨gk, off, none⟩) l.length c)).run Try.prog w = .ok (.pointer (some ⟨gk, off, none⟩)) w := fun w => run_arrayAt (P := Try.prog) w 42 5 32 _ _ _ Try.underlying42 (by omega)
    clear hrg hcell hl hA
    go_enter Try.func18, Try.ntmps18
    go_wp2_with (first
      | (go_at_call 27; refine (boxes_any _).mono ?_; rintro e w1 ⟨rfl, hc1⟩)
      | (refine step_build rfl 74 #[(0, .tmp 8)] rfl [(0, .agg (brr 256 sbf).toArray)] ?hv _ built_cipher ?_; case hv => (simp [Act.eval, Act.put]))
      | (refine calm_box rfl 10 rfl 74 (.tmp 9) rfl (cph fun _ => 0) (by rfl) ?_; intro g w2 hr2 hg2 hb2 hs2)
      | (refine wpList_load_mid rfl 42 (.tmp 13) rfl gk off rfl (brr 32 (byl l)) _ (range_calm HR.out hgk (hc1.of hb2)) Try.underlying42 rfl (by rw [brr_len]; exact i32) ?_)
      | (go_at_call 28; refine (spread_any g (byl l) _ hr2).mono ?_; rintro e w3 ⟨rfl, hC3, hU3⟩))
    go_ret2
    have q2 : w.heap.size ≤ g := by rw [hg2.out]; exact hc1.size
    exact ⟨fun h => absurd HL.out h, fun _ => ⟨g, rfl, q2, hC3, hU3.calm (hc1.of hb2) q2⟩⟩
  · have hll : ¬ (l.length : Int) = 32 := by omega
    go_enter Try.func18, Try.ntmps18
    go_wp2
    go_ret2
    exact ⟨fun _ => ⟨rfl, Calm.refl _⟩, fun h => absurd h hl⟩
end Go.Proofs.Ytecojmafnonkiaa
