/- The laws' first test. No conditions. -/
import Derived.Test.YtpobppoaidngeaaKn
set_option linter.unusedVariables false
set_option maxRecDepth 20000
namespace Go.Proofs.Ytpobppoaidngeaa
open Go.RowKit

section
variable {b : Nat} {w w' : World} {gv gm gs : Nat} {n : Nat} {C : Int → Option BV}
/-- Run, of a function that comes to its end. -/
def DoneP (b : Nat) (w : World) (gv gm gs : Nat) (G : List Nat) (Done : World → (Int → Option BV) → World → Prop) (e : Ending) (w' : World) : Prop :=
  e = .returned (.tuple #[.int .i64 0, .bool true]) ∧ ∃ (n' : Nat) (C' : Int → Option BV) (w1 w2 : World) (F : List Nat), Hid (VV b w' gv gm gs none n' C') ∧ Hid (n' ≤ 1000) ∧ Hid (Done w1 C' w2) ∧ Hid (Chg F w2 w') ∧ Hid (∀ x ∈ F, x = gv ∨ (w.heap.size ≤ x ∧ x < w1.heap.size)) ∧ Hid (w.heap.size ≤ w1.heap.size) ∧ Hid (Chg (gv :: gm :: G) w w')
theorem RunP.done {G : List Nat} {Done : World → (Int → Option BV) → World → Prop} {Gave : Int → World → Prop} {e : Ending} (h : RunP b w gv gm gs G Done Gave e w') (hn : ∀ a w, ¬ Gave a w) : DoneP b w gv gm gs G Done e w' := by
  rcases h with ⟨rfl, n', C', w1, w2, F, h1, h0, h2, h3, h4, h5, h6⟩ | ⟨a, w2, _, _, h, _⟩
  · exact ⟨rfl, n', C', w1, w2, F, Lib.hid h1, Lib.hid h0, Lib.hid h2, Lib.hid h3, Lib.hid h4, Lib.hid h5, Lib.hid h6⟩
  · exact absurd h (hn a w2)
/-- Run, of a function that gives up. -/
def GaveP (b : Nat) (w : World) (gv gm gs : Nat) (G : List Nat) (a : Int) (e : Ending) (w' : World) : Prop :=
  e = .returned (.tuple #[.int .i64 a, .bool false]) ∧ Hid (VV b w' gv gm gs none 0 fun _ => none) ∧ Hid (Chg (gv :: gm :: G) w w')
theorem RunP.gave {G : List Nat} {Done : World → (Int → Option BV) → World → Prop} {Gave : Int → World → Prop} {e : Ending} {a : Int} (h : RunP b w gv gm gs G Done Gave e w') (hn : ∀ w1 C w2, ¬ Done w1 C w2) (hg : ∀ s w, Gave s w → s = a) : GaveP b w gv gm gs G a e w' := by
  rcases h with ⟨rfl, n', C', w1, w2, F, h1, h0, h2, h3, h4, h5, h6⟩ | ⟨s, w2, rfl, h1, h2, h3⟩
  · exact absurd h2 (hn _ _ _)
  · obtain rfl := hg s w2 h2
    exact ⟨rfl, Lib.hid h1, Lib.hid h3⟩
def b3 (w : World) : BV := ⟨some ⟨w.heap.size, 0, none⟩, 1, [3]⟩
theorem b3_hol (w : World) : Hol (w.alloc (.cells #[.int .u8 3] 5)) (some ⟨w.heap.size, 0, none⟩) [3] := hol_byte (x := 3) (by simp [B, bv])
theorem awake1 {r pv : Nat} {w1 : World} (h : VV b w1 gv gm gs (some ⟨r, 0, none⟩) 0 fun _ => none) (hb : b ≤ w1.heap.size) (hr : Row w1 r 58 (rcs false 0)) (hp : w1.cell? ⟨pv, 0, none⟩ = some (.pointer (some ⟨gv, 0, none⟩))) :
    Calls Try.prog 25 #[.pointer (some ⟨pv, 0, none⟩)] w1 (FunP b gv gm gs r [gm] (fun _ C' _ => byL C' = upL (fun _ => none) 0 [3]) (fun _ _ => False) w1) := by
  have H := Lib.hid h
  have HR := Lib.hid hr
  have HB := Lib.hid hb
  clear h hr hb
  go_enter Try.func25, Try.ntmps25
  go_wp2_with (first
    | (go_at_call 20; refine (vput (H.out.below (below_al w1 _)) (by have := HB.out; simp; omega) (b3 w1) (b3_hol w1) (by show 1 ≤ 131072; omega) 0 (by unfold I64; omega) (by omega)).mono ?_
       rintro e w3 ⟨rfl, y, hy, hyo, hv3, hc3⟩))
  go_end0
  refine .inl ⟨rfl, 0 + 1, upC (fun _ => none) 0 y, hv3.out, by omega, ?_, (Chg.of (F := [gm]) (below_al w1 _)).trans hc3.out (fun x hx => .inl hx), ?_⟩
  · exact hc3.out.row (HR.out.alloc _) (fun hx => by rw [List.mem_singleton] at hx; exact H.out.map.no_cells _ _ _ (hx ▸ HR.out.heap))
  · show byL (upC (fun _ => none) 0 y) = _
    rw [byL_up, hy.out]
    rfl
theorem awake2 {r pv : Nat} {w1 : World} {Bs : List BV} {Ks : List Bool} (h : VV b w1 gv gm gs (some ⟨r, 0, none⟩) 0 fun _ => none) (hb : b ≤ w1.heap.size) (hr : Row w1 r 58 (rcs false 0)) (hp : w1.cell? ⟨pv, 0, none⟩ = some (.pointer (some ⟨gv, 0, none⟩))) (hpm : pv ≠ gm) (hs : Src b w1 gs Bs Ks) (hs1 : srcF Bs Ks 1 = none) :
    Calls Try.prog 26 #[.pointer (some ⟨pv, 0, none⟩)] w1 (FunP b gv gm gs r [gm] (fun _ _ _ => False) (fun a _ => a = 1) w1) := by
  have H := Lib.hid h
  have HR := Lib.hid hr
  have HB := Lib.hid hb
  have HS := Lib.hid hs
  have HS1 := Lib.hid hs1
  have HPM := Lib.hid hpm
  clear h hr hb hs hs1 hpm
  go_enter Try.func26, Try.ntmps26
  go_wp2_with (first
    | (go_at_call 20; refine (vput (H.out.below (below_al w1 _)) (by have := HB.out; simp; omega) (b3 w1) (b3_hol w1) (by show 1 ≤ 131072; omega) 0 (by unfold I64; omega) (by omega)).mono ?_
       rintro e w3 ⟨rfl, y, hy, hyo, hv3, hc3⟩
       have hc13 : Chg [gm] w1 w3 := (Chg.of (F := [gm]) (below_al w1 _)).trans hc3.out (fun x hx => .inl hx)
       have HC13 := Lib.hid hc13
       have hp3 : w3.cell? ⟨pv, 0, none⟩ = some (.pointer (some ⟨gv, 0, none⟩)) := hc13.cell hp (by simp; exact HPM.out)
       have HR3 := Lib.hid (hc13.row HR.out (fun hx => by rw [List.mem_singleton] at hx; exact H.out.map.no_cells _ _ _ (hx ▸ HR.out.heap)))
       have HS3 := Lib.hid (HS.out.keep (hc13.below HB.out (fun x hx => by rw [List.mem_singleton] at hx; subst hx; exact H.out.lo.2)))
       clear hc13)
    | (go_at_call 22; refine (vsee_not hv3.out HS3.out HR3.out 1 (by unfold I64; omega) (by
         unfold seeF
         rw [upC_other _ _ (by decide)]
         exact HS1.out)).mono ?_
       rintro e w4 ⟨he, h1, h2⟩; unfold runE at he; subst he))
  refine ⟨rfl, .inr ⟨rfl, 0 + 1, upC (fun _ => none) 0 y, 1, ?_, h1.out, ?_, rfl⟩⟩
  · refine hv3.out.keepN h2.out (fun hx => ?_) (fun hx => ?_) (fun j hj cs fr => by rw [List.mem_singleton] at hj; subst hj; exact row_noB HR3.out (by decide) _ _)
    · exact hv3.out.row.ne_ HR3.out (by decide) (List.mem_singleton.1 hx)
    · rw [List.mem_singleton] at hx
      exact hv3.out.map.no_cells _ _ _ (hx ▸ HR3.out.heap)
  · exact (HC13.out.wider (fun x hx => .inl (by simp at hx; simp [hx]))).trans h2.out (fun x hx => .inl (by simp at hx; simp [hx]))
end
end Go.Proofs.Ytpobppoaidngeaa
