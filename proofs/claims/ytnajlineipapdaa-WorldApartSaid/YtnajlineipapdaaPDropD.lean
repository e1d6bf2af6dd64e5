/- The program's disk: the last waiting write of a block is lost. Conditions: the disk lies there. -/
import Derived.Test.YtnajlineipapdaaPDropE
set_option linter.unusedVariables false
namespace Go.Proofs.Ytnajlineipapdaa
open Go.RowKit

theorem delete_any (w : World) (b g c k n : Nat) (rs : List (Nat × BV)) (hl : rs.length = n) (hk : k < n) (hbig : n ≤ 1000000) (h : w.ownsRow b 79 2 (.slice (some ⟨g, 0, none⟩) n c) n (rs.flatMap wcs)) :
    Calls Try.prog 55 #[.slice (some ⟨g, 0, none⟩) n c, .int .i64 (k : Int), .int .i64 ((k : Int) + 1)] w fun e w' =>
      e = .returned (.slice (some ⟨g, 0, none⟩) (n - 1) c) ∧ w'.ownsRow b 79 2 (.slice (some ⟨g, 0, none⟩) (n - 1) c) (n - 1) ((cut1 rs k).flatMap wcs) ∧ w.grownBy w' (some g) := by
  by_cases hc : c = k + 1
  · have hcap : n ≤ c := by
      obtain ⟨_, _, _, _, hnc, _, _⟩ := own_row h
      exact hnc
    obtain rfl : n = k + 1 := by omega
    subst hc
    exact delete_end w b g k rs hl hbig h
  · exact delete_mid w b g c k n rs hl hk hbig h hc
/-- The writes without the last one of a block. -/
def dropL (rs : List (Nat × BV)) (a : Nat) : List (Nat × BV) := if lastI rs a rs.length < 0 then rs else cut1 rs (lastI rs a rs.length).toNat
theorem cut1_mem {rs : List (Nat × BV)} {k : Nat} {p : Nat × BV} (h : p ∈ cut1 rs k) : p ∈ rs := (List.mem_append.1 h).elim List.mem_of_mem_take List.mem_of_mem_drop
theorem cut1_len {rs : List (Nat × BV)} {k : Nat} (h : k < rs.length) : (cut1 rs k).length = rs.length - 1 := by
  unfold cut1
  rw [List.length_append, List.length_take, List.length_drop]
  omega
section
variable {b : Nat} {w : World} {g gm n : Nat} {F : List Nat} {v1 v2 v4 : Value} {ev : Nat → Value} {ss : List BV} {rs : List (Nat × BV)} {E : Nat → List BV} {ts : List (Int × Int × BV)}
set_option maxRecDepth 20000 in
set_option maxHeartbeats 1000000 in
theorem pdrop (h : PDisk b w g F v1 v2 gm v4 ev n ss rs E ts) (hr : rs.length ≤ 1000000) (a : Nat) :
    Calls Try.prog 48 #[.pointer (some ⟨g, 0, none⟩), .int .i64 (a : Int)] w fun e w' => e = .returned (.tuple #[]) ∧
      ∃ v F', PDisk b w' g F' v1 v gm v4 ev n ss (dropL rs a) E ts ∧ Chg F w w' ∧ Wider w F F' := by
  obtain ⟨A2, k2, rfl⟩ := own_sl h.o2
  have HW := Lib.hid (writes_of h.o2)
  have HR := Lib.hid hr
  have H := Lib.hid h
  have hAl : Below w.heap.size w (w.alloc (.cells #[.int .i64 (a : Int)] 3)) := (Below.refl _ _).alloc (Nat.le_refl _) _
  have HAl := Lib.hid hAl
  have HGC := Lib.hid (p := (w.alloc (.cells #[.int .i64 (a : Int)] 3)).cell? ⟨w.heap.size, 0, none⟩ = some (.int .i64 (a : Int))) (by simp)
  have HLT := Lib.hid h.cells.lt
  clear h hr hAl
  rcases now_of rs ss a rs.length (Nat.le_refl _) with ⟨e1, _⟩ | ⟨m, hm, e1, _, _⟩
  · have E1 := Lib.hid e1
    have HDL := Lib.hid (p := dropL rs a = rs) (by unfold dropL; rw [e1]; rfl)
    clear e1
    go_enter Try.func48, Try.ntmps48
    go_wp2_with (first
      | (go_at_call 53; refine (of_any _ _).mono ?_; rintro x w1 ⟨rfl, rfl⟩)
      | (go_at_call 52; refine (last_any g w.heap.size A2 k2 rs a HR.out _ (by rw [World.cell?_alloc_past _ _ _ HLT.out]; exact H.out.c1) HGC.out (HW.out.lift HAl.out)).mono ?_; rintro x w2 ⟨rfl, hb2⟩; rw [E1.out]
         have hb3 := Lib.hid (below_nxt hb2 HAl.out)
         clear hb2))
    go_end0
    rw [HDL.out]
    exact ⟨rfl, _, F, H.out.kept hb3.out, Chg.of hb3.out, Wider.refl _ _⟩
  · have E1 := Lib.hid e1
    have HDL := Lib.hid (p := dropL rs a = cut1 rs m) (by unfold dropL; rw [e1, if_neg (by omega)]; rfl)
    have HM := Lib.hid hm
    have hm0 : (0 : Int) ≤ (m : Int) := by omega
    have hmw : IntKind.i64.wrap ((m : Int) + 1) = (m : Int) + 1 := by rw [IntKind.wrap_i64]; have := HR.out; omega
    rcases HW.out with e0 | ⟨gw, rfl, hgw, _⟩
    · rw [e0] at hm
      cases hm
    have HWZ := HW
    clear e1 hm HW
    go_enter Try.func48, Try.ntmps48
    go_wp2_with (first
      | (go_at_call 53; refine (of_any _ _).mono ?_; rintro x w1 ⟨rfl, rfl⟩)
      | (go_at_call 52; refine (last_any g w.heap.size _ k2 rs a HR.out _ (by rw [World.cell?_alloc_past _ _ _ HLT.out]; exact H.out.c1) HGC.out (HWZ.out.lift HAl.out)).mono ?_; rintro x w2 ⟨rfl, hb2⟩; rw [E1.out]
         have HB2 := Lib.hid (below_nxt hb2 HAl.out)
         have H2 := Lib.hid (H.out.kept HB2.out)
         have c1 := H2.out.c1
         clear hb2)
      | (go_at_call 55; refine (delete_any w2 b gw k2 m rs.length rs rfl HM.out HR.out H2.out.o2).mono ?_; rintro e3 w3 ⟨rfl, ho3, hg3⟩
         have HO3 := Lib.hid (p := w3.ownsRow b 79 2 (.slice (some ⟨gw, 0, none⟩) (rs.length - 1) k2) (cut1 rs m).length ((cut1 rs m).flatMap wcs)) (by rw [cut1_len HM.out]; exact ho3)
         have HG3 := Lib.hid hg3
         have f1 : w3.frozen? ⟨g, 1, none⟩ = false := (row_turn H2.out.cells hg3 (NotT.own H2.out.o2 (by decide))).free 1
         have c13 : w3.cell? ⟨g, 1, none⟩ = some (.slice (some ⟨gw, 0, none⟩) rs.length k2) := (row_turn H2.out.cells hg3 (NotT.own H2.out.o2 (by decide))).cell 1
         clear ho3 hg3))
    obtain ⟨hw1, hw2, hw3⟩ := H2.out.waits (w2 := w3) (v := .slice (some ⟨gw, 0, none⟩) (rs.length - 1) k2) (rs' := cut1 rs m) HO3.out HG3.out (.inl rfl) (fun p hp => H2.out.m2 p (cut1_mem hp))
    have HW1 := Lib.hid hw1
    have HW2 := Lib.hid ((Chg.of (F := F) HB2.out).trans hw2 (fun y hy => .inl hy))
    have HW3 := Lib.hid (p := Wider w F _) (fun q hq => (hw3 q hq).imp id (fun e => Nat.le_trans HB2.out.size e))
    clear hw1 hw2 hw3
    go_end0
    rw [HDL.out]
    exact ⟨rfl, _, _, HW1.out, HW2.out, HW3.out⟩
end
end Go.Proofs.Ytnajlineipapdaa
