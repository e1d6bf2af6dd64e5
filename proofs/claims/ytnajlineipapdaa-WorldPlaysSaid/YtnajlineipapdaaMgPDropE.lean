/- The library's Delete at the last waiting write of a full row; Delete; the disk's drop. Conditions: the row lies there, of the call's own. -/
import Derived.Test.YtnajlineipapdaaPDrop
import Derived.Test.YtnajlineipapdaaMgDsync
import Derived.Test.YtnajlineipapdaaMgPForce
import Derived.Test.YtnajlineipapdaaPTam
set_option linter.unusedVariables false
namespace Go.Proofs.Ytnajlineipapdaa
open Go.RowKit

set_option maxRecDepth 20000 in
set_option maxHeartbeats 1000000 in
theorem delete_end (w : World) (b g k : Nat) (rs : List (Nat × BV)) (hl : rs.length = k + 1) (hbig : k + 1 ≤ 1000000) (h : w.ownsRow b 79 2 (.slice (some ⟨g, 0, none⟩) (k + 1) (k + 1)) (k + 1) (rs.flatMap wcs)) :
    Calls Try.prog 55 #[.slice (some ⟨g, 0, none⟩) (k + 1) (k + 1), .int .i64 (k : Int), .int .i64 ((k : Int) + 1)] w fun e w' =>
      e = .returned (.slice (some ⟨g, 0, none⟩) k (k + 1)) ∧ w'.ownsRow b 79 2 (.slice (some ⟨g, 0, none⟩) k (k + 1)) k ((cut1 rs k).flatMap wcs) ∧ w.grownBy w' (some g) := by
  have hcut : ∀ ty, (Builtin.append_ #[71, 71] ty #[.slice (some ⟨g, 0, none⟩) k (k + 1), .slice (some ⟨g, 0, none⟩) 0 0]).run Try.prog w.drew = .ok (.slice (some ⟨g, 0, none⟩) k (k + 1)) (w.drew.setCells g (k * 2) ((rs.drop (k + 1)).flatMap wcs)) := by
    intro ty
    exact (run_cut w.drew ty b g (k + 1) k 0 rs (by omega) (own_kept h (below_drw w)) 0 ⟨g, 0, none⟩ (.inl rfl)).1
  have h2 := (run_cut w.drew 0 b g (k + 1) k 0 rs (by omega) (own_kept h (below_drw w)) 0 ⟨g, 0, none⟩ (.inl rfl)).2
  obtain ⟨w2, hw2⟩ : ∃ w2, w.drew.setCells g (k * 2) ((rs.drop (k + 1)).flatMap wcs) = w2 := ⟨_, rfl⟩
  rw [hw2] at h2
  simp only [hw2] at hcut
  have HO := Lib.hid h2.1
  have HG := Lib.hid (grown_trans (grown_of_below (below_drw w)) h2.2)
  have i0 : (0 : Int) ≤ (k : Int) := by omega
  have i1 : (k : Int) ≤ (k : Int) + 1 := by omega
  have i4 : ((k : Int) == (k : Int) + 1) = false := beq_false_of_ne (by omega)
  have i7 : (0 : Int) ≤ (k : Int) + 1 := by omega
  have i9 : ((k : Int) + 1).toNat = k + 1 := by omega
  have HN := Lib.hid (p := k + (0 + 1) ≤ k + 1) (by omega)
  clear h h2 hw2 hl hbig
  go_enter Try.func55, Try.ntmps55
  go_wp2_with fail
  trace_state
  go_region_law (refine step_app rfl _ _ rfl _ _ rfl rfl _ _ hcut ?_)
  all_goals
    go_wp2_with (first
      | (refine wp_clear rfl _ _ rfl _ rfl _ (run_clear_room w2 _ b g (k + 1) k 0 _ HO.out HN.out _) ?_; rintro w9 ⟨ho9, hg9⟩
         have HO9 := Lib.hid ho9
         have HG9 := Lib.hid hg9
         clear ho9 hg9))
    go_ret
    exact ⟨rfl, HO9.out, grown_trans HG.out HG9.out⟩
end Go.Proofs.Ytnajlineipapdaa
/- The program's disk: the last waiting write of a block is lost. Conditions: the disk lies there. -/
set_option linter.unusedVariables false
namespace Go.Proofs.Ytnajlineipapdaa
open Go.RowKit

theorem delete_any (w : World) (b g c k n : Nat) (rs : List (Nat × BV)) (hl : rs.length = n) (hk : k < n) (hbig : n ≤ 1000000) (h : w.ownsRow b 79 2 (.slice (some ⟨g, 0, none⟩) n c) n (rs.flatMap wcs)) :
    Calls Try.prog 55 #[.slice (some ⟨g, 0, none⟩) n c, .int .i64 (k : Int), .int .i64 ((k : Int) + 1)] w fun e w' =>
      e = .returned (.slice (some ⟨g, 0, none⟩) (n - 1) c) ∧ w'.ownsRow b 79 2 (.slice (some ⟨g, 0, none⟩) (n - 1) c) (n - 1) ((cut1 rs k).flatMap wcs) ∧ w.grownBy w' (some g) := by
  by_cases hc : c = k + 1
  · have hcap : n ≤ c := by
      obtain ⟨_, _, _, _, hnc, _, _⟩ := own_row h
      exact hnc
    obtain rfl : n = k + 1 := by omega
    subst hc
    exact delete_end w b g k rs hl hbig h
  · exact delete_mid w b g c k n rs hl hk hbig h hc
/-- The writes without the last one of a block. -/
def dropL (rs : List (Nat × BV)) (a : Nat) : List (Nat × BV) := if lastI rs a rs.length < 0 then rs else cut1 rs (lastI rs a rs.length).toNat
theorem cut1_mem {rs : List (Nat × BV)} {k : Nat} {p : Nat × BV} (h : p ∈ cut1 rs k) : p ∈ rs := (List.mem_append.1 h).elim List.mem_of_mem_take List.mem_of_mem_drop
theorem cut1_len {rs : List (Nat × BV)} {k : Nat} (h : k < rs.length) : (cut1 rs k).length = rs.length - 1 := by
  unfold cut1
  rw [List.length_append, List.length_take, List.length_drop]
  omega
section
variable {b : Nat} {w : World} {g gm n : Nat} {F : List Nat} {v1 v2 v4 : Value} {ev : Nat → Value} {ss : List BV} {rs : List (Nat × BV)} {E : Nat → List BV} {ts : List (Int × Int × BV)}
set_option maxRecDepth 20000 in
set_option maxHeartbeats 1000000 in
theorem pdrop (h : PDisk b w g F v1 v2 gm v4 ev n ss rs E ts) (hr : rs.length ≤ 1000000) (a : Nat) :
    Calls Try.prog 48 #[.pointer (some ⟨g, 0, none⟩), .int .i64 (a : Int)] w fun e w' => e = .returned (.tuple #[]) ∧
      ∃ v F', PDisk b w' g F' v1 v gm v4 ev n ss (dropL rs a) E ts ∧ Chg F w w' ∧ Wider w F F' := by
  obtain ⟨A2, k2, rfl⟩ := own_sl h.o2
  have HW := Lib.hid (writes_of h.o2)
  have HR := Lib.hid hr
  have H := Lib.hid h
  have hAl : Below w.heap.size w (w.alloc (.cells #[.int .i64 (a : Int)] 3)) := (Below.refl _ _).alloc (Nat.le_refl _) _
  have HAl := Lib.hid hAl
  have HGC := Lib.hid (p := (w.alloc (.cells #[.int .i64 (a : Int)] 3)).cell? ⟨w.heap.size, 0, none⟩ = some (.int .i64 (a : Int))) (by simp)
  have HLT := Lib.hid h.cells.lt
  clear h hr hAl
  rcases now_of rs ss a rs.length (Nat.le_refl _) with ⟨e1, _⟩ | ⟨m, hm, e1, _, _⟩
  · have E1 := Lib.hid e1
    have HDL := Lib.hid (p := dropL rs a = rs) (by unfold dropL; rw [e1]; rfl)
    clear e1
    go_enter Try.func48, Try.ntmps48
    go_wp2_with (first
      | (go_at_call 53; refine (of_any _ _).mono ?_; rintro x w1 ⟨rfl, rfl⟩)
      | (go_at_call 52; refine (last_any g w.heap.size A2 k2 rs a HR.out _ (by rw [World.cell?_alloc_past _ _ _ HLT.out]; exact H.out.c1) HGC.out (HW.out.lift HAl.out)).mono ?_; rintro x w2 ⟨rfl, hb2⟩; rw [E1.out]
         have hb3 := Lib.hid (below_nxt hb2 HAl.out)
         clear hb2))
    go_end0
    rw [HDL.out]
    exact ⟨rfl, _, F, H.out.kept hb3.out, Chg.of hb3.out, Wider.refl _ _⟩
  · have E1 := Lib.hid e1
    have HDL := Lib.hid (p := dropL rs a = cut1 rs m) (by unfold dropL; rw [e1, if_neg (by omega)]; rfl)
    have HM := Lib.hid hm
    have hm0 : (0 : Int) ≤ (m : Int) := by omega
    have hmw : IntKind.i64.wrap ((m : Int) + 1) = (m : Int) + 1 := by rw [IntKind.wrap_i64]; have := HR.out; omega
    rcases HW.out with e0 | ⟨gw, rfl, hgw, _⟩
    · rw [e0] at hm
      cases hm
    have HWZ := HW
    clear e1 hm HW
    go_enter Try.func48, Try.ntmps48
    go_wp2_with (first
      | (go_at_call 53; refine (of_any _ _).mono ?_; rintro x w1 ⟨rfl, rfl⟩)
      | (go_at_call 52; refine (last_any g w.heap.size _ k2 rs a HR.out _ (by rw [World.cell?_alloc_past _ _ _ HLT.out]; exact H.out.c1) HGC.out (HWZ.out.lift HAl.out)).mono ?_; rintro x w2 ⟨rfl, hb2⟩; rw [E1.out]
         have HB2 := Lib.hid (below_nxt hb2 HAl.out)
         have H2 := Lib.hid (H.out.kept HB2.out)
         have c1 := H2.out.c1
         clear hb2)
      | (go_at_call 55; refine (delete_any w2 b gw k2 m rs.length rs rfl HM.out HR.out H2.out.o2).mono ?_; rintro e3 w3 ⟨rfl, ho3, hg3⟩
         have HO3 := Lib.hid (p := w3.ownsRow b 79 2 (.slice (some ⟨gw, 0, none⟩) (rs.length - 1) k2) (cut1 rs m).length ((cut1 rs m).flatMap wcs)) (by rw [cut1_len HM.out]; exact ho3)
         have HG3 := Lib.hid hg3
         have f1 : w3.frozen? ⟨g, 1, none⟩ = false := (row_turn H2.out.cells hg3 (NotT.own H2.out.o2 (by decide))).free 1
         have c13 : w3.cell? ⟨g, 1, none⟩ = some (.slice (some ⟨gw, 0, none⟩) rs.length k2) := (row_turn H2.out.cells hg3 (NotT.own H2.out.o2 (by decide))).cell 1
         clear ho3 hg3))
    obtain ⟨hw1, hw2, hw3⟩ := H2.out.waits (w2 := w3) (v := .slice (some ⟨gw, 0, none⟩) (rs.length - 1) k2) (rs' := cut1 rs m) HO3.out HG3.out (.inl rfl) (fun p hp => H2.out.m2 p (cut1_mem hp))
    have HW1 := Lib.hid hw1
    have HW2 := Lib.hid ((Chg.of (F := F) HB2.out).trans hw2 (fun y hy => .inl hy))
    have HW3 := Lib.hid (p := Wider w F _) (fun q hq => (hw3 q hq).imp id (fun e => Nat.le_trans HB2.out.size e))
    clear hw1 hw2 hw3
    go_end0
    rw [HDL.out]
    exact ⟨rfl, _, _, HW1.out, HW2.out, HW3.out⟩
end
end Go.Proofs.Ytnajlineipapdaa
/- The reference's disk: lists without a place, a block's elder bytes out of all that was written. No conditions. -/
set_option linter.unusedVariables false
namespace Go.Proofs.Ytnajlineipapdaa
open Go.RowKit

/-- The first k without place z. -/
def skipK (rs : List (Nat × BV)) (z : Int) : Nat → List (Nat × BV)
  | 0 => []
  | k + 1 => if (k : Int) = z then skipK rs z k else skipK rs z k ++ [rs.getD k (0, noBV)]
theorem take_getD {rs : List (Nat × BV)} {k : Nat} (hk : k < rs.length) : rs.take (k + 1) = rs.take k ++ [rs.getD k (0, noBV)] := by
  rw [List.take_add_one, List.getD_eq_getElem?_getD, List.getElem?_eq_getElem hk]
  rfl
theorem skipK_far {rs : List (Nat × BV)} {z : Int} : ∀ k, k ≤ rs.length → (z < 0 ∨ (k : Int) ≤ z) → skipK rs z k = rs.take k
  | 0, _, _ => by simp [skipK]
  | k + 1, h, hz => by
    rw [skipK, if_neg (by omega), skipK_far k (by omega) (by omega), take_getD (by omega)]
theorem skipK_near {rs : List (Nat × BV)} {m : Nat} : ∀ k, k ≤ rs.length → m < k → skipK rs (m : Int) k = rs.take m ++ (rs.take k).drop (m + 1)
  | 0, _, h => absurd h (Nat.not_lt_zero _)
  | k + 1, h, hm => by
    by_cases e : k = m
    · subst e
      rw [skipK, if_pos rfl, skipK_far k (by omega) (.inr (Int.le_refl _)), List.drop_eq_nil_of_le (by rw [List.length_take]; omega), List.append_nil]
    · rw [skipK, if_neg (by omega), skipK_near k (by omega) (by omega), take_getD (by omega), List.append_assoc, List.drop_append_of_le_length (by rw [List.length_take]; omega)]
theorem skipK_drop (rs : List (Nat × BV)) (a : Nat) : skipK rs (lastI rs a rs.length) rs.length = dropL rs a := by
  unfold dropL
  split
  · rename_i h
    rw [skipK_far _ (Nat.le_refl _) (.inl h), List.take_length]
  · rename_i h
    rcases now_of rs [] a rs.length (Nat.le_refl _) with ⟨h1, _⟩ | ⟨m, hm, h1, _⟩
    · omega
    · rw [h1, skipK_near _ (Nat.le_refl _) hm, List.take_length]
      rfl
theorem skipK_mem {rs : List (Nat × BV)} {z : Int} {p : Nat × BV} : ∀ k, k ≤ rs.length → p ∈ skipK rs z k → p ∈ rs
  | 0, _, h => by cases h
  | k + 1, hk, h => by
    rw [skipK] at h
    split at h
    · exact skipK_mem k (by omega) h
    · rcases List.mem_append.1 h with h | h
      · exact skipK_mem k (by omega) h
      · have h9 : p = rs.getD k (0, noBV) := by simpa using h
        rw [h9, List.getD_eq_getElem?_getD, List.getElem?_eq_getElem (by omega)]
        exact List.getElem_mem _
theorem skipK_len {rs : List (Nat × BV)} {z : Int} : ∀ k, (skipK rs z k).length ≤ k
  | 0 => Nat.le_refl _
  | k + 1 => by
    rw [skipK]
    have := skipK_len (rs := rs) (z := z) k
    split
    · omega
    · rw [List.length_append]
      simp
      omega
/-- All bytes that were written to block a, the first ones first. -/
def eld (al : List (Nat × BV)) (a : Nat) : List BV := (al.filter fun p => p.1 = a).map (·.2)
theorem eld_app (xs ys : List (Nat × BV)) (a : Nat) : eld (xs ++ ys) a = eld xs a ++ eld ys a := by
  unfold eld
  rw [List.filter_append, List.map_append]
theorem eld_one (p : Nat × BV) (a : Nat) : eld [p] a = if p.1 = a then [p.2] else [] := by
  unfold eld
  by_cases h : p.1 = a <;> simp [h]
theorem drop_getD {al : List (Nat × BV)} {k : Nat} {p : Nat × BV} (hk : al[k]? = some p) : al.drop k = p :: al.drop (k + 1) := by
  obtain ⟨h, h2⟩ := List.getElem?_eq_some_iff.1 hk
  rw [← h2]
  exact List.drop_eq_getElem_cons h
/-- Found: so many of the block lie behind it. -/
theorem eld_found {al : List (Nat × BV)} {k : Nat} {p : Nat × BV} (hk : al[k]? = some p) {a : Nat} (hp : p.1 = a) : (eld al a).length - 1 - (eld (al.drop (k + 1)) a).length < (eld al a).length ∧ (eld (al.drop (k + 1)) a).length < (eld al a).length ∧ (eld al a).getD ((eld al a).length - 1 - (eld (al.drop (k + 1)) a).length) noBV = p.2 := by
  have h1 : eld al a = eld (al.take k) a ++ (p.2 :: eld (al.drop (k + 1)) a) := by
    conv => lhs; rw [← List.take_append_drop k al, eld_app, drop_getD hk, ← List.singleton_append, eld_app, eld_one, if_pos hp]
    rfl
  have h2 : (eld al a).length = (eld (al.take k) a).length + ((eld (al.drop (k + 1)) a).length + 1) := by rw [h1]; simp
  refine ⟨by omega, by omega, ?_⟩
  rw [show (eld al a).length - 1 - (eld (al.drop (k + 1)) a).length = (eld (al.take k) a).length by omega, h1, List.getD_eq_getElem?_getD, List.getElem?_append_right (Nat.le_refl _), Nat.sub_self]
  rfl
theorem eld_step {al : List (Nat × BV)} {k : Nat} {p : Nat × BV} (hk : al[k]? = some p) (a : Nat) : eld (al.drop k) a = if p.1 = a then p.2 :: eld (al.drop (k + 1)) a else eld (al.drop (k + 1)) a := by
  rw [drop_getD hk, ← List.singleton_append, eld_app, eld_one]
  split <;> rfl
theorem own_lower {w : World} {b b' n size : Nat} {e : TypeId} {v : Value} {xs : List Value} (h : w.ownsRow b e size v n xs) (hb : b' ≤ b) : w.ownsRow b' e size v n xs := by
  refine ⟨h.1, ?_⟩
  rcases h.2 with h0 | ⟨g, cap, cur, h1, h2, h3⟩
  · exact .inl h0
  · exact .inr ⟨g, cap, cur, h1, Nat.le_trans hb h2, h3⟩
theorem rec_range {rs : List (Nat × BV)} {w : World} {b n : Nat} {v : Value} (h : w.ownsRow b 81 2 v n (rs.flatMap wcs)) {k : Nat} {p : Nat × BV} (hp : rs[k]? = some p) {g c m : Nat} (hv : v = .slice (some ⟨g, 0, none⟩) m c) : w.rangeAt g (k * 2) (wcs p) := by
  intro j u hu
  obtain ⟨g2, c2, e2, _, _, hc⟩ := own_rec wcs_len h hp (by omega)
  rw [hv] at e2
  simp only [Value.slice.injEq, Option.some.injEq, Addr.mk.injEq] at e2
  rw [e2.1.1]
  exact hc j u hu
end Go.Proofs.Ytnajlineipapdaa
