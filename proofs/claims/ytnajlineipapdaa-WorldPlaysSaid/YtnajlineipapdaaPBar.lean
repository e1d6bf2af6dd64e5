/- The program's disk: Barrier and Crash, by their calls. Conditions: the disk lies there; what is kept lies apart from it. -/
import Derived.Test.YtnajlineipapdaaPSettle
import Derived.Test.YtnajlineipapdaaDcrash
set_option linter.unusedVariables false
namespace Go.Proofs.Ytnajlineipapdaa
open Go.RowKit

theorem stays_all (F : List Nat) (w : World) : Stays F w 44 #[] (fun _ => true) := fun w' _ k _ => by
  show Calls Try.prog 44 #[.int .i64 (k : Int)] w' _
  go_enter Try.func44, Try.ntmps44
  go_wp2
  go_ret
  exact ⟨rfl, rfl⟩
theorem stays_keep (F : List Nat) (w : World) (gb : Nat) (K : Option Addr) (kc : Nat) (kl : List Bool) (hb : w.cell? ⟨gb, 0, none⟩ = some (.slice K kl.length kc)) (hgb : gb ∉ F) (hK : HolV w K (kl.map Value.bool)) (hKn : ∀ g0 o, K = some ⟨g0, o, none⟩ → kl.map Value.bool ≠ [] → g0 ∉ F) :
    Stays F w 45 #[.pointer (some ⟨gb, 0, none⟩)] (fun i => kl.getD i false) := fun w' hc k hk => by
  show Calls Try.prog 45 #[.int .i64 (k : Int), .pointer (some ⟨gb, 0, none⟩)] w' _
  have cb := hc.cell hb hgb
  have hK' := hK.chg hc hKn
  have hk0 : (0 : Int) ≤ (k : Int) := by omega
  by_cases hkl : k < kl.length
  · have hkli : (k : Int) < (kl.length : Int) := by omega
    obtain ⟨t, htk⟩ : ∃ t, kl[k]? = some t := ⟨_, List.getElem?_eq_getElem hkl⟩
    obtain ⟨gk, ok, rfl, _, ck⟩ := hK'.at_ (j := k) (x := .bool t) (by rw [List.getElem?_map, htk]; rfl)
    have e1 : kl.getD k false = t := by rw [List.getD_eq_getElem?_getD, htk]; rfl
    show Calls _ _ _ _ (fun e w2 => e = .returned (.bool (kl.getD k false)) ∧ w2 = w')
    rw [e1]
    clear hb hc hK hK' hKn hgb htk e1 hk
    go_enter Try.func45, Try.ntmps45
    go_wp2
    go_ret
    exact ⟨rfl, rfl⟩
  · have hkli : ¬ (k : Int) < (kl.length : Int) := by omega
    have e1 : kl.getD k false = false := by rw [List.getD_eq_getElem?_getD, List.getElem?_eq_none (by omega)]; rfl
    show Calls _ _ _ _ (fun e w2 => e = .returned (.bool (kl.getD k false)) ∧ w2 = w')
    rw [e1]
    clear hb hc hK hK' hKn hgb e1 hk hkl
    go_enter Try.func45, Try.ntmps45
    go_wp2
    go_ret
    exact ⟨rfl, rfl⟩
section
variable {b : Nat} {w : World} {g : Nat} {F : List Nat} {ss : List BV} {rs : List (Nat × BV)} {E : Nat → List BV} {ts : List (Int × Int × BV)}
set_option maxHeartbeats 400000 in
theorem PD.barrier (h : PD b w g F ss rs E ts) (hr : rs.length ≤ 1000000) (ht : ts.length ≤ 1000000) :
    Calls Try.prog 20 #[.pointer (some ⟨g, 0, none⟩)] w fun e w' => e = .returned (.tuple #[]) ∧ Turned b w w' g F (syncK (fun _ => true) rs ss rs.length) [] E (ts ++ [(3, 0, noBV)]) := by
  obtain ⟨v1, v2, gm, v4, ev, n, hn, h⟩ := h
  have H := Lib.hid h
  have HR := Lib.hid hr
  have HT := Lib.hid ht
  have HN := Lib.hid hn
  clear h hr ht hn
  go_enter Try.func20, Try.ntmps20
  go_wp2_with (first
    | (go_at_call 43; refine (psettle H.out HR.out 44 #[] (.inl ⟨rfl, rfl⟩) _ (stays_all F w)).mono ?_; rintro e1 w1 ⟨rfl, F1, hD, hC, hW⟩
       have HD := Lib.hid hD
       have HC := Lib.hid hC
       have HW := Lib.hid hW
       clear hD hC hW)
    | (go_at_call 41; refine (ptouch HD.out 3 0 noBV (Own8.none_ _ _) HT.out).mono ?_; rintro e2 w2 ⟨rfl, v', F2, hD2, hC2, hW2⟩
       have HD2 := Lib.hid hD2
       have HC2 := Lib.hid hC2
       have HW2 := Lib.hid hW2
       clear hD2 hC2 hW2))
  go_end0
  exact ⟨rfl, F2, Lib.hid ⟨_, _, _, _, _, n, by rw [List.length_append]; have := HN.out; omega, HD2.out⟩, Lib.hid (HC.out.trans HC2.out HW.out), Lib.hid (HW.out.trans HW2.out HC.out.size)⟩
set_option maxHeartbeats 400000 in
theorem PD.crash (h : PD b w g F ss rs E ts) (hr : rs.length ≤ 1000000) (K : Option Addr) (m kc : Nat) (kl : List Bool) (hm : m = kl.length) (hK : HolV w K (kl.map Value.bool)) (hKn : ∀ g0 o, K = some ⟨g0, o, none⟩ → kl.map Value.bool ≠ [] → g0 ∉ F) :
    Calls Try.prog 22 #[.pointer (some ⟨g, 0, none⟩), .slice K m kc] w fun e w' => e = .returned (.tuple #[]) ∧ Turned b w w' g F (syncK (fun i => kl.getD i false) rs ss rs.length) [] E ts := by
  subst hm
  obtain ⟨v1, v2, gm, v4, ev, n, hn, h⟩ := h
  have hBA : Below w.heap.size w (w.alloc (.cells #[.slice K kl.length kc] 33)) := (Below.refl _ _).alloc (Nat.le_refl _) _
  have HS := Lib.hid (stays_keep F (w.alloc (.cells #[.slice K kl.length kc] 33)) w.heap.size K kc kl (by simp) (fun hx => by have := h.fl _ hx; omega) (hK.below hBA) hKn)
  have HB := Lib.hid hBA
  have H := Lib.hid (h.kept hBA)
  have HR := Lib.hid hr
  have HN := Lib.hid hn
  clear h hr hn hK hKn hBA
  go_enter Try.func22, Try.ntmps22
  go_wp2_with (first
    | (go_at_call 43; refine (psettle H.out HR.out 45 #[.pointer (some ⟨w.heap.size, 0, none⟩)] (.inr ⟨_, rfl, rfl⟩) _ HS.out).mono ?_; rintro e1 w1 ⟨rfl, F1, hD, hC, hW⟩
       have HD := Lib.hid hD
       have HC := Lib.hid hC
       have HW := Lib.hid hW
       clear hD hC hW))
  go_end0
  exact ⟨rfl, F1, Lib.hid ⟨_, _, _, _, _, n, HN.out, HD.out⟩, Lib.hid ((Chg.of (F := F) HB.out).trans HC.out (fun x hx => .inl hx)), Lib.hid fun q hq => (HW.out q hq).imp id (fun e => Nat.le_trans HB.out.size e)⟩
end
end Go.Proofs.Ytnajlineipapdaa
