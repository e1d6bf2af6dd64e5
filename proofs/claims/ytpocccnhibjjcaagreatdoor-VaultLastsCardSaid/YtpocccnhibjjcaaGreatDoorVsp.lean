/- The law's Hold with a commit going on (PV): Begin, Push, a crash; a crash and a step of a mounting. Conditions: the Hold lies there. -/
import Derived.Test.YtpocccnhibjjcaaGreatDoorVsv
set_option linter.unusedVariables false
set_option maxRecDepth 20000
namespace Go.Proofs.YtpocccnhibjjcaaGreatDoor
open Go.RowKit

section
variable {b : Nat} {w w' : World} {FD FA G : List Nat} {g q gv gH : Nat} {L : Nat → Nat → List UInt8} {X X' : VX} {n E k m Q M : Nat} {c d : Nat → List UInt8} {gd ga : Nat} {old : Value} {P : VX → Prop}
def PV (w : World) (gH g : Nat) (G : List Nat) (n : Nat) (L : Nat → Nat → List UInt8) (Q M E : Nat) (c d : Nat → List UInt8) (k : Nat) : Prop :=
  ∃ b gd ga gv q old m FD FA X N0, HS b w gH G n gd ga gv g q L old m FD FA X ∧ PPh g L n E N0 c d k X ∧ q ≤ Q ∧ m ≤ M ∧ ∀ i, c i = [] ∨ (c i).length = 256
theorem PV.cell (h : PV w gH g G n L Q M E c d k) : w.cell? ⟨gH, 4, none⟩ = some (.pointer (some ⟨g, 0, none⟩)) := by
  obtain ⟨b, gd, ga, gv, q, old, m, FD, FA, X, N0, h1, _⟩ := h
  exact hv_cell h1.row
theorem PV.below (h : PV w gH g G n L Q M E c d k) (hb : Below w.heap.size w w') : PV w' gH g G n L Q M E c d k := by
  obtain ⟨b, gd, ga, gv, q, old, m, FD, FA, X, N0, h1, h2⟩ := h
  exact ⟨b, gd, ga, gv, q, old, m, FD, FA, X, N0, h1.below hb, h2⟩
theorem sv_begin (h : SV w gH g G n L Q M E c P) (hd : ∀ X, P X → ovC X.C c = d ∧ ∃ a, a < 256 ∧ (X.C a).isSome = true) (hE : E ≤ 900000) : Calls Tryz.prog 21 #[.pointer (some ⟨g, 0, none⟩)] w fun e w' => e = .returned (.bool true) ∧ GTo w G w' fun G' => PV w' gH g G' n L Q M E c d 87 := by
  obtain ⟨b, gd, ga, gv, q, old, m, FD, FA, X, h1, h2, h3, h4, h5, h6⟩ := h
  refine (vbegin_in h1.vb h2 (hd X h6).2 (by omega)).mono fun e w' hv => ?_
  obtain ⟨rfl, X', hT, hG, hP⟩ := hv
  obtain ⟨G', FD', FA', k1, k2, k3⟩ := h1.to hT hG.out.1 hG.out.2.1
  have hp := hP.out.1
  rw [(hd X h6).1, h3] at hp
  exact ⟨rfl, G', Lib.hid ⟨b, gd, ga, gv, q, old, m, FD', FA', X', X.N, k1, hp, h4, h5, h2.len⟩, Lib.hid k2, Lib.hid k3⟩
theorem sv_begin_not (h : SV w gH g G n L Q M E c P) (hd : ∀ X, P X → ∀ a, X.C a = none) : Calls Tryz.prog 21 #[.pointer (some ⟨g, 0, none⟩)] w fun e w' => e = .returned (.bool false) ∧ w = w' := by
  obtain ⟨b, gd, ga, gv, q, old, m, FD, FA, X, h1, h2, h3, h4, h5, h6⟩ := h
  exact vbegin_not h1.vb h2.pf (fun a _ => hd X h6 a)
theorem pv_push (h : PV w gH g G n L Q M E c d k) (hk : k ≤ 88) (hE : E ≤ 900000) (hQ : Q + 90 ≤ 900000) : Calls Tryz.prog 14 #[.pointer (some ⟨g, 0, none⟩)] w fun e w' => ∃ r, e = .returned (.tuple #[.bool r, .int .i64 0]) ∧ GTo w G w' fun G' => (r = false ∧ 1 ≤ k ∧ PV w' gH g G' n L (Q + 90) M E c d (k - 1)) ∨ (r = true ∧ SV w' gH g G' n L (Q + 90) M (E + 1) d fun _ => True) := by
  obtain ⟨b, gd, ga, gv, q, old, m, FD, FA, X, N0, h1, h2, h4, h5, h6⟩ := h
  have hpos := h2.pos.1
  refine (vpush h1.vb h2 hE hk (by omega)).mono fun e w' hv => ?_
  obtain ⟨r, rfl, X', hT, hG, hO⟩ := hv
  obtain ⟨G', FD', FA', k1, k2, k3⟩ := h1.to hT hG.out.1 hG.out.2.1
  refine ⟨r, rfl, G', Lib.hid ?_, Lib.hid k2, Lib.hid k3⟩
  rcases hO with ⟨rfl, h⟩ | ⟨rfl, h⟩
  · exact .inl ⟨rfl, hpos, b, gd, ga, gv, q + 90, old, m, FD', FA', X', N0, k1, h.out, by omega, h5, h6⟩
  · exact .inr ⟨rfl, b, gd, ga, gv, q + 90, old, m, FD', FA', X', k1, h.out.1, h.out.2, by omega, h5, trivial⟩
theorem sv_push_none (h : SV w gH g G n L Q M E c P) : Calls Tryz.prog 14 #[.pointer (some ⟨g, 0, none⟩)] w fun e w' => e = .returned (.tuple #[.bool false, .int .i64 205]) ∧ w = w' := by
  obtain ⟨b, gd, ga, gv, q, old, m, FD, FA, X, h1, h2, h3, h4, h5, h6⟩ := h
  exact vpush_none h1.vb h2.pf
theorem PPh.ae {N0 : Nat → Nat → Nat → RecV} (h : PPh g L n E N0 c d k X) : X.ae = E := by
  rcases h with ⟨h, _⟩ | ⟨h, _⟩
  · rw [h.fx.ae, h.fx.e_]
  · rw [h.fx.ae, h.fx.e_]
theorem pv_crash (h : PV w gH g G n L Q M E c d k) (hM : M + Q ≤ 1000000) (KA : Option Addr) (kc : Nat) (kl : List Bool) (hK : HolV w KA (kl.map Value.bool)) (hKn : ∀ g0 o, KA = some ⟨g0, o, none⟩ → kl.map Value.bool ≠ [] → g0 ∉ G) : Calls Tryz.prog 32 #[.pointer (some ⟨gH, 0, none⟩), .slice KA kl.length kc] w fun e w' => e = .returned (.bool true) ∧ ∃ g', GTo w G w' fun G' => MV w' gH g' G' n L Q (M + Q) (E + 1) c := by
  obtain ⟨b, gd, ga, gv, q, old, m, FD, FA, X, N0, h1, h2, h4, h5, h6⟩ := h
  have hu := h1.vb.lim.2.1
  refine (hcrash h1 (h2.ca h6) (by omega) KA kc kl hK hKn).mono fun e w' hv => ?_
  obtain ⟨rfl, G', g', old', FD', FA', X', k1, k2, k3, k4⟩ := hv
  rw [h2.ae] at k2
  exact ⟨rfl, g', G', Lib.hid ⟨b, gd, ga, gv, q, old', _, FD', FA', X', k1, k2.out, h4, by omega⟩, k3, k4⟩
theorem MPh.ae (h : MPh g L n c E k X) : X.ae + 1 = E ∨ X.ae = E := by
  rcases h with ⟨_, _, _, h, _⟩ | ⟨_, h, _, _, _, _, h2, _⟩ | ⟨h, _, h2, _⟩
  · exact .inl h
  · exact .inr (h.ae.trans h2)
  · exact .inr (h.ae.trans h2)
theorem mv_crash (h : MV w gH g G n L Q M E c) (hM : M + Q ≤ 1000000) (KA : Option Addr) (kc : Nat) (kl : List Bool) (hK : HolV w KA (kl.map Value.bool)) (hKn : ∀ g0 o, KA = some ⟨g0, o, none⟩ → kl.map Value.bool ≠ [] → g0 ∉ G) : Calls Tryz.prog 32 #[.pointer (some ⟨gH, 0, none⟩), .slice KA kl.length kc] w fun e w' => e = .returned (.bool true) ∧ ∃ g' E', E' ≤ E + 1 ∧ GTo w G w' fun G' => MV w' gH g' G' n L Q (M + Q) E' c := by
  obtain ⟨b, gd, ga, gv, q, old, m, FD, FA, X, h1, h2, h4, h5⟩ := h
  have hu := h1.vb.lim.2.1
  refine (hcrash h1 h2.ca (by omega) KA kc kl hK hKn).mono fun e w' hv => ?_
  obtain ⟨rfl, G', g', old', FD', FA', X', k1, k2, k3, k4⟩ := hv
  refine ⟨rfl, g', X.ae + 1, ?_, G', Lib.hid ⟨b, gd, ga, gv, q, old', _, FD', FA', X', k1, k2.out, h4, by omega⟩, k3, k4⟩
  rcases h2.ae with e | e <;> omega
theorem MPh.more {k' : Nat} (h : MPh g L n c E k X) (hk : k ≤ k') : MPh g L n c E k' X := by
  rcases h with ⟨N0, h1, h2, h3, h4⟩ | ⟨N0, h1, h2, h3, h4, h5, h6, h7⟩ | h
  · exact .inl ⟨N0, h1, h2, h3, by omega⟩
  · exact .inr (.inl ⟨N0, h1, h2, h3, h4, h5, h6, by omega⟩)
  · exact .inr (.inr h)
theorem mv_step (h : MV w gH g G n L Q M E c) (hE : E ≤ 900000) (hQ : Q + 2 ≤ 900000) : Calls Tryz.prog 13 #[.pointer (some ⟨g, 0, none⟩)] w fun e w' => ∃ r, e = .returned (.tuple #[.bool r, .int .i64 0]) ∧ GTo w G w' fun G' => MV w' gH g G' n L (Q + 2) M E c := by
  obtain ⟨b, gd, ga, gv, q, old, m, FD, FA, X, h1, h2, h4, h5⟩ := h
  refine (vmount h1.vb h2 hE (by omega)).mono fun e w' hv => ?_
  obtain ⟨r, rfl, X', hr, hT, hM, hG⟩ := hv
  obtain ⟨G', FD', FA', k1, k2, k3⟩ := h1.to hT hG.out.1 hG.out.2.1
  exact ⟨r, rfl, G', Lib.hid ⟨b, gd, ga, gv, q + 2, old, m, FD', FA', X', k1, hM.out.more (by omega), by omega, h5⟩, Lib.hid k2, Lib.hid k3⟩
theorem isK_commit {i : Nat} (hu : X.H i = none → X.C i = none) (hk : isK X c i = true) (hH : X'.H = X.H) (hd : d = ovC X.C c) : isK X' d i = true := by
  unfold isK at hk ⊢
  rw [hH, hd]
  cases e : X.H i with
  | some x => rfl
  | none =>
    rw [e] at hk
    unfold ovC
    rw [hu e]
    exact hk
theorem SV.unheld (h : SV w gH g G n L Q M E c P) : SV w gH g G n L Q M E c fun X => P X ∧ ∀ i, X.H i = none → X.C i = none := h.imp fun X hr hp => ⟨hp, fun i hi => hr.unheld hi⟩
end
end Go.Proofs.YtpocccnhibjjcaaGreatDoor
