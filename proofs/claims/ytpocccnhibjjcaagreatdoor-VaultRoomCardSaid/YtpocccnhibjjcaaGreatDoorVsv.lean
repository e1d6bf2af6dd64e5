/- The law's Hold with its vault, as its walks see it: mounting (MV), ready (SV). Conditions: the Hold lies there. -/
import Derived.Test.YtpocccnhibjjcaaGreatDoorVhc
set_option linter.unusedVariables false
set_option maxRecDepth 20000
namespace Go.Proofs.YtpocccnhibjjcaaGreatDoor
open Go.RowKit

section
variable {b : Nat} {w w' : World} {FD FA G : List Nat} {g q gv gH : Nat} {L : Nat → Nat → List UInt8} {X X' : VX} {n E k m Q M : Nat} {c : Nat → List UInt8} {gd ga : Nat} {old : Value} {P : VX → Prop}
theorem HS.to {q' : Nat} (h : HS b w gH G n gd ga gv g q L old m FD FA X) (hT : VTo b w (vfoot g X.c FD FA) w' g q' gv L X') (hgd : X'.c.gd = X.c.gd) (hga : X'.c.ga = X.c.ga) : ∃ G' FD' FA', HS b w' gH G' n gd ga gv g q' L old m FD' FA' X' ∧ Chg G w w' ∧ Wider w G G' := by
  obtain ⟨FD', FA', hV, hC, hW⟩ := hT
  obtain ⟨xs, ho⟩ := h.own
  have hin : ∀ j ∈ vfoot g X.c FD FA, j ∈ G := fun j hj => (h.gf j).2 (.inr (.inr hj))
  have hc : Chg G w w' := (Chg.refl G w).trans hC.out (fun j hj => .inl (hin j hj))
  have hw : Wider w G (hG gH old (vfoot g X'.c FD' FA')) := fun j hj => by
    rcases mem_hG.1 hj with e | e | e
    · exact .inl ((h.gf j).2 (.inl e))
    · exact .inl ((h.gf j).2 (.inr (.inl e)))
    · rcases hW.out j e with e | e
      · exact .inl (hin j e)
      · exact .inr e
  refine ⟨_, FD', FA', ⟨hC.out.row h.row h.far, hV.out, hgd.trans h.gd_, hga.trans h.ga_, fun hx => ?_, ⟨xs, hC.out.own ho h.ofar⟩, fun j hj hx => ?_, fun j => mem_hG, h.gb, h.vl.chg hc (fun j hj => .inl hj) hw⟩, hc, hw⟩
  · rcases hW.out _ hx with e | e
    · exact h.far e
    · have := h.row.lt
      omega
  · rcases hW.out _ hx with e | e
    · exact h.ofar j hj e
    · have := (ho.lt j hj).2
      omega
theorem HS.below (h : HS b w gH G n gd ga gv g q L old m FD FA X) (hb : Below w.heap.size w w') : HS b w' gH G n gd ga gv g q L old m FD FA X :=
  ⟨h.row.kept hb, h.vb.below hb, h.gd_, h.ga_, h.far, by obtain ⟨xs, ho⟩ := h.own; exact ⟨xs, own_kept ho hb⟩, h.ofar, h.gf, h.gb, h.vl.chg (G := []) (.of hb) (fun j hj => by cases hj) (fun j hj => .inl hj)⟩
def MV (w : World) (gH g : Nat) (G : List Nat) (n : Nat) (L : Nat → Nat → List UInt8) (Q M E : Nat) (c : Nat → List UInt8) : Prop :=
  ∃ b gd ga gv q old m FD FA X, HS b w gH G n gd ga gv g q L old m FD FA X ∧ MPh g L n c E 50 X ∧ q ≤ Q ∧ m ≤ M
def SV (w : World) (gH g : Nat) (G : List Nat) (n : Nat) (L : Nat → Nat → List UInt8) (Q M E : Nat) (c : Nat → List UInt8) (P : VX → Prop) : Prop :=
  ∃ b gd ga gv q old m FD FA X, HS b w gH G n gd ga gv g q L old m FD FA X ∧ RI L n c X ∧ X.c.e = E ∧ q ≤ Q ∧ m ≤ M ∧ P X
theorem MV.below (h : MV w gH g G n L Q M E c) (hb : Below w.heap.size w w') : MV w' gH g G n L Q M E c := by
  obtain ⟨b, gd, ga, gv, q, old, m, FD, FA, X, h1, h2⟩ := h
  exact ⟨b, gd, ga, gv, q, old, m, FD, FA, X, h1.below hb, h2⟩
theorem SV.below (h : SV w gH g G n L Q M E c P) (hb : Below w.heap.size w w') : SV w' gH g G n L Q M E c P := by
  obtain ⟨b, gd, ga, gv, q, old, m, FD, FA, X, h1, h2⟩ := h
  exact ⟨b, gd, ga, gv, q, old, m, FD, FA, X, h1.below hb, h2⟩
theorem SV.imp {P' : VX → Prop} (h : SV w gH g G n L Q M E c P) (hp : ∀ X, RI L n c X → P X → P' X) : SV w gH g G n L Q M E c P' := by
  obtain ⟨b, gd, ga, gv, q, old, m, FD, FA, X, h1, h2, h3, h4, h5, h6⟩ := h
  exact ⟨b, gd, ga, gv, q, old, m, FD, FA, X, h1, h2, h3, h4, h5, hp X h2 h6⟩
theorem MV.cell (h : MV w gH g G n L Q M E c) : w.cell? ⟨gH, 4, none⟩ = some (.pointer (some ⟨g, 0, none⟩)) := by
  obtain ⟨b, gd, ga, gv, q, old, m, FD, FA, X, h1, _⟩ := h
  exact hv_cell h1.row
theorem SV.cell (h : SV w gH g G n L Q M E c P) : w.cell? ⟨gH, 4, none⟩ = some (.pointer (some ⟨g, 0, none⟩)) := by
  obtain ⟨b, gd, ga, gv, q, old, m, FD, FA, X, h1, _⟩ := h
  exact hv_cell h1.row
def GTo (w : World) (G : List Nat) (w' : World) (R : List Nat → Prop) : Prop := ∃ G', Hid (R G') ∧ Hid (Chg G w w') ∧ Hid (Wider w G G')
theorem mv_mount (h : MV w gH g G n L Q M E c) (hE : E ≤ 900000) (hQ : Q + 200 ≤ 900000) : Calls Tryz.prog 29 #[.pointer (some ⟨gH, 0, none⟩)] w fun e w' => e = .returned (.bool true) ∧ GTo w G w' fun G' => SV w' gH g G' n L (Q + 200) M E c fun X => (∀ i, X.H i = none) ∧ X.C = fun _ => none := by
  obtain ⟨b, gd, ga, gv, q, old, m, FD, FA, X, h1, h2, h3, h4⟩ := h
  refine (hmount h1.row h1.far h1.vb h2 (Nat.le_refl _) hE (by omega)).mono fun e w' hv => ?_
  obtain ⟨rfl, X', hT, hG⟩ := hv
  obtain ⟨g1, g2, g3, g4, g5⟩ := hG.out
  obtain ⟨G', FD', FA', k1, k2, k3⟩ := h1.to hT g3 g4
  exact ⟨rfl, G', Lib.hid ⟨b, gd, ga, gv, q + 200, old, m, FD', FA', X', k1, g1, g2, by omega, h4, g5, funext fun i => g1.unheld (g5 i)⟩, Lib.hid k2, Lib.hid k3⟩
theorem sv_put (h : SV w gH g G n L Q M E c P) (i : Nat) (hi : i < 4 ^ n) (x : BV) (bb : Nat) (hx : Own8 bb w x) (hxl : x.l.length = 256 ∨ x.l = []) (hQ : Q + 1 ≤ 900000) : Calls Tryz.prog 18 #[.pointer (some ⟨g, 0, none⟩), .int .i64 (i : Int), .slice x.A x.l.length x.c] w fun e w' => e = .returned (.int .i64 0) ∧ GTo w G w' fun G' => SV w' gH g G' n L (Q + 1) M E c fun X' => ∃ X, P X ∧ ovC X'.C c = setL (ovC X.C c) i x.l ∧ (X'.C i).isSome = true ∧ (∀ j, (X.C j).isSome = true → (X'.C j).isSome = true) ∧ ∀ j, isK X c j = true → isK X' c j = true := by
  obtain ⟨b, gd, ga, gv, q, old, m, FD, FA, X, h1, h2, h3, h4, h5, h6⟩ := h
  refine (vput_in h1.vb h2 i hi x bb hx hxl (by omega)).mono fun e w' hv => ?_
  obtain ⟨rfl, X', hT, hG, hK⟩ := hv
  obtain ⟨g1, g2, g3, g4, g5⟩ := hG.out
  obtain ⟨G', FD', FA', k1, k2, k3⟩ := h1.to hT (by rw [g1]) (by rw [g1])
  exact ⟨rfl, G', Lib.hid ⟨b, gd, ga, gv, q + 1, old, m, FD', FA', X', k1, g2, by rw [g1]; exact h3, by omega, h5, X, h6, g3, g4, g5, hK.out⟩, Lib.hid k2, Lib.hid k3⟩
theorem sv_fetch (h : SV w gH g G n L Q M E c P) (i : Nat) (hi : i < 4 ^ n) (hQ : Q + 2 ≤ 900000) : Calls Tryz.prog 17 #[.pointer (some ⟨g, 0, none⟩), .int .i64 (i : Int)] w fun e w' => e = .returned (.int .i64 0) ∧ GTo w G w' fun G' => SV w' gH g G' n L (Q + 2) M E c fun X' => ∃ X, P X ∧ X'.C = X.C ∧ isK X' c i = true := by
  obtain ⟨b, gd, ga, gv, q, old, m, FD, FA, X, h1, h2, h3, h4, h5, h6⟩ := h
  refine (vfetch_in h1.vb h2 i hi (by omega)).mono fun e w' hv => ?_
  obtain ⟨rfl, X', hT, hG⟩ := hv
  obtain ⟨g1, g2, g3, g4⟩ := hG.out
  obtain ⟨G', FD', FA', k1, k2, k3⟩ := h1.to hT (by rw [g1]) (by rw [g1])
  exact ⟨rfl, G', Lib.hid ⟨b, gd, ga, gv, q + 2, old, m, FD', FA', X', k1, g2, by rw [g1]; exact h3, by omega, h5, X, h6, g3, g4⟩, Lib.hid k2, Lib.hid k3⟩
theorem sv_commit (h : SV w gH g G n L Q M E c P) (d : Nat → List UInt8) (hd : ∀ X, P X → ovC X.C c = d) (hE : E ≤ 900000) (hQ : Q + 9000 ≤ 900000) : Calls Tryz.prog 31 #[.pointer (some ⟨gH, 0, none⟩)] w fun e w' => e = .returned (.bool true) ∧ GTo w G w' fun G' => ∃ E', SV w' gH g G' n L (Q + 9000) M E' d fun X' => ∃ X, P X ∧ (X'.C = fun _ => none) ∧ X'.H = X.H ∧ (E' = E + 1 ∨ (E' = E ∧ ∀ a, X.C a = none)) := by
  obtain ⟨b, gd, ga, gv, q, old, m, FD, FA, X, h1, h2, h3, h4, h5, h6⟩ := h
  have e1 := hd X h6
  by_cases hC : ∃ a, a < 256 ∧ (X.C a).isSome = true
  · refine (hcommit_some h1.row h1.far h1.vb h2 hC (by omega) (by omega)).mono fun e w' hv => ?_
    obtain ⟨rfl, X', hT, hG⟩ := hv
    obtain ⟨g1, g2, g3, g4, g5, g6⟩ := hG.out
    obtain ⟨G', FD', FA', k1, k2, k3⟩ := h1.to hT g3 g4
    rw [e1] at g1
    exact ⟨rfl, G', Lib.hid ⟨E + 1, b, gd, ga, gv, q + 9000, old, m, FD', FA', X', k1, g1, by rw [g2, h3], by omega, h5, X, h6, g6, g5, .inl rfl⟩, Lib.hid k2, Lib.hid k3⟩
  · have hC2 : ∀ a, a < 256 → X.C a = none := fun a ha => by
      cases e : X.C a with
      | none => rfl
      | some x => exact (hC ⟨a, ha, by rw [e]; rfl⟩).elim
    refine (hcommit_none h1.row h1.vb h2 hC2 (by omega)).mono fun e w' hv => ?_
    obtain ⟨rfl, X', hT, hG⟩ := hv
    obtain ⟨g1, g2, g3, g4, g5, g6⟩ := hG.out
    obtain ⟨G', FD', FA', k1, k2, k3⟩ := h1.to hT g3 g4
    rw [e1] at g1
    exact ⟨rfl, G', Lib.hid ⟨E, b, gd, ga, gv, q + 9000, old, m, FD', FA', X', k1, g1, by rw [g2, h3], by omega, h5, X, h6, g6, g5, .inr ⟨rfl, fun a => congrFun (h2.ov_none hC2).1 a⟩⟩, Lib.hid k2, Lib.hid k3⟩
theorem sv_epoch (h : SV w gH g G n L Q M E c P) : Calls Tryz.prog 24 #[.pointer (some ⟨g, 0, none⟩)] w fun e w' => e = .returned (.int .u32 (E : Int)) ∧ w = w' := by
  obtain ⟨b, gd, ga, gv, q, old, m, FD, FA, X, h1, h2, h3, h4, h5, h6⟩ := h
  have z := vepoch h1.vb
  rw [h3] at z
  exact z
theorem sv_known (h : SV w gH g G n L Q M E c P) (i : Nat) (hi : i < 4 ^ n) (r : Bool) (hr : ∀ X, P X → isK X c i = r) : Calls Tryz.prog 20 #[.pointer (some ⟨g, 0, none⟩), .int .i64 (i : Int)] w fun e w' => e = .returned (.bool r) ∧ Below w.heap.size w w' := by
  obtain ⟨b, gd, ga, gv, q, old, m, FD, FA, X, h1, h2, h3, h4, h5, h6⟩ := h
  have z := vknown_in h1.vb h2 i hi
  rw [hr X h6] at z
  exact z
theorem sv_get (h : SV w gH g G n L Q M E c P) (i : Nat) (hi : i < 4 ^ n) (l : List UInt8) (hr : ∀ X, P X → isK X c i = true ∧ ovC X.C c i = l) : Calls Tryz.prog 15 #[.pointer (some ⟨g, 0, none⟩), .int .i64 (i : Int)] w (GotL w l) := by
  obtain ⟨b, gd, ga, gv, q, old, m, FD, FA, X, h1, h2, h3, h4, h5, h6⟩ := h
  have z := vget_in h1.vb h2 i hi (hr X h6).1
  rw [(hr X h6).2] at z
  exact z
theorem sv_crash (h : SV w gH g G n L Q M E c P) (hM : M + Q ≤ 1000000) (KA : Option Addr) (kc : Nat) (kl : List Bool) (hK : HolV w KA (kl.map Value.bool)) (hKn : ∀ g0 o, KA = some ⟨g0, o, none⟩ → kl.map Value.bool ≠ [] → g0 ∉ G) : Calls Tryz.prog 32 #[.pointer (some ⟨gH, 0, none⟩), .slice KA kl.length kc] w fun e w' => e = .returned (.bool true) ∧ ∃ g', GTo w G w' fun G' => MV w' gH g' G' n L Q (M + Q) (E + 1) c := by
  obtain ⟨b, gd, ga, gv, q, old, m, FD, FA, X, h1, h2, h3, h4, h5, h6⟩ := h
  have hu := h1.vb.lim.2.1
  refine (hcrash h1 h2.ca (by omega) KA kc kl hK hKn).mono fun e w' hv => ?_
  obtain ⟨rfl, G', g', old', FD', FA', X', k1, k2, k3, k4⟩ := hv
  have e : X.ae + 1 = E + 1 := by rw [h2.ae, h3]
  rw [e] at k2
  exact ⟨rfl, g', G', Lib.hid ⟨b, gd, ga, gv, q, old', _, FD', FA', X', k1, k2.out, h4, by omega⟩, k3, k4⟩
theorem mv_start (n : Nat) (h1 : 1 ≤ n) (h3 : n ≤ 3) (A : Option Addr) (cc : Nat) (l : List UInt8) (hl : l.length ≤ 300) (w : World) (hA : Hol w A l) (hT : Tabs w ∧ S8.Tab w) : Calls Tryz.prog 28 #[.int .i64 (n : Int), .slice A l.length cc] w fun e w' => ∃ gH g G L, e = .returned (.pointer (some ⟨gH, 0, none⟩)) ∧ Hid (MV w' gH g G n L 1 0 1 fun _ => []) ∧ Hid (∀ j ∈ G, w.heap.size ≤ j) ∧ Hid (Below w.heap.size w w') := by
  refine (start_any n h1 h3 A cc l hl w hA hT).mono fun e w' hv => ?_
  obtain ⟨gH, gd, ga, gv, g, b, FD, FA, L, X, rfl, h⟩ := hv
  refine ⟨gH, g, hG gH (.slice none 0 0) (vfoot g X.c FD FA), L, rfl, Lib.hid ⟨b, gd, ga, gv, 1, .slice none 0 0, 0, FD, FA, X, ⟨h.row, h.vb, h.gd_, h.ga_, h.far, ⟨[], World.ownsRow_nil _ _ _ _⟩, fun j hj => (by cases hj), fun j => mem_hG, h.gb, h.vl.chg (G := []) (Chg.refl _ _) (fun j hj => (by cases hj)) (fun j hj => .inl ?_)⟩, h.mi, Nat.le_refl _, Nat.le_refl _⟩, Lib.hid (fun j hj => ?_), Lib.hid h.below⟩
  · rcases mem_hG.1 hj with e | e | e
    · rw [e]
      simp
    · cases e
    · exact List.mem_cons_of_mem _ e
  · rcases mem_hG.1 hj with e | e | e
    · rw [e]
      exact h.gh
    · cases e
    · exact h.lo j e
end
end Go.Proofs.YtpocccnhibjjcaaGreatDoor
