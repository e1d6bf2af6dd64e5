/- Functions that play a script and keep what is seen. Conditions: those named. -/
import Derived.Test.YtpobppoaidngeaaKr
set_option linter.unusedVariables false
set_option maxRecDepth 20000
namespace Go.Proofs.Ytpobppoaidngeaa
open Go.RowKit

/-- What was seen, as the variable has it. -/
def SeenD (T : (List L8 × (Int → Option L8)) ⊕ Int) (ps : Nat) (w1 : World) (C' : Int → Option BV) (w2 : World) : Prop :=
  ∃ (xs : List BV) (A : Option Addr) (c : Nat), T = .inl (xs.map BV.l, byL C') ∧ w2.cell? ⟨ps, 0, none⟩ = some (.slice A xs.length c) ∧ w2.ownsRow w1.heap.size 44 1 (.slice A xs.length c) xs.length (xs.flatMap sc) ∧ ∀ x ∈ xs, Own8 w1.heap.size w2 x
def GaveD (T : (List L8 × (Int → Option L8)) ⊕ Int) (a : Int) (w : World) : Prop := T = .inr a
section
variable {b : Nat} {gv gm gs r ps : Nat} {n : Nat} {C : Int → Option BV} {w1 w3 : World} {T : (List L8 × (Int → Option L8)) ⊕ Int}
theorem seen_done {xs : List BV} {A : Option Addr} {c n' : Nat} {C' : Int → Option BV} {x0 : Value} (h1 : VV b w1 gv gm gs (some ⟨r, 0, none⟩) n C) (hr1 : Row w1 r 58 (rcs false 0)) (hp1 : Row w1 ps 22 [x0])
    (hT : T = .inl (xs.map BV.l, byL C')) (ho : w3.ownsRow w1.heap.size 44 1 (.slice A xs.length c) xs.length (xs.flatMap sc)) (h8 : ∀ x ∈ xs, Own8 w1.heap.size w3 x) (hv : VV b w3 gv gm gs (some ⟨r, 0, none⟩) n' C') (hn : n' ≤ 1000) (hr : Row w3 r 58 (rcs false 0)) (hc : Chg [gm] w1 w3) :
    FunP b gv gm gs r [gm, ps] (SeenD T ps) (GaveD T) w1 (.returned (.tuple #[])) (w3.setCell ⟨ps, 0, none⟩ (.slice A xs.length c)) := by
  have hpm : ps ≠ gm := fun e => h1.map.no_cells _ _ _ (e ▸ hp1.heap)
  have hpg : ps ≠ gv := hp1.ne_ h1.row (by decide)
  have hpr : ps ≠ r := hp1.ne_ hr1 (by decide)
  have hp3 : Row w3 ps 22 [x0] := hc.row hp1 (by simp; exact hpm)
  have hs : Chg [ps] w3 (w3.setCell ⟨ps, 0, none⟩ (.slice A xs.length c)) := (Chg.refl [ps] w3).setCell (p := ⟨ps, 0, none⟩) (.inl (by simp)) _
  have hN : NoBytes w3 [ps] := fun j hj cs fr => by rw [List.mem_singleton] at hj; subst hj; exact row_noB hp3 (by decide) _ _
  refine .inl ⟨rfl, n', C', hv.keepN hs (by simp; exact hpg.symm) (by simp; exact hpm.symm) hN, hn, hr.far (p := ⟨ps, 0, none⟩) hpr.symm _, ?_, xs, A, c, hT, ((hp3.put 0 _).cell 0).trans rfl, ?_, fun x hx => (h8 x hx).chg hs hN⟩
  · exact (hc.wider (fun x hx => .inl (by simp at hx; simp [hx]))).trans hs (fun x hx => .inl (by simp at hx; simp [hx]))
  · exact Chg.own ho hs (fun k hk hf => by
      rw [List.mem_singleton] at hf
      subst hf
      exact row_parted hp3 ho (by decide) hk)
theorem seen_gave {s : Int} {n' : Nat} {C' : Int → Option BV} (hT : T = .inr s) (hv : VV b w3 gv gm gs (some ⟨r, 0, none⟩) n' C') (hr : Row w3 r 58 (rcs true s)) (hc : Chg [r, gm] w1 w3) : FunP b gv gm gs r [gm, ps] (SeenD T ps) (GaveD T) w1 (runE r) w3 :=
  .inr ⟨rfl, n', C', s, hv, hr, hc.wider (fun x hx => .inl (by simp at hx ⊢; omega)), hT⟩
variable {Bs : List BV} {Ks : List Bool} {pv pd : Nat} {A : Option Addr} {c : Nat} {ds : List DV} {x0 : Value}
theorem again1 (h : VV b w1 gv gm gs (some ⟨r, 0, none⟩) 0 fun _ => none) (hb : b ≤ w1.heap.size) (hrb : b ≤ r) (hr : Row w1 r 58 (rcs false 0)) (hp : w1.cell? ⟨pv, 0, none⟩ = some (.pointer (some ⟨gv, 0, none⟩))) (hd : w1.cell? ⟨pd, 0, none⟩ = some (.slice A ds.length c)) (hps : Row w1 ps 22 [x0]) (hs : Src b w1 gs Bs Ks) (hsc : ScB b w1 A ds) :
    Calls Try.prog 18 #[.pointer (some ⟨pv, 0, none⟩), .pointer (some ⟨pd, 0, none⟩), .pointer (some ⟨ps, 0, none⟩)] w1 (FunP b gv gm gs r [gm, ps] (SeenD (runP (byL (srcF Bs Ks)) ds (byL fun _ => none) []) ps) (GaveD (runP (byL (srcF Bs Ks)) ds (byL fun _ => none) [])) w1) := by
  have H := Lib.hid h
  have HR := Lib.hid hr
  have HPS := Lib.hid hps
  have HP := Lib.hid (play_any (c := c) h hr hrb hb hs hsc (by omega))
  clear h hb hrb hr hs hsc hps
  go_enter Try.func18, Try.ntmps18
  go_wp2_with fail
  refine HP.out.mono ?_
  rintro e w3 (⟨xs, A3, c3, n', C', rfl, hT, ho, ho8, hv, hn', hr3, hc3⟩ | ⟨s, n', C', he, hT, hv, hr3, hc3⟩)
  · have hp3 := hc3.out.row HPS.out (by simp; exact fun e => H.out.map.no_cells _ _ _ (e ▸ HPS.out.heap))
    have c3' : w3.cell? ⟨ps, 0, none⟩ = some x0 := (hp3.cell 0).trans rfl
    have f3 := hp3.free 0
    clear hp3
    go_wp2
    go_end0
    exact seen_done H.out HR.out HPS.out hT.out ho.out ho8.out hv.out (by have := hn'.out; omega) hr3.out hc3.out
  · unfold runE at he
    subst he
    exact ⟨rfl, seen_gave hT.out hv.out hr3.out hc3.out⟩
theorem runs1 {pl pi ga i : Nat} (h : VV b w1 gv gm gs (some ⟨r, 0, none⟩) 0 fun _ => none) (hb : b ≤ w1.heap.size) (hrb : b ≤ r) (hr : Row w1 r 58 (rcs false 0)) (hp : w1.cell? ⟨pv, 0, none⟩ = some (.pointer (some ⟨gv, 0, none⟩))) (hl : w1.cell? ⟨pl, 0, none⟩ = some (.slice (some ⟨ga, 0, none⟩) 2 2)) (hi : w1.cell? ⟨pi, 0, none⟩ = some (.int .i64 (i : Int))) (hi2 : i < 2) (hd : w1.cell? ⟨ga, i, none⟩ = some (.slice A ds.length c)) (hps : Row w1 ps 22 [x0]) (hs : Src b w1 gs Bs Ks) (hsc : ScB b w1 A ds) :
    Calls Try.prog 12 #[.pointer (some ⟨pv, 0, none⟩), .pointer (some ⟨pl, 0, none⟩), .pointer (some ⟨pi, 0, none⟩), .pointer (some ⟨ps, 0, none⟩)] w1 (FunP b gv gm gs r [gm, ps] (SeenD (runP (byL (srcF Bs Ks)) ds (byL fun _ => none) []) ps) (GaveD (runP (byL (srcF Bs Ks)) ds (byL fun _ => none) [])) w1) := by
  have hbd := below_drw w1
  have hcd := Chg.of (F := [gm, ps]) hbd
  have H := Lib.hid h
  have HR := Lib.hid hr
  have HPS := Lib.hid hps
  have HP := Lib.hid (play_any (c := c) (h.below hbd) (hr.kept hbd) hrb (Nat.le_trans hb hbd.size) (hs.keep (hbd.mono hb)) (hsc.keep (hbd.mono hb)) (by omega))
  have hii : (i : Int) < 2 := by omega
  have hdz : w1.cell? ⟨ga, 0 + i, none⟩ = some (.slice A ds.length c) := by rw [Nat.zero_add]; exact hd
  clear h hb hrb hr hs hsc hps hbd hcd
  go_enter Try.func12, Try.ntmps12
  go_wp2
  go_still_tail 5, (by kernel_rfl)
  change wpList _ _ _ _ _ w1.drew
  go_wp2_with fail
  refine HP.out.mono ?_
  rintro e w3 (⟨xs, A3, c3, n', C', rfl, hT, ho, ho8, hv, hn', hr3, hc3⟩ | ⟨s, n', C', he, hT, hv, hr3, hc3⟩)
  · have hp3 := hc3.out.row (HPS.out.kept (below_drw w1)) (by simp; exact fun e => H.out.map.no_cells _ _ _ (e ▸ HPS.out.heap))
    have c3' : w3.cell? ⟨ps, 0, none⟩ = some x0 := (hp3.cell 0).trans rfl
    have f3 := hp3.free 0
    clear hp3
    go_wp2
    go_end0
    exact seen_done H.out HR.out HPS.out hT.out ho.out ho8.out hv.out (by have := hn'.out; omega) hr3.out ((Chg.of (F := [gm]) (below_drw w1)).trans hc3.out (fun x hx => .inl hx))
  · unfold runE at he
    subst he
    exact ⟨rfl, seen_gave hT.out hv.out hr3.out ((Chg.of (F := [r, gm]) (below_drw w1)).trans hc3.out (fun x hx => .inl hx))⟩
end
def ival (w : World) (x : Value) : Nat := match x with | .pointer (some p) => (match w.cell? p with | some v => (intOf v).toNat | none => 0) | _ => 0
theorem ival_eq {w : World} {p : Addr} {i : Int} (h : w.cell? p = some (.int .i64 i)) : ival w (.pointer (some p)) = i.toNat := by
  unfold ival
  simp only [h]
  rfl
end Go.Proofs.Ytpobppoaidngeaa
