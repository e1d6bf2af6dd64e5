/- A view as it lies: what it sees, wants, and what is put. Conditions: the view lies there, over a source. -/
import Derived.Test.YtpobppoaidngeaaKc
import Derived.RegionTactic
import Derived.ChangeAlike
import Derived.BigRegion
import Derived.StillTailTactics
import Derived.WalkLawsBesides
set_option linter.unusedVariables false
set_option maxRecDepth 20000
namespace Go.Proofs.Ytpobppoaidngeaa
open Go.RowKit

/-- A source's Get, as a value. -/
def getV (gs : Nat) : Value := .func (.func 10) #[.pointer (some ⟨gs, 0, none⟩)] #[]
def vcs (gs gm : Nat) (rp : Option Addr) : List Value := [getV gs, .map (some gm), .pointer rp]
/-- A view, in blocks from b on. -/
structure VV (b : Nat) (w : World) (gv gm gs : Nat) (rp : Option Addr) (n : Nat) (C : Int → Option BV) : Prop where
  row : Row w gv 56 (vcs gs gm rp)
  map : MC w gm n C
  own : ∀ a x, C a = some x → Own8 b w x
  len : ∀ a x, C a = some x → x.l.length ≤ 131072
  lo : b ≤ gv ∧ b ≤ gm
section
variable {b : Nat} {w w' : World} {gv gm gs : Nat} {rp : Option Addr} {n : Nat} {C : Int → Option BV} {Bs : List BV} {Ks : List Bool}
theorem VV.c0 (h : VV b w gv gm gs rp n C) : w.cell? ⟨gv, 0, none⟩ = some (getV gs) := (h.row.cell 0).trans rfl
theorem VV.c1 (h : VV b w gv gm gs rp n C) : w.cell? ⟨gv, 1, none⟩ = some (.map (some gm)) := (h.row.cell 1).trans rfl
theorem VV.c2 (h : VV b w gv gm gs rp n C) : w.cell? ⟨gv, 2, none⟩ = some (.pointer rp) := (h.row.cell 2).trans rfl
theorem VV.ne (h : VV b w gv gm gs rp n C) : gv ≠ gm := fun e => h.map.no_cells _ _ _ (e ▸ h.row.heap)
theorem VV.keep {F : List Nat} (h : VV b w gv gm gs rp n C) (hc : Chg F w w') (h1 : gv ∉ F) (h2 : gm ∉ F) (h3 : ∀ a x k, C a = some x → (bvv x).ownBlock = some k → k ∉ F) : VV b w' gv gm gs rp n C :=
  ⟨hc.row h.row h1, h.map.chg hc h2, fun a x hx => Chg.own (h.own a x hx) hc (fun k hk => h3 a x k hx hk), h.len, h.lo⟩
theorem VV.below (h : VV b w gv gm gs rp n C) (hb : Below w.heap.size w w') : VV b w' gv gm gs rp n C := h.keep (Chg.of (F := []) hb) (by simp) (by simp) (by simp)
theorem VV.below' {F : List Nat} (h : VV b w gv gm gs rp n C) (hc : Chg F w w') (hF : ∀ x ∈ F, w.heap.size ≤ x) : VV b w' gv gm gs rp n C :=
  h.keep hc (fun hx => by have := hF _ hx; have := h.row.lt; omega) (fun hx => by have := hF _ hx; have := h.map.lt; omega) (fun a x k hx hk hf => by have := hF _ hf; have := ((h.own a x hx).lt k hk).2; omega)
/-- What a view sees. -/
def seeF (C S : Int → Option BV) (a : Int) : Option BV := match C a with | some x => some x | none => S a
theorem fn_nil (fn : Fn) (a c : Array Value) (w : World) : (binOp .eql 32 (.func fn a c) .nilFunc).run Try.prog w = .ok (.bool false) w := by kernel_rfl
theorem ptr_nil_none (w : World) : (binOp .eql 54 (.pointer none) (.pointer none)).run Try.prog w = .ok (.bool true) w := by kernel_rfl
theorem ptr_nil_some (r : Nat) (w : World) : (binOp .eql 54 (.pointer (some ⟨r, 0, none⟩)) (.pointer none)).run Try.prog w = .ok (.bool false) w := by kernel_rfl
theorem vsees (h : VV b w gv gm gs rp n C) (hs : Src b w gs Bs Ks) (a : Int) (ha : I64 a) :
    Calls Try.prog 33 #[.pointer (some ⟨gv, 0, none⟩), .int .i64 a] w fun e w' => e = .returned (.tuple #[bvo (seeF C (srcF Bs Ks) a), .bool (seeF C (srcF Bs Ks) a).isSome]) ∧ w = w' := by
  have c0 := h.c0
  have c1 := h.c1
  have hl := h.map.look_ok ha
  have hfn := fn_nil
  unfold getV at c0
  cases hC : C a with
  | some x =>
    have e1 : seeF C (srcF Bs Ks) a = some x := by unfold seeF; rw [hC]
    rw [e1]
    rw [hC] at hl
    clear hC e1 h hs
    go_enter Try.func33, Try.ntmps33
    go_wp2
    go_ret2
    exact ⟨rfl, rfl⟩
  | none =>
    have e1 : seeF C (srcF Bs Ks) a = srcF Bs Ks a := by unfold seeF; rw [hC]
    rw [e1]
    rw [hC] at hl
    have HG := Lib.hid (get_any hs a)
    clear hC e1 h hs
    go_enter Try.func33, Try.ntmps33
    go_wp2_with (go_at_call 10; refine HG.out.mono ?_; rintro e w4 ⟨rfl, rfl⟩)
    go_ret2
    exact ⟨rfl, rfl⟩
/-- A run gives up. -/
def runE (r : Nat) : Ending := .panicked [{ v := .iface 54 (.pointer (some ⟨r, 0, none⟩)), recovered := false }]
def rcs (x : Bool) (a : Int) : List Value := [.bool x, .int .i64 a]
theorem vwant {r : Nat} (h : VV b w gv gm gs (some ⟨r, 0, none⟩) n C) (hr : Row w r 58 (rcs false 0)) (a : Int) :
    Calls Try.prog 34 #[.pointer (some ⟨gv, 0, none⟩), .int .i64 a] w fun e w' => e = runE r ∧ Hid (Row w' r 58 (rcs true a)) ∧ Hid (Chg [r] w w') := by
  have c2 := h.c2
  have r0 : w.cell? ⟨r, 0, none⟩ = some (.bool false) := (hr.cell 0).trans rfl
  have r1 : w.cell? ⟨r, 1, none⟩ = some (.int .i64 0) := (hr.cell 1).trans rfl
  have f0 := hr.free 0
  have f1 := hr.free 1
  have hne : ¬ gv = r := h.row.ne_ hr (by decide)
  have hne2 : ¬ r = gv := fun e => hne e.symm
  have hn := ptr_nil_some
  have HR := Lib.hid hr
  clear h hr
  go_enter Try.func34, Try.ntmps34
  go_wp2
  go_region
  go_wp2
  refine ⟨rfl, rfl, Lib.hid ((HR.out.put 0 (.bool true)).put 1 (.int .i64 a)).drew, Lib.hid ?_⟩
  exact (((Chg.refl [r] w).setCell (p := ⟨r, 0, none⟩) (.inl (List.mem_singleton.2 rfl)) _).setCell (p := ⟨r, 1, none⟩) (.inl (List.mem_singleton.2 rfl)) _).drew
/-- A slot that is seen: bytes of the call's own. -/
def SeeP (w : World) (l : List UInt8) (e : Ending) (w' : World) : Prop := ∃ y : BV, e = .returned (.slice y.A y.l.length y.c) ∧ Hid (y.l = l) ∧ Hid (Own8 w.heap.size w' y) ∧ Hid (Below w.heap.size w w')
theorem see_hol (h : VV b w gv gm gs rp n C) (hs : Src b w gs Bs Ks) {a : Int} {x : BV} (hx : seeF C (srcF Bs Ks) a = some x) : Hol w x.A x.l ∧ x.l.length ≤ 131072 := by
  unfold seeF at hx
  split at hx
  · rename_i y hy
    obtain rfl : y = x := by injection hx
    exact ⟨(h.own a y hy).hol, h.len a y hy⟩
  · exact ⟨(hs.hol x (src_mem hx)).1, hs.len x (src_mem hx)⟩
theorem vsee (h : VV b w gv gm gs rp n C) (hs : Src b w gs Bs Ks) (a : Int) (ha : I64 a) (x : BV) (hx : seeF C (srcF Bs Ks) a = some x) :
    Calls Try.prog 22 #[.pointer (some ⟨gv, 0, none⟩), .int .i64 a] w (SeeP w x.l) := by
  have HS := Lib.hid (vsees h hs a ha)
  obtain ⟨h1, h2⟩ := see_hol h hs hx
  have HC := Lib.hid (clone8 x w h1 h2)
  rw [hx] at HS
  clear h hs hx h1 h2
  go_enter Try.func22, Try.ntmps22
  go_wp2_with (first
    | (go_at_call 33; refine HS.out.mono ?_; rintro e w4 ⟨rfl, rfl⟩)
    | (go_at_call 32; refine HC.out.mono ?_; rintro e w5 ⟨y, rfl, hy, ho, hb⟩))
  go_ret
  exact ⟨y, rfl, hy, ho, hb⟩
theorem vsee_not {r : Nat} (h : VV b w gv gm gs (some ⟨r, 0, none⟩) n C) (hs : Src b w gs Bs Ks) (hr : Row w r 58 (rcs false 0)) (a : Int) (ha : I64 a) (hx : seeF C (srcF Bs Ks) a = none) :
    Calls Try.prog 22 #[.pointer (some ⟨gv, 0, none⟩), .int .i64 a] w fun e w' => e = runE r ∧ Hid (Row w' r 58 (rcs true a)) ∧ Hid (Chg [r] w w') := by
  have HS := Lib.hid (vsees h hs a ha)
  have HW := Lib.hid (vwant h hr a)
  rw [hx] at HS
  clear h hs hx hr
  go_enter Try.func22, Try.ntmps22
  go_wp2_with (first
    | (go_at_call 33; refine HS.out.mono ?_; rintro e w4 ⟨rfl, rfl⟩)
    | (go_at_call 34; refine HW.out.mono ?_; rintro e w5 ⟨he, h1, h2⟩; unfold runE at he; subst he))
  exact ⟨rfl, rfl, h1, h2⟩
end
end Go.Proofs.Ytpobppoaidngeaa
