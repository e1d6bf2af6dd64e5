/- What a commit's beginning leaves: its slots and nodes in order. Conditions: the vault lies there, ready, with no commit going on. -/
import Derived.Test.YtpocccnhibjjcaaGreatDoorMgUnpackB
set_option linter.unusedVariables false
set_option maxRecDepth 20000
namespace Go.Proofs.YtpocccnhibjjcaaGreatDoor
open Go.RowKit

def keysN (C : Nat → Option BV) : List Nat := (List.range 256).filter fun a => (C a).isSome
theorem keysN_keysL (C : Nat → Option BV) : keysL C = (keysN C).map Int.ofNat := rfl
theorem keysN_lt {C : Nat → Option BV} {a : Nat} (h : a ∈ keysN C) : a < 256 := List.mem_range.1 (List.mem_filter.1 h).1
def abvN (n : Nat) (C : Nat → Option BV) : List (Nat × Nat) := (P7.aboveL (n : Int) (keysL C)).map fun x => (x.1.toNat, x.2.toNat)
theorem aboveL_pos {d : Int} {zs : List Int} {x : Int × Int} (h : x ∈ P7.aboveL d zs) : 0 ≤ x.1 ∧ 0 ≤ x.2 := by
  unfold P7.aboveL P7.abv at h
  obtain ⟨p, _, h⟩ := List.mem_flatMap.1 h
  obtain ⟨i, hi, rfl⟩ := List.mem_map.1 h
  exact ⟨by simp, (P7.pl_pos hi).1⟩
theorem flatMap_eq {α β : Type} {f g : α → List β} : ∀ {l : List α}, (∀ x ∈ l, f x = g x) → l.flatMap f = l.flatMap g
  | [], _ => rfl
  | a :: l, h => by
    rw [List.flatMap_cons, List.flatMap_cons, h a (by simp), flatMap_eq (fun x hx => h x (List.mem_cons_of_mem _ hx))]
theorem abvN_cells (n : Nat) (C : Nat → Option BV) : (abvN n C).flatMap pcs = (P7.aboveL (n : Int) (keysL C)).flatMap P7.sp := by
  unfold abvN
  rw [List.flatMap_map]
  refine flatMap_eq fun x hx => ?_
  obtain ⟨h1, h2⟩ := aboveL_pos hx
  unfold pcs P7.sp
  rw [Int.toNat_of_nonneg h1, Int.toNat_of_nonneg h2]
theorem abvN_len (n : Nat) (C : Nat → Option BV) : (abvN n C).length = (P7.aboveL (n : Int) (keysL C)).length := List.length_map ..
def restL (n : Nat) (C : Nat → Option BV) : List (Nat × Nat) := (keysN C).map (fun a => (n, a)) ++ abvN n C
theorem rec_spot : Rec Tryz.prog 68 99 2 := rec_of (z := .agg #[.int .i64 0, .int .i64 0]) (n := 16) Tryz.underlying68 (by kernel_rfl) (by decide) rfl (by decide)
theorem pcs_one (x : Nat × Nat) : ∀ u ∈ pcs x, u.oneCell' = true := by intro u hu; simp [pcs] at hu; rcases hu with rfl | rfl <;> rfl
section
variable {b : Nat} {w w' : World} {FD FA : List Nat} {g q gv : Nat} {L : Nat → Nat → List UInt8} {X : VX}
theorem VAt.p_rt {w : World} {g : Nat} {c : VC} (h : VAt w g c) (v : Value) : VAt (w.setCell ⟨g, 50, none⟩ v) g { c with rt := v } := by
  have hr := h.put 50 v
  rw [VC.set_rt] at hr
  exact hr
theorem VAt.p_pf {w : World} {g : Nat} {c : VC} (h : VAt w g c) (v : Value) : VAt (w.setCell ⟨g, 48, none⟩ v) g { c with pf := v } := by
  have hr := h.put 48 v
  rw [VC.set_pf] at hr
  exact hr
theorem own_of_chg {b : Nat} {w w' : World} {g : Nat} {c : VC} {A : Option Addr} {n c' : Nat} {zs : List Int} (h : P7.OwnI b w A n c' zs) (hc : Chg [g] w w') (hr : VAt w g c) : P7.OwnI b w' A n c' zs :=
  hc.own h (fun k hk hx => by rw [List.mem_singleton] at hx; subst hx; exact row_parted hr h (by decide) hk)
def VX.begun (X : VX) (g gg : Nat) (rt : Value) : VX := { X with c := { X.c with go := .map (some gg), rt := rt, pf := stV 56 g }, C := fun _ => none, G := X.C, rt := restL X.c.n X.C }
def VBeg (b : Nat) (w : World) (F : List Nat) (g q gv : Nat) (L : Nat → Nat → List UInt8) (X : VX) (e : Ending) (w' : World) : Prop :=
  e = .returned (.bool true) ∧ ∃ gg rt, VTo b w F w' g q gv L (X.begun g gg rt)
theorem PS.empty {w w' : World} {v : Value} (h : PS w v []) : PS w' v [] := by
  obtain ⟨A, c, e, hl, _⟩ := h
  exact ⟨A, c, e, hl, .inl rfl⟩
theorem vbeg_end {w7 wE : World} {gg : Nat} {rt : Value} (h0 : VB b w FD FA g q gv L X) (h : VB b w7 FD FA g q gv L { X with c := { X.c with go := .map (some gg) }, C := fun _ => none, G := X.C }) (hun : X.un = []) (hc7 : Chg (vfoot g X.c FD FA) w w7) (hc : Chg [g] w7 wE)
    (hr : VAt wE g { X.c with go := .map (some gg), rt := rt, pf := stV 56 g }) (hp : PS wE rt (restL X.c.n X.C)) : VBeg b w (vfoot g X.c FD FA) g q gv L X (.returned (.bool true)) wE := by
  have k := h.keep hc (one_in h (mem_vown.2 (.inl rfl)))
  have hu : PS wE X.c.un X.un := by
    have z : PS w7 X.c.un X.un := h.un
    rw [hun] at z ⊢
    exact z.empty
  refine ⟨rfl, gg, rt, VTo.of (h.rowd (G' := X.C) hr hc hu hp ?_ k.gb) (hc7.trans hc (fun j hj => .inl (one_in h0 (mem_vown.2 (.inl rfl)) j hj))) (Wider.refl _ _)⟩
  exact k.goi
theorem vbegin_not (h : VB b w FD FA g q gv L X) (hp : X.c.pf = .nilFunc) (hC : ∀ a, a < 256 → X.C a = none) :
    Calls Tryz.prog 21 #[.pointer (some ⟨g, 0, none⟩)] w fun e w' => e = .returned (.bool false) ∧ w = w' := by
  have HG := Lib.hid (vgoing_not h hp)
  have HC := Lib.hid (vchanged h)
  have HN := Lib.hid hC
  clear h hC
  go_enter Tryz.func21, Tryz.ntmps21
  go_wp2_with (first
    | (go_at_call 22; refine HG.out.mono ?_; rintro e w4 ⟨rfl, rfl⟩)
    | (go_at_call 23; refine HC.out.mono ?_; rintro e w4 ⟨⟨m, rfl, hm⟩, rfl⟩; obtain rfl : m = 0 := hm.2 HN.out))
  go_ret
  exact ⟨rfl, rfl⟩
set_option maxHeartbeats 4000000 in
theorem vbegin (h : VB b w FD FA g q gv L X) (hp : X.c.pf = .nilFunc) (hun : X.un = []) (hC : ∃ a, a < 256 ∧ (X.C a).isSome = true) :
    Calls Tryz.prog 21 #[.pointer (some ⟨g, 0, none⟩)] w (VBeg b w (vfoot g X.c FD FA) g q gv L X) := by
  have HG := Lib.hid (vgoing_not h hp)
  have HC := Lib.hid (vchanged h)
  have HN := Lib.hid hC
  have H := Lib.hid h
  have HUN := Lib.hid hun
  have c47 := h.row.gc
  have c49 := h.row.go
  have f49 := h.gfr 49
  have HCL := Lib.hid h.chd.clone
  clear h hC hun
  go_enter Tryz.func21, Tryz.ntmps21
  go_wp2_with (first
    | (go_at_call 22; refine HG.out.mono ?_; rintro e w4 ⟨rfl, rfl⟩)
    | (go_at_call 23; refine HC.out.mono ?_; rintro e w4 ⟨⟨m, rfl, hm⟩, rfl⟩; have hm0 : ((m : Int) == 0) = false := (beq_false_of_ne (fun e => by obtain ⟨a, ha, hs⟩ := HN.out; rw [hm.1 (by omega) a ha] at hs; cases hs)); clear hm)
    | (go_at_call 52; refine HCL.out.mono ?_; rintro e w4 ⟨rfl, hm4, hb4⟩
       have c494 := (hb4.out.cell (p := ⟨g, 49, none⟩) H.out.row.lt).trans c49
       have f494 := (H.out.below hb4.out).gfr 49
       have c474 := (hb4.out.cell (p := ⟨g, 47, none⟩) H.out.row.lt).trans c47
       have hV4 := (H.out.below hb4.out).p_go w.heap.size X.C hm4.out (H.out.below hb4.out).cb (fun hx => by have := (H.out.g_lt _ hx).2; omega)
       have HV4 := Lib.hid hV4
       have HB4 := Lib.hid hb4.out
       obtain ⟨w5, r5, m5, g5⟩ := hV4.chd.clear_ 0
       have HM5 := Lib.hid m5
       have HG5 := Lib.hid g5
       change (Builtin.clear_ #[83] 0 #[.map (some X.c.gc)]).run Tryz.prog (w4.setCell ⟨g, 49, none⟩ (.map (some w.heap.size))) = .ok (.tuple #[]) w5 at r5
       have c5 : Chg [X.c.gc] (w4.setCell ⟨g, 49, none⟩ (.map (some w.heap.size))) w5 := (Chg.refl _ _).grown g5 (fun k hk => by injection hk with hk; subst hk; exact .inl (List.mem_singleton.2 rfl))
       have hV5 := hV4.cturn (q' := q) (m5.mono (Nat.zero_le _)) c5 (fun a x hx => by cases hx) (Nat.le_refl _) hV4.lim.1
       have HV5 := Lib.hid hV5
       have HC5 := Lib.hid (p := Chg (vfoot g X.c FD FA) w w5) (((Chg.of (F := vfoot g X.c FD FA) hb4.out).trans (chg_g _ _ _ _) (fun j hj => .inl (one_in H.out (mem_vown.2 (.inl rfl)) j hj))).trans c5 (fun j hj => .inl (one_in H.out (mem_vown.2 (.inr (.inr (.inr (.inl rfl))))) j hj)))
       have HMG := Lib.hid (p := MI w5 w.heap.size q X.C) (by
         rcases hV5.goi with e | ⟨gg, e, hm, _⟩
         · cases e
         · obtain rfl : w.heap.size = gg := by injection e with e; injection e
           exact hm)
       have c495 : w5.cell? ⟨g, 49, none⟩ = some (.map (some w.heap.size)) := (by have z := VAt.go hV5.row; exact z)
       clear hV4 m5 g5 hm4 hb4 c5 hV5)
    | (go_at_call 54; refine (keys_call (some w.heap.size) w5).mono ?_; rintro e w6 ⟨rfl, rfl⟩)
    | (go_at_call 53; refine HMG.out.sorted.mono ?_; rintro e w7 ⟨A7, c7, rfl, hO7, hB7⟩
       have hb57 : Below w5.heap.size w5 w7 := below_nxt hB7.out ((Below.refl _ _).alloc (Nat.le_refl _) _)
       have HV7 := Lib.hid (HV5.out.below hb57)
       have c507 : w7.cell? ⟨g, 50, none⟩ = some X.c.rt := (by have z := VAt.rt HV7.out.row; exact z)
       have f507 := HV7.out.gfr 50
       have HC7 := Lib.hid (HC5.out.trans (Chg.of (F := []) hb57) (fun j hj => by cases hj))
       clear hb57 hB7))
  obtain ⟨N0, hN0⟩ : ∃ N0, (keysL X.C).length = N0 := ⟨_, rfl⟩
  have HN0 := Lib.hid (p := (keysN X.C).length = N0 ∧ N0 ≤ 256) ⟨by rw [← hN0, keysN_keysL, List.length_map], by rw [← hN0]; exact keysL_len _⟩
  have hO7' := hO7.out
  rw [hN0] at hO7' ⊢
  have HO7 := Lib.hid hO7'
  clear hO7' hO7 hN0 c495 r5 c474 f494 c494 f49 c49 c47 hm0 HMG
  obtain ⟨gg, hgg⟩ : ∃ gg, w.heap.size = gg := ⟨_, rfl⟩
  have HGG := Lib.hid hgg
  have HV7' := Lib.hid (p := VB b w7 FD FA g q gv L { X with c := { X.c with go := .map (some gg) }, C := fun _ => none, G := X.C }) (by rw [← hgg]; exact HV7.out)
  have HSZ := Lib.hid (p := w.heap.size ≤ w7.heap.size) HC7.out.size
  clear HV7 HV5 HV4 HB4 HM5 HG5 HC5 hgg HG HC HCL HN
  go_loopw [36] (fun x wr => ∃ (k : Nat) (A : Option Addr) (m c : Nat), k ≤ N0 ∧ x = .int .i64 (k : Int) ∧ Hid (m = k) ∧ Hid (wr.ownsRow w7.heap.size 99 2 (.slice A m c) m ((((keysN X.C).take k).map fun a => (X.c.n, a)).flatMap pcs)) ∧ Hid (VAt wr g { X.c with go := .map (some gg), rt := .slice A m c }) ∧ Hid (Chg [g] w7 wr)) (fun x _ => N0 - (intOf x).toNat)
  case atStart => exact ⟨0, none, 0, 0, Nat.zero_le _, rfl, Lib.hid rfl, Lib.hid (World.ownsRow_nil _ _ _ _), Lib.hid (HV7'.out.row.p_rt _), Lib.hid (chg_g _ _ _ _)⟩
  case round =>
    obtain ⟨k, A, m, c, hk, rfl, HM, HO, HV, HC⟩ := hrel
    have hkw : IntKind.i64.wrap ((k : Int) + 1) = (k : Int) + 1 := by rw [IntKind.wrap_i64]; have := HN0.out; omega
    have HIN := Lib.hid (P7.OwnI.hol (own_of_chg HO7.out HC.out HV7'.out.row))
    have c50 : wr.cell? ⟨g, 50, none⟩ = some (.slice A m c) := VAt.rt HV.out
    by_cases hlt : k < N0
    · have h1i : (k : Int) < (N0 : Int) := by omega
      have hk0 : (0 : Int) ≤ (k : Int) := by omega
      obtain ⟨a, ha⟩ : ∃ a, (keysN X.C)[k]? = some a := ⟨_, List.getElem?_eq_getElem (by rw [HN0.out.1]; exact hlt)⟩
      have HT := Lib.hid (p := ((keysN X.C).take (k + 1)).map (fun a => (X.c.n, a)) = ((keysN X.C).take k).map (fun a => (X.c.n, a)) ++ [(X.c.n, a)]) (by rw [List.take_add_one, ha]; simp)
      have hkl : (keysL X.C)[k]? = some (a : Int) := by rw [keysN_keysL, List.getElem?_map, ha]; rfl
      have HA := Lib.hid (keysN_lt (List.mem_of_getElem? ha))
      obtain ⟨gi, oi, rfl, hgi⟩ : ∃ gi oi, A7 = some ⟨gi, oi, none⟩ ∧ wr.cell? ⟨gi, oi + k, none⟩ = some (.int .i64 (a : Int)) := by
        rcases HIN.out with h0 | ⟨gi, oi, h1, h2⟩
        · rw [h0] at hkl
          cases hkl
        · exact ⟨gi, oi, h1, h2 k _ hkl⟩
      have HLT := Lib.hid hlt
      clear ha hkl hlt hk
      go_wp2_with fail
      have HB0 := Lib.hid (p := ∀ w5, Below wr.heap.size wr w5 → w5.cell? ⟨g, 50, none⟩ = some (.slice A m c)) (fun w5 hb => (hb.cell (p := ⟨g, 50, none⟩) HV.out.lt).trans c50)
      have c50d : wr.drew.cell? ⟨g, 50, none⟩ = some (.slice A m c) := c50
      refine wp_region_held_drew (S := fun _ => True) (by kernel_rfl) trivial (fun hHeld => ?_)
      refine wpAnyH_take (i := 0) (oi := ⟨some 40, .move (.tmp 0), _, _, _, _⟩) (v := .pointer (some ⟨g, 0, none⟩)) rfl (by kernel_rfl) (by kernel_rfl) (by kernel_rfl) (fun _ _ _ h => h) (.inl ⟨by rfl, fun w hSw => by go_simp⟩) (by assumption) ?_
      simp only [Act.put, List.setIfInBounds_toArray, List.set_cons_zero, List.set_cons_succ]
      refine wpAnyH_take (i := 1) (oi := ⟨some 41, .move (.tmp 0), _, _, _, _⟩) (v := .pointer (some ⟨g, 0, none⟩)) rfl (by kernel_rfl) (by kernel_rfl) (by kernel_rfl) (fun _ _ _ h => h) (.inl ⟨by rfl, fun w hSw => by go_simp⟩) (by assumption) ?_
      simp only [Act.put, List.setIfInBounds_toArray, List.set_cons_zero, List.set_cons_succ]
      refine wpAnyH_take (i := 2) (oi := ⟨some 42, .nilCheck (.tmp 41), _, _, _, _⟩) (v := .pointer (some ⟨g, 0, none⟩)) rfl (by kernel_rfl) (by kernel_rfl) (by kernel_rfl) (fun _ _ _ h => h) (.inl ⟨by rfl, fun w hSw => by go_simp⟩) (by assumption) ?_
      simp only [Act.put, List.setIfInBounds_toArray, List.set_cons_zero, List.set_cons_succ]
      refine wpAnyH_take (i := 3) (oi := ⟨some 43, .fieldAddr 90 (.tmp 42) 16, _, _, _, _⟩) (v := .pointer (some ⟨g, 50, none⟩)) rfl (by kernel_rfl) (by kernel_rfl) (by kernel_rfl) (fun _ _ _ h => h) (.inl ⟨by rfl, fun w hSw => by go_simp⟩) (by assumption) ?_
      simp only [Act.put, List.setIfInBounds_toArray, List.set_cons_zero, List.set_cons_succ]
      refine wpAnyH_take (i := 5) (oi := ⟨some 45, .move (.tmp 0), _, _, _, _⟩) (v := .pointer (some ⟨g, 0, none⟩)) rfl (by kernel_rfl) (by kernel_rfl) (by kernel_rfl) (fun _ _ _ h => h) (.inl ⟨by rfl, fun w hSw => by go_simp⟩) (by assumption) ?_
      simp only [Act.put, List.setIfInBounds_toArray, List.set_cons_zero, List.set_cons_succ]
      refine wpAnyH_take (i := 6) (oi := ⟨some 46, .move (.tmp 5), _, _, _, _⟩) (v := .int .i64 (a : Int)) rfl (by kernel_rfl) (by kernel_rfl) (by kernel_rfl) (fun _ _ _ h => h) (.inl ⟨by rfl, fun w hSw => by go_simp⟩) (by assumption) ?_
      simp only [Act.put, List.setIfInBounds_toArray, List.set_cons_zero, List.set_cons_succ]
      refine wpAnyH_ready (rs := [4, 7]) (by kernel_rfl) (by simp) ?_
      refine AllReadyH.cons (o := ⟨some 44, .load 68 (.tmp 43), _, _, _, _⟩) rfl (fun K hK => ?_) (AllReadyH.cons (o := ⟨some 47, .call ⟨.value (.func 47), #[.tmp 45, .tmp 46], _⟩, _, _, _, _⟩) rfl (fun K hK => ?_) AllReadyH.nil)
      · skip
        go_simp
        refine hK.out _ _ trivial (fun _hH => ?_)
        clear hK K
        refine wpAnyH_ready (rs := [7]) (by kernel_rfl) (by simp) ?_
        refine AllReadyH.cons (o := ⟨some 47, .call ⟨.value (.func 47), #[.tmp 45, .tmp 46], _⟩, _, _, _, _⟩) rfl (fun K hK => ?_) AllReadyH.nil
        go_simp
        refine (vplace g { X.c with go := .map (some gg), rt := .slice A m c } a _ (HV.out.kept (below_drw _))).mono ?_
        rintro e w5 ⟨rfl, hb5⟩
        have HB5 := Lib.hid (p := Below wr.heap.size wr w5) (below_nxt hb5 (below_drw _))
        have c505 := HB0.out _ HB5.out
        clear hb5
        refine hK.out _ _ trivial (fun _hH => ?_)
        clear hK K
        refine wpAnyH_ready (rs := [8]) (by kernel_rfl) (by simp) ?_
        refine AllReadyH.cons (o := ⟨some 48, .buildSlice 68 1 #[(0, .tmp 47)], _, _, _, _⟩) rfl (fun K hK => ?_) AllReadyH.nil
        unfold pv
        go_simp
        have HB6 := Lib.hid (p := Below wr.heap.size wr (w5.alloc (.cells #[.int .i64 (X.c.n : Int), .int .i64 (a : Int)] 99))) (HB5.out.alloc HB5.out.size _)
        have c506 := HB0.out _ HB6.out
        refine hK.out _ _ trivial (fun _hH => ?_)
        clear hK K
        refine wpAnyH_ready (rs := [9]) (by kernel_rfl) (by simp) ?_
        refine AllReadyH.cons (o := ⟨some 49, .call ⟨.builtin .append, #[.tmp 44, .tmp 48], #[68, 68]⟩, _, _, _, _⟩) rfl (fun K hK => ?_) AllReadyH.nil
        refine step_join rfl (.tmp 44) (.tmp 48) rfl rec_spot w7.heap.size (.slice A m c) m _ rfl (own_kept HO.out HB6.out) (some ⟨w5.heap.size, 0, none⟩) 1 1 (pcs (X.c.n, a)) rfl rfl (made_src w5 _ _) (pcs_one _) (by have := HM.out; have := HLT.out; have := HN0.out; omega) (Nat.le_trans HC.out.size HB6.out.size) ?_
        intro v8 w8 hr8 hg8 hat8
        obtain ⟨A8, c8, rfl⟩ := own_sl hr8
        have HR8 := Lib.hid hr8
        have HG8 := Lib.hid hg8
        have HV8 := Lib.hid (p := VAt w8 g { X.c with go := .map (some gg), rt := .slice A m c }) ((HV.out.kept HB6.out).grown hg8 (row_parted HV.out HO.out (by decide)).symm)
        have c508 : w8.cell? ⟨g, 50, none⟩ = some (.slice A m c) := VAt.rt HV8.out
        have f508 : w8.frozen? ⟨g, 50, none⟩ = false := HV8.out.free 50
        clear hr8 hg8 hat8
        refine hK.out _ _ trivial (fun _hH => ?_)
        clear hK K
        refine wpAnyH_take (i := 10) (oi := ⟨some 50, .nilCheck (.tmp 40), _, _, _, _⟩) (v := .pointer (some ⟨g, 0, none⟩)) rfl (by kernel_rfl) (by kernel_rfl) (by kernel_rfl) (fun _ _ _ h => h) (.inl ⟨by rfl, fun w hSw => by go_simp⟩) (by assumption) ?_
        simp only [Act.put, List.setIfInBounds_toArray, List.set_cons_zero, List.set_cons_succ]
        refine wpAnyH_take (i := 11) (oi := ⟨some 51, .fieldAddr 90 (.tmp 50) 16, _, _, _, _⟩) (v := .pointer (some ⟨g, 50, none⟩)) rfl (by kernel_rfl) (by kernel_rfl) (by kernel_rfl) (fun _ _ _ h => h) (.inl ⟨by rfl, fun w hSw => by go_simp⟩) (by assumption) ?_
        simp only [Act.put, List.setIfInBounds_toArray, List.set_cons_zero, List.set_cons_succ]
        refine wpAnyH_ready (rs := [12]) (by kernel_rfl) (by simp) ?_
        refine AllReadyH.cons (o := ⟨none, .store 68 (.tmp 51) (.tmp 49), _, _, _, _⟩) rfl (fun K hK => ?_) AllReadyH.nil
        go_simp
        refine hK.out _ _ trivial (fun _hH => ?_)
        clear hK K
        refine wpAnyH_done (by kernel_rfl) ?_ _
        go_wp2
        go_roundw
        case rel => exact ⟨k + 1, A8, m + 1, c8, HLT.out, by go_num, Lib.hid (by rw [HM.out]), Lib.hid (by rw [HT.out, List.flatMap_append]; have z := World.ownsRow.kept HR8.out (grown_set w8 ⟨g, 50, none⟩ (.slice A8 (m + 1) c8)) (.inr (row_parted HV8.out HR8.out (by decide))); simpa using z), Lib.hid (HV8.out.p_rt _), Lib.hid (((HC.out.trans (Chg.of (F := []) HB6.out) (fun j hj => by cases hj)).grown HG8.out (fun k hk => .inr ((HO.out.lt k hk).1))).setCell (p := ⟨g, 50, none⟩) (.inl (List.mem_singleton.2 rfl)) _)⟩
        case measure => have := HLT.out; simp [intOf]; omega
      · skip
        go_simp
        refine (vplace g { X.c with go := .map (some gg), rt := .slice A m c } a _ (HV.out.kept (below_drw _))).mono ?_
        rintro e w5 ⟨rfl, hb5⟩
        have HB5 := Lib.hid (p := Below wr.heap.size wr w5) (below_nxt hb5 (below_drw _))
        have c505 := HB0.out _ HB5.out
        clear hb5
        refine hK.out _ _ trivial (fun _hH => ?_)
        clear hK K
        refine wpAnyH_ready (rs := [4, 8]) (by kernel_rfl) (by simp) ?_
        refine AllReadyH.cons (o := ⟨some 44, .load 68 (.tmp 43), _, _, _, _⟩) rfl (fun K hK => ?_) (AllReadyH.cons (o := ⟨some 48, .buildSlice 68 1 #[(0, .tmp 47)], _, _, _, _⟩) rfl (fun K hK => ?_) AllReadyH.nil)
        · skip
          go_simp
          refine hK.out _ _ trivial (fun _hH => ?_)
          clear hK K
          refine wpAnyH_ready (rs := [8]) (by kernel_rfl) (by simp) ?_
          refine AllReadyH.cons (o := ⟨some 48, .buildSlice 68 1 #[(0, .tmp 47)], _, _, _, _⟩) rfl (fun K hK => ?_) AllReadyH.nil
          unfold pv
          go_simp
          have HB6 := Lib.hid (p := Below wr.heap.size wr (w5.alloc (.cells #[.int .i64 (X.c.n : Int), .int .i64 (a : Int)] 99))) (HB5.out.alloc HB5.out.size _)
          have c506 := HB0.out _ HB6.out
          refine hK.out _ _ trivial (fun _hH => ?_)
          clear hK K
          refine wpAnyH_ready (rs := [9]) (by kernel_rfl) (by simp) ?_
          refine AllReadyH.cons (o := ⟨some 49, .call ⟨.builtin .append, #[.tmp 44, .tmp 48], #[68, 68]⟩, _, _, _, _⟩) rfl (fun K hK => ?_) AllReadyH.nil
          refine step_join rfl (.tmp 44) (.tmp 48) rfl rec_spot w7.heap.size (.slice A m c) m _ rfl (own_kept HO.out HB6.out) (some ⟨w5.heap.size, 0, none⟩) 1 1 (pcs (X.c.n, a)) rfl rfl (made_src w5 _ _) (pcs_one _) (by have := HM.out; have := HLT.out; have := HN0.out; omega) (Nat.le_trans HC.out.size HB6.out.size) ?_
          intro v8 w8 hr8 hg8 hat8
          obtain ⟨A8, c8, rfl⟩ := own_sl hr8
          have HR8 := Lib.hid hr8
          have HG8 := Lib.hid hg8
          have HV8 := Lib.hid (p := VAt w8 g { X.c with go := .map (some gg), rt := .slice A m c }) ((HV.out.kept HB6.out).grown hg8 (row_parted HV.out HO.out (by decide)).symm)
          have c508 : w8.cell? ⟨g, 50, none⟩ = some (.slice A m c) := VAt.rt HV8.out
          have f508 : w8.frozen? ⟨g, 50, none⟩ = false := HV8.out.free 50
          clear hr8 hg8 hat8
          refine hK.out _ _ trivial (fun _hH => ?_)
          clear hK K
          refine wpAnyH_take (i := 10) (oi := ⟨some 50, .nilCheck (.tmp 40), _, _, _, _⟩) (v := .pointer (some ⟨g, 0, none⟩)) rfl (by kernel_rfl) (by kernel_rfl) (by kernel_rfl) (fun _ _ _ h => h) (.inl ⟨by rfl, fun w hSw => by go_simp⟩) (by assumption) ?_
          simp only [Act.put, List.setIfInBounds_toArray, List.set_cons_zero, List.set_cons_succ]
          refine wpAnyH_take (i := 11) (oi := ⟨some 51, .fieldAddr 90 (.tmp 50) 16, _, _, _, _⟩) (v := .pointer (some ⟨g, 50, none⟩)) rfl (by kernel_rfl) (by kernel_rfl) (by kernel_rfl) (fun _ _ _ h => h) (.inl ⟨by rfl, fun w hSw => by go_simp⟩) (by assumption) ?_
          simp only [Act.put, List.setIfInBounds_toArray, List.set_cons_zero, List.set_cons_succ]
          refine wpAnyH_ready (rs := [12]) (by kernel_rfl) (by simp) ?_
          refine AllReadyH.cons (o := ⟨none, .store 68 (.tmp 51) (.tmp 49), _, _, _, _⟩) rfl (fun K hK => ?_) AllReadyH.nil
          go_simp
          refine hK.out _ _ trivial (fun _hH => ?_)
          clear hK K
          refine wpAnyH_done (by kernel_rfl) ?_ _
          go_wp2
          go_roundw
          case rel => exact ⟨k + 1, A8, m + 1, c8, HLT.out, by go_num, Lib.hid (by rw [HM.out]), Lib.hid (by rw [HT.out, List.flatMap_append]; have z := World.ownsRow.kept HR8.out (grown_set w8 ⟨g, 50, none⟩ (.slice A8 (m + 1) c8)) (.inr (row_parted HV8.out HR8.out (by decide))); simpa using z), Lib.hid (HV8.out.p_rt _), Lib.hid (((HC.out.trans (Chg.of (F := []) HB6.out) (fun j hj => by cases hj)).grown HG8.out (fun k hk => .inr ((HO.out.lt k hk).1))).setCell (p := ⟨g, 50, none⟩) (.inl (List.mem_singleton.2 rfl)) _)⟩
          case measure => have := HLT.out; simp [intOf]; omega
        · skip
          unfold pv
          go_simp
          have HB6 := Lib.hid (p := Below wr.heap.size wr (w5.alloc (.cells #[.int .i64 (X.c.n : Int), .int .i64 (a : Int)] 99))) (HB5.out.alloc HB5.out.size _)
          have c506 := HB0.out _ HB6.out
          refine hK.out _ _ trivial (fun _hH => ?_)
          clear hK K
          refine wpAnyH_ready (rs := [4]) (by kernel_rfl) (by simp) ?_
          refine AllReadyH.cons (o := ⟨some 44, .load 68 (.tmp 43), _, _, _, _⟩) rfl (fun K hK => ?_) AllReadyH.nil
          go_simp
          refine hK.out _ _ trivial (fun _hH => ?_)
          clear hK K
          refine wpAnyH_ready (rs := [9]) (by kernel_rfl) (by simp) ?_
          refine AllReadyH.cons (o := ⟨some 49, .call ⟨.builtin .append, #[.tmp 44, .tmp 48], #[68, 68]⟩, _, _, _, _⟩) rfl (fun K hK => ?_) AllReadyH.nil
          refine step_join rfl (.tmp 44) (.tmp 48) rfl rec_spot w7.heap.size (.slice A m c) m _ rfl (own_kept HO.out HB6.out) (some ⟨w5.heap.size, 0, none⟩) 1 1 (pcs (X.c.n, a)) rfl rfl (made_src w5 _ _) (pcs_one _) (by have := HM.out; have := HLT.out; have := HN0.out; omega) (Nat.le_trans HC.out.size HB6.out.size) ?_
          intro v8 w8 hr8 hg8 hat8
          obtain ⟨A8, c8, rfl⟩ := own_sl hr8
          have HR8 := Lib.hid hr8
          have HG8 := Lib.hid hg8
          have HV8 := Lib.hid (p := VAt w8 g { X.c with go := .map (some gg), rt := .slice A m c }) ((HV.out.kept HB6.out).grown hg8 (row_parted HV.out HO.out (by decide)).symm)
          have c508 : w8.cell? ⟨g, 50, none⟩ = some (.slice A m c) := VAt.rt HV8.out
          have f508 : w8.frozen? ⟨g, 50, none⟩ = false := HV8.out.free 50
          clear hr8 hg8 hat8
          refine hK.out _ _ trivial (fun _hH => ?_)
          clear hK K
          refine wpAnyH_take (i := 10) (oi := ⟨some 50, .nilCheck (.tmp 40), _, _, _, _⟩) (v := .pointer (some ⟨g, 0, none⟩)) rfl (by kernel_rfl) (by kernel_rfl) (by kernel_rfl) (fun _ _ _ h => h) (.inl ⟨by rfl, fun w hSw => by go_simp⟩) (by assumption) ?_
          simp only [Act.put, List.setIfInBounds_toArray, List.set_cons_zero, List.set_cons_succ]
          refine wpAnyH_take (i := 11) (oi := ⟨some 51, .fieldAddr 90 (.tmp 50) 16, _, _, _, _⟩) (v := .pointer (some ⟨g, 50, none⟩)) rfl (by kernel_rfl) (by kernel_rfl) (by kernel_rfl) (fun _ _ _ h => h) (.inl ⟨by rfl, fun w hSw => by go_simp⟩) (by assumption) ?_
          simp only [Act.put, List.setIfInBounds_toArray, List.set_cons_zero, List.set_cons_succ]
          refine wpAnyH_ready (rs := [12]) (by kernel_rfl) (by simp) ?_
          refine AllReadyH.cons (o := ⟨none, .store 68 (.tmp 51) (.tmp 49), _, _, _, _⟩) rfl (fun K hK => ?_) AllReadyH.nil
          go_simp
          refine hK.out _ _ trivial (fun _hH => ?_)
          clear hK K
          refine wpAnyH_done (by kernel_rfl) ?_ _
          go_wp2
          go_roundw
          case rel => exact ⟨k + 1, A8, m + 1, c8, HLT.out, by go_num, Lib.hid (by rw [HM.out]), Lib.hid (by rw [HT.out, List.flatMap_append]; have z := World.ownsRow.kept HR8.out (grown_set w8 ⟨g, 50, none⟩ (.slice A8 (m + 1) c8)) (.inr (row_parted HV8.out HR8.out (by decide))); simpa using z), Lib.hid (HV8.out.p_rt _), Lib.hid (((HC.out.trans (Chg.of (F := []) HB6.out) (fun j hj => by cases hj)).grown HG8.out (fun k hk => .inr ((HO.out.lt k hk).1))).setCell (p := ⟨g, 50, none⟩) (.inl (List.mem_singleton.2 rfl)) _)⟩
          case measure => have := HLT.out; simp [intOf]; omega
    · have hkN : k = N0 := by omega
      subst hkN
      have hzl : (keysL X.C).length = k := by rw [keysN_keysL, List.length_map]; exact HN0.out.1
      have HAB := Lib.hid (p := ∀ w5, Below wr.heap.size wr w5 → Calls Tryz.prog 55 #[.int .i64 (X.c.n : Int), .slice A7 k c7] w5 (P7.SpotsPost w5 (P7.aboveL (X.c.n : Int) (keysL X.C)))) (fun w5 hb => by
        have z := P7.above_any (X.c.n : Int) A7 c7 (keysL X.C) w5 (HIN.out.below hb) (by rw [hzl]; have := HN0.out; omega)
        rwa [hzl] at z)
      have HXL := Lib.hid (p := (P7.aboveL (X.c.n : Int) (keysL X.C)).length ≤ 1024) (by have := P7.aboveL_len (X.c.n : Int) (keysL X.C); have := HN0.out; omega)
      have hTK : (keysN X.C).take k = keysN X.C := List.take_of_length_le (by rw [HN0.out.1]; exact Nat.le_refl _)
      rw [hTK] at HO
      have HHT := Lib.hid (p := (restL X.c.n X.C).flatMap pcs = ((keysN X.C).map fun a => (X.c.n, a)).flatMap pcs ++ (P7.aboveL (X.c.n : Int) (keysL X.C)).flatMap P7.sp) (by unfold restL; rw [List.flatMap_append, abvN_cells])
      have HRL := Lib.hid (p := (restL X.c.n X.C).length = k + (P7.aboveL (X.c.n : Int) (keysL X.C)).length) (by unfold restL; rw [List.length_append, List.length_map, abvN_len, HN0.out.1])
      obtain ⟨xs, hxs⟩ : ∃ xs, P7.aboveL (X.c.n : Int) (keysL X.C) = xs := ⟨_, rfl⟩
      rw [hxs] at HAB HXL HHT HRL
      have HB0 := Lib.hid (p := ∀ w5, Below wr.heap.size wr w5 → w5.cell? ⟨g, 50, none⟩ = some (.slice A m c)) (fun w5 hb => (hb.cell (p := ⟨g, 50, none⟩) HV.out.lt).trans c50)
      have HB3 := Lib.hid (p := ∀ w5, Below wr.heap.size wr w5 → w5.cell? ⟨g, 3, none⟩ = some (.int .i64 (X.c.n : Int))) (fun w5 hb => by have z := VAt.n (HV.out.kept hb); exact z)
      clear hk hzl hTK hxs
      go_wp2_with fail
      have c50d : wr.drew.cell? ⟨g, 50, none⟩ = some (.slice A m c) := c50
      refine wp_region_held_drew (S := fun W => W.cell? ⟨g, 3, none⟩ = some (.int .i64 (X.c.n : Int))) (by kernel_rfl) (HB3.out _ (below_drw _)) (fun hHeld => ?_)
      refine wpAnyH_take (i := 0) (oi := ⟨some 53, .move (.tmp 0), _, _, _, _⟩) (v := .pointer (some ⟨g, 0, none⟩)) rfl (by kernel_rfl) (by kernel_rfl) (by kernel_rfl) (fun _ _ _ h => h) (.inl ⟨by rfl, fun w hSw => by go_simp⟩) (by assumption) ?_
      simp only [Act.put, List.setIfInBounds_toArray, List.set_cons_zero, List.set_cons_succ]
      refine wpAnyH_take (i := 1) (oi := ⟨some 54, .move (.tmp 0), _, _, _, _⟩) (v := .pointer (some ⟨g, 0, none⟩)) rfl (by kernel_rfl) (by kernel_rfl) (by kernel_rfl) (fun _ _ _ h => h) (.inl ⟨by rfl, fun w hSw => by go_simp⟩) (by assumption) ?_
      simp only [Act.put, List.setIfInBounds_toArray, List.set_cons_zero, List.set_cons_succ]
      refine wpAnyH_take (i := 2) (oi := ⟨some 55, .nilCheck (.tmp 54), _, _, _, _⟩) (v := .pointer (some ⟨g, 0, none⟩)) rfl (by kernel_rfl) (by kernel_rfl) (by kernel_rfl) (fun _ _ _ h => h) (.inl ⟨by rfl, fun w hSw => by go_simp⟩) (by assumption) ?_
      simp only [Act.put, List.setIfInBounds_toArray, List.set_cons_zero, List.set_cons_succ]
      refine wpAnyH_take (i := 3) (oi := ⟨some 56, .fieldAddr 90 (.tmp 55) 16, _, _, _, _⟩) (v := .pointer (some ⟨g, 50, none⟩)) rfl (by kernel_rfl) (by kernel_rfl) (by kernel_rfl) (fun _ _ _ h => h) (.inl ⟨by rfl, fun w hSw => by go_simp⟩) (by assumption) ?_
      simp only [Act.put, List.setIfInBounds_toArray, List.set_cons_zero, List.set_cons_succ]
      refine wpAnyH_take (i := 5) (oi := ⟨some 58, .move (.tmp 0), _, _, _, _⟩) (v := .pointer (some ⟨g, 0, none⟩)) rfl (by kernel_rfl) (by kernel_rfl) (by kernel_rfl) (fun _ _ _ h => h) (.inl ⟨by rfl, fun w hSw => by go_simp⟩) (by assumption) ?_
      simp only [Act.put, List.setIfInBounds_toArray, List.set_cons_zero, List.set_cons_succ]
      refine wpAnyH_take (i := 6) (oi := ⟨some 59, .nilCheck (.tmp 58), _, _, _, _⟩) (v := .pointer (some ⟨g, 0, none⟩)) rfl (by kernel_rfl) (by kernel_rfl) (by kernel_rfl) (fun _ _ _ h => h) (.inl ⟨by rfl, fun w hSw => by go_simp⟩) (by assumption) ?_
      simp only [Act.put, List.setIfInBounds_toArray, List.set_cons_zero, List.set_cons_succ]
      refine wpAnyH_take (i := 7) (oi := ⟨some 60, .fieldAddr 90 (.tmp 59) 3, _, _, _, _⟩) (v := .pointer (some ⟨g, 3, none⟩)) rfl (by kernel_rfl) (by kernel_rfl) (by kernel_rfl) (fun _ _ _ h => h) (.inl ⟨by rfl, fun w hSw => by go_simp⟩) (by assumption) ?_
      simp only [Act.put, List.setIfInBounds_toArray, List.set_cons_zero, List.set_cons_succ]
      refine wpAnyH_take (i := 8) (oi := ⟨some 61, .load 3 (.tmp 60), _, _, _, _⟩) (v := .int .i64 (X.c.n : Int)) rfl (by kernel_rfl) (by kernel_rfl) (by kernel_rfl) (fun _ _ _ h => h) (.inl ⟨by rfl, fun w hSw => by have z := hSw; go_simp⟩) (by assumption) ?_
      simp only [Act.put, List.setIfInBounds_toArray, List.set_cons_zero, List.set_cons_succ]
      refine wpAnyH_take (i := 9) (oi := ⟨some 62, .move (.tmp 3), _, _, _, _⟩) (v := .slice A7 k c7) rfl (by kernel_rfl) (by kernel_rfl) (by kernel_rfl) (fun _ _ _ h => h) (.inl ⟨by rfl, fun w hSw => by go_simp⟩) (by assumption) ?_
      simp only [Act.put, List.setIfInBounds_toArray, List.set_cons_zero, List.set_cons_succ]
      refine wpAnyH_ready (rs := [4, 10]) (by kernel_rfl) (by simp) ?_
      refine AllReadyH.cons (o := ⟨some 57, .load 68 (.tmp 56), _, _, _, _⟩) rfl (fun K hK => ?_) (AllReadyH.cons (o := ⟨some 63, .call ⟨.value (.func 55), #[.tmp 61, .tmp 62], _⟩, _, _, _, _⟩) rfl (fun K hK => ?_) AllReadyH.nil)
      · skip
        go_simp
        refine hK.out _ _ (HB3.out _ (below_drw _)) (fun _hH => ?_)
        clear hK K
        refine wpAnyH_ready (rs := [10]) (by kernel_rfl) (by simp) ?_
        refine AllReadyH.cons (o := ⟨some 63, .call ⟨.value (.func 55), #[.tmp 61, .tmp 62], _⟩, _, _, _, _⟩) rfl (fun K hK => ?_) AllReadyH.nil
        go_simp
        refine (HAB.out _ (below_drw _)).mono ?_
        rintro e w5 ⟨A5, c5, rfl, hO5, hb5⟩
        have HO5 := Lib.hid hO5
        have HB5 := Lib.hid (p := Below wr.heap.size wr w5) (below_nxt hb5 (below_drw _))
        have c505 := HB0.out _ HB5.out
        clear hO5 hb5
        refine hK.out _ _ (HB3.out _ HB5.out) (fun _hH => ?_)
        clear hK K
        refine wpAnyH_ready (rs := [11]) (by kernel_rfl) (by simp) ?_
        refine AllReadyH.cons (o := ⟨some 64, .call ⟨.builtin .append, #[.tmp 57, .tmp 63], #[68, 68]⟩, _, _, _, _⟩) rfl (fun K hK => ?_) AllReadyH.nil
        refine step_join rfl (.tmp 57) (.tmp 63) rfl rec_spot w7.heap.size (.slice A m c) m _ rfl (own_kept HO.out HB5.out) A5 xs.length c5 (xs.flatMap P7.sp) rfl (flat_len P7.sp_len _) (own_src HO5.out) (flat_one P7.sp_one _) (by have := HM.out; have := HN0.out; have := HXL.out; omega) (Nat.le_trans HC.out.size HB5.out.size) ?_
        intro v8 w8 hr8 hg8 hat8
        obtain ⟨A8, c8, rfl⟩ := own_sl hr8
        have HR8 := Lib.hid hr8
        have HG8 := Lib.hid hg8
        have HV8 := Lib.hid (p := VAt w8 g { X.c with go := .map (some gg), rt := .slice A m c }) ((HV.out.kept HB5.out).grown hg8 (row_parted HV.out HO.out (by decide)).symm)
        have f508 : w8.frozen? ⟨g, 50, none⟩ = false := HV8.out.free 50
        have c508 : w8.cell? ⟨g, 50, none⟩ = some (.slice A m c) := VAt.rt HV8.out
        clear hr8 hg8 hat8
        refine hK.out _ _ (by have z := VAt.n HV8.out; exact z) (fun _hH => ?_)
        clear hK K
        refine wpAnyH_take (i := 12) (oi := ⟨some 65, .nilCheck (.tmp 53), _, _, _, _⟩) (v := .pointer (some ⟨g, 0, none⟩)) rfl (by kernel_rfl) (by kernel_rfl) (by kernel_rfl) (fun _ _ _ h => h) (.inl ⟨by rfl, fun w hSw => by go_simp⟩) (by assumption) ?_
        simp only [Act.put, List.setIfInBounds_toArray, List.set_cons_zero, List.set_cons_succ]
        refine wpAnyH_take (i := 13) (oi := ⟨some 66, .fieldAddr 90 (.tmp 65) 16, _, _, _, _⟩) (v := .pointer (some ⟨g, 50, none⟩)) rfl (by kernel_rfl) (by kernel_rfl) (by kernel_rfl) (fun _ _ _ h => h) (.inl ⟨by rfl, fun w hSw => by go_simp⟩) (by assumption) ?_
        simp only [Act.put, List.setIfInBounds_toArray, List.set_cons_zero, List.set_cons_succ]
        refine wpAnyH_ready (rs := [14]) (by kernel_rfl) (by simp) ?_
        refine AllReadyH.cons (o := ⟨none, .store 68 (.tmp 66) (.tmp 64), _, _, _, _⟩) rfl (fun K hK => ?_) AllReadyH.nil
        go_simp
        have HV9 := Lib.hid (HV8.out.p_rt (.slice A8 (m + xs.length) c8))
        refine hK.out _ _ (by have z := VAt.n HV9.out; exact z) (fun _hH => ?_)
        clear hK K
        refine wpAnyH_done (by kernel_rfl) ?_ _
        have c489 : (w8.setCell ⟨g, 50, none⟩ (.slice A8 (m + xs.length) c8)).cell? ⟨g, 48, none⟩ = some X.c.pf := by have z := VAt.pf HV9.out; exact z
        have f489 : (w8.setCell ⟨g, 50, none⟩ (.slice A8 (m + xs.length) c8)).frozen? ⟨g, 48, none⟩ = false := HV9.out.free 48
        have HCE := Lib.hid (p := Chg [g] w7 ((w8.setCell ⟨g, 50, none⟩ (.slice A8 (m + xs.length) c8)).setCell ⟨g, 48, none⟩ (stV 56 g))) (chg_g2 (chg_g2 ((HC.out.trans (Chg.of (F := []) HB5.out) (fun j hj => by cases hj)).grown HG8.out (fun k hk => .inr ((HO.out.lt k hk).1))) 50 _) 48 _)
        have HOE := Lib.hid (p := PS ((w8.setCell ⟨g, 50, none⟩ (.slice A8 (m + xs.length) c8)).setCell ⟨g, 48, none⟩ (stV 56 g)) (.slice A8 (m + xs.length) c8) (restL X.c.n X.C)) (by
          have z := World.ownsRow.kept HR8.out (grown_set w8 ⟨g, 50, none⟩ (.slice A8 (m + xs.length) c8)) (.inr (row_parted HV8.out HR8.out (by decide)))
          have z2 := World.ownsRow.kept z (grown_set _ ⟨g, 48, none⟩ (stV 56 g)) (.inr (row_parted HV9.out z (by decide)))
          have e1 : m + xs.length = (restL X.c.n X.C).length := by rw [HRL.out, HM.out]
          rw [← HHT.out, e1] at z2
          rw [e1]
          exact PS.own z2)
        go_wp2
        go_ret
        rw [← HGG.out] at *
        exact vbeg_end H.out HV7'.out HUN.out HC7.out HCE.out (HV9.out.p_pf _) HOE.out
      · skip
        go_simp
        refine (HAB.out _ (below_drw _)).mono ?_
        rintro e w5 ⟨A5, c5, rfl, hO5, hb5⟩
        have HO5 := Lib.hid hO5
        have HB5 := Lib.hid (p := Below wr.heap.size wr w5) (below_nxt hb5 (below_drw _))
        have c505 := HB0.out _ HB5.out
        clear hO5 hb5
        refine hK.out _ _ (HB3.out _ HB5.out) (fun _hH => ?_)
        clear hK K
        refine wpAnyH_ready (rs := [4]) (by kernel_rfl) (by simp) ?_
        refine AllReadyH.cons (o := ⟨some 57, .load 68 (.tmp 56), _, _, _, _⟩) rfl (fun K hK => ?_) AllReadyH.nil
        go_simp
        refine hK.out _ _ (HB3.out _ HB5.out) (fun _hH => ?_)
        clear hK K
        refine wpAnyH_ready (rs := [11]) (by kernel_rfl) (by simp) ?_
        refine AllReadyH.cons (o := ⟨some 64, .call ⟨.builtin .append, #[.tmp 57, .tmp 63], #[68, 68]⟩, _, _, _, _⟩) rfl (fun K hK => ?_) AllReadyH.nil
        refine step_join rfl (.tmp 57) (.tmp 63) rfl rec_spot w7.heap.size (.slice A m c) m _ rfl (own_kept HO.out HB5.out) A5 xs.length c5 (xs.flatMap P7.sp) rfl (flat_len P7.sp_len _) (own_src HO5.out) (flat_one P7.sp_one _) (by have := HM.out; have := HN0.out; have := HXL.out; omega) (Nat.le_trans HC.out.size HB5.out.size) ?_
        intro v8 w8 hr8 hg8 hat8
        obtain ⟨A8, c8, rfl⟩ := own_sl hr8
        have HR8 := Lib.hid hr8
        have HG8 := Lib.hid hg8
        have HV8 := Lib.hid (p := VAt w8 g { X.c with go := .map (some gg), rt := .slice A m c }) ((HV.out.kept HB5.out).grown hg8 (row_parted HV.out HO.out (by decide)).symm)
        have f508 : w8.frozen? ⟨g, 50, none⟩ = false := HV8.out.free 50
        have c508 : w8.cell? ⟨g, 50, none⟩ = some (.slice A m c) := VAt.rt HV8.out
        clear hr8 hg8 hat8
        refine hK.out _ _ (by have z := VAt.n HV8.out; exact z) (fun _hH => ?_)
        clear hK K
        refine wpAnyH_take (i := 12) (oi := ⟨some 65, .nilCheck (.tmp 53), _, _, _, _⟩) (v := .pointer (some ⟨g, 0, none⟩)) rfl (by kernel_rfl) (by kernel_rfl) (by kernel_rfl) (fun _ _ _ h => h) (.inl ⟨by rfl, fun w hSw => by go_simp⟩) (by assumption) ?_
        simp only [Act.put, List.setIfInBounds_toArray, List.set_cons_zero, List.set_cons_succ]
        refine wpAnyH_take (i := 13) (oi := ⟨some 66, .fieldAddr 90 (.tmp 65) 16, _, _, _, _⟩) (v := .pointer (some ⟨g, 50, none⟩)) rfl (by kernel_rfl) (by kernel_rfl) (by kernel_rfl) (fun _ _ _ h => h) (.inl ⟨by rfl, fun w hSw => by go_simp⟩) (by assumption) ?_
        simp only [Act.put, List.setIfInBounds_toArray, List.set_cons_zero, List.set_cons_succ]
        refine wpAnyH_ready (rs := [14]) (by kernel_rfl) (by simp) ?_
        refine AllReadyH.cons (o := ⟨none, .store 68 (.tmp 66) (.tmp 64), _, _, _, _⟩) rfl (fun K hK => ?_) AllReadyH.nil
        go_simp
        have HV9 := Lib.hid (HV8.out.p_rt (.slice A8 (m + xs.length) c8))
        refine hK.out _ _ (by have z := VAt.n HV9.out; exact z) (fun _hH => ?_)
        clear hK K
        refine wpAnyH_done (by kernel_rfl) ?_ _
        have c489 : (w8.setCell ⟨g, 50, none⟩ (.slice A8 (m + xs.length) c8)).cell? ⟨g, 48, none⟩ = some X.c.pf := by have z := VAt.pf HV9.out; exact z
        have f489 : (w8.setCell ⟨g, 50, none⟩ (.slice A8 (m + xs.length) c8)).frozen? ⟨g, 48, none⟩ = false := HV9.out.free 48
        have HCE := Lib.hid (p := Chg [g] w7 ((w8.setCell ⟨g, 50, none⟩ (.slice A8 (m + xs.length) c8)).setCell ⟨g, 48, none⟩ (stV 56 g))) (chg_g2 (chg_g2 ((HC.out.trans (Chg.of (F := []) HB5.out) (fun j hj => by cases hj)).grown HG8.out (fun k hk => .inr ((HO.out.lt k hk).1))) 50 _) 48 _)
        have HOE := Lib.hid (p := PS ((w8.setCell ⟨g, 50, none⟩ (.slice A8 (m + xs.length) c8)).setCell ⟨g, 48, none⟩ (stV 56 g)) (.slice A8 (m + xs.length) c8) (restL X.c.n X.C)) (by
          have z := World.ownsRow.kept HR8.out (grown_set w8 ⟨g, 50, none⟩ (.slice A8 (m + xs.length) c8)) (.inr (row_parted HV8.out HR8.out (by decide)))
          have z2 := World.ownsRow.kept z (grown_set _ ⟨g, 48, none⟩ (stV 56 g)) (.inr (row_parted HV9.out z (by decide)))
          have e1 : m + xs.length = (restL X.c.n X.C).length := by rw [HRL.out, HM.out]
          rw [← HHT.out, e1] at z2
          rw [e1]
          exact PS.own z2)
        go_wp2
        go_ret
        rw [← HGG.out] at *
        exact vbeg_end H.out HV7'.out HUN.out HC7.out HCE.out (HV9.out.p_pf _) HOE.out
end
end Go.Proofs.YtpocccnhibjjcaaGreatDoor
