/- A volume keeps a run's changes. Conditions: the changes are the caller's own, each of 256 bytes, in a slot that there is. -/
import Derived.Test.YtfbfeplegdpemaaGreatMgFb
set_option linter.unusedVariables false
set_option maxRecDepth 20000
namespace Go.Proofs.YtfbfeplegdpemaaGreat
open Go.RowKit

/-- Changes kept, one by one. -/
def keepL (L : List L8) (cs : List (Int × L8)) : List L8 := cs.foldl (fun L p => L.set p.1.toNat p.2) L
theorem keepL_snoc (L : List L8) (cs : List (Int × L8)) (p : Int × L8) : keepL L (cs ++ [p]) = (keepL L cs).set p.1.toNat p.2 := by unfold keepL; rw [List.foldl_append]; rfl
theorem keepL_len : ∀ (cs : List (Int × L8)) (L : List L8), (keepL L cs).length = L.length
  | [], L => rfl
  | p :: cs, L => by
    have := keepL_len cs (L.set p.1.toNat p.2)
    rw [List.length_set] at this
    exact this
theorem keepL_get (a : Nat) : ∀ (cs : List (Int × L8)) (L : List L8), cs.Pairwise (fun x y => x.1 < y.1) → (∀ p ∈ cs, 0 ≤ p.1 ∧ p.1 < (L.length : Int)) → (∀ l, ((a : Int), l) ∈ cs → (keepL L cs)[a]? = some l) ∧ ((∀ l, ((a : Int), l) ∉ cs) → (keepL L cs)[a]? = L[a]?) := by
  intro cs
  induction cs with
  | nil => exact fun L _ _ => ⟨fun l h => (by cases h), fun _ => rfl⟩
  | cons p cs ihh =>
    intro L hp hr
    obtain ⟨h1, h2⟩ := List.pairwise_cons.1 hp
    have hp0 := hr p (by simp)
    have ih := ihh (L.set p.1.toNat p.2) h2 (fun q hq => by rw [List.length_set]; exact hr q (by simp [hq]))
    have e0 : keepL L (p :: cs) = keepL (L.set p.1.toNat p.2) cs := rfl
    rw [e0]
    refine ⟨fun l h => ?_, fun h => ?_⟩
    · rcases List.mem_cons.1 h with e | h
      · subst e
        have hno : ∀ l', ((a : Int), l') ∉ cs := fun l' hm => by
          have := h1 _ hm
          simp at this
        rw [ih.2 hno]
        simp only [Int.toNat_natCast]
        simp only at hp0
        rw [List.getElem?_set_self (by omega)]
      · exact ih.1 l h
    · have hno : ∀ l', ((a : Int), l') ∉ cs := fun l' hm => h l' (by simp [hm])
      rw [ih.2 hno, List.getElem?_set_ne]
      intro e
      refine h p.2 ?_
      have h3 : p.1 = (a : Int) := by omega
      rw [← h3]
      simp
def blkL (A : Option Addr) : List Nat := match A with | some ad => [ad.block] | none => []
/-- So many bytes of l, and bytes 0. -/
def part8 (l : L8) (k j : Nat) : UInt8 := if j < k then l.getD j 0 else 0
theorem part8_zero (l : L8) : part8 l 0 = fun _ => 0 := by funext j; unfold part8; rw [if_neg (by omega)]
theorem part8_next (l : L8) (k : Nat) : (fun j => if j = k then l.getD k 0 else part8 l k j) = part8 l (k + 1) := by
  funext j
  unfold part8
  by_cases e : j = k
  · subst e
    rw [if_pos rfl, if_pos (by omega)]
  · rw [if_neg e]
    by_cases h : j < k
    · rw [if_pos h, if_pos (by omega)]
    · rw [if_neg h, if_neg (by omega)]
theorem part8_all {l : L8} (h : l.length = 256) : brr 256 (part8 l 256) = bc l := by
  rw [lst_bc]
  congr 1
  apply List.ext_getElem?
  intro j
  by_cases hj : j < 256
  · rw [lst_get _ hj]
    unfold part8
    rw [if_pos hj, List.getD_eq_getElem?_getD, List.getElem?_eq_getElem (by omega)]
    rfl
  · rw [List.getElem?_eq_none (by rw [lst_len]; omega), List.getElem?_eq_none (by omega)]
theorem flat_sc (Bs : List BV) : Bs.flatMap sc = Bs.map bvv := by
  induction Bs with
  | nil => rfl
  | cons a t ih => rw [List.flatMap_cons, List.map_cons, ih]; rfl
/-- A volume in the midst of keeping a block. -/
structure KI (base b2 : Nat) (gs gL gN D c n c' a : Nat) (A' : Option Addr) (Bi : List BV) (ps : List (Int × BV)) (W : World) : Prop where
  row : Row W gs 76 [.slice (some ⟨gL, 0, none⟩) D c]
  own : W.ownsRow base 22 1 (.slice (some ⟨gL, 0, none⟩) D c) D ((Bi.map bvv).set a (.slice (some ⟨gN, 0, none⟩) 256 256))
  by_ : ∀ x ∈ Bi, Own8 base W x
  pu : W.ownsRow b2 70 2 (.slice A' n c') n (ps.flatMap pcs)
  po : ∀ p ∈ ps, Own8 b2 W p.2
section
variable {base b2 gs gL gN D c n c' a : Nat} {A' : Option Addr} {Bi : List BV} {ps : List (Int × BV)} {W W' : World}
theorem KI.chg (h : KI base b2 gs gL gN D c n c' a A' Bi ps W) (hc : Chg [gN] W W') {f : Nat → UInt8} (hr : Row W gN 5 (brr 256 f)) (hlt : ∀ q, (∃ x ∈ Bi, (bvv x).ownBlock = some q) ∨ (∃ p ∈ ps, (bvv p.2).ownBlock = some q) → q < gN) : KI base b2 gs gL gN D c n c' a A' Bi ps W' := by
  refine ⟨hc.row h.row (by simp; exact h.row.ne_ hr (by decide)), own_chg h.own hc (fun g hg => by rw [List.mem_singleton] at hg; subst hg; exact row_parted hr h.own (by decide)), fun x hx => own_chg (h.by_ x hx) hc (fun g hg e => by rw [List.mem_singleton] at hg; subst hg; have := hlt g (.inl ⟨x, hx, e⟩); omega), own_chg h.pu hc (fun g hg => by rw [List.mem_singleton] at hg; subst hg; exact row_parted hr h.pu (by decide)), fun p hp => own_chg (h.po p hp) hc (fun g hg e => by rw [List.mem_singleton] at hg; subst hg; have := hlt g (.inr ⟨p, hp, e⟩); omega)⟩
end
section
variable {base b2 : Nat} {w w' : World} {gs : Nat} {A A' : Option Addr} {c c' n : Nat} {Bs : List BV} {ps : List (Int × BV)}
set_option maxHeartbeats 8000000 in
theorem keep_any (hV : Vol base w gs A c Bs) (hP : w.ownsRow b2 70 2 (.slice A' n c') n (ps.flatMap pcs)) (hO : ∀ p ∈ ps, Own8 b2 w p.2) (hn : n = ps.length ∧ n ≤ 1000) (hsl : ∀ p ∈ ps, 0 ≤ p.1 ∧ p.1 < (Bs.length : Int) ∧ p.2.l.length = 256) :
    Calls Tryz.prog 31 #[.pointer (some ⟨gs, 0, none⟩), .slice A' n c'] w fun e w' => e = .returned (.bool true) ∧ ∃ Bs', Hid (Vol base w' gs A c Bs') ∧ Hid (Bs'.map (·.l) = keepL (Bs.map (·.l)) (chL ps)) ∧ Hid (Chg (blkL A) w w') := by
  obtain ⟨iU, U⟩ := u8_tab
  have HV := Lib.hid hV
  have HP := Lib.hid hP
  have HO := Lib.hid hO
  have HSL := Lib.hid hsl
  have HN := Lib.hid hn
  obtain ⟨D, hD⟩ : ∃ D, Bs.length = D := ⟨_, rfl⟩
  have HD := Lib.hid hD
  have HA := Lib.hid (p := ∀ q, (Value.slice A D c).ownBlock = some q → q ∈ blkL A) (fun q hq => by
    unfold Value.ownBlock at hq
    unfold blkL
    cases A with
    | none => cases hq
    | some ad =>
      simp only [Option.some.injEq] at hq ⊢
      first
        | (subst hq; simp)
        | (injection hq with hq; subst hq; simp))
  clear hV hP hO hsl hn hD
  go_enter Tryz.func31, Tryz.ntmps31
  go_wp2
  go_loopw [5] (fun x wr => ∃ (i : Nat) (Bi : List BV), Hid (i ≤ n) ∧ x = .int .i64 (i : Int) ∧ Hid (Vol base wr gs A c Bi) ∧ Hid (Bi.map (·.l) = keepL (Bs.map (·.l)) ((chL ps).take i)) ∧ Hid (wr.ownsRow b2 70 2 (.slice A' n c') n (ps.flatMap pcs) ∧ ∀ p ∈ ps, Own8 b2 wr p.2) ∧ Hid (Chg (blkL A) w wr)) (fun x _ => n - (intOf x).toNat)
  case atStart => exact ⟨0, Bs, Lib.hid (Nat.zero_le _), rfl, HV, Lib.hid rfl, Lib.hid ⟨HP.out, HO.out⟩, Lib.hid (Chg.refl _ _)⟩
  case round =>
    obtain ⟨i, Bi, HI, rfl, HVI, HL, HPO, HCW⟩ := hrel
    rename World => wo
    have HDI := Lib.hid (p := Bi.length = D) (by
      have h1 := congrArg List.length HL.out
      rw [List.length_map, keepL_len, List.length_map, HD.out] at h1
      exact h1)
    by_cases hi : i < n
    · have hii : (i : Int) < (n : Int) := by omega
      have hiw : IntKind.i64.wrap ((i : Int) + 1) = (i : Int) + 1 := by rw [IntKind.wrap_i64]; have := HN.out; omega
      obtain ⟨gP, rfl⟩ : ∃ gP, A' = some ⟨gP, 0, none⟩ := by
        rcases HPO.out.1.2 with ⟨h1, h2⟩ | ⟨g, cap, cur, h1, _⟩
        · omega
        · simp only [Value.slice.injEq] at h1
          exact ⟨g, h1.1⟩
      have hil : i < ps.length := by rw [← HN.out.1]; exact hi
      obtain ⟨p, hp⟩ : ∃ p, ps[i]'hil = p := ⟨_, rfl⟩
      have hps : ps[i]? = some p := by rw [List.getElem?_eq_getElem hil, hp]
      have hpm : p ∈ ps := by rw [← hp]; exact List.getElem_mem _
      obtain ⟨a, ha⟩ : ∃ a : Nat, p.1 = (a : Int) := ⟨p.1.toNat, by have := (HSL.out p hpm).1; omega⟩
      obtain ⟨l, hl⟩ : ∃ l, p.2.l = l := ⟨_, rfl⟩
      have haD : a < D := by have h1 := (HSL.out p hpm).2.1; rw [ha, HD.out] at h1; omega
      have hl256 : l.length = 256 := by rw [← hl]; exact (HSL.out p hpm).2.2
      obtain ⟨gB, oB, hgB, _, hcB⟩ := ((HPO.out.2 p hpm).hol).some_ (by rw [hl, hl256]; decide)
      rw [hl] at hcB
      have HCELL := Lib.hid (p := ∀ W : World, W.ownsRow b2 70 2 (.slice (some ⟨gP, 0, none⟩) n c') n (ps.flatMap pcs) → W.cell? ⟨gP, i * 2, none⟩ = some (.int .i64 (a : Int)) ∧ W.cell? ⟨gP, i * 2 + 1, none⟩ = some (.slice (some ⟨gB, oB, none⟩) 256 p.2.c)) (fun W hW => by
        have h0 := hW.cells (g := gP) rfl (i * 2 + 0) _ (by rw [flat_get pcs_len hps 0 (by decide)]; rfl)
        have h1 := hW.cells (g := gP) rfl (i * 2 + 1) _ (by rw [flat_get pcs_len hps 1 (by decide)]; rfl)
        rw [Addr.add_lit, Nat.zero_add] at h0 h1
        rw [Nat.add_zero, ha] at h0
        refine ⟨h0, ?_⟩
        rw [h1]
        unfold bvv
        rw [hgB, hl, hl256])
      have HHOL := Lib.hid (p := ∀ W : World, Own8 b2 W p.2 → ∀ j x, l[j]? = some x → W.cell? ⟨gB, oB + j, none⟩ = some (.int .u8 (x.toNat : Int))) (fun W hW j x hx => by
        obtain ⟨g', o', e1, _, h2⟩ := hW.hol.some_ (by rw [hl, hl256]; decide)
        rw [hgB] at e1
        injection e1 with e1
        injection e1 with e1 e2
        subst e1 e2
        rw [hl] at h2
        exact h2 j x hx)
      have HPM := Lib.hid (p := p ∈ ps ∧ a < D ∧ l.length = 256 ∧ (chL ps)[i]? = some ((a : Int), l)) ⟨hpm, haD, hl256, by unfold chL; rw [List.getElem?_map, hps]; show some (p.1, p.2.l) = _; rw [ha, hl]⟩
      have HII := Lib.hid hi
      have c0 : wo.cell? ⟨gs, 0, none⟩ = some (.slice A D c) := by rw [← HDI.out]; exact HVI.out.row.cell 0
      have c1 := (HCELL.out wo HPO.out.1).1
      have c2 := (HCELL.out wo HPO.out.1).2
      have haDi : ¬ (D : Int) ≤ (a : Int) := by omega
      have ha0 : ¬ (a : Int) < 0 := by omega
      have haDi2 : (a : Int) < (D : Int) := by omega
      clear hi hil hp hps hpm ha hl haD hl256 hgB hcB
      have d1 : decide ((a : Int) < 0) = false := decide_eq_false ha0
      have d2 : decide ((D : Int) ≤ (a : Int)) = false := decide_eq_false haDi
      have d3 : decide (D ≤ a) = false := decide_eq_false (by omega)
      go_wp2
      refine wp_region_held_drew (S := fun W => W.cell? ⟨gP, i * 2, none⟩ = some (.int .i64 (a : Int)) ∧ W.cell? ⟨gP, i * 2 + 1, none⟩ = some (.slice (some ⟨gB, oB, none⟩) 256 p.2.c) ∧ W.cell? ⟨gs, 0, none⟩ = some (.slice A D c)) (by kernel_rfl) ⟨c1, c2, c0⟩ (fun hHeld => ?_)
      refine wpAnyH_take (i := 0) (oi := ⟨some 13, .move (.tmp 1), _, _, _, _⟩) (v := .slice (some ⟨gP, 0, none⟩) n c') rfl (by kernel_rfl) (by kernel_rfl) (by kernel_rfl) (fun _ _ _ h => h) (.inl ⟨by rfl, fun w hSw => by go_simp⟩) (by assumption) ?_
      simp only [Act.put, List.setIfInBounds_toArray, List.set_cons_zero, List.set_cons_succ]
      refine wpAnyH_take (i := 1) (oi := ⟨some 14, .move (.tmp 5), _, _, _, _⟩) (v := .int .i64 (i : Int)) rfl (by kernel_rfl) (by kernel_rfl) (by kernel_rfl) (fun _ _ _ h => h) (.inl ⟨by rfl, fun w hSw => by go_simp⟩) (by assumption) ?_
      simp only [Act.put, List.setIfInBounds_toArray, List.set_cons_zero, List.set_cons_succ]
      refine wpAnyH_take (i := 2) (oi := ⟨some 15, .indexAddr 67 (.tmp 13) (.tmp 14), _, _, _, _⟩) (v := .pointer (some ⟨gP, i * 2, none⟩)) rfl (by kernel_rfl) (by kernel_rfl) (by kernel_rfl) (fun _ _ _ h => h) (.inl ⟨by rfl, fun w hSw => by go_simp⟩) (by assumption) ?_
      simp only [Act.put, List.setIfInBounds_toArray, List.set_cons_zero, List.set_cons_succ]
      refine wpAnyH_take (i := 3) (oi := ⟨some 16, .fieldAddr 70 (.tmp 15) 0, _, _, _, _⟩) (v := .pointer (some ⟨gP, i * 2, none⟩)) rfl (by kernel_rfl) (by kernel_rfl) (by kernel_rfl) (fun _ _ _ h => h) (.inl ⟨by rfl, fun w hSw => by go_simp⟩) (by assumption) ?_
      simp only [Act.put, List.setIfInBounds_toArray, List.set_cons_zero, List.set_cons_succ]
      refine wpAnyH_take (i := 4) (oi := ⟨some 17, .load 3 (.tmp 16), _, _, _, _⟩) (v := .int .i64 (a : Int)) rfl (by kernel_rfl) (by kernel_rfl) (by kernel_rfl) (fun _ _ _ h => h) (.inl ⟨by rfl, fun w hSw => by have z := hSw.1; go_simp⟩) (by assumption) ?_
      simp only [Act.put, List.setIfInBounds_toArray, List.set_cons_zero, List.set_cons_succ]
      refine wpAnyH_take (i := 5) (oi := ⟨some 18, .binOp .lss 3 (.tmp 17) (.const (.int .i64 0)) 3, _, _, _, _⟩) (v := .bool false) rfl (by kernel_rfl) (by kernel_rfl) (by kernel_rfl) (fun _ _ _ h => h) (.inl ⟨by rfl, fun w hSw => by go_simp⟩) (by assumption) ?_
      simp only [Act.put, List.setIfInBounds_toArray, List.set_cons_zero, List.set_cons_succ]
      refine wpAnyH_take (i := 6) (oi := ⟨some 19, .move (.tmp 18), _, _, _, _⟩) (v := .bool false) rfl (by kernel_rfl) (by kernel_rfl) (by kernel_rfl) (fun _ _ _ h => h) (.inl ⟨by rfl, fun w hSw => by go_simp⟩) (by assumption) ?_
      simp only [Act.put, List.setIfInBounds_toArray, List.set_cons_zero, List.set_cons_succ]
      refine wpAnyH_take (i := 7) (oi := ⟨some 20, .move (.tmp 1), _, _, _, _⟩) (v := .slice (some ⟨gP, 0, none⟩) n c') rfl (by kernel_rfl) (by kernel_rfl) (by kernel_rfl) (fun _ _ _ h => h) (.inl ⟨by rfl, fun w hSw => by go_simp⟩) (by assumption) ?_
      simp only [Act.put, List.setIfInBounds_toArray, List.set_cons_zero, List.set_cons_succ]
      refine wpAnyH_take (i := 8) (oi := ⟨some 21, .move (.tmp 5), _, _, _, _⟩) (v := .int .i64 (i : Int)) rfl (by kernel_rfl) (by kernel_rfl) (by kernel_rfl) (fun _ _ _ h => h) (.inl ⟨by rfl, fun w hSw => by go_simp⟩) (by assumption) ?_
      simp only [Act.put, List.setIfInBounds_toArray, List.set_cons_zero, List.set_cons_succ]
      refine wpAnyH_take (i := 9) (oi := ⟨some 22, .indexAddr 67 (.tmp 20) (.tmp 21), _, _, _, _⟩) (v := .pointer (some ⟨gP, i * 2, none⟩)) rfl (by kernel_rfl) (by kernel_rfl) (by kernel_rfl) (fun _ _ _ h => h) (.inl ⟨by rfl, fun w hSw => by go_simp⟩) (by assumption) ?_
      simp only [Act.put, List.setIfInBounds_toArray, List.set_cons_zero, List.set_cons_succ]
      refine wpAnyH_take (i := 10) (oi := ⟨some 23, .fieldAddr 70 (.tmp 22) 0, _, _, _, _⟩) (v := .pointer (some ⟨gP, i * 2, none⟩)) rfl (by kernel_rfl) (by kernel_rfl) (by kernel_rfl) (fun _ _ _ h => h) (.inl ⟨by rfl, fun w hSw => by go_simp⟩) (by assumption) ?_
      simp only [Act.put, List.setIfInBounds_toArray, List.set_cons_zero, List.set_cons_succ]
      refine wpAnyH_take (i := 11) (oi := ⟨some 24, .load 3 (.tmp 23), _, _, _, _⟩) (v := .int .i64 (a : Int)) rfl (by kernel_rfl) (by kernel_rfl) (by kernel_rfl) (fun _ _ _ h => h) (.inl ⟨by rfl, fun w hSw => by have z := hSw.1; go_simp⟩) (by assumption) ?_
      simp only [Act.put, List.setIfInBounds_toArray, List.set_cons_zero, List.set_cons_succ]
      refine wpAnyH_take (i := 12) (oi := ⟨some 25, .move (.tmp 0), _, _, _, _⟩) (v := .pointer (some ⟨gs, 0, none⟩)) rfl (by kernel_rfl) (by kernel_rfl) (by kernel_rfl) (fun _ _ _ h => h) (.inl ⟨by rfl, fun w hSw => by go_simp⟩) (by assumption) ?_
      simp only [Act.put, List.setIfInBounds_toArray, List.set_cons_zero, List.set_cons_succ]
      refine wpAnyH_take (i := 13) (oi := ⟨some 26, .nilCheck (.tmp 25), _, _, _, _⟩) (v := .pointer (some ⟨gs, 0, none⟩)) rfl (by kernel_rfl) (by kernel_rfl) (by kernel_rfl) (fun _ _ _ h => h) (.inl ⟨by rfl, fun w hSw => by go_simp⟩) (by assumption) ?_
      simp only [Act.put, List.setIfInBounds_toArray, List.set_cons_zero, List.set_cons_succ]
      refine wpAnyH_take (i := 14) (oi := ⟨some 27, .fieldAddr 76 (.tmp 26) 0, _, _, _, _⟩) (v := .pointer (some ⟨gs, 0, none⟩)) rfl (by kernel_rfl) (by kernel_rfl) (by kernel_rfl) (fun _ _ _ h => h) (.inl ⟨by rfl, fun w hSw => by go_simp⟩) (by assumption) ?_
      simp only [Act.put, List.setIfInBounds_toArray, List.set_cons_zero, List.set_cons_succ]
      refine wpAnyH_take (i := 15) (oi := ⟨some 28, .load 74 (.tmp 27), _, _, _, _⟩) (v := .slice A D c) rfl (by kernel_rfl) (by kernel_rfl) (by kernel_rfl) (fun _ _ _ h => h) (.inl ⟨by rfl, fun w hSw => by have z := hSw.2.2; go_simp⟩) (by assumption) ?_
      simp only [Act.put, List.setIfInBounds_toArray, List.set_cons_zero, List.set_cons_succ]
      refine wpAnyH_take (i := 16) (oi := ⟨some 29, .call ⟨.builtin .len, #[.tmp 28], #[74]⟩, _, _, _, _⟩) (v := .int .i64 (D : Int)) rfl (by kernel_rfl) (by kernel_rfl) (by kernel_rfl) (fun _ _ _ h => h) (.inl ⟨by rfl, fun w hSw => by go_simp⟩) (by assumption) ?_
      simp only [Act.put, List.setIfInBounds_toArray, List.set_cons_zero, List.set_cons_succ]
      refine wpAnyH_take (i := 17) (oi := ⟨some 30, .binOp .geq 3 (.tmp 24) (.tmp 29) 3, _, _, _, _⟩) (v := .bool false) rfl (by kernel_rfl) (by kernel_rfl) (by kernel_rfl) (fun _ _ _ h => h) (.inl ⟨by rfl, fun w hSw => by go_simp⟩) (by assumption) ?_
      simp only [Act.put, List.setIfInBounds_toArray, List.set_cons_zero, List.set_cons_succ]
      refine wpAnyH_take (i := 18) (oi := ⟨some 31, .pick (.tmp 19) (.const (.bool true)) (.tmp 30), _, _, _, _⟩) (v := .bool false) rfl (by kernel_rfl) (by kernel_rfl) (by kernel_rfl) (fun _ _ _ h => h) (.inl ⟨by rfl, fun w hSw => by go_simp⟩) (by assumption) ?_
      simp only [Act.put, List.setIfInBounds_toArray, List.set_cons_zero, List.set_cons_succ]
      refine wpAnyH_take (i := 19) (oi := ⟨some 32, .move (.tmp 31), _, _, _, _⟩) (v := .bool false) rfl (by kernel_rfl) (by kernel_rfl) (by kernel_rfl) (fun _ _ _ h => h) (.inl ⟨by rfl, fun w hSw => by go_simp⟩) (by assumption) ?_
      simp only [Act.put, List.setIfInBounds_toArray, List.set_cons_zero, List.set_cons_succ]
      refine wpAnyH_take (i := 20) (oi := ⟨some 33, .move (.tmp 1), _, _, _, _⟩) (v := .slice (some ⟨gP, 0, none⟩) n c') rfl (by kernel_rfl) (by kernel_rfl) (by kernel_rfl) (fun _ _ _ h => h) (.inl ⟨by rfl, fun w hSw => by go_simp⟩) (by assumption) ?_
      simp only [Act.put, List.setIfInBounds_toArray, List.set_cons_zero, List.set_cons_succ]
      refine wpAnyH_take (i := 21) (oi := ⟨some 34, .move (.tmp 5), _, _, _, _⟩) (v := .int .i64 (i : Int)) rfl (by kernel_rfl) (by kernel_rfl) (by kernel_rfl) (fun _ _ _ h => h) (.inl ⟨by rfl, fun w hSw => by go_simp⟩) (by assumption) ?_
      simp only [Act.put, List.setIfInBounds_toArray, List.set_cons_zero, List.set_cons_succ]
      refine wpAnyH_take (i := 22) (oi := ⟨some 35, .indexAddr 67 (.tmp 33) (.tmp 34), _, _, _, _⟩) (v := .pointer (some ⟨gP, i * 2, none⟩)) rfl (by kernel_rfl) (by kernel_rfl) (by kernel_rfl) (fun _ _ _ h => h) (.inl ⟨by rfl, fun w hSw => by go_simp⟩) (by assumption) ?_
      simp only [Act.put, List.setIfInBounds_toArray, List.set_cons_zero, List.set_cons_succ]
      refine wpAnyH_take (i := 23) (oi := ⟨some 36, .fieldAddr 70 (.tmp 35) 1, _, _, _, _⟩) (v := .pointer (some ⟨gP, i * 2 + 1, none⟩)) rfl (by kernel_rfl) (by kernel_rfl) (by kernel_rfl) (fun _ _ _ h => h) (.inl ⟨by rfl, fun w hSw => by go_simp⟩) (by assumption) ?_
      simp only [Act.put, List.setIfInBounds_toArray, List.set_cons_zero, List.set_cons_succ]
      refine wpAnyH_take (i := 24) (oi := ⟨some 37, .load 22 (.tmp 36), _, _, _, _⟩) (v := .slice (some ⟨gB, oB, none⟩) 256 p.2.c) rfl (by kernel_rfl) (by kernel_rfl) (by kernel_rfl) (fun _ _ _ h => h) (.inl ⟨by rfl, fun w hSw => by have z := hSw.2.1; go_simp⟩) (by assumption) ?_
      simp only [Act.put, List.setIfInBounds_toArray, List.set_cons_zero, List.set_cons_succ]
      refine wpAnyH_take (i := 25) (oi := ⟨some 38, .call ⟨.builtin .len, #[.tmp 37], #[22]⟩, _, _, _, _⟩) (v := .int .i64 256) rfl (by kernel_rfl) (by kernel_rfl) (by kernel_rfl) (fun _ _ _ h => h) (.inl ⟨by rfl, fun w hSw => by go_simp⟩) (by assumption) ?_
      simp only [Act.put, List.setIfInBounds_toArray, List.set_cons_zero, List.set_cons_succ]
      refine wpAnyH_take (i := 26) (oi := ⟨some 39, .binOp .neq 3 (.tmp 38) (.const (.int .i64 256)) 3, _, _, _, _⟩) (v := .bool false) rfl (by kernel_rfl) (by kernel_rfl) (by kernel_rfl) (fun _ _ _ h => h) (.inl ⟨by rfl, fun w hSw => by go_simp⟩) (by assumption) ?_
      simp only [Act.put, List.setIfInBounds_toArray, List.set_cons_zero, List.set_cons_succ]
      refine wpAnyH_take (i := 27) (oi := ⟨some 40, .move (.tmp 39), _, _, _, _⟩) (v := .bool false) rfl (by kernel_rfl) (by kernel_rfl) (by kernel_rfl) (fun _ _ _ h => h) (.inl ⟨by rfl, fun w hSw => by go_simp⟩) (by assumption) ?_
      simp only [Act.put, List.setIfInBounds_toArray, List.set_cons_zero, List.set_cons_succ]
      refine wpAnyH_take (i := 28) (oi := ⟨some 41, .move (.tmp 1), _, _, _, _⟩) (v := undef) rfl (by kernel_rfl) (by kernel_rfl) (by kernel_rfl) (fun _ _ _ h => h) (.inr ⟨by rfl, rfl⟩) (by assumption) ?_
      simp only [Act.put, List.setIfInBounds_toArray, List.set_cons_zero, List.set_cons_succ]
      refine wpAnyH_take (i := 29) (oi := ⟨some 42, .move (.tmp 5), _, _, _, _⟩) (v := undef) rfl (by kernel_rfl) (by kernel_rfl) (by kernel_rfl) (fun _ _ _ h => h) (.inr ⟨by rfl, rfl⟩) (by assumption) ?_
      simp only [Act.put, List.setIfInBounds_toArray, List.set_cons_zero, List.set_cons_succ]
      refine wpAnyH_take (i := 30) (oi := ⟨some 43, .indexAddr 67 (.tmp 41) (.tmp 42), _, _, _, _⟩) (v := undef) rfl (by kernel_rfl) (by kernel_rfl) (by kernel_rfl) (fun _ _ _ h => h) (.inr ⟨by rfl, rfl⟩) (by assumption) ?_
      simp only [Act.put, List.setIfInBounds_toArray, List.set_cons_zero, List.set_cons_succ]
      refine wpAnyH_take (i := 31) (oi := ⟨some 44, .fieldAddr 70 (.tmp 43) 1, _, _, _, _⟩) (v := undef) rfl (by kernel_rfl) (by kernel_rfl) (by kernel_rfl) (fun _ _ _ h => h) (.inr ⟨by rfl, rfl⟩) (by assumption) ?_
      simp only [Act.put, List.setIfInBounds_toArray, List.set_cons_zero, List.set_cons_succ]
      refine wpAnyH_take (i := 32) (oi := ⟨some 45, .load 22 (.tmp 44), _, _, _, _⟩) (v := undef) rfl (by kernel_rfl) (by kernel_rfl) (by kernel_rfl) (fun _ _ _ h => h) (.inr ⟨by rfl, rfl⟩) (by assumption) ?_
      simp only [Act.put, List.setIfInBounds_toArray, List.set_cons_zero, List.set_cons_succ]
      refine wpAnyH_take (i := 33) (oi := ⟨some 46, .call ⟨.builtin .len, #[.tmp 45], #[22]⟩, _, _, _, _⟩) (v := undef) rfl (by kernel_rfl) (by kernel_rfl) (by kernel_rfl) (fun _ _ _ h => h) (.inr ⟨by rfl, rfl⟩) (by assumption) ?_
      simp only [Act.put, List.setIfInBounds_toArray, List.set_cons_zero, List.set_cons_succ]
      refine wpAnyH_take (i := 34) (oi := ⟨some 47, .binOp .neq 3 (.tmp 46) (.const (.int .i64 0)) 3, _, _, _, _⟩) (v := undef) rfl (by kernel_rfl) (by kernel_rfl) (by kernel_rfl) (fun _ _ _ h => h) (.inr ⟨by rfl, rfl⟩) (by assumption) ?_
      simp only [Act.put, List.setIfInBounds_toArray, List.set_cons_zero, List.set_cons_succ]
      refine wpAnyH_take (i := 35) (oi := ⟨some 48, .pick (.tmp 40) (.tmp 47) (.const (.bool false)), _, _, _, _⟩) (v := .bool false) rfl (by kernel_rfl) (by kernel_rfl) (by kernel_rfl) (fun _ _ _ h => h) (.inl ⟨by rfl, fun w hSw => by go_simp⟩) (by assumption) ?_
      simp only [Act.put, List.setIfInBounds_toArray, List.set_cons_zero, List.set_cons_succ]
      refine wpAnyH_take (i := 36) (oi := ⟨some 49, .pick (.tmp 32) (.const (.bool true)) (.tmp 48), _, _, _, _⟩) (v := .bool false) rfl (by kernel_rfl) (by kernel_rfl) (by kernel_rfl) (fun _ _ _ h => h) (.inl ⟨by rfl, fun w hSw => by go_simp⟩) (by assumption) ?_
      simp only [Act.put, List.setIfInBounds_toArray, List.set_cons_zero, List.set_cons_succ]
      refine wpAnyH_done (by kernel_rfl) ?_ _
      obtain ⟨gL, rfl⟩ : ∃ gL, A = some ⟨gL, 0, none⟩ := by
        rcases HVI.out.own.2 with ⟨h1, h2⟩ | ⟨g, cap, cur, h1, _⟩
        · have h3 := HPM.out.2.1
          have h4 := HDI.out
          omega
        · simp only [Value.slice.injEq] at h1
          exact ⟨g, h1.1⟩
      have hWD := below_drw wo
      have HV4 := Lib.hid (HVI.out.below hWD)
      have HP4 := Lib.hid (p := wo.drew.ownsRow b2 70 2 (.slice (some ⟨gP, 0, none⟩) n c') n (ps.flatMap pcs) ∧ ∀ p ∈ ps, Own8 b2 wo.drew p.2) ⟨own_kept HPO.out.1 hWD, fun p hp => (HPO.out.2 p hp).below hWD⟩
      have HC4 := Lib.hid (p := Chg (blkL (some ⟨gL, 0, none⟩)) w wo.drew) (chg_nxt HCW.out hWD)
      have HSZ := Lib.hid (p := ∀ q, (∃ x ∈ Bi, (bvv x).ownBlock = some q) ∨ (∃ p ∈ ps, (bvv p.2).ownBlock = some q) → q < wo.drew.heap.size) (fun q hq => by
        rcases hq with ⟨x, hx, e⟩ | ⟨p, hp, e⟩
        · exact ((HV4.out.bytes x hx).lt q e).2
        · exact ((HP4.out.2 p hp).lt q e).2)
      have HOW := Lib.hid (p := wo.drew.ownsRow base 22 1 (.slice (some ⟨gL, 0, none⟩) D c) D (Bi.map bvv)) (by have h1 := HV4.out.own; rw [HDI.out, flat_sc] at h1; exact h1)
      have HGS := Lib.hid (p := Row wo.drew gs 76 [.slice (some ⟨gL, 0, none⟩) D c]) (by have h1 := HV4.out.row; rw [HDI.out] at h1; exact h1)
      clear c0 c1 c2 hWD
      generalize wo.drew = w4 at HV4 HP4 HC4 HSZ HOW HGS ⊢
      have c0 : w4.drew.cell? ⟨gs, 0, none⟩ = some (.slice (some ⟨gL, 0, none⟩) D c) := HGS.out.cell 0
      have c1 : w4.drew.cell? ⟨gP, i * 2, none⟩ = some (.int .i64 (a : Int)) := (HCELL.out w4 HP4.out.1).1
      go_wp2
      refine wp_region_held_drew (S := fun W => W.cell? ⟨gs, 0, none⟩ = some (.slice (some ⟨gL, 0, none⟩) D c) ∧ W.cell? ⟨gP, i * 2, none⟩ = some (.int .i64 (a : Int))) (by kernel_rfl) ⟨c0, c1⟩ (fun hHeld => ?_)
      refine wpAnyH_take (i := 0) (oi := ⟨some 50, .move (.tmp 0), _, _, _, _⟩) (v := .pointer (some ⟨gs, 0, none⟩)) rfl (by kernel_rfl) (by kernel_rfl) (by kernel_rfl) (fun _ _ _ h => h) (.inl ⟨by rfl, fun w hSw => by go_simp⟩) (by assumption) ?_
      simp only [Act.put, List.setIfInBounds_toArray, List.set_cons_zero, List.set_cons_succ]
      refine wpAnyH_take (i := 1) (oi := ⟨some 51, .nilCheck (.tmp 50), _, _, _, _⟩) (v := .pointer (some ⟨gs, 0, none⟩)) rfl (by kernel_rfl) (by kernel_rfl) (by kernel_rfl) (fun _ _ _ h => h) (.inl ⟨by rfl, fun w hSw => by go_simp⟩) (by assumption) ?_
      simp only [Act.put, List.setIfInBounds_toArray, List.set_cons_zero, List.set_cons_succ]
      refine wpAnyH_take (i := 2) (oi := ⟨some 52, .fieldAddr 76 (.tmp 51) 0, _, _, _, _⟩) (v := .pointer (some ⟨gs, 0, none⟩)) rfl (by kernel_rfl) (by kernel_rfl) (by kernel_rfl) (fun _ _ _ h => h) (.inl ⟨by rfl, fun w hSw => by go_simp⟩) (by assumption) ?_
      simp only [Act.put, List.setIfInBounds_toArray, List.set_cons_zero, List.set_cons_succ]
      refine wpAnyH_take (i := 3) (oi := ⟨some 53, .load 74 (.tmp 52), _, _, _, _⟩) (v := .slice (some ⟨gL, 0, none⟩) D c) rfl (by kernel_rfl) (by kernel_rfl) (by kernel_rfl) (fun _ _ _ h => h) (.inl ⟨by rfl, fun w hSw => by have z := hSw.1; go_simp⟩) (by assumption) ?_
      simp only [Act.put, List.setIfInBounds_toArray, List.set_cons_zero, List.set_cons_succ]
      refine wpAnyH_take (i := 4) (oi := ⟨some 54, .move (.tmp 1), _, _, _, _⟩) (v := .slice (some ⟨gP, 0, none⟩) n c') rfl (by kernel_rfl) (by kernel_rfl) (by kernel_rfl) (fun _ _ _ h => h) (.inl ⟨by rfl, fun w hSw => by go_simp⟩) (by assumption) ?_
      simp only [Act.put, List.setIfInBounds_toArray, List.set_cons_zero, List.set_cons_succ]
      refine wpAnyH_take (i := 5) (oi := ⟨some 55, .move (.tmp 5), _, _, _, _⟩) (v := .int .i64 (i : Int)) rfl (by kernel_rfl) (by kernel_rfl) (by kernel_rfl) (fun _ _ _ h => h) (.inl ⟨by rfl, fun w hSw => by go_simp⟩) (by assumption) ?_
      simp only [Act.put, List.setIfInBounds_toArray, List.set_cons_zero, List.set_cons_succ]
      refine wpAnyH_take (i := 6) (oi := ⟨some 56, .indexAddr 67 (.tmp 54) (.tmp 55), _, _, _, _⟩) (v := .pointer (some ⟨gP, i * 2, none⟩)) rfl (by kernel_rfl) (by kernel_rfl) (by kernel_rfl) (fun _ _ _ h => h) (.inl ⟨by rfl, fun w hSw => by go_simp⟩) (by assumption) ?_
      simp only [Act.put, List.setIfInBounds_toArray, List.set_cons_zero, List.set_cons_succ]
      refine wpAnyH_take (i := 7) (oi := ⟨some 57, .fieldAddr 70 (.tmp 56) 0, _, _, _, _⟩) (v := .pointer (some ⟨gP, i * 2, none⟩)) rfl (by kernel_rfl) (by kernel_rfl) (by kernel_rfl) (fun _ _ _ h => h) (.inl ⟨by rfl, fun w hSw => by go_simp⟩) (by assumption) ?_
      simp only [Act.put, List.setIfInBounds_toArray, List.set_cons_zero, List.set_cons_succ]
      refine wpAnyH_take (i := 8) (oi := ⟨some 58, .load 3 (.tmp 57), _, _, _, _⟩) (v := .int .i64 (a : Int)) rfl (by kernel_rfl) (by kernel_rfl) (by kernel_rfl) (fun _ _ _ h => h) (.inl ⟨by rfl, fun w hSw => by have z := hSw.2; go_simp⟩) (by assumption) ?_
      simp only [Act.put, List.setIfInBounds_toArray, List.set_cons_zero, List.set_cons_succ]
      refine wpAnyH_ready (rs := [9]) (by kernel_rfl) (by simp) ?_
      refine AllReadyH.cons (o := ⟨some 59, .makeSlice 22 (.const (.int .i64 256)) (.const (.int .i64 256)), _, _, _, _⟩) rfl (fun K hK => ?_) AllReadyH.nil
      refine k_make8 (.const (.int .i64 256)) (.const (.int .i64 256)) 22 5 iU U rfl 256 (by rfl) (by rfl) (by decide) ?_
      intro gN w5 hr5 hg5 hb5
      have HR5 := Lib.hid hr5
      have HB5 := Lib.hid (p := Below w4.heap.size w4 w5) ((below_drw w4).trans (hb5.mono (Nat.le_refl _)))
      have HG5 := Lib.hid (p := w4.heap.size ≤ gN) (Nat.le_of_eq hg5.out.symm)
      have d0 : w5.cell? ⟨gs, 0, none⟩ = some (.slice (some ⟨gL, 0, none⟩) D c) := (HGS.out.kept HB5.out).cell 0
      have hP5 := own_kept HP4.out.1 HB5.out
      have d1 : w5.cell? ⟨gP, i * 2, none⟩ = some (.int .i64 (a : Int)) := (HCELL.out w5 hP5).1
      have hO5 := own_kept HOW.out HB5.out
      have dL : ∃ u, w5.cell? ⟨gL, a, none⟩ = some u := by
        have h1 := hO5.cells (g := gL) rfl a _ (List.getElem?_eq_getElem (by rw [List.length_map, HDI.out]; exact HPM.out.2.1))
        rw [Addr.add_lit, Nat.zero_add] at h1
        exact ⟨_, h1⟩
      obtain ⟨uL, dL⟩ := dL
      have fL := hO5.frozenAt a
      have HST := Lib.hid (hO5.stored a (.slice (some ⟨gN, 0, none⟩) 256 256))
      have HHP := Lib.hid hP5
      have HHO := Lib.hid hO5
      clear hr5 hg5 hb5 hP5 hO5
      refine hK.out _ _ ⟨d0, d1⟩ (fun _hH => ?_)
      clear hK K
      refine wpAnyH_take (i := 10) (oi := ⟨some 60, .indexAddr 74 (.tmp 53) (.tmp 58), _, _, _, _⟩) (v := .pointer (some ⟨gL, a, none⟩)) rfl (by kernel_rfl) (by kernel_rfl) (by kernel_rfl) (fun _ _ _ h => h) (.inl ⟨by rfl, fun w hSw => by go_simp⟩) (by assumption) ?_
      simp only [Act.put, List.setIfInBounds_toArray, List.set_cons_zero, List.set_cons_succ]
      refine wpAnyH_ready (rs := [11]) (by kernel_rfl) (by simp) ?_
      refine AllReadyH.cons (o := ⟨none, .store 22 (.tmp 60) (.tmp 59), _, _, _, _⟩) rfl (fun K hK => ?_) AllReadyH.nil
      have hc6 : Chg [gL] w5 (w5.setCell ⟨gL, a, none⟩ (.slice (some ⟨gN, 0, none⟩) 256 256)) := Chg.one HST.out.2
      have nP : gP ≠ gL := fun e => by
        have h1 := own_parted HHP.out HHO.out (by decide)
        rw [e] at h1
        rcases h1 with h1 | h1
        · cases h1
        · exact h1 rfl
      have nS : gs ≠ gL := fun e => (row_parted (HGS.out.kept HB5.out) HHO.out (by decide)) (by rw [e]; rfl)
      have e0 : (w5.setCell ⟨gL, a, none⟩ (.slice (some ⟨gN, 0, none⟩) 256 256)).cell? ⟨gs, 0, none⟩ = some (.slice (some ⟨gL, 0, none⟩) D c) := hc6.cell d0 (by simp; exact nS)
      have e1 : (w5.setCell ⟨gL, a, none⟩ (.slice (some ⟨gN, 0, none⟩) 256 256)).cell? ⟨gP, i * 2, none⟩ = some (.int .i64 (a : Int)) := hc6.cell d1 (by simp; exact nP)
      go_simp
      refine hK.out _ _ ⟨e0, e1⟩ (fun _hH => ?_)
      clear hK K
      refine wpAnyH_done (by kernel_rfl) ?_ _
      have HKI := Lib.hid (p := KI base b2 gs gL gN D c n c' a (some ⟨gP, 0, none⟩) Bi ps (w5.setCell ⟨gL, a, none⟩ (.slice (some ⟨gN, 0, none⟩) 256 256))) ⟨hc6.row (HGS.out.kept HB5.out) (by simp; exact nS), HST.out.1, fun x hx => own_chg ((HV4.out.bytes x hx).below HB5.out) hc6 (fun g hg => by
          rw [List.mem_singleton] at hg
          subst hg
          have h1 := own_parted ((HV4.out.bytes x hx).below HB5.out) HHO.out (by decide)
          rcases h1 with h1 | h1
          · rw [h1]; intro e; cases e
          · exact h1), own_chg HHP.out hc6 (fun g hg => by rw [List.mem_singleton] at hg; subst hg; intro e; injection e with e; exact nP e), fun p hp => own_chg ((HP4.out.2 p hp).below HB5.out) hc6 (fun g hg => by
          rw [List.mem_singleton] at hg
          subst hg
          have h1 := own_parted ((HP4.out.2 p hp).below HB5.out) HHO.out (by decide)
          rcases h1 with h1 | h1
          · rw [h1]; intro e; cases e
          · exact h1)⟩
      have HR6 := Lib.hid (p := Row (w5.setCell ⟨gL, a, none⟩ (.slice (some ⟨gN, 0, none⟩) 256 256)) gN 5 (brr 256 (part8 l 0))) (by rw [part8_zero]; exact hc6.row HR5.out (by simp; exact fun e => (row_parted HR5.out HHO.out (by decide)) (by rw [e]; rfl)))
      have HC6 := Lib.hid (p := Chg (blkL (some ⟨gL, 0, none⟩)) w (w5.setCell ⟨gL, a, none⟩ (.slice (some ⟨gN, 0, none⟩) 256 256))) ((chg_nxt HC4.out HB5.out).trans hc6 (fun x hx => .inl hx))
      have HLTN := Lib.hid (p := ∀ q, (∃ x ∈ Bi, (bvv x).ownBlock = some q) ∨ (∃ p ∈ ps, (bvv p.2).ownBlock = some q) → q < gN) (fun q hq => Nat.lt_of_lt_of_le (HSZ.out q hq) HG5.out)
      have HGN := Lib.hid (p := w.heap.size ≤ gN ∧ base ≤ gN) ⟨Nat.le_trans HC4.out.size HG5.out, by have h1 := (HOW.out.lt gL rfl); have h2 := HG5.out; omega⟩
      clear c0 c1 d0 d1 dL fL e0 e1 hc6 nP nS HHP HHO HST HB5 HR5 HOW HGS
      generalize w5.setCell ⟨gL, a, none⟩ (.slice (some ⟨gN, 0, none⟩) 256 256) = w6 at HKI HR6 HC6 ⊢
      go_wp2
      go_loopw [6] (fun x wq => ∃ k : Nat, Hid (k ≤ 256) ∧ x = .int .i64 (k : Int) ∧ Hid (Row wq gN 5 (brr 256 (part8 l k))) ∧ Hid (KI base b2 gs gL gN D c n c' a (some ⟨gP, 0, none⟩) Bi ps wq) ∧ Hid (Chg (blkL (some ⟨gL, 0, none⟩)) w wq)) (fun x _ => 256 - (intOf x).toNat)
      case atStart => exact ⟨0, Lib.hid (by decide), rfl, HR6, HKI, HC6⟩
      case round =>
        obtain ⟨k, HK, rfl, HRQ, HKQ, HCQ⟩ := hrel
        rename World => wq
        have q2 : wq.cell? ⟨gP, i * 2 + 1, none⟩ = some (.slice (some ⟨gB, oB, none⟩) 256 p.2.c) := (HCELL.out wq HKQ.out.pu).2
        by_cases hk : k < 256
        · have hki : (k : Int) < 256 := by omega
          have hkw : IntKind.i64.wrap ((k : Int) + 1) = (k : Int) + 1 := by rw [IntKind.wrap_i64]; omega
          obtain ⟨x, hx⟩ : ∃ x, l[k]? = some x := ⟨_, List.getElem?_eq_getElem (by have := HPM.out.2.2.1; omega)⟩
          have hxd : l.getD k 0 = x := by rw [List.getD_eq_getElem?_getD, hx]; rfl
          obtain ⟨xn, hxn⟩ : ∃ xn, x.toNat = xn := ⟨_, rfl⟩
          have q0 : wq.drew.cell? ⟨gs, 0, none⟩ = some (.slice (some ⟨gL, 0, none⟩) D c) := HKQ.out.row.cell 0
          have q1 : wq.drew.cell? ⟨gP, i * 2, none⟩ = some (.int .i64 (a : Int)) := (HCELL.out wq HKQ.out.pu).1
          have q2' : wq.drew.cell? ⟨gP, i * 2 + 1, none⟩ = some (.slice (some ⟨gB, oB, none⟩) 256 p.2.c) := q2
          have q3 : wq.drew.cell? ⟨gL, a, none⟩ = some (.slice (some ⟨gN, 0, none⟩) 256 256) := by
            have h1 := HKQ.out.own.cells (g := gL) rfl a (.slice (some ⟨gN, 0, none⟩) 256 256) (by rw [List.getElem?_set_self (by rw [List.length_map, HDI.out]; exact HPM.out.2.1)])
            rw [Addr.add_lit, Nat.zero_add] at h1
            exact h1
          have q4 : wq.drew.cell? ⟨gB, oB + k, none⟩ = some (.int .u8 (xn : Int)) := by rw [← hxn]; exact HHOL.out wq (HKQ.out.po p HPM.out.1) k x hx
          have qN : ∃ u, wq.drew.cell? ⟨gN, k, none⟩ = some u := ⟨_, (HRQ.out.cell k).trans (brr_get _ hk)⟩
          obtain ⟨uN, qN⟩ := qN
          have fN : wq.drew.frozen? ⟨gN, k, none⟩ = false := HRQ.out.free k
          have HB := Lib.hid (p := B x = .int .u8 (xn : Int)) (by rw [← hxn]; rfl)
          have HPN := Lib.hid (p := Row (wq.drew.setCell ⟨gN, k, none⟩ (.int .u8 (xn : Int))) gN 5 (brr 256 (part8 l (k + 1)))) (by
            have h1 := HRQ.out.drew.put k (.int .u8 (xn : Int))
            rw [← HB.out, brr_set] at h1
            have h2 : upd (part8 l k) k x = part8 l (k + 1) := by
              rw [← part8_next, hxd]
              rfl
            rw [h2, HB.out] at h1
            exact h1)
          have hcN : Chg [gN] wq (wq.drew.setCell ⟨gN, k, none⟩ (.int .u8 (xn : Int))) := ((Chg.refl [gN] wq).drew).setCell (p := ⟨gN, k, none⟩) (.inl (by simp)) _
          have HKN := Lib.hid (HKQ.out.chg hcN HRQ.out HLTN.out)
          have HCN := Lib.hid (p := Chg (blkL (some ⟨gL, 0, none⟩)) w (wq.drew.setCell ⟨gN, k, none⟩ (.int .u8 (xn : Int)))) (chg_own HCQ.out HGN.out.1 hcN)
          have r0 : (wq.drew.setCell ⟨gN, k, none⟩ (.int .u8 (xn : Int))).cell? ⟨gs, 0, none⟩ = some (.slice (some ⟨gL, 0, none⟩) D c) := HKN.out.row.cell 0
          have r1 : (wq.drew.setCell ⟨gN, k, none⟩ (.int .u8 (xn : Int))).cell? ⟨gP, i * 2, none⟩ = some (.int .i64 (a : Int)) := (HCELL.out _ HKN.out.pu).1
          have r2 : (wq.drew.setCell ⟨gN, k, none⟩ (.int .u8 (xn : Int))).cell? ⟨gP, i * 2 + 1, none⟩ = some (.slice (some ⟨gB, oB, none⟩) 256 p.2.c) := (HCELL.out _ HKN.out.pu).2
          have r3 : (wq.drew.setCell ⟨gN, k, none⟩ (.int .u8 (xn : Int))).cell? ⟨gL, a, none⟩ = some (.slice (some ⟨gN, 0, none⟩) 256 256) := by
            have h1 := HKN.out.own.cells (g := gL) rfl a (.slice (some ⟨gN, 0, none⟩) 256 256) (by rw [List.getElem?_set_self (by rw [List.length_map, HDI.out]; exact HPM.out.2.1)])
            rw [Addr.add_lit, Nat.zero_add] at h1
            exact h1
          have r4 : (wq.drew.setCell ⟨gN, k, none⟩ (.int .u8 (xn : Int))).cell? ⟨gB, oB + k, none⟩ = some (.int .u8 (xn : Int)) := by
            have h := HHOL.out _ (HKN.out.po p HPM.out.1) k x hx
            rw [hxn] at h
            exact h
          have HS := Lib.hid (And.intro r0 (And.intro r1 (And.intro r2 (And.intro r3 r4))))
          have HKK := Lib.hid hk
          clear hk hx hxd hxn hcN r0 r1 r2 r3 r4
          go_wp2
          refine wp_region_held_drew (S := fun W => W.cell? ⟨gs, 0, none⟩ = some (.slice (some ⟨gL, 0, none⟩) D c) ∧ W.cell? ⟨gP, i * 2, none⟩ = some (.int .i64 (a : Int)) ∧ W.cell? ⟨gP, i * 2 + 1, none⟩ = some (.slice (some ⟨gB, oB, none⟩) 256 p.2.c) ∧ W.cell? ⟨gL, a, none⟩ = some (.slice (some ⟨gN, 0, none⟩) 256 256) ∧ W.cell? ⟨gB, oB + k, none⟩ = some (.int .u8 (xn : Int))) (by kernel_rfl) ⟨q0, q1, q2', q3, q4⟩ (fun hHeld => ?_)
          refine wpAnyH_take (i := 0) (oi := ⟨some 71, .move (.tmp 0), _, _, _, _⟩) (v := .pointer (some ⟨gs, 0, none⟩)) rfl (by kernel_rfl) (by kernel_rfl) (by kernel_rfl) (fun _ _ _ h => h) (.inl ⟨by rfl, fun w hSw => by go_simp⟩) (by assumption) ?_
          simp only [Act.put, List.setIfInBounds_toArray, List.set_cons_zero, List.set_cons_succ]
          refine wpAnyH_take (i := 1) (oi := ⟨some 72, .nilCheck (.tmp 71), _, _, _, _⟩) (v := .pointer (some ⟨gs, 0, none⟩)) rfl (by kernel_rfl) (by kernel_rfl) (by kernel_rfl) (fun _ _ _ h => h) (.inl ⟨by rfl, fun w hSw => by go_simp⟩) (by assumption) ?_
          simp only [Act.put, List.setIfInBounds_toArray, List.set_cons_zero, List.set_cons_succ]
          refine wpAnyH_take (i := 2) (oi := ⟨some 73, .fieldAddr 76 (.tmp 72) 0, _, _, _, _⟩) (v := .pointer (some ⟨gs, 0, none⟩)) rfl (by kernel_rfl) (by kernel_rfl) (by kernel_rfl) (fun _ _ _ h => h) (.inl ⟨by rfl, fun w hSw => by go_simp⟩) (by assumption) ?_
          simp only [Act.put, List.setIfInBounds_toArray, List.set_cons_zero, List.set_cons_succ]
          refine wpAnyH_take (i := 3) (oi := ⟨some 74, .load 74 (.tmp 73), _, _, _, _⟩) (v := .slice (some ⟨gL, 0, none⟩) D c) rfl (by kernel_rfl) (by kernel_rfl) (by kernel_rfl) (fun _ _ _ h => h) (.inl ⟨by rfl, fun w hSw => by have z := hSw.1; go_simp⟩) (by assumption) ?_
          simp only [Act.put, List.setIfInBounds_toArray, List.set_cons_zero, List.set_cons_succ]
          refine wpAnyH_take (i := 4) (oi := ⟨some 75, .move (.tmp 1), _, _, _, _⟩) (v := .slice (some ⟨gP, 0, none⟩) n c') rfl (by kernel_rfl) (by kernel_rfl) (by kernel_rfl) (fun _ _ _ h => h) (.inl ⟨by rfl, fun w hSw => by go_simp⟩) (by assumption) ?_
          simp only [Act.put, List.setIfInBounds_toArray, List.set_cons_zero, List.set_cons_succ]
          refine wpAnyH_take (i := 5) (oi := ⟨some 76, .move (.tmp 5), _, _, _, _⟩) (v := .int .i64 (i : Int)) rfl (by kernel_rfl) (by kernel_rfl) (by kernel_rfl) (fun _ _ _ h => h) (.inl ⟨by rfl, fun w hSw => by go_simp⟩) (by assumption) ?_
          simp only [Act.put, List.setIfInBounds_toArray, List.set_cons_zero, List.set_cons_succ]
          refine wpAnyH_take (i := 6) (oi := ⟨some 77, .indexAddr 67 (.tmp 75) (.tmp 76), _, _, _, _⟩) (v := .pointer (some ⟨gP, i * 2, none⟩)) rfl (by kernel_rfl) (by kernel_rfl) (by kernel_rfl) (fun _ _ _ h => h) (.inl ⟨by rfl, fun w hSw => by go_simp⟩) (by assumption) ?_
          simp only [Act.put, List.setIfInBounds_toArray, List.set_cons_zero, List.set_cons_succ]
          refine wpAnyH_take (i := 7) (oi := ⟨some 78, .fieldAddr 70 (.tmp 77) 0, _, _, _, _⟩) (v := .pointer (some ⟨gP, i * 2, none⟩)) rfl (by kernel_rfl) (by kernel_rfl) (by kernel_rfl) (fun _ _ _ h => h) (.inl ⟨by rfl, fun w hSw => by go_simp⟩) (by assumption) ?_
          simp only [Act.put, List.setIfInBounds_toArray, List.set_cons_zero, List.set_cons_succ]
          refine wpAnyH_take (i := 8) (oi := ⟨some 79, .load 3 (.tmp 78), _, _, _, _⟩) (v := .int .i64 (a : Int)) rfl (by kernel_rfl) (by kernel_rfl) (by kernel_rfl) (fun _ _ _ h => h) (.inl ⟨by rfl, fun w hSw => by have z := hSw.2.1; go_simp⟩) (by assumption) ?_
          simp only [Act.put, List.setIfInBounds_toArray, List.set_cons_zero, List.set_cons_succ]
          refine wpAnyH_take (i := 9) (oi := ⟨some 80, .indexAddr 74 (.tmp 74) (.tmp 79), _, _, _, _⟩) (v := .pointer (some ⟨gL, a, none⟩)) rfl (by kernel_rfl) (by kernel_rfl) (by kernel_rfl) (fun _ _ _ h => h) (.inl ⟨by rfl, fun w hSw => by go_simp⟩) (by assumption) ?_
          simp only [Act.put, List.setIfInBounds_toArray, List.set_cons_zero, List.set_cons_succ]
          refine wpAnyH_take (i := 10) (oi := ⟨some 81, .load 22 (.tmp 80), _, _, _, _⟩) (v := .slice (some ⟨gN, 0, none⟩) 256 256) rfl (by kernel_rfl) (by kernel_rfl) (by kernel_rfl) (fun _ _ _ h => h) (.inl ⟨by rfl, fun w hSw => by have z := hSw.2.2.2.1; go_simp⟩) (by assumption) ?_
          simp only [Act.put, List.setIfInBounds_toArray, List.set_cons_zero, List.set_cons_succ]
          refine wpAnyH_take (i := 11) (oi := ⟨some 82, .move (.tmp 6), _, _, _, _⟩) (v := .int .i64 (k : Int)) rfl (by kernel_rfl) (by kernel_rfl) (by kernel_rfl) (fun _ _ _ h => h) (.inl ⟨by rfl, fun w hSw => by go_simp⟩) (by assumption) ?_
          simp only [Act.put, List.setIfInBounds_toArray, List.set_cons_zero, List.set_cons_succ]
          refine wpAnyH_take (i := 12) (oi := ⟨some 83, .move (.tmp 1), _, _, _, _⟩) (v := .slice (some ⟨gP, 0, none⟩) n c') rfl (by kernel_rfl) (by kernel_rfl) (by kernel_rfl) (fun _ _ _ h => h) (.inl ⟨by rfl, fun w hSw => by go_simp⟩) (by assumption) ?_
          simp only [Act.put, List.setIfInBounds_toArray, List.set_cons_zero, List.set_cons_succ]
          refine wpAnyH_take (i := 13) (oi := ⟨some 84, .move (.tmp 5), _, _, _, _⟩) (v := .int .i64 (i : Int)) rfl (by kernel_rfl) (by kernel_rfl) (by kernel_rfl) (fun _ _ _ h => h) (.inl ⟨by rfl, fun w hSw => by go_simp⟩) (by assumption) ?_
          simp only [Act.put, List.setIfInBounds_toArray, List.set_cons_zero, List.set_cons_succ]
          refine wpAnyH_take (i := 14) (oi := ⟨some 85, .indexAddr 67 (.tmp 83) (.tmp 84), _, _, _, _⟩) (v := .pointer (some ⟨gP, i * 2, none⟩)) rfl (by kernel_rfl) (by kernel_rfl) (by kernel_rfl) (fun _ _ _ h => h) (.inl ⟨by rfl, fun w hSw => by go_simp⟩) (by assumption) ?_
          simp only [Act.put, List.setIfInBounds_toArray, List.set_cons_zero, List.set_cons_succ]
          refine wpAnyH_take (i := 15) (oi := ⟨some 86, .fieldAddr 70 (.tmp 85) 1, _, _, _, _⟩) (v := .pointer (some ⟨gP, i * 2 + 1, none⟩)) rfl (by kernel_rfl) (by kernel_rfl) (by kernel_rfl) (fun _ _ _ h => h) (.inl ⟨by rfl, fun w hSw => by go_simp⟩) (by assumption) ?_
          simp only [Act.put, List.setIfInBounds_toArray, List.set_cons_zero, List.set_cons_succ]
          refine wpAnyH_take (i := 16) (oi := ⟨some 87, .load 22 (.tmp 86), _, _, _, _⟩) (v := .slice (some ⟨gB, oB, none⟩) 256 p.2.c) rfl (by kernel_rfl) (by kernel_rfl) (by kernel_rfl) (fun _ _ _ h => h) (.inl ⟨by rfl, fun w hSw => by have z := hSw.2.2.1; go_simp⟩) (by assumption) ?_
          simp only [Act.put, List.setIfInBounds_toArray, List.set_cons_zero, List.set_cons_succ]
          refine wpAnyH_take (i := 17) (oi := ⟨some 88, .move (.tmp 6), _, _, _, _⟩) (v := .int .i64 (k : Int)) rfl (by kernel_rfl) (by kernel_rfl) (by kernel_rfl) (fun _ _ _ h => h) (.inl ⟨by rfl, fun w hSw => by go_simp⟩) (by assumption) ?_
          simp only [Act.put, List.setIfInBounds_toArray, List.set_cons_zero, List.set_cons_succ]
          refine wpAnyH_take (i := 18) (oi := ⟨some 89, .indexAddr 22 (.tmp 87) (.tmp 88), _, _, _, _⟩) (v := .pointer (some ⟨gB, oB + k, none⟩)) rfl (by kernel_rfl) (by kernel_rfl) (by kernel_rfl) (fun _ _ _ h => h) (.inl ⟨by rfl, fun w hSw => by go_simp⟩) (by assumption) ?_
          simp only [Act.put, List.setIfInBounds_toArray, List.set_cons_zero, List.set_cons_succ]
          refine wpAnyH_take (i := 19) (oi := ⟨some 90, .load 5 (.tmp 89), _, _, _, _⟩) (v := .int .u8 (xn : Int)) rfl (by kernel_rfl) (by kernel_rfl) (by kernel_rfl) (fun _ _ _ h => h) (.inl ⟨by rfl, fun w hSw => by have z := hSw.2.2.2.2; go_simp⟩) (by assumption) ?_
          simp only [Act.put, List.setIfInBounds_toArray, List.set_cons_zero, List.set_cons_succ]
          refine wpAnyH_take (i := 20) (oi := ⟨some 91, .indexAddr 22 (.tmp 81) (.tmp 82), _, _, _, _⟩) (v := .pointer (some ⟨gN, k, none⟩)) rfl (by kernel_rfl) (by kernel_rfl) (by kernel_rfl) (fun _ _ _ h => h) (.inl ⟨by rfl, fun w hSw => by go_simp⟩) (by assumption) ?_
          simp only [Act.put, List.setIfInBounds_toArray, List.set_cons_zero, List.set_cons_succ]
          refine wpAnyH_ready (rs := [21]) (by kernel_rfl) (by simp) ?_
          refine AllReadyH.cons (o := ⟨none, .store 5 (.tmp 91) (.tmp 90), _, _, _, _⟩) rfl (fun K hK => ?_) AllReadyH.nil
          go_simp
          refine hK.out _ _ HS.out (fun _hH => ?_)
          clear hK K
          refine wpAnyH_done (by kernel_rfl) ?_ _
          clear q0 q1 q2 q2' q3 q4 qN fN
          have HPN2 := Lib.hid (p := Row ((wq.setCell ⟨gN, k, none⟩ (.int .u8 (xn : Int))).drew) gN 5 (brr 256 (part8 l (k + 1)))) HPN.out
          have HKN2 := Lib.hid (p := KI base b2 gs gL gN D c n c' a (some ⟨gP, 0, none⟩) Bi ps ((wq.setCell ⟨gN, k, none⟩ (.int .u8 (xn : Int))).drew)) HKN.out
          have HCN2 := Lib.hid (p := Chg (blkL (some ⟨gL, 0, none⟩)) w ((wq.setCell ⟨gN, k, none⟩ (.int .u8 (xn : Int))).drew)) HCN.out
          clear HPN HKN HCN HS
          generalize (wq.setCell ⟨gN, k, none⟩ (.int .u8 (xn : Int))).drew = w10 at HPN2 HKN2 HCN2 ⊢
          go_wp2
          go_roundw
          case rel => exact ⟨k + 1, HKK, by go_num, HPN2, HKN2, HCN2⟩
          case measure => have := HKK.out; simp [intOf]; omega
        · have hkz : ¬ (k : Int) < 256 := by omega
          have hke : k = 256 := by have := HK.out; omega
          subst hke
          clear hk
          go_wp2
          go_roundw
          case rel =>
            have hcw : (chL ps).take (i + 1) = (chL ps).take i ++ [((a : Int), l)] := by rw [List.take_add_one, HPM.out.2.2.2]; rfl
            have hlen : (Bi.set a ⟨some ⟨gN, 0, none⟩, 256, l⟩).length = D := by rw [List.length_set, HDI.out]
            have hr := HRQ.out
            rw [part8_all HPM.out.2.2.1] at hr
            have hN8 : Own8 base wq ⟨some ⟨gN, 0, none⟩, 256, l⟩ := by
              have h1 := row_own8 (b := base) hr HGN.out.2 (by rw [HPM.out.2.2.1]; decide)
              rw [HPM.out.2.2.1] at h1
              exact h1
            refine ⟨i + 1, Bi.set a ⟨some ⟨gN, 0, none⟩, 256, l⟩, HII, by go_num, Lib.hid ⟨by rw [hlen]; exact HKQ.out.row, ?_, fun x hx => ?_, fun x hx => ?_, by rw [List.length_set]; exact HV4.out.lim, HV4.out.lo⟩, Lib.hid ?_, Lib.hid ⟨HKQ.out.pu, HKQ.out.po⟩, HCQ⟩
            · rw [hlen, flat_sc, List.map_set]
              have e : bvv ⟨some ⟨gN, 0, none⟩, 256, l⟩ = .slice (some ⟨gN, 0, none⟩) 256 256 := by unfold bvv; rw [HPM.out.2.2.1]
              rw [e]
              exact HKQ.out.own
            · rcases List.mem_or_eq_of_mem_set hx with hx | rfl
              · exact HKQ.out.by_ x hx
              · exact hN8
            · rcases List.mem_or_eq_of_mem_set hx with hx | rfl
              · exact HV4.out.len x hx
              · exact HPM.out.2.2.1
            · rw [List.map_set, HL.out, hcw, keepL_snoc]
              simp only [Int.toNat_natCast]
          case measure => have := HII.out; simp [intOf]; omega
    · have hiz : ¬ (i : Int) < (n : Int) := by omega
      have hie : i = n := by have := HI.out; omega
      have HIE := Lib.hid hie
      clear hi hie
      go_wp2
      go_ret
      refine ⟨rfl, Bi, HVI, Lib.hid ?_, HCW⟩
      rw [HL.out, HIE.out, HN.out.1, List.take_of_length_le (by unfold chL; rw [List.length_map]; exact Nat.le_refl _)]
end
end Go.Proofs.YtfbfeplegdpemaaGreat
