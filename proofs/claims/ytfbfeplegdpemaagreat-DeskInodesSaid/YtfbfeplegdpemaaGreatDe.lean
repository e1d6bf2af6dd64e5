/- A desk's super, told, set and saved; an inode's slot. Conditions: the desk lies there. -/
import Derived.Test.YtfbfeplegdpemaaGreatMgDb
import Derived.Test.YtfbfeplegdpemaaGreatMgDa
set_option linter.unusedVariables false
set_option maxRecDepth 20000
namespace Go.Proofs.YtfbfeplegdpemaaGreat
open Go.RowKit

section
variable {b : Nat} {w w' : World} {gd gv gm gs r : Nat} {Bs : List BV} {N n : Nat} {X X' : DX}
def HBegin (b : Nat) (w : World) (gd gv gm gs r : Nat) (Bs : List BV) (N n : Nat) (X : DX) : Prop := ∀ W, Below w.heap.size w W → Calls Tryz.prog 36 #[.pointer (some ⟨gd, 0, none⟩)] W fun e w' => e = .returned (.tuple #[]) ∧ Hid (DK b w' gd gv gm gs r Bs N n X) ∧ Hid (Chg [gd] W w')
theorem hbegin (h : DK b w gd gv gm gs r Bs N n X) (hn : n ≤ 1000) : HBegin b w gd gv gm gs r Bs N n X := fun W hb => dbegin (h.below hb) hn
/-- The desk's cells, parted about its super. -/
theorem DK.parts (h : DK b w gd gv gm gs r Bs N n X) : ∃ tl ah la, ah.length = 775 ∧ (∀ v ∈ ah, v.oneCell' = true) ∧ tl = ah ++ dtl false la ∧ Row w gd 88 ((dhd gv N ++ [.bool X.rd]) ++ (X.S.cs ++ (X.S0.cs ++ tl))) := by
  obtain ⟨ah, la, e1, e2, hd⟩ := h.desk
  exact ⟨_, ah, la, e1, e2, rfl, by rw [dcs_S] at hd; exact hd⟩
def DX.setS (X : DX) (S : Sup) : DX := ⟨X.rd, S, X.S0, X.C⟩
theorem DK.setS {tl ah : List Value} {la : Int} {S : Sup} (h : DK b w gd gv gm gs r Bs N n X) (e1 : ah.length = 775) (e2 : ∀ v ∈ ah, v.oneCell' = true) (e3 : tl = ah ++ dtl false la) (hr : Row w' gd 88 ((dhd gv N ++ [.bool X.rd]) ++ (S.cs ++ (X.S0.cs ++ tl)))) (hc : Chg [gd] w w') : DK b w' gd gv gm gs r Bs N n (X.setS S) := by
  subst e3
  rw [← dcs_S] at hr
  exact h.own (X' := X.setS S) hr e1 e2 rfl hc
theorem chg_nxt {F : List Nat} {a c d : World} (h : Chg F a c) (hb : Below c.heap.size c d) : Chg F a d := h.trans (Chg.of (F := []) hb) (by simp)
theorem chg_same {F : List Nat} {a c d : World} (h : Chg F a c) (k : Chg F c d) : Chg F a d := h.trans k (fun x hx => .inl hx)
theorem DK.other {g : Nat} {t : TypeId} {cs : List Value} (h : DK b w gd gv gm gs r Bs N n X) (hr : Row w g t cs) (ht : t ≠ 88 ∧ t ≠ 81 ∧ t ≠ 83 ∧ t ≠ 5) (hb : b ≤ g) (hc : Chg [g] w w') : DK b w' gd gv gm gs r Bs N n X := by
  obtain ⟨_, _, _, _, hd⟩ := h.desk
  obtain ⟨C, hv, _⟩ := h.view
  exact h.chg hc (by simp; exact (hr.ne_ hd ht.1).symm) (by simp; exact (hr.ne_ hv.row ht.2.1).symm) (by simp; exact fun e => hv.map.no_cells _ _ _ (e ▸ hr.heap)) (by simp; exact (hr.ne_ h.run ht.2.2.1).symm) (fun x hx cs fr => by
    rw [List.mem_singleton] at hx
    subst hx
    exact row_noB hr ht.2.2.2 _ _) (fun x hx => by
    rw [List.mem_singleton] at hx
    subst hx
    exact hb)
theorem chg_own {F : List Nat} {a c d : World} {g : Nat} (h : Chg F a c) (hg : a.heap.size ≤ g) (k : Chg [g] c d) : Chg F a d := h.trans k (fun x hx => by
  rw [List.mem_singleton] at hx
  subst hx
  exact .inr hg)
theorem dsuper (h : DK b w gd gv gm gs r Bs N n X) (hL : LdR Bs X X') (hn : n ≤ 1000) : Calls Tryz.prog 22 #[.pointer (some ⟨gd, 0, none⟩)] w (DOne b w gd gv gm gs r Bs N n X' (.agg X'.S.cs.toArray)) := by
  have HBG := Lib.hid (hbegin h hn)
  have HLT := Lib.hid h.lt
  have HL := Lib.hid hL
  have i1 := Lib.hid (fun x : Sup => info_cs x)
  have hz := Lib.hid zero_sup
  clear h hL hn
  go_enter Tryz.func22, Tryz.ntmps22
  go_wp2_with (first
    | (refine step_alloc rfl 2 rfl 59 rfl _ hz.out ?_; intro g2 w2 hr2 hg2 hb2 hs2
       have HR2 := Lib.hid hr2
       have HB2 := Lib.hid hb2
       have HG2 := Lib.hid (p := w.heap.size ≤ g2) (Nat.le_of_eq hg2.out.symm)
       clear hr2 hg2 hb2 hs2)
    | (go_at_call 36; refine (HBG.out _ HB2.out).mono ?_; rintro e w3 ⟨rfl, hk, hc⟩
       have HK3 := hk
       have HC3 := hc
       clear hk hc)
    | (go_at_call 37; refine (dload HK3.out HL.out).mono ?_; rintro e w4 ⟨rfl, hk, hc⟩
       have HK4 := hk
       have HC4 := Lib.hid (p := Chg [gd] w2 w4) (chg_same HC3.out hc.out)
       have HR4 := Lib.hid (HC4.out.row HR2.out (by have h1 := HLT.out; have h2 := HG2.out; simp; omega))
       obtain ⟨tl, ah, la, e1, e2, e3, hd⟩ := hk.out.parts
       have HD := Lib.hid hd
       clear hk hc e1 e2 e3 hd)
    | (refine step_load_at rfl 59 (.tmp 10) rfl gd 3 (by rfl) 88 (dhd gv N ++ [Value.bool X'.rd]) X'.S.cs (X'.S0.cs ++ tl) _ HD.out rfl Tryz.underlying59 rfl (i1.out _) ?_)
    | (refine step_store rfl 59 (.tmp 2) (.tmp 11) rfl g2 (by rfl) _ sup0.cs X'.S.cs (by rfl) HR4.out (by simp [Sup.cs_len]) (i1.out _) (Sup.cs_one _) ?_; intro w9 hr9 hg9 hs9
       have HG9 := Lib.hid hg9
       clear hg9 hs9))
  refine bodyPost_ret (results_cell_row rfl _ _ g2 _ _ _ _ rfl hr9 Tryz.underlying59 rfl (by simpa using i1.out _)) rfl ?_
  have hc9 : Chg [g2] w4 w9 := Chg.one HG9.out
  have hlo := HK3.out.lo
  have hlt := HLT.out
  have hg2 := HG2.out
  exact ⟨rfl, Lib.hid (HK4.out.other HR4.out (by decide) (by omega) hc9), Lib.hid (chg_own ((Chg.of (F := [gd]) HB2.out).trans HC4.out (fun x hx => .inl hx)) hg2 hc9)⟩
/-- An inode's slot. -/
theorem dslot (k : Nat) (hk : 1 ≤ k ∧ k ≤ 64) (h : DK b w gd gv gm gs r Bs N n X) (hL : LdR Bs X X') : Calls Tryz.prog 41 #[.pointer (some ⟨gd, 0, none⟩), .int .i64 (k : Int)] w (DOne b w gd gv gm gs r Bs N n X' (.int .i64 (X'.S.i k))) := by
  have HLD := Lib.hid (dload h hL)
  have h1 : ¬ (k : Int) < 1 := by omega
  have h2 : ¬ (64 : Int) < (k : Int) := by omega
  have h3 : (k : Int) < 65 := by omega
  have HK := Lib.hid hk
  clear h hL hk
  go_enter Tryz.func41, Tryz.ntmps41
  go_wp2_with (go_at_call 37; refine HLD.out.mono ?_; rintro e w4 ⟨rfl, hk, hc⟩
               obtain ⟨ah, la, e1, e2, hd⟩ := hk.out.desk
               have ci : w4.cell? ⟨gd, 260 + k, none⟩ = some (.int .i64 (X'.S.i k)) := (hd.cell _).trans (dcs_i (by have := HK.out; omega))
               have HK4 := hk
               have HC4 := hc
               clear hk hc e1 e2 hd)
  go_ret
  exact ⟨rfl, HK4, HC4⟩
def DX.saved (X : DX) : DX := ⟨X.rd, X.S, X.S, upS X.C 0 (lst 256 X.S.pb)⟩
set_option maxHeartbeats 1000000 in
theorem dsave_ok (h : DK b w gd gv gm gs r Bs N n X) (hL : LdR Bs X X') (hn : n ≤ 1000) (heq : X'.S.eqb X'.S0 = false) (hm : X'.S.May) (hs : X'.S.s < 18446744073709551616) : Calls Tryz.prog 29 #[.pointer (some ⟨gd, 0, none⟩)] w (DPut b w gd gv gm gs r Bs N (n + 1) X'.saved) := by
  have HBG := Lib.hid (hbegin h hn)
  have HN := Lib.hid hn
  have HL := Lib.hid hL
  have HEQ := Lib.hid (p := ∀ w, (Op.equalIn 10000 59 (.agg X'.S.cs.toArray) (.agg X'.S0.cs.toArray)).run Tryz.prog w = .ok false w) (fun w => by rw [← heq]; exact eq_sup _ _ _ w)
  have i1 := Lib.hid (fun x : Sup => info_cs x)
  have HPK := Lib.hid (gpack_ok X'.S hm hs)
  clear hm hs
  clear h hL hn heq
  go_enter Tryz.func29, Tryz.ntmps29
  go_wp2_with (first
    | (go_at_call 36; refine (HBG.out _ (Below.refl _ _)).mono ?_; rintro e w3 ⟨rfl, hk, hc⟩
       have HK3 := hk
       have HC3 := hc
       clear hk hc)
    | (go_at_call 37; refine (dload HK3.out HL.out).mono ?_; rintro e w4 ⟨rfl, hk, hc⟩
       have HK4 := hk
       have HC4 := Lib.hid (p := Chg [gd] w w4) (chg_same HC3.out hc.out)
       obtain ⟨tl, ah, la, e1, e2, e3, hd⟩ := hk.out.parts
       have HD := Lib.hid hd
       have HRNG := Lib.hid (p := ∀ W, Row W gd 88 ((dhd gv N ++ [Value.bool X'.rd]) ++ (X'.S.cs ++ (X'.S0.cs ++ tl))) → W.rangeAt gd 390 X'.S0.cs) (fun W h => by rw [← List.append_assoc] at h; exact h.rng (by simp [dhd, Sup.cs_len]))
       clear hk hc e1 e2 e3 hd))
  refine wp_region_held_drew (S := fun W => Row W gd 88 ((dhd gv N ++ [Value.bool X'.rd]) ++ (X'.S.cs ++ (X'.S0.cs ++ tl)))) (by kernel_rfl) (HD.out.drew) (fun hHeld => ?_)
  refine wpAnyH_take (i := 0) (oi := ⟨some 8, .move (.tmp 0), _, _, _, _⟩) (v := .pointer (some ⟨gd, 0, none⟩)) rfl (by kernel_rfl) (by kernel_rfl) (by kernel_rfl) (fun _ _ _ h => h) (.inl ⟨by rfl, fun w hSw => by go_simp⟩) (by assumption) ?_
  simp only [Act.put, List.setIfInBounds_toArray, List.set_cons_zero, List.set_cons_succ]
  refine wpAnyH_take (i := 1) (oi := ⟨some 9, .nilCheck (.tmp 8), _, _, _, _⟩) (v := .pointer (some ⟨gd, 0, none⟩)) rfl (by kernel_rfl) (by kernel_rfl) (by kernel_rfl) (fun _ _ _ h => h) (.inl ⟨by rfl, fun w hSw => by go_simp⟩) (by assumption) ?_
  simp only [Act.put, List.setIfInBounds_toArray, List.set_cons_zero, List.set_cons_succ]
  refine wpAnyH_take (i := 2) (oi := ⟨some 10, .fieldAddr 88 (.tmp 9) 2, _, _, _, _⟩) (v := .pointer (some ⟨gd, 2, none⟩)) rfl (by kernel_rfl) (by kernel_rfl) (by kernel_rfl) (fun _ _ _ h => h) (.inl ⟨by rfl, fun w hSw => by go_simp⟩) (by assumption) ?_
  simp only [Act.put, List.setIfInBounds_toArray, List.set_cons_zero, List.set_cons_succ]
  refine wpAnyH_take (i := 3) (oi := ⟨some 11, .fieldAddr 86 (.tmp 10) 1, _, _, _, _⟩) (v := .pointer (some ⟨gd, 3, none⟩)) rfl (by kernel_rfl) (by kernel_rfl) (by kernel_rfl) (fun _ _ _ h => h) (.inl ⟨by rfl, fun w hSw => by go_simp⟩) (by assumption) ?_
  simp only [Act.put, List.setIfInBounds_toArray, List.set_cons_zero, List.set_cons_succ]
  refine wpAnyH_take (i := 4) (oi := ⟨some 12, .load 59 (.tmp 11), _, _, _, _⟩) (v := .agg X'.S.cs.toArray) rfl (by kernel_rfl) (by kernel_rfl) (by kernel_rfl) (fun _ _ _ h => h) (yieldsIf_load_mid (by rfl) 59 (.tmp 11) rfl gd 3 rfl X'.S.cs _ (fun w hSw => hSw.rng rfl) Tryz.underlying59 rfl (i1.out _)) (by assumption) ?_
  simp only [Act.put, List.setIfInBounds_toArray, List.set_cons_zero, List.set_cons_succ]
  refine wpAnyH_take (i := 5) (oi := ⟨some 13, .move (.tmp 0), _, _, _, _⟩) (v := .pointer (some ⟨gd, 0, none⟩)) rfl (by kernel_rfl) (by kernel_rfl) (by kernel_rfl) (fun _ _ _ h => h) (.inl ⟨by rfl, fun w hSw => by go_simp⟩) (by assumption) ?_
  simp only [Act.put, List.setIfInBounds_toArray, List.set_cons_zero, List.set_cons_succ]
  refine wpAnyH_take (i := 6) (oi := ⟨some 14, .nilCheck (.tmp 13), _, _, _, _⟩) (v := .pointer (some ⟨gd, 0, none⟩)) rfl (by kernel_rfl) (by kernel_rfl) (by kernel_rfl) (fun _ _ _ h => h) (.inl ⟨by rfl, fun w hSw => by go_simp⟩) (by assumption) ?_
  simp only [Act.put, List.setIfInBounds_toArray, List.set_cons_zero, List.set_cons_succ]
  refine wpAnyH_take (i := 7) (oi := ⟨some 15, .fieldAddr 88 (.tmp 14) 2, _, _, _, _⟩) (v := .pointer (some ⟨gd, 2, none⟩)) rfl (by kernel_rfl) (by kernel_rfl) (by kernel_rfl) (fun _ _ _ h => h) (.inl ⟨by rfl, fun w hSw => by go_simp⟩) (by assumption) ?_
  simp only [Act.put, List.setIfInBounds_toArray, List.set_cons_zero, List.set_cons_succ]
  refine wpAnyH_take (i := 8) (oi := ⟨some 16, .fieldAddr 86 (.tmp 15) 2, _, _, _, _⟩) (v := .pointer (some ⟨gd, 390, none⟩)) rfl (by kernel_rfl) (by kernel_rfl) (by kernel_rfl) (fun _ _ _ h => h) (.inl ⟨by rfl, fun w hSw => by go_simp⟩) (by assumption) ?_
  simp only [Act.put, List.setIfInBounds_toArray, List.set_cons_zero, List.set_cons_succ]
  refine wpAnyH_take (i := 9) (oi := ⟨some 17, .load 59 (.tmp 16), _, _, _, _⟩) (v := .agg X'.S0.cs.toArray) rfl (by kernel_rfl) (by kernel_rfl) (by kernel_rfl) (fun _ _ _ h => h) (yieldsIf_load_mid (by rfl) 59 (.tmp 16) rfl gd 390 rfl X'.S0.cs _ (fun w hSw => HRNG.out _ hSw) Tryz.underlying59 rfl (i1.out _)) (by assumption) ?_
  simp only [Act.put, List.setIfInBounds_toArray, List.set_cons_zero, List.set_cons_succ]
  refine wpAnyH_take (i := 10) (oi := ⟨some 18, .binOp .eql 59 (.tmp 12) (.tmp 17) 59, _, _, _, _⟩) (v := .bool false) rfl (by kernel_rfl) (by kernel_rfl) (by kernel_rfl) (fun _ _ _ h => h) (.inl ⟨by rfl, fun w hSw => run_eql_op w _ 59 59 (.tmp 12) (.tmp 17) rfl _ _ rfl rfl sup_guard false (fun w => HEQ.out w)⟩) (by assumption) ?_
  simp only [Act.put, List.setIfInBounds_toArray, List.set_cons_zero, List.set_cons_succ]
  refine wpAnyH_done (by kernel_rfl) ?_ _
  have HK5 := Lib.hid (HK4.out.below (below_drw w4))
  have HC5 := Lib.hid (chg_nxt HC4.out (below_drw w4))
  have HD5 := Lib.hid (HD.out.drew)
  clear hHeld
  generalize w4.drew = w5 at HK5 HC5 HD5 ⊢
  go_wp2_with (first
    | (refine step_load_at rfl 59 (.tmp 23) rfl gd 3 (by rfl) 88 (dhd gv N ++ [Value.bool X'.rd]) X'.S.cs (X'.S0.cs ++ tl) _ HD5.out rfl Tryz.underlying59 rfl (i1.out _) ?_)
    | (go_at_call 64; refine (HPK.out _).mono ?_; rintro e w6 ⟨g6, c6, rfl, ho, hb⟩
       have HO6 := ho
       have HB6 := hb
       have HK6 := Lib.hid (HK5.out.below hb.out)
       have HC6 := Lib.hid (chg_nxt HC5.out hb.out)
       clear ho hb)
    | (go_at_call 40; refine (dput HK6.out ⟨some ⟨g6, 0, none⟩, c6, lst 256 X'.S.pb⟩ (Hol.own HO6.out) (by rw [lst_len]; decide) 0 (by unfold I64; omega) HN.out).mono ?_; rintro e w7 ⟨rfl, hk, hc⟩
       have HK7 := hk
       have HC7 := Lib.hid (p := Chg [gd, gm] w w7) (((HC6.out.wider (fun x hx => .inl (by simp at hx ⊢; exact .inl hx))).trans hc.out (fun x hx => .inl hx)))
       obtain ⟨tl7, ah7, la7, e1, e2, e3, hd⟩ := hk.out.parts
       have HD7 := Lib.hid hd
       have HE7 := Lib.hid (p := ah7.length = 775 ∧ (∀ v ∈ ah7, v.oneCell' = true) ∧ tl7 = ah7 ++ dtl false la7) ⟨e1, e2, e3⟩
       clear hk hc e1 e2 e3 hd)
    | (refine step_load_at rfl 59 (.tmp 37) rfl gd 3 (by rfl) 88 (dhd gv N ++ [Value.bool X'.rd]) X'.S.cs (X'.S0.cs ++ tl7) _ HD7.out rfl Tryz.underlying59 rfl (i1.out _) ?_)
    | (refine step_store_at rfl 59 (.tmp 41) (.tmp 38) rfl gd 390 (by rfl) 88 ((dhd gv N ++ [Value.bool X'.rd]) ++ X'.S.cs) X'.S0.cs X'.S.cs tl7 (by rfl) (by rw [List.append_assoc (dhd gv N ++ [Value.bool X'.rd])]; exact HD7.out) (by simp [dhd, Sup.cs_len]) (by simp [Sup.cs_len]) (i1.out _) (Sup.cs_one _) ?_
       intro w9 hr9 hg9
       have HR9 := Lib.hid hr9
       have HG9 := Lib.hid hg9
       clear hr9 hg9))
  go_end0
  have hr := HR9.out
  rw [HE7.out.2.2, List.append_assoc (dhd gv N ++ [Value.bool X'.rd]), ← dcs_S] at hr
  exact ⟨rfl, Lib.hid (HK7.out.own (X' := X'.saved) hr HE7.out.1 HE7.out.2.1 rfl (Chg.one HG9.out)), Lib.hid (HC7.out.trans (Chg.one HG9.out) (fun x hx => .inl (by simp at hx ⊢; exact .inl hx)))⟩

end
end Go.Proofs.YtfbfeplegdpemaaGreat
