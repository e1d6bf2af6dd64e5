/- A desk's inodes: one got by its name, one more made. Conditions: the desk lies there. -/
import Derived.Test.YtfbfeplegdpemaaGreatDe
set_option linter.unusedVariables false
set_option maxRecDepth 20000
namespace Go.Proofs.YtfbfeplegdpemaaGreat
open Go.RowKit

def rfc (k s : Nat) : List Value := [.int .i64 (k : Int), .int .u64 (s : Int)]
theorem info_ref (k s : Nat) : (Tryz.prog.info? 37).map (·.size) = some (rfc k s).length := by
  have h : (Tryz.prog.info? 37).map (·.size) = some 2 := by kernel_rfl
  exact h
theorem rfc_one (k s : Nat) : ∀ v ∈ rfc k s, v.oneCell' = true := by
  intro v hv
  simp [rfc] at hv
  rcases hv with rfl | rfl <;> rfl
theorem zero_ref (w : World) : (zeroValue 37).run Tryz.prog w = .ok (.agg (rfc 0 0).toArray) w := by kernel_rfl
theorem built_ref0 : Tryz.prog.built 37 [] = some (rfc 0 0).toArray := by kernel_rfl
theorem built_ref (k s : Nat) : Tryz.prog.built 37 [(0, .int .i64 (k : Int)), (1, .int .u64 (s : Int))] = some (rfc k s).toArray := by kernel_rfl
section
variable {b : Nat} {w w' : World} {gd gv gm gs r : Nat} {Bs : List BV} {N n : Nat} {X X' : DX}
set_option maxHeartbeats 1000000 in
theorem dget_none (k s : Nat) (hk : 1 ≤ k ∧ k ≤ 64) (h : DK b w gd gv gm gs r Bs N n X) (hL : LdR Bs X X') (hn : n ≤ 1000) (hz : X'.S.i k = 0) : Calls Tryz.prog 15 #[.pointer (some ⟨gd, 0, none⟩), .agg (rfc k s).toArray] w (DOne b w gd gv gm gs r Bs N n X' (.tuple #[.agg (ncs ino0).toArray, .int .i64 116])) := by
  have HBG := Lib.hid (hbegin h hn)
  have HLT := Lib.hid h.lt
  have HLO := Lib.hid h.lo
  have HL := Lib.hid hL
  have HKK := Lib.hid hk
  have i1 := Lib.hid (fun v => info_ncs v)
  have i2 := Lib.hid (fun k s => info_ref k s)
  have hzi := Lib.hid zero_ino
  have HZ := Lib.hid hz
  clear h hL hn hk hz
  go_enter Tryz.func15, Tryz.ntmps15
  go_wp2_with (first
    | (refine step_box rfl 3 rfl 37 (.tmp 1) rfl (rfc k s) rfl ?_; intro g3 w2 hr2 hg2 hb2 hs2
       have HR32 := Lib.hid hr2
       have HB2 := Lib.hid hb2
       have HG3 := Lib.hid (p := w.heap.size ≤ g3) (Nat.le_of_eq hg2.out.symm)
       clear hr2 hg2 hb2 hs2)
    | (refine step_alloc rfl 4 rfl 44 rfl _ hzi.out ?_; intro g4 w3 hr3 hg3 hb3 hs3
       have HR43 := Lib.hid hr3
       have HR33 := Lib.hid (HR32.out.kept hb3)
       have HB3 := Lib.hid (below_nxt hb3 HB2.out)
       have HG4 := Lib.hid (p := w.heap.size ≤ g4) (by rw [hg3.out]; exact HB2.out.size)
       clear hr3 hg3 hb3 hs3)
    | (go_at_call 36; refine (HBG.out _ HB3.out).mono ?_; rintro e w4 ⟨rfl, hk, hc⟩
       have HK4 := hk
       have HC4 := Lib.hid (p := Chg [gd] w w4) ((Chg.of (F := [gd]) HB3.out).trans hc.out (fun x hx => .inl hx))
       have HR34 := Lib.hid (hc.out.row HR33.out (by have h1 := HLT.out; have h2 := HG3.out; simp; omega))
       have HR44 := Lib.hid (hc.out.row HR43.out (by have h1 := HLT.out; have h2 := HG4.out; simp; omega))
       have c30 : w4.cell? ⟨g3, 0, none⟩ = some (.int .i64 (k : Int)) := (HR34.out.cell 0).trans rfl
       clear hk hc)
    | (go_at_call 41; refine (dslot k HKK.out HK4.out HL.out).mono ?_; rintro e w5 ⟨rfl, hk, hc⟩
       have HK5 := hk
       have HC5 := Lib.hid (p := Chg [gd] w w5) (chg_same HC4.out hc.out)
       have HR35 := Lib.hid (hc.out.row HR34.out (by have h1 := HLT.out; have h2 := HG3.out; simp; omega))
       have HR45 := Lib.hid (hc.out.row HR44.out (by have h1 := HLT.out; have h2 := HG4.out; simp; omega))
       rw [HZ.out]
       clear hk hc c30)
    | (refine step_build rfl 44 _ rfl [] ?hv _ built_ino0 ?_; case hv => (simp [Act.eval, Act.put]))
    | (refine step_store rfl 44 (.tmp 4) (.tmp 17) rfl g4 rfl _ _ (ncs ino0) rfl HR45.out rfl (i1.out _) (ncs_one _) ?_; intro w9 hr9 hg9 hs9
       have HG9 := Lib.hid hg9
       clear hg9 hs9))
  refine bodyPost_ret (results_row_tmp rfl _ _ g4 _ _ _ _ rfl hr9 Tryz.underlying44 rfl (by simpa using i1.out _)) rfl ?_
  exact ⟨rfl, Lib.hid (HK5.out.other HR45.out (by decide) (by have := HLO.out; have := HG4.out; omega) (Chg.one HG9.out)), Lib.hid (chg_own HC5.out HG4.out (Chg.one HG9.out))⟩
set_option maxHeartbeats 1000000 in
theorem dget_bad (k s : Nat) (hk : 1 ≤ k ∧ k ≤ 64) (h : DK b w gd gv gm gs r Bs N n X) (hL : LdR Bs X X') (hn : n ≤ 1000) (z : Nat) (hz : X'.S.i k = (z : Int)) (hz0 : 0 < z ∧ z < 256) (l : L8) (hl : seeX X' Bs z = some l) (hlen : l.length ≤ 1000) (v : Nat → Int) (hU : iV (norm l) = .tuple #[.agg (ncs v).toArray, .int .i64 210]) : Calls Tryz.prog 15 #[.pointer (some ⟨gd, 0, none⟩), .agg (rfc k s).toArray] w (DOne b w gd gv gm gs r Bs N n X' (.tuple #[.agg (ncs ino0).toArray, .int .i64 5])) := by
  have HBG := Lib.hid (hbegin h hn)
  have HLT := Lib.hid h.lt
  have HLO := Lib.hid h.lo
  have HL := Lib.hid hL
  have HKK := Lib.hid hk
  have i1 := Lib.hid (fun v => info_ncs v)
  have i2 := Lib.hid (fun k s => info_ref k s)
  have hzi := Lib.hid zero_ino
  have HZ := Lib.hid hz
  have HSEE := Lib.hid (p := I64 (z : Int) ∧ seeX X' Bs z = some l ∧ l.length ≤ 1000) ⟨by unfold I64; omega, hl, hlen⟩
  have HU := Lib.hid hU
  have hzz : ((z : Int) == 0) = false := beq_false_of_ne (by omega)
  clear h hL hn hk hz hl hlen hU hz0
  go_enter Tryz.func15, Tryz.ntmps15
  go_wp2_with (first
    | (refine step_box rfl 3 rfl 37 (.tmp 1) rfl (rfc k s) rfl ?_; intro g3 w2 hr2 hg2 hb2 hs2
       have HR32 := Lib.hid hr2
       have HB2 := Lib.hid hb2
       have HG3 := Lib.hid (p := w.heap.size ≤ g3) (Nat.le_of_eq hg2.out.symm)
       clear hr2 hg2 hb2 hs2)
    | (refine step_alloc rfl 4 rfl 44 rfl _ hzi.out ?_; intro g4 w3 hr3 hg3 hb3 hs3
       have HR43 := Lib.hid hr3
       have HR33 := Lib.hid (HR32.out.kept hb3)
       have HB3 := Lib.hid (below_nxt hb3 HB2.out)
       have HG4 := Lib.hid (p := w.heap.size ≤ g4) (by rw [hg3.out]; exact HB2.out.size)
       clear hr3 hg3 hb3 hs3)
    | (go_at_call 36; refine (HBG.out _ HB3.out).mono ?_; rintro e w4 ⟨rfl, hk, hc⟩
       have HK4 := hk
       have HC4 := Lib.hid (p := Chg [gd] w w4) ((Chg.of (F := [gd]) HB3.out).trans hc.out (fun x hx => .inl hx))
       have HR34 := Lib.hid (hc.out.row HR33.out (by have h1 := HLT.out; have h2 := HG3.out; simp; omega))
       have HR44 := Lib.hid (hc.out.row HR43.out (by have h1 := HLT.out; have h2 := HG4.out; simp; omega))
       have c30 : w4.cell? ⟨g3, 0, none⟩ = some (.int .i64 (k : Int)) := (HR34.out.cell 0).trans rfl
       clear hk hc)
    | (go_at_call 41; refine (dslot k HKK.out HK4.out HL.out).mono ?_; rintro e w5 ⟨rfl, hk, hc⟩
       have HK5 := hk
       have HC5 := Lib.hid (p := Chg [gd] w w5) (chg_same HC4.out hc.out)
       have HR35 := Lib.hid (hc.out.row HR34.out (by have h1 := HLT.out; have h2 := HG3.out; simp; omega))
       have HR45 := Lib.hid (hc.out.row HR44.out (by have h1 := HLT.out; have h2 := HG4.out; simp; omega))
       rw [HZ.out]
       clear hk hc c30)
    | (go_at_call 43; refine (dsee HK5.out (z : Int) HSEE.out.1 l HSEE.out.2.1 HSEE.out.2.2).mono ?_; rintro e w6 ⟨y, rfl, hy, ho, hk, hc⟩
       have HK6 := hk
       have HC6 := Lib.hid (p := Chg [gd] w w6) (chg_same HC5.out hc.out)
       have HR36 := Lib.hid (hc.out.row HR35.out (by have h1 := HLT.out; have h2 := HG3.out; simp; omega))
       have HR46 := Lib.hid (hc.out.row HR45.out (by have h1 := HLT.out; have h2 := HG4.out; simp; omega))
       have HY := hy
       have HO := ho
       clear hy ho hk hc)
    | (go_at_call 42; refine (unpack_any y.A _ y.c y.l rfl (by rw [HY.out]; have := norm_len HSEE.out.2.2; omega) _ HO.out.hol).mono ?_; rintro e w7 ⟨rfl, hb⟩
       rw [HY.out, HU.out]
       have HK7 := Lib.hid (HK6.out.below hb)
       have HC7 := Lib.hid (chg_nxt HC6.out hb)
       have HR37 := Lib.hid (HR36.out.kept hb)
       have HR47 := Lib.hid (HR46.out.kept hb)
       clear hb)
    | (refine step_alloc rfl 7 rfl 44 rfl _ hzi.out ?_; intro g7 w8 hr8 hg8 hb8 hs8
       have HR78 := Lib.hid hr8
       have HK8 := Lib.hid (HK7.out.below hb8)
       have HC8 := Lib.hid (chg_nxt HC7.out hb8)
       have HR38 := Lib.hid (HR37.out.kept hb8)
       have HR48 := Lib.hid (HR47.out.kept hb8)
       have HG7 := Lib.hid (p := w.heap.size ≤ g7 ∧ g4 < g7 ∧ g3 < g7) (by rw [hg8.out]; exact ⟨HC7.out.size, HR47.out.lt, HR37.out.lt⟩)
       clear hr8 hg8 hb8 hs8)
    | (refine step_store rfl 44 (.tmp 7) (.tmp 23) rfl g7 rfl _ _ (ncs v) rfl HR78.out rfl (i1.out _) (ncs_one _) ?_; intro w9 hr9 hg9 hs9
       have HR79 := Lib.hid hr9
       have HK9 := Lib.hid (HK8.out.other HR78.out (by decide) (by have := HLO.out; have := HG7.out; omega) (Chg.one hg9))
       have HC9 := Lib.hid (chg_own HC8.out HG7.out.1 (Chg.one hg9))
       have HR39 := Lib.hid (HR38.out.grown hg9 (fun e => by have := HG7.out; injection e; omega))
       have HR49 := Lib.hid (HR48.out.grown hg9 (fun e => by have := HG7.out; injection e; omega))
       clear hr9 hg9 hs9)
    | (refine step_build rfl 44 _ rfl [] ?hv _ built_ino0 ?_; case hv => (simp [Act.eval, Act.put]))
    | (refine step_store rfl 44 (.tmp 4) (.tmp 28) rfl g4 rfl _ _ (ncs ino0) rfl HR49.out rfl (i1.out _) (ncs_one _) ?_; intro w10 hr9 hg9 hs9
       have HG9 := Lib.hid hg9
       clear hg9 hs9))
  refine bodyPost_ret (results_row_tmp rfl _ _ g4 _ _ _ _ rfl hr9 Tryz.underlying44 rfl (by simpa using i1.out _)) rfl ?_
  exact ⟨rfl, Lib.hid (HK9.out.other HR49.out (by decide) (by have := HLO.out; have := HG4.out; omega) (Chg.one HG9.out)), Lib.hid (chg_own HC9.out HG4.out (Chg.one HG9.out))⟩
set_option maxHeartbeats 1000000 in
theorem dget_other (k s : Nat) (hk : 1 ≤ k ∧ k ≤ 64) (h : DK b w gd gv gm gs r Bs N n X) (hL : LdR Bs X X') (hn : n ≤ 1000) (z : Nat) (hz : X'.S.i k = (z : Int)) (hz0 : 0 < z ∧ z < 256) (l : L8) (hl : seeX X' Bs z = some l) (hlen : l.length ≤ 1000) (v : Nat → Int) (hU : iV (norm l) = .tuple #[.agg (ncs v).toArray, .int .i64 0]) (hv : v 6 ≠ (s : Int)) : Calls Tryz.prog 15 #[.pointer (some ⟨gd, 0, none⟩), .agg (rfc k s).toArray] w (DOne b w gd gv gm gs r Bs N n X' (.tuple #[.agg (ncs ino0).toArray, .int .i64 116])) := by
  have HBG := Lib.hid (hbegin h hn)
  have HLT := Lib.hid h.lt
  have HLO := Lib.hid h.lo
  have HL := Lib.hid hL
  have HKK := Lib.hid hk
  have i1 := Lib.hid (fun v => info_ncs v)
  have i2 := Lib.hid (fun k s => info_ref k s)
  have hzi := Lib.hid zero_ino
  have HZ := Lib.hid hz
  have HSEE := Lib.hid (p := I64 (z : Int) ∧ seeX X' Bs z = some l ∧ l.length ≤ 1000) ⟨by unfold I64; omega, hl, hlen⟩
  have HU := Lib.hid hU
  have hzz : ((z : Int) == 0) = false := beq_false_of_ne (by omega)
  obtain ⟨v6, hv6⟩ : ∃ v6, v 6 = v6 := ⟨_, rfl⟩
  have hcmp : (v6 != (s : Int)) = true := by rw [← hv6]; simp; exact hv
  have HV6 := Lib.hid hv6
  clear hv hv6
  clear h hL hn hk hz hl hlen hU hz0
  go_enter Tryz.func15, Tryz.ntmps15
  go_wp2_with (first
    | (refine step_box rfl 3 rfl 37 (.tmp 1) rfl (rfc k s) rfl ?_; intro g3 w2 hr2 hg2 hb2 hs2
       have HR32 := Lib.hid hr2
       have HB2 := Lib.hid hb2
       have HG3 := Lib.hid (p := w.heap.size ≤ g3) (Nat.le_of_eq hg2.out.symm)
       clear hr2 hg2 hb2 hs2)
    | (refine step_alloc rfl 4 rfl 44 rfl _ hzi.out ?_; intro g4 w3 hr3 hg3 hb3 hs3
       have HR43 := Lib.hid hr3
       have HR33 := Lib.hid (HR32.out.kept hb3)
       have HB3 := Lib.hid (below_nxt hb3 HB2.out)
       have HG4 := Lib.hid (p := w.heap.size ≤ g4) (by rw [hg3.out]; exact HB2.out.size)
       clear hr3 hg3 hb3 hs3)
    | (go_at_call 36; refine (HBG.out _ HB3.out).mono ?_; rintro e w4 ⟨rfl, hk, hc⟩
       have HK4 := hk
       have HC4 := Lib.hid (p := Chg [gd] w w4) ((Chg.of (F := [gd]) HB3.out).trans hc.out (fun x hx => .inl hx))
       have HR34 := Lib.hid (hc.out.row HR33.out (by have h1 := HLT.out; have h2 := HG3.out; simp; omega))
       have HR44 := Lib.hid (hc.out.row HR43.out (by have h1 := HLT.out; have h2 := HG4.out; simp; omega))
       have c30 : w4.cell? ⟨g3, 0, none⟩ = some (.int .i64 (k : Int)) := (HR34.out.cell 0).trans rfl
       clear hk hc)
    | (go_at_call 41; refine (dslot k HKK.out HK4.out HL.out).mono ?_; rintro e w5 ⟨rfl, hk, hc⟩
       have HK5 := hk
       have HC5 := Lib.hid (p := Chg [gd] w w5) (chg_same HC4.out hc.out)
       have HR35 := Lib.hid (hc.out.row HR34.out (by have h1 := HLT.out; have h2 := HG3.out; simp; omega))
       have HR45 := Lib.hid (hc.out.row HR44.out (by have h1 := HLT.out; have h2 := HG4.out; simp; omega))
       rw [HZ.out]
       clear hk hc c30)
    | (go_at_call 43; refine (dsee HK5.out (z : Int) HSEE.out.1 l HSEE.out.2.1 HSEE.out.2.2).mono ?_; rintro e w6 ⟨y, rfl, hy, ho, hk, hc⟩
       have HK6 := hk
       have HC6 := Lib.hid (p := Chg [gd] w w6) (chg_same HC5.out hc.out)
       have HR36 := Lib.hid (hc.out.row HR35.out (by have h1 := HLT.out; have h2 := HG3.out; simp; omega))
       have HR46 := Lib.hid (hc.out.row HR45.out (by have h1 := HLT.out; have h2 := HG4.out; simp; omega))
       have HY := hy
       have HO := ho
       clear hy ho hk hc)
    | (go_at_call 42; refine (unpack_any y.A _ y.c y.l rfl (by rw [HY.out]; have := norm_len HSEE.out.2.2; omega) _ HO.out.hol).mono ?_; rintro e w7 ⟨rfl, hb⟩
       rw [HY.out, HU.out]
       have HK7 := Lib.hid (HK6.out.below hb)
       have HC7 := Lib.hid (chg_nxt HC6.out hb)
       have HR37 := Lib.hid (HR36.out.kept hb)
       have HR47 := Lib.hid (HR46.out.kept hb)
       clear hb)
    | (refine step_alloc rfl 7 rfl 44 rfl _ hzi.out ?_; intro g7 w8 hr8 hg8 hb8 hs8
       have HR78 := Lib.hid hr8
       have HK8 := Lib.hid (HK7.out.below hb8)
       have HC8 := Lib.hid (chg_nxt HC7.out hb8)
       have HR38 := Lib.hid (HR37.out.kept hb8)
       have HR48 := Lib.hid (HR47.out.kept hb8)
       have HG7 := Lib.hid (p := w.heap.size ≤ g7 ∧ g4 < g7 ∧ g3 < g7) (by rw [hg8.out]; exact ⟨HC7.out.size, HR47.out.lt, HR37.out.lt⟩)
       clear hr8 hg8 hb8 hs8)
    | (refine step_store rfl 44 (.tmp 7) (.tmp 23) rfl g7 rfl _ _ (ncs v) rfl HR78.out rfl (i1.out _) (ncs_one _) ?_; intro w9 hr9 hg9 hs9
       have HR79 := Lib.hid hr9
       have HK9 := Lib.hid (HK8.out.other HR78.out (by decide) (by have := HLO.out; have := HG7.out; omega) (Chg.one hg9))
       have HC9 := Lib.hid (chg_own HC8.out HG7.out.1 (Chg.one hg9))
       have HR39 := Lib.hid (HR38.out.grown hg9 (fun e => by have := HG7.out; injection e; omega))
       have HR49 := Lib.hid (HR48.out.grown hg9 (fun e => by have := HG7.out; injection e; omega))
       have c76 : w9.cell? ⟨g7, 6, none⟩ = some (.int .u64 v6) := by rw [← HV6.out]; exact (HR79.out.cell 6).trans rfl
       have c31 : w9.cell? ⟨g3, 1, none⟩ = some (.int .u64 (s : Int)) := (HR39.out.cell 1).trans rfl
       clear hr9 hg9 hs9)
    | (refine step_build rfl 44 _ rfl [] ?hv _ built_ino0 ?_; case hv => (simp [Act.eval, Act.put]))
    | (refine step_store rfl 44 (.tmp 4) (.tmp 35) rfl g4 rfl _ _ (ncs ino0) rfl HR49.out rfl (i1.out _) (ncs_one _) ?_; intro w10 hr9 hg9 hs9
       have HG9 := Lib.hid hg9
       clear hg9 hs9))
  refine bodyPost_ret (results_row_tmp rfl _ _ g4 _ _ _ _ rfl hr9 Tryz.underlying44 rfl (by simpa using i1.out _)) rfl ?_
  exact ⟨rfl, Lib.hid (HK9.out.other HR49.out (by decide) (by have := HLO.out; have := HG4.out; omega) (Chg.one HG9.out)), Lib.hid (chg_own HC9.out HG4.out (Chg.one HG9.out))⟩
set_option maxHeartbeats 1000000 in
theorem dget_ok (k s : Nat) (hk : 1 ≤ k ∧ k ≤ 64) (h : DK b w gd gv gm gs r Bs N n X) (hL : LdR Bs X X') (hn : n ≤ 1000) (z : Nat) (hz : X'.S.i k = (z : Int)) (hz0 : 0 < z ∧ z < 256) (l : L8) (hl : seeX X' Bs z = some l) (hlen : l.length ≤ 1000) (v : Nat → Int) (hU : iV (norm l) = .tuple #[.agg (ncs v).toArray, .int .i64 0]) (hv : v 6 = (s : Int)) : Calls Tryz.prog 15 #[.pointer (some ⟨gd, 0, none⟩), .agg (rfc k s).toArray] w (DOne b w gd gv gm gs r Bs N n X' (.tuple #[.agg (ncs v).toArray, .int .i64 0])) := by
  have HBG := Lib.hid (hbegin h hn)
  have HLT := Lib.hid h.lt
  have HLO := Lib.hid h.lo
  have HL := Lib.hid hL
  have HKK := Lib.hid hk
  have i1 := Lib.hid (fun v => info_ncs v)
  have i2 := Lib.hid (fun k s => info_ref k s)
  have hzi := Lib.hid zero_ino
  have HZ := Lib.hid hz
  have HSEE := Lib.hid (p := I64 (z : Int) ∧ seeX X' Bs z = some l ∧ l.length ≤ 1000) ⟨by unfold I64; omega, hl, hlen⟩
  have HU := Lib.hid hU
  have hzz : ((z : Int) == 0) = false := beq_false_of_ne (by omega)
  obtain ⟨v6, hv6⟩ : ∃ v6, v 6 = v6 := ⟨_, rfl⟩
  have hcmp : (v6 != (s : Int)) = false := by rw [← hv6]; simp [hv]
  have HV6 := Lib.hid hv6
  clear hv hv6
  clear h hL hn hk hz hl hlen hU hz0
  go_enter Tryz.func15, Tryz.ntmps15
  go_wp2_with (first
    | (refine step_box rfl 3 rfl 37 (.tmp 1) rfl (rfc k s) rfl ?_; intro g3 w2 hr2 hg2 hb2 hs2
       have HR32 := Lib.hid hr2
       have HB2 := Lib.hid hb2
       have HG3 := Lib.hid (p := w.heap.size ≤ g3) (Nat.le_of_eq hg2.out.symm)
       clear hr2 hg2 hb2 hs2)
    | (refine step_alloc rfl 4 rfl 44 rfl _ hzi.out ?_; intro g4 w3 hr3 hg3 hb3 hs3
       have HR43 := Lib.hid hr3
       have HR33 := Lib.hid (HR32.out.kept hb3)
       have HB3 := Lib.hid (below_nxt hb3 HB2.out)
       have HG4 := Lib.hid (p := w.heap.size ≤ g4) (by rw [hg3.out]; exact HB2.out.size)
       clear hr3 hg3 hb3 hs3)
    | (go_at_call 36; refine (HBG.out _ HB3.out).mono ?_; rintro e w4 ⟨rfl, hk, hc⟩
       have HK4 := hk
       have HC4 := Lib.hid (p := Chg [gd] w w4) ((Chg.of (F := [gd]) HB3.out).trans hc.out (fun x hx => .inl hx))
       have HR34 := Lib.hid (hc.out.row HR33.out (by have h1 := HLT.out; have h2 := HG3.out; simp; omega))
       have HR44 := Lib.hid (hc.out.row HR43.out (by have h1 := HLT.out; have h2 := HG4.out; simp; omega))
       have c30 : w4.cell? ⟨g3, 0, none⟩ = some (.int .i64 (k : Int)) := (HR34.out.cell 0).trans rfl
       clear hk hc)
    | (go_at_call 41; refine (dslot k HKK.out HK4.out HL.out).mono ?_; rintro e w5 ⟨rfl, hk, hc⟩
       have HK5 := hk
       have HC5 := Lib.hid (p := Chg [gd] w w5) (chg_same HC4.out hc.out)
       have HR35 := Lib.hid (hc.out.row HR34.out (by have h1 := HLT.out; have h2 := HG3.out; simp; omega))
       have HR45 := Lib.hid (hc.out.row HR44.out (by have h1 := HLT.out; have h2 := HG4.out; simp; omega))
       rw [HZ.out]
       clear hk hc c30)
    | (go_at_call 43; refine (dsee HK5.out (z : Int) HSEE.out.1 l HSEE.out.2.1 HSEE.out.2.2).mono ?_; rintro e w6 ⟨y, rfl, hy, ho, hk, hc⟩
       have HK6 := hk
       have HC6 := Lib.hid (p := Chg [gd] w w6) (chg_same HC5.out hc.out)
       have HR36 := Lib.hid (hc.out.row HR35.out (by have h1 := HLT.out; have h2 := HG3.out; simp; omega))
       have HR46 := Lib.hid (hc.out.row HR45.out (by have h1 := HLT.out; have h2 := HG4.out; simp; omega))
       have HY := hy
       have HO := ho
       clear hy ho hk hc)
    | (go_at_call 42; refine (unpack_any y.A _ y.c y.l rfl (by rw [HY.out]; have := norm_len HSEE.out.2.2; omega) _ HO.out.hol).mono ?_; rintro e w7 ⟨rfl, hb⟩
       rw [HY.out, HU.out]
       have HK7 := Lib.hid (HK6.out.below hb)
       have HC7 := Lib.hid (chg_nxt HC6.out hb)
       have HR37 := Lib.hid (HR36.out.kept hb)
       have HR47 := Lib.hid (HR46.out.kept hb)
       clear hb)
    | (refine step_alloc rfl 7 rfl 44 rfl _ hzi.out ?_; intro g7 w8 hr8 hg8 hb8 hs8
       have HR78 := Lib.hid hr8
       have HK8 := Lib.hid (HK7.out.below hb8)
       have HC8 := Lib.hid (chg_nxt HC7.out hb8)
       have HR38 := Lib.hid (HR37.out.kept hb8)
       have HR48 := Lib.hid (HR47.out.kept hb8)
       have HG7 := Lib.hid (p := w.heap.size ≤ g7 ∧ g4 < g7 ∧ g3 < g7) (by rw [hg8.out]; exact ⟨HC7.out.size, HR47.out.lt, HR37.out.lt⟩)
       clear hr8 hg8 hb8 hs8)
    | (refine step_store rfl 44 (.tmp 7) (.tmp 23) rfl g7 rfl _ _ (ncs v) rfl HR78.out rfl (i1.out _) (ncs_one _) ?_; intro w9 hr9 hg9 hs9
       have HR79 := Lib.hid hr9
       have HK9 := Lib.hid (HK8.out.other HR78.out (by decide) (by have := HLO.out; have := HG7.out; omega) (Chg.one hg9))
       have HC9 := Lib.hid (chg_own HC8.out HG7.out.1 (Chg.one hg9))
       have HR39 := Lib.hid (HR38.out.grown hg9 (fun e => by have := HG7.out; injection e; omega))
       have HR49 := Lib.hid (HR48.out.grown hg9 (fun e => by have := HG7.out; injection e; omega))
       have c76 : w9.cell? ⟨g7, 6, none⟩ = some (.int .u64 v6) := by rw [← HV6.out]; exact (HR79.out.cell 6).trans rfl
       have c31 : w9.cell? ⟨g3, 1, none⟩ = some (.int .u64 (s : Int)) := (HR39.out.cell 1).trans rfl
       clear hr9 hg9 hs9)
    | (refine step_load rfl 36 rfl 44 (.tmp 7) rfl g7 rfl (ncs v) _ HR79.out.all Tryz.underlying44 rfl (i1.out _) ?_)
    | (refine step_store rfl 44 (.tmp 4) (.tmp 36) rfl g4 rfl _ _ (ncs v) rfl HR49.out rfl (i1.out _) (ncs_one _) ?_; intro w10 hr9 hg9 hs9
       have HG9 := Lib.hid hg9
       clear hg9 hs9))
  refine bodyPost_ret (results_row_tmp rfl _ _ g4 _ _ _ _ rfl hr9 Tryz.underlying44 rfl (by simpa using i1.out _)) rfl ?_
  exact ⟨rfl, Lib.hid (HK9.out.other HR49.out (by decide) (by have := HLO.out; have := HG4.out; omega) (Chg.one HG9.out)), Lib.hid (chg_own HC9.out HG4.out (Chg.one HG9.out))⟩
end
end Go.Proofs.YtfbfeplegdpemaaGreat
