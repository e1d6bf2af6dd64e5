/- Write, of a file that lies on a desk. Conditions: those named. -/
import Derived.Test.YtfbfeplegdpemaaGreatMgFb
import Derived.Test.YtfbfeplegdpemaaGreatEi
set_option linter.unusedVariables false
set_option maxRecDepth 20000
namespace Go.Proofs.YtfbfeplegdpemaaGreat
open Go.RowKit

theorem zc_congr {R R' : Nat → Int} (first : Nat) : ∀ k, (∀ j, j < k → R (first + j) = R' (first + j)) → zc R first k = zc R' first k
  | 0, _ => rfl
  | k + 1, h => by rw [zc_succ, zc_succ, zc_congr first k (fun j hj => h j (by omega)), h k (by omega)]
theorem wrs_congr (X : DX) {sl sl' : Nat → Int} (bk : Nat → Nat → UInt8) : ∀ k, (∀ j, j < k → sl j = sl' j) → X.wrs sl bk k = X.wrs sl' bk k
  | 0, _ => rfl
  | k + 1, h => by
    show (X.wrs sl bk k).put (sl k) _ = (X.wrs sl' bk k).put (sl' k) _
    rw [wrs_congr X bk k (fun j hj => h j (by omega)), h k (by omega)]
theorem wrs_S (X : DX) (sl : Nat → Int) (bk : Nat → Nat → UInt8) : ∀ k, (X.wrs sl bk k).S = X.S ∧ (X.wrs sl bk k).rd = X.rd
  | 0 => ⟨rfl, rfl⟩
  | k + 1 => wrs_S X sl bk k
theorem mixF_at {l : L8} {off bse q : Nat} {g F F2 : Nat → UInt8} (hF2 : ∀ i, F2 i = if off ≤ i ∧ i < off + l.length then l.getD (i - off) 0 else F i) (hg : g q = F (bse + q)) : mixF l ((off : Int) - (bse : Int)) g q = F2 (bse + q) := by
  rw [hF2]
  unfold mixF
  by_cases h : off ≤ bse + q ∧ bse + q < off + l.length
  · rw [if_pos h, if_pos (by omega)]
    congr 1
    omega
  · rw [if_neg h, if_neg (by omega), hg]
section
variable {b : Nat} {w w' : World} {gd gv gm gs r : Nat} {Bs : List BV} {N n m : Nat} {X : DX} {v R : Nat → Int} {F F2 : Nat → UInt8}
/-- What Write leaves. -/
def Wrote (b : Nat) (w : World) (gd gv gm gs r : Nat) (Bs : List BV) (N n m q : Nat) (s : Nat) (si : Nat → Int) (oo : Nat → Bool) (F2 : Nat → UInt8) (z : Int) (ee : Ending) (w' : World) : Prop :=
  ∃ (v2 R2 : Nat → Int) (m2 : Nat) (X2 : DX), ee = .returned (.agg (ncs v2).toArray) ∧ Hid (FO Bs X2 v2 R2 m2 F2) ∧ Hid (X2.S = supU s si oo m2 ∧ X2.rd = true ∧ m ≤ m2 ∧ m2 ≤ m + q + 1) ∧ Hid (v2 5 = z) ∧ Hid (DK b w' gd gv gm gs r Bs N (n + 130) X2) ∧ Hid (Chg [gd, gm] w w')
set_option maxHeartbeats 4000000 in
theorem FO.write (h : FO Bs X v R m F) (s : Nat) (si : Nat → Int) (oo : Nat → Bool) (hS : X.S = supU s si oo m) (hrd : X.rd = true) (hm1 : 1 ≤ m) (A : Option Addr) (c off : Nat) (l : L8) (hl1 : 1 ≤ l.length) (hlc : l.length ≤ c) (ho : off + l.length ≤ 32768) (hn : n + 130 ≤ 999) (hN : N ≤ 256) (q : Nat) (hq : l.length + 255 ≤ 256 * q) (hroom : m + q + 2 ≤ N)
    (hk : DK b w gd gv gm gs r Bs N n X) (hD : ∀ W, Chg [gd, gm] w W → Hol W A l) (hF2 : ∀ i, F2 i = if off ≤ i ∧ i < off + l.length then l.getD (i - off) 0 else F i) (z : Int) (hz : (if ((off + l.length : Nat) : Int) > v 5 then ((off + l.length : Nat) : Int) else v 5) = z) :
    Calls Tryz.prog 16 #[.pointer (some ⟨gd, 0, none⟩), .agg (ncs v).toArray, .int .i64 (off : Int), .slice A l.length c] w (Wrote b w gd gv gm gs r Bs N n m q s si oo F2 z) := by
  obtain ⟨M, hM⟩ : ∃ M, l.length = M := ⟨_, rfl⟩
  obtain ⟨first, hf⟩ : ∃ first, off / 256 = first := ⟨_, rfl⟩
  obtain ⟨e, he⟩ : ∃ e, (off + M - 1) / 256 + 1 = e := ⟨_, rfl⟩
  obtain ⟨cnt, hcnt⟩ : ∃ cnt, e - first = cnt := ⟨_, rfl⟩
  rw [hM] at hl1 hlc ho hF2 hz hq ⊢
  have h128 : e ≤ 128 := by omega
  have hfe : first + cnt = e := by omega
  have hFF : first * 256 ≤ off ∧ off < first * 256 + 256 ∧ off + M ≤ e * 256 ∧ e * 256 < off + M + 256 := by omega
  have hc128 : cnt ≤ 128 := by omega
  have hcq : cnt ≤ q := by omega
  clear hf he hcnt
  have hex : ∀ k, ∃ g : Nat → UInt8, k < cnt → ∃ zk : Nat, R (first + k) = (zk : Int) ∧ Cont X Bs zk g ∧ ∀ q, q < 256 → g q = F ((first + k) * 256 + q) := fun k => by
    by_cases hk : k < cnt
    · obtain ⟨zk, h1, _, g, h2, h3⟩ := h.cont (first + k) (by omega)
      exact ⟨g, fun _ => ⟨zk, h1, h2, h3⟩⟩
    · exact ⟨fun _ => 0, fun h => absurd h hk⟩
  obtain ⟨fk, hfk⟩ : ∃ fk : Nat → Nat → UInt8, ∀ k, k < cnt → ∃ zk : Nat, R (first + k) = (zk : Int) ∧ Cont X Bs zk (fk k) ∧ ∀ q, q < 256 → fk k q = F ((first + k) * 256 + q) := ⟨fun k => Classical.choose (hex k), fun k => Classical.choose_spec (hex k)⟩
  clear hex
  obtain ⟨bk, hbk⟩ : ∃ bk : Nat → Nat → UInt8, (fun k => mixF l ((off : Int) - ((first + k : Nat) : Int) * 256) (fk k)) = bk := ⟨_, rfl⟩
  have hbk2 : ∀ k, k < cnt → ∀ q, q < 256 → bk k q = F2 ((first + k) * 256 + q) := fun k hk q hq => by
    obtain ⟨zk, _, _, h3⟩ := hfk k hk
    rw [← hbk]
    show mixF l ((off : Int) - ((first + k : Nat) : Int) * 256) (fk k) q = _
    have h4 := mixF_at (l := l) (off := off) (bse := (first + k) * 256) (q := q) (g := fk k) (F := F) (F2 := F2) (by rw [hM]; exact hF2) (h3 q hq)
    rw [← h4, Int.natCast_mul]
    rfl
  have hF3 : ∀ j, j < 128 → ¬ (first ≤ j ∧ j < e) → ∀ q, q < 256 → F (j * 256 + q) = F2 (j * 256 + q) := fun j hj hno q hq => by
    rw [hF2, if_neg]
    omega
  have hzc : zc R first cnt ≤ q := Nat.le_trans (zc_le R first cnt) hcq
  have hv26 := h.v26
  obtain ⟨m2, hm2⟩ : ∃ m2, flM e (v 26) (m + zc R first cnt) = m2 := ⟨_, rfl⟩
  obtain ⟨L2, hL2⟩ : ∃ L2, flL e (v 26) (m + zc R first cnt) = L2 := ⟨_, rfl⟩
  have hm2b : m ≤ m2 ∧ m2 ≤ m + q + 1 := by rw [← hm2]; unfold flM; split <;> omega
  obtain ⟨X1, hX1⟩ : ∃ X1, (X.setS (supU s si oo m2)).wrs (fun k => flR R m first cnt (first + k)) bk cnt = X1 := ⟨_, rfl⟩
  have hX1S : X1.S = supU s si oo m2 ∧ X1.rd = true := by
    rw [← hX1]
    have h1 := wrs_S (X.setS (supU s si oo m2)) (fun k => flR R m first cnt (first + k)) bk cnt
    exact ⟨h1.1, h1.2.trans hrd⟩
  by_cases h16 : e ≤ 16
  · have hRD : ∀ j, j < 16 → rowD v j = R j := fun j hj => by unfold rowD; rw [if_pos hj, h.dir j hj]
    have hz2 : ∀ k, k ≤ cnt → zc (rowD v) first k = zc R first k := fun k hk => zc_congr first k (fun j hj => hRD _ (by omega))
    have hfl : ∀ j, j < 16 → flR (rowD v) m first cnt j = flR R m first cnt j := fun j hj => by
      unfold flR
      rw [hRD j hj]
      by_cases hq : first ≤ j ∧ j < first + cnt ∧ R j = 0
      · rw [if_pos hq, if_pos hq, hz2 _ (by omega)]
      · rw [if_neg hq, if_neg hq]
    have hout : ∀ (Q : Nat → Int) (j : Nat), j < 112 → flR Q m first cnt (16 + j) = Q (16 + j) := fun Q j hj => by
      unfold flR
      rw [if_neg (by omega)]
    have hLv : L2 = v 26 := by rw [← hL2]; unfold flL; rw [if_pos (.inl h16)]
    have hsame : (X.setS (supU s si oo m2)).wrs (fun k => flR (rowD v) m first cnt (first + k)) bk cnt = X1 := by rw [← hX1]; exact wrs_congr _ _ _ (fun j hj => hfl _ (by omega))
    have hw := dwrite (X' := X) (X2 := X1) v (rowD v) A c M off first cnt e l fk s m si oo z hk (.inl ⟨hrd, rfl⟩) (by omega) hM hlc hl1 ho hFF hfe hD (h.row_d e h16) (fun j hj => by
        unfold rowD
        split
        · rw [← h.dir j (by omega)]; exact h.bounds j hj
        · omega) (by omega) hS hm1 hN (by rw [hz2 _ (Nat.le_refl _)]; omega) (fun k hk => by
        obtain ⟨zk, h1, h2, _⟩ := hfk k hk
        exact ⟨zk, by rw [hRD _ (by omega)]; exact h1, h2⟩) hz (by
        rw [hz2 _ (Nat.le_refl _), hm2, hL2, hbk, hsame]
        exact .inl ⟨.inr ⟨hLv, fun j hj => hout _ j hj⟩, rfl⟩)
    rw [hz2 _ (Nat.le_refl _), hL2] at hw
    refine hw.mono ?_
    rintro ee w' ⟨rfl, hk2, hc2⟩
    refine ⟨_, flR R m first cnt, m2, X1, rfl, Lib.hid ?_, Lib.hid ⟨hX1S.1, hX1S.2, hm2b⟩, Lib.hid rfl, Lib.hid (hk2.out.mono (by omega)), hc2⟩
    refine h.written hm1 first cnt e hfe h128 L2 m2 hL2 hm2 (by omega) bk hbk2 hF3 (supU s si oo m2) (fun j hj => ?_) rfl ?_
    · rw [← hfl j hj]
      unfold toldV
      rw [if_neg (by omega), if_neg (by omega), if_pos (by omega), show 10 + j - 10 = j by omega]
    · rw [hX1]
      exact .inl ⟨.inr ⟨hLv, fun j hj => hout _ j hj⟩, rfl⟩
  · have hPLx : ∃ X2, PL X1 (v 26) L2 R (flR R m first cnt) X2 ∧ X2.S = X1.S ∧ X2.rd = X1.rd := by
      by_cases hp : L2 = 0 ∨ (L2 = v 26 ∧ ∀ j, j < 112 → flR R m first cnt (16 + j) = R (16 + j))
      · exact ⟨X1, .inl ⟨hp, rfl⟩, rfl, rfl⟩
      · refine ⟨X1.put L2 (blk s2 (fun j => flR R m first cnt (16 + j)) 112), .inr ⟨fun h => hp (.inl h), ?_, rfl⟩, rfl, rfl⟩
        by_cases h1 : L2 = v 26
        · exact .inr (fun h2 => hp (.inr ⟨h1, h2⟩))
        · exact .inl h1
    obtain ⟨X2, hPL, hX2S, hX2r⟩ := hPLx
    have hw := dwrite (X' := X) (X2 := X2) v R A c M off first cnt e l fk s m si oo z hk (.inl ⟨hrd, rfl⟩) (by omega) hM hlc hl1 ho hFF hfe hD (h.row e (by omega)) h.bounds (by omega) hS hm1 hN (by omega) (fun k hk => by
        obtain ⟨zk, h1, h2, _⟩ := hfk k hk
        exact ⟨zk, h1, h2⟩) hz (by
        rw [hm2, hL2, hbk, hX1]
        exact hPL)
    rw [hL2] at hw
    refine hw.mono ?_
    rintro ee w' ⟨rfl, hk2, hc2⟩
    refine ⟨_, flR R m first cnt, m2, X2, rfl, Lib.hid ?_, Lib.hid ⟨hX2S.trans hX1S.1, hX2r.trans hX1S.2, hm2b⟩, Lib.hid rfl, Lib.hid (hk2.out.mono (by omega)), hc2⟩
    refine h.written hm1 first cnt e hfe h128 L2 m2 hL2 hm2 (by omega) bk hbk2 hF3 (supU s si oo m2) (fun j hj => ?_) rfl ?_
    · unfold toldV
      rw [if_neg (by omega), if_neg (by omega), if_pos (by omega), show 10 + j - 10 = j by omega]
    · rw [hX1]
      exact hPL
end
end Go.Proofs.YtfbfeplegdpemaaGreat
/- A slot given back; what a file had and does not have any more given back. Conditions: the desk lies there, the slots are slots. -/
set_option linter.unusedVariables false
set_option maxRecDepth 20000
namespace Go.Proofs.YtfbfeplegdpemaaGreat
open Go.RowKit

def DX.give (X : DX) (z : Nat) : DX := (X.setS (X.S.setU z false)).put (z : Int) []
/-- What is given back of the first k blocks: those that had a slot in W0, and have none in R. -/
def DX.gives (X : DX) (W0 R : Nat → Int) : Nat → DX
  | 0 => X
  | k + 1 => if R k = 0 ∧ W0 k ≠ 0 then (X.gives W0 R k).give (W0 k).toNat else X.gives W0 R k
def gvs (W0 R : Nat → Int) : Nat → Nat
  | 0 => 0
  | k + 1 => if R k = 0 ∧ W0 k ≠ 0 then gvs W0 R k + 1 else gvs W0 R k
theorem gvs_le (W0 R : Nat → Int) : ∀ k, gvs W0 R k ≤ k
  | 0 => Nat.le_refl _
  | k + 1 => by
    have := gvs_le W0 R k
    show (if R k = 0 ∧ W0 k ≠ 0 then gvs W0 R k + 1 else gvs W0 R k) ≤ k + 1
    split <;> omega
theorem gvs_mono (W0 R : Nat → Int) : ∀ j k, j ≤ k → gvs W0 R j ≤ gvs W0 R k := by
  intro j k h
  induction k with
  | zero => have : j = 0 := by omega
            rw [this]
            exact Nat.le_refl _
  | succ k ih =>
    by_cases e : j = k + 1
    · rw [e]; exact Nat.le_refl _
    · have h1 := ih (by omega)
      refine Nat.le_trans h1 ?_
      show gvs W0 R k ≤ (if R k = 0 ∧ W0 k ≠ 0 then gvs W0 R k + 1 else gvs W0 R k)
      split <;> omega
def DX.giveL (X : DX) (v26 L : Int) : DX := if L = 0 ∧ v26 ≠ 0 then X.give v26.toNat else X
def gvL (v26 L : Int) : Nat := if L = 0 ∧ v26 ≠ 0 then 1 else 0
section
variable {b : Nat} {w w' : World} {gd gv gm gs r : Nat} {Bs : List BV} {N n : Nat} {X : DX}
theorem dgive_no (w : World) : Calls Tryz.prog 57 #[.pointer (some ⟨gd, 0, none⟩), .int .i64 0] w fun e w' => e = .returned (.tuple #[]) ∧ w = w' := by
  go_enter Tryz.func57, Tryz.ntmps57
  go_wp2
  refine bodyPost_ret (results_none rfl _ _ _) rfl ?_
  exact ⟨rfl, rfl⟩
set_option maxHeartbeats 1000000 in
theorem dgive_yes (z : Nat) (h : DK b w gd gv gm gs r Bs N n X) (hz : 0 < z ∧ z < 256) (hn : n ≤ 1000) : Calls Tryz.prog 57 #[.pointer (some ⟨gd, 0, none⟩), .int .i64 (z : Int)] w (DPut b w gd gv gm gs r Bs N (n + 1) (X.give z)) := by
  have hgz : X.S.give (z : Int) = X.S.setU z false := by
    unfold Sup.give
    rw [if_pos (by omega)]
    rfl
  have HGV := Lib.hid (p := ∀ w, Calls Tryz.prog 86 #[.agg X.S.cs.toArray, .int .i64 (z : Int)] w fun e w' => e = .returned (.agg (X.S.setU z false).cs.toArray) ∧ Below w.heap.size w w') (fun w => by have h1 := give_any X.S (z : Int) w; rw [hgz] at h1; exact h1)
  have i1 := Lib.hid (fun x : Sup => info_cs x)
  obtain ⟨tl, ah, la, e1, e2, e3, hd⟩ := h.parts
  have HD := Lib.hid hd
  have HE := Lib.hid (p := ah.length = 775 ∧ (∀ v ∈ ah, v.oneCell' = true) ∧ tl = ah ++ dtl false la) ⟨e1, e2, e3⟩
  have H := Lib.hid h
  have HN := Lib.hid hn
  have HZ := Lib.hid hz
  have hz0 : ¬ (z : Int) ≤ 0 := by omega
  have hz6 : ¬ (256 : Int) ≤ (z : Int) := by omega
  have d0 : decide ((z : Int) ≤ 0) = false := decide_eq_false hz0
  have d6 : decide ((256 : Int) ≤ (z : Int)) = false := decide_eq_false hz6
  have d7 : decide (256 ≤ z) = false := decide_eq_false (by omega)
  have d8 : decide (z = 0) = false := decide_eq_false (by omega)
  clear h hn hz hd e1 e2 e3 hgz
  go_enter Tryz.func57, Tryz.ntmps57
  go_wp2_with (first
    | (refine step_load_at rfl 59 (.tmp 14) rfl gd 3 (by rfl) 88 (dhd gv N ++ [Value.bool X.rd]) X.S.cs (X.S0.cs ++ tl) _ HD.out rfl Tryz.underlying59 rfl (i1.out _) ?_)
    | (go_at_call 86; refine (HGV.out _).mono ?_; rintro e w2 ⟨rfl, hb⟩
       have HB2 := Lib.hid hb
       have HD2 := Lib.hid (HD.out.kept hb)
       have HK2 := Lib.hid (H.out.below hb)
       clear hb)
    | (refine step_store_at rfl 59 (.tmp 20) (.tmp 17) rfl gd 3 (by rfl) 88 (dhd gv N ++ [Value.bool X.rd]) X.S.cs (X.S.setU z false).cs (X.S0.cs ++ tl) (by rfl) HD2.out rfl (by simp [Sup.cs_len]) (i1.out _) (Sup.cs_one _) ?_
       intro w9 hr9 hg9
       have HK9 := Lib.hid (HK2.out.setS HE.out.1 HE.out.2.1 HE.out.2.2 hr9 (Chg.one hg9))
       have HC9 := Lib.hid (p := Chg [gd] w w9) ((Chg.of (F := [gd]) HB2.out).trans (Chg.one hg9) (fun x hx => .inl hx))
       clear hr9 hg9)
    | (go_at_call 40; refine (dput HK9.out noBV (.inl rfl) (by decide) (z : Int) (by have := HZ.out; unfold I64; omega) HN.out).mono ?_; rintro e w3 ⟨rfl, hk, hc⟩
       have HK3 := hk
       have HC3 := Lib.hid (p := Chg [gd, gm] w w3) ((HC9.out.wider (fun x hx => .inl (by simp at hx ⊢; exact .inl hx))).trans hc.out (fun x hx => .inl hx))
       clear hk hc))
  go_end0
  exact ⟨rfl, HK3, HC3⟩
set_option maxHeartbeats 4000000 in
theorem drelease (v W0 R : Nat → Int) (L : Int) (S : Sup) (gp : Nat) (h : DK b w gd gv gm gs r Bs N n X) (hr : Row w gp 101 (S.cs ++ ptl R L)) (hgp : b ≤ gp) (hW : ∀ j, j < 128 → 0 ≤ W0 j ∧ W0 j ≤ 255) (hv : 0 ≤ v 26 ∧ v 26 ≤ 255) (hn : n + gvs W0 R 128 + gvL (v 26) L ≤ 1000) :
    Calls Tryz.prog 55 #[.pointer (some ⟨gd, 0, none⟩), .agg (ncs v).toArray, .agg (inl 128 W0).toArray, .pointer (some ⟨gp, 0, none⟩)] w (DPut b w gd gv gm gs r Bs N (n + gvs W0 R 128 + gvL (v 26) L) ((X.gives W0 R 128).giveL (v 26) L)) := by
  have i2 := Lib.hid (fun v => info_ncs v)
  have i3 := Lib.hid (fun f => info_rows f)
  have H := Lib.hid h
  have HR := Lib.hid hr
  have HGP := Lib.hid hgp
  have HW := Lib.hid hW
  have HV := Lib.hid hv
  have HN := Lib.hid hn
  have HLT := Lib.hid (p := gd < w.heap.size ∧ gm < w.heap.size ∧ gp < w.heap.size ∧ gp ≠ gd ∧ gp ≠ gm) ⟨h.lt, by obtain ⟨C, h2, _⟩ := h.view; exact h2.map.lt, hr.lt, (by obtain ⟨_, _, _, _, h1⟩ := h.desk; exact hr.ne_ h1 (by decide)), fun e => by obtain ⟨C, h2, _⟩ := h.view; exact h2.map.no_cells _ _ _ (e ▸ hr.heap)⟩
  have HCELL := Lib.hid (p := ∀ W, Row W gp 101 (S.cs ++ ptl R L) → (∀ k, k < 128 → W.cell? ⟨gp, 387 + k, none⟩ = some (.int .i64 (R k))) ∧ W.cell? ⟨gp, 515, none⟩ = some (.int .i64 L)) (fun W h => ⟨fun k hk => by rw [h.cell, List.getElem?_append_right (by rw [Sup.cs_len]; omega), Sup.cs_len, show 387 + k - 387 = k by omega, ptl_row R L hk], by rw [h.cell, List.getElem?_append_right (by rw [Sup.cs_len]; omega), Sup.cs_len]; exact ptl_list R L⟩)
  clear h hr hgp hW hv hn
  go_enter Tryz.func55, Tryz.ntmps55
  go_wp2_with (first
    | (refine step_box rfl 5 rfl 44 (.tmp 1) rfl (ncs v) rfl ?_; intro g5 w2 hr2 hg2 hb2 hs2
       have HR52 := Lib.hid hr2
       have HB2 := Lib.hid hb2
       have HG5 := Lib.hid (p := w.heap.size ≤ g5) (Nat.le_of_eq hg2.out.symm)
       clear hr2 hg2 hb2 hs2)
    | (refine step_box rfl 6 rfl 98 (.tmp 2) rfl (inl 128 W0) rfl ?_; intro g6 w3 hr3 hg3 hb3 hs3
       have HR63 := Lib.hid hr3
       have HR53 := Lib.hid (HR52.out.kept hb3)
       have HB3 := Lib.hid (p := Below w.heap.size w w3) (below_nxt hb3 HB2.out)
       have HG6 := Lib.hid (p := w.heap.size ≤ g6) (by rw [hg3.out]; exact HB2.out.size)
       have HK3 := Lib.hid (H.out.below HB3.out)
       have HP3 := Lib.hid (HR.out.kept HB3.out)
       clear hr3 hg3 hb3 hs3))
  go_loopw [9] (fun x wr => ∃ k : Nat, Hid (k ≤ 128) ∧ x = .int .i64 (k : Int) ∧ Hid (DK b wr gd gv gm gs r Bs N (n + gvs W0 R k) (X.gives W0 R k)) ∧ Hid (Chg [gd, gm] w3 wr)) (fun x _ => 128 - (intOf x).toNat)
  case atStart => exact ⟨0, Lib.hid (by decide), rfl, HK3, Lib.hid (Chg.refl _ _)⟩
  case round =>
    obtain ⟨k, HK, rfl, HKR, HCR⟩ := hrel
    rename World => wo
    have HPR := Lib.hid (HCR.out.row HP3.out (by have h1 := HLT.out; simp; omega))
    have HWR := Lib.hid (HCR.out.row HR63.out (by have h1 := HLT.out; have h2 := HG6.out; simp; omega))
    by_cases hk : k < 128
    · have hki : (k : Int) < 128 := by omega
      have hkw : IntKind.i64.wrap ((k : Int) + 1) = (k : Int) + 1 := by rw [IntKind.wrap_i64]; omega
      have HKK := Lib.hid hk
      obtain ⟨z, hz⟩ : ∃ z : Nat, W0 k = (z : Int) := ⟨(W0 k).toNat, by have := (HW.out k hk).1; omega⟩
      obtain ⟨rk, hrk⟩ : ∃ rk, R k = rk := ⟨_, rfl⟩
      have HZ := Lib.hid (p := W0 k = (z : Int) ∧ R k = rk ∧ z < 256) ⟨hz, hrk, by have := (HW.out k hk).2; omega⟩
      have c0 : wo.cell? ⟨gp, 387 + k, none⟩ = some (.int .i64 rk) := by rw [← hrk]; exact (HCELL.out _ HPR.out).1 k hk
      have c1 : wo.cell? ⟨g6, k, none⟩ = some (.int .i64 (z : Int)) := by rw [← hz, HWR.out.cell, inl_get _ hk]
      have hN2 := gvs_mono W0 R (k + 1) 128 (by omega)
      clear hk hz hrk
      by_cases hr0 : rk = 0
      · have h00 : (rk == 0) = true := by rw [hr0]; rfl
        subst hr0
        by_cases hz0 : z = 0
        · subst hz0
          go_wp2_with (first
            | (go_at_call 57; refine (dgive_no _).mono ?_; rintro e w4 ⟨rfl, rfl⟩))
          go_roundw
          case rel =>
            have e1 : gvs W0 R (k + 1) = gvs W0 R k := if_neg (fun h => h.2 HZ.out.1)
            have e2 : X.gives W0 R (k + 1) = X.gives W0 R k := if_neg (fun h => h.2 HZ.out.1)
            exact ⟨k + 1, HKK, by go_num, Lib.hid (by rw [e1, e2]; exact HKR.out), HCR⟩
          case measure => have := HKK.out; simp [intOf]; omega
        · have e1 : gvs W0 R (k + 1) = gvs W0 R k + 1 := if_pos ⟨HZ.out.2.1, by rw [HZ.out.1]; omega⟩
          have e2 : X.gives W0 R (k + 1) = (X.gives W0 R k).give z := by
            show (if R k = 0 ∧ W0 k ≠ 0 then (X.gives W0 R k).give (W0 k).toNat else X.gives W0 R k) = _
            rw [if_pos ⟨HZ.out.2.1, by rw [HZ.out.1]; omega⟩, HZ.out.1]
            rfl
          have HE := Lib.hid (And.intro e1 e2)
          have HN3 := Lib.hid (p := n + gvs W0 R k ≤ 1000 ∧ 0 < z) (by have := HN.out; omega)
          clear e1 e2 hz0 hN2
          go_wp2_with (first
            | (go_at_call 57; refine (dgive_yes z HKR.out ⟨HN3.out.2, HZ.out.2.2⟩ HN3.out.1).mono ?_; rintro e w4 ⟨rfl, hk, hc⟩
               have HK4 := hk
               have HC4 := Lib.hid (p := Chg [gd, gm] w3 w4) (HCR.out.trans hc.out (fun x hx => .inl hx))
               clear hk hc))
          go_roundw
          case rel => exact ⟨k + 1, HKK, by go_num, Lib.hid (by rw [HE.out.1, HE.out.2, ← Nat.add_assoc]; exact HK4.out), HC4⟩
          case measure => have := HKK.out; simp [intOf]; omega
      · have h00 : (rk == 0) = false := beq_false_of_ne hr0
        have e1 : gvs W0 R (k + 1) = gvs W0 R k := if_neg (fun h => hr0 (by rw [← HZ.out.2.1]; exact h.1))
        have e2 : X.gives W0 R (k + 1) = X.gives W0 R k := if_neg (fun h => hr0 (by rw [← HZ.out.2.1]; exact h.1))
        have HE := Lib.hid (And.intro e1 e2)
        clear e1 e2
        go_wp2
        go_roundw
        case rel => exact ⟨k + 1, HKK, by go_num, Lib.hid (by rw [HE.out.1, HE.out.2]; exact HKR.out), HCR⟩
        case measure => have := HKK.out; simp [intOf]; omega
    · have hkz : ¬ (k : Int) < 128 := by omega
      have hke : k = 128 := by have := HK.out; omega
      subst hke
      have HR5R := Lib.hid (HCR.out.row HR53.out (by have h1 := HLT.out; have h2 := HG5.out; simp; omega))
      have cL : wo.cell? ⟨gp, 515, none⟩ = some (.int .i64 L) := (HCELL.out _ HPR.out).2
      obtain ⟨z, hz⟩ : ∃ z : Nat, v 26 = (z : Int) := ⟨(v 26).toNat, by have := HV.out.1; omega⟩
      have cV : wo.cell? ⟨g5, 26, none⟩ = some (.int .i64 (z : Int)) := by rw [← hz]; exact (HR5R.out.cell 26).trans rfl
      have HZ := Lib.hid (p := v 26 = (z : Int) ∧ z < 256) ⟨hz, by have := HV.out.2; omega⟩
      have HC3 := Lib.hid (p := Chg [gd, gm] w wo) ((Chg.of (F := [gd, gm]) HB3.out).trans HCR.out (fun x hx => .inl hx))
      clear hk hz
      by_cases hr0 : L = 0
      · have h00 : (L == 0) = true := by rw [hr0]; rfl
        subst hr0
        by_cases hz0 : z = 0
        · subst hz0
          go_wp2_with (first
            | (go_at_call 57; refine (dgive_no _).mono ?_; rintro e w4 ⟨rfl, rfl⟩))
          go_end0
          have e1 : gvL (v 26) 0 = 0 := if_neg (fun h => h.2 HZ.out.1)
          have e2 : (X.gives W0 R 128).giveL (v 26) 0 = X.gives W0 R 128 := if_neg (fun h => h.2 HZ.out.1)
          exact ⟨rfl, Lib.hid (by rw [e1, e2]; exact HKR.out), HC3⟩
        · have e1 : gvL (v 26) 0 = 1 := if_pos ⟨rfl, by rw [HZ.out.1]; omega⟩
          have e2 : (X.gives W0 R 128).giveL (v 26) 0 = (X.gives W0 R 128).give z := by
            unfold DX.giveL
            rw [if_pos ⟨rfl, by rw [HZ.out.1]; omega⟩, HZ.out.1]
            rfl
          have HE := Lib.hid (And.intro e1 e2)
          have HN3 := Lib.hid (p := n + gvs W0 R 128 ≤ 1000 ∧ 0 < z) (by have := HN.out; omega)
          clear e1 e2 hz0
          go_wp2_with (first
            | (go_at_call 57; refine (dgive_yes z HKR.out ⟨HN3.out.2, HZ.out.2⟩ HN3.out.1).mono ?_; rintro e w4 ⟨rfl, hk, hc⟩
               have HK4 := hk
               have HC4 := Lib.hid (p := Chg [gd, gm] w w4) (HC3.out.trans hc.out (fun x hx => .inl hx))
               clear hk hc))
          go_end0
          exact ⟨rfl, Lib.hid (by rw [HE.out.1, HE.out.2]; exact HK4.out), HC4⟩
      · have h00 : (L == 0) = false := beq_false_of_ne hr0
        have e1 : gvL (v 26) L = 0 := if_neg (fun h => hr0 h.1)
        have e2 : (X.gives W0 R 128).giveL (v 26) L = X.gives W0 R 128 := if_neg (fun h => hr0 h.1)
        have HE := Lib.hid (And.intro e1 e2)
        clear e1 e2
        go_wp2
        go_end0
        exact ⟨rfl, Lib.hid (by rw [HE.out.1, HE.out.2]; exact HKR.out), HC3⟩
end
end Go.Proofs.YtfbfeplegdpemaaGreat
