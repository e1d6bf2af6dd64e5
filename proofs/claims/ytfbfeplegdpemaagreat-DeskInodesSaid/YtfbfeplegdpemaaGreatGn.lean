/- Package grant: the super of a block, or none. Conditions: those named. -/
import Derived.Test.YtfbfeplegdpemaaGreatMgCur
import Derived.Deep.RegionHeld
set_option linter.unusedVariables false
set_option maxRecDepth 20000
namespace Go.Proofs.YtfbfeplegdpemaaGreat
open Go.RowKit

theorem num_take_lt (l : List UInt8) (k : Nat) : num (l.take k) < 256 ^ k := by
  have h := num_lt (l.take k)
  have h2 : (l.take k).length ≤ k := by simp; omega
  exact Nat.lt_of_lt_of_le h (Nat.pow_le_pow_right (by decide) h2)
theorem nnx_in {n : Nat} {l : List UInt8} (bad : Bool) (hw : wid (n : Int) ≠ 0) (h : n ≤ l.length) : nnx (n : Int) l bad = (l.take n, l.drop n, bad) := by
  unfold nnx nxt
  rw [if_neg hw, if_neg (by omega), Int.toNat_natCast]
theorem nxt_in {n : Nat} {l : List UInt8} (bad : Bool) (h : n ≤ l.length) : nxt (n : Int) l bad = (l.take n, l.drop n, bad) := by
  unfold nxt
  rw [if_neg (by omega), Int.toNat_natCast]
theorem cnum_at (g : Nat) (l : List UInt8) (k : Nat) (hk : k = 1 ∨ k = 2 ∨ k = 4 ∨ k = 8) (w : World) (hc : Cur w g l false) (h2 : k ≤ l.length) (hl : l.length ≤ 256) :
    Calls Tryz.prog 79 #[.pointer (some ⟨g, 0, none⟩), .int .i64 (k : Int)] w fun e w' => e = .returned (.int .u64 (num (l.take k) : Nat)) ∧ Hid (Cur w' g (l.drop k) false) ∧ Hid (w.grownBy w' (some g)) := by
  refine (num_any g l false (k : Int) w hc (by omega)).mono ?_
  rintro e w' ⟨h1, h2', h3⟩
  rw [nnx_in false (by rcases hk with rfl | rfl | rfl | rfl <;> decide) h2] at h1 h2'
  exact ⟨h1, h2', h3⟩
theorem take_at (g : Nat) (l : List UInt8) (k : Nat) (w : World) (hc : Cur w g l false) (h2 : k ≤ l.length) (hl : l.length ≤ 256) :
    Calls Tryz.prog 100 #[.pointer (some ⟨g, 0, none⟩), .int .i64 (k : Int)] w fun e w' => ∃ A c, e = .returned (.slice A k c) ∧ Hid (Hol w' A (l.take k)) ∧ Hid (∀ q o, A = some ⟨q, o, none⟩ → w.heap.size ≤ q) ∧ Hid (Cur w' g (l.drop k) false) ∧ Hid (w.grownBy w' (some g)) := by
  refine (take_any g l false (k : Int) w hc (by omega)).mono ?_
  rintro e w' ⟨v, h1, h2', h3, h4⟩
  rw [nxt_in false h2] at h2' h3
  have ho : w'.ownsRow w.heap.size 5 1 v k (bc (l.take k)) := by
    have e32 : (l.take k).length = k := by simp; omega
    have h5 : w'.ownsRow w.heap.size 5 1 v (l.take k).length (bc (l.take k)) := h2'
    rwa [e32] at h5
  obtain ⟨A, c, rfl⟩ := own_sl ho
  exact ⟨A, c, h1, Hol.own ho, fun q o hd => (ho.lt q (by rw [hd]; rfl)).1, h3, h4⟩
theorem lst_cut (L : List UInt8) (i n : Nat) (h : i + n ≤ L.length) : (L.drop i).take n = lst n (fun j => L.getD (i + j) 0) := by
  apply List.ext_getElem?
  intro j
  rw [List.getElem?_take]
  by_cases hj : j < n
  · rw [if_pos hj, List.getElem?_drop, lst_get _ hj, List.getElem?_eq_getElem (by omega)]
    simp [List.getD, List.getElem?_eq_getElem (show i + j < L.length by omega)]
  · rw [if_neg hj, List.getElem?_eq_none (by rw [lst_len]; omega)]
/-- The super that a block tells. -/
def srS (L : List UInt8) : Nat := num ((L.drop 4).take 8)
def srU (L : List UInt8) (j : Nat) : Bool := ub (L.getD (12 + j / 8) 0) (j % 8)
def srI (L : List UInt8) (j : Nat) : Int := ((num ((L.drop (44 + 2 * j)).take 2) : Nat) : Int)
def srO (L : List UInt8) (j : Nat) : Bool := ub (L.getD (172 + j / 8) 0) (j % 8)
/-- So much of it: the serial, so many flags, inodes, orphans. -/
def pr (s : Nat) (L : List UInt8) (a b c : Nat) : Sup := ⟨s, fun j => if j < a then srU L j else false, fun j => if 1 ≤ j ∧ j < b + 1 then srI L (j - 1) else 0, fun j => if 1 ≤ j ∧ j < c + 1 then srO L (j - 1) else false⟩
def sr (L : List UInt8) : Sup := pr (srS L) L 256 64 64
theorem Sup.cs_of {x y : Sup} (h1 : x.s = y.s) (h2 : ∀ j, j < 256 → x.u j = y.u j) (h3 : ∀ j, j < 65 → x.i j = y.i j) (h4 : ∀ j, j < 65 → x.o j = y.o j) : x.cs = y.cs := Sup.cs_eq ((Sup.eqb_iff x y).2 ⟨h1, h2, h3, h4⟩)
theorem pr_zero (L : List UInt8) : sup0.cs = (pr 0 L 0 0 0).cs := Sup.cs_of rfl (fun j _ => by unfold pr; dsimp only; rw [if_neg (by omega)]; rfl) (fun j _ => by unfold pr; dsimp only; rw [if_neg (by omega)]; rfl) (fun j _ => by unfold pr; dsimp only; rw [if_neg (by omega)]; rfl)
theorem pr_s (s : Nat) (L : List UInt8) : (pr 0 L 0 0 0).cs.set 0 (.int .u64 (s : Int)) = (pr s L 0 0 0).cs := Sup.set_s _ s
theorem pr_u (s : Nat) (L : List UInt8) (i : Nat) (hi : i < 256) : (pr s L i 0 0).cs.set (1 + i) (.bool (srU L i)) = (pr s L (i + 1) 0 0).cs := by
  rw [Sup.set_u _ _ hi]
  refine Sup.cs_of rfl (fun j hj => ?_) (fun _ _ => rfl) (fun _ _ => rfl)
  unfold Sup.setU pr
  dsimp only
  by_cases h : j = i
  · subst h
    rw [at1_same, if_pos (by omega)]
  · rw [at1_other _ _ h]
    by_cases h2 : j < i
    · rw [if_pos h2, if_pos (by omega)]
    · rw [if_neg h2, if_neg (by omega)]
theorem pr_i (s : Nat) (L : List UInt8) (i : Nat) (hi : i < 64) : (pr s L 256 i 0).cs.set (257 + (i + 1)) (.int .i64 (srI L i)) = (pr s L 256 (i + 1) 0).cs := by
  rw [Sup.set_i _ _ (by omega)]
  refine Sup.cs_of rfl (fun _ _ => rfl) (fun j hj => ?_) (fun _ _ => rfl)
  unfold Sup.setI pr
  dsimp only
  by_cases h : j = i + 1
  · subst h
    rw [at1_same, if_pos (by omega), Nat.add_sub_cancel]
  · rw [at1_other _ _ h]
    by_cases h2 : 1 ≤ j ∧ j < i + 1
    · rw [if_pos h2, if_pos (by omega)]
    · rw [if_neg h2, if_neg (by omega)]
theorem pr_o (s : Nat) (L : List UInt8) (i : Nat) (hi : i < 64) : (pr s L 256 64 i).cs.set (323 + i) (.bool (srO L i)) = (pr s L 256 64 (i + 1)).cs := by
  rw [show 323 + i = 322 + (i + 1) by omega, Sup.set_o _ _ (by omega)]
  refine Sup.cs_of rfl (fun _ _ => rfl) (fun _ _ => rfl) (fun j hj => ?_)
  unfold Sup.setO pr
  dsimp only
  by_cases h : j = i + 1
  · subst h
    rw [at1_same, if_pos (by omega), Nat.add_sub_cancel]
  · rw [at1_other _ _ h]
    by_cases h2 : 1 ≤ j ∧ j < i + 1
    · rw [if_pos h2, if_pos (by omega)]
    · rw [if_neg h2, if_neg (by omega)]
theorem srS_lt (L : List UInt8) : srS L < 18446744073709551616 := num_take_lt (L.drop 4) 8
/-- Whether a block is a super's. -/
def SOk (L : List UInt8) : Prop := L.length = 256 ∧ (sr L).May ∧ lst 256 (sr L).pb = L
/-- A super half read. -/
structure US (w0 w : World) (gc g2 g4 : Nat) (L : List UInt8) (d : Nat) (x : Sup) : Prop where
  cur : Cur w gc (L.drop d) false
  r2 : Row w g2 59 sup0.cs
  r4 : Row w g4 59 x.cs
  n : g2 < g4 ∧ g4 < gc
  q : w0.heap.size ≤ g2
  b : Below w0.heap.size w0 w
theorem US.turn {w0 w w' : World} {gc g2 g4 : Nat} {L : List UInt8} {d d' : Nat} {x : Sup} (h : US w0 w gc g2 g4 L d x) (hc : Cur w' gc (L.drop d') false) (hg : w.grownBy w' (some gc)) : US w0 w' gc g2 g4 L d' x :=
  ⟨hc, h.r2.grown hg (fun e => by injection e with e; have := h.n; omega), h.r4.grown hg (fun e => by injection e with e; have := h.n; omega), h.n, h.q, h.b.grown hg h.b.size (fun q hq => by injection hq with hq; have := h.n; have := h.q; omega)⟩
theorem Row.no8 {w : World} {g : Nat} {t : TypeId} {cs : List Value} (h : Row w g t cs) (ht : t ≠ 5) : ∀ q, some g = some q → ∀ xs, w.heap[q]? ≠ some (.cells xs 5 (0, 0)) := by
  intro q e xs e2
  injection e with e
  subst e
  unfold Row at h
  rw [h] at e2
  injection e2 with e2
  injection e2 with _ e2
  exact ht e2
theorem US.row {w0 w w' : World} {gc g2 g4 : Nat} {L : List UInt8} {d : Nat} {x y : Sup} (h : US w0 w gc g2 g4 L d x) (hr : Row w' g4 59 y.cs) (hg : w.grownBy w' (some g4)) : US w0 w' gc g2 g4 L d y :=
  ⟨h.cur.grown hg (fun e => by injection e with e; have := h.n; omega) (fun q hq => h.r4.no8 (by decide) q hq), h.r2.grown hg (fun e => by injection e with e; have := h.n; omega), hr, h.n, h.q, h.b.grown hg h.b.size (fun q hq => by injection hq with hq; have := h.n; have := h.q; omega)⟩
theorem US.drew {w0 w : World} {gc g2 g4 : Nat} {L : List UInt8} {d : Nat} {x : Sup} (h : US w0 w gc g2 g4 L d x) : US w0 w.drew gc g2 g4 L d x :=
  ⟨h.cur.below ((Below.refl _ _).drew), h.r2.drew, h.r4.drew, h.n, h.q, h.b.drew⟩
theorem US.num {w0 w : World} {gc g2 g4 : Nat} {L : List UInt8} {d : Nat} {x : Sup} (h : US w0 w gc g2 g4 L d x) (s d2 : Nat) (hs : s = 1 ∨ s = 2 ∨ s = 4 ∨ s = 8) (hd : d + s = d2) (hl : L.length = 256) (h2 : d2 ≤ 256) :
    Calls Tryz.prog 79 #[.pointer (some ⟨gc, 0, none⟩), .int .i64 (s : Int)] w fun e w' => e = .returned (.int .u64 ((num ((L.drop d).take s) : Nat) : Int)) ∧ Hid (US w0 w' gc g2 g4 L d2 x) := by
  refine (cnum_at gc (L.drop d) s hs w h.cur (by rw [List.length_drop]; omega) (by rw [List.length_drop]; omega)).mono ?_
  rintro e w' ⟨rfl, hc, hg⟩
  refine ⟨rfl, Lib.hid (h.turn ?_ hg.out)⟩
  have := hc.out
  rw [List.drop_drop, hd] at this
  exact this
theorem US.take {w0 w : World} {gc g2 g4 : Nat} {L : List UInt8} {d : Nat} {x : Sup} (h : US w0 w gc g2 g4 L d x) (s d2 : Nat) (hd : d + s = d2) (hl : L.length = 256) (h2 : d2 ≤ 256) :
    Calls Tryz.prog 100 #[.pointer (some ⟨gc, 0, none⟩), .int .i64 (s : Int)] w fun e w' => ∃ A c, e = .returned (.slice A s c) ∧ Hid (Hol w' A (lst s fun j => L.getD (d + j) 0)) ∧ Hid (∀ q o, A = some ⟨q, o, none⟩ → q ≠ g4) ∧ Hid (US w0 w' gc g2 g4 L d2 x) := by
  refine (take_at gc (L.drop d) s w h.cur (by rw [List.length_drop]; omega) (by rw [List.length_drop]; omega)).mono ?_
  rintro e w' ⟨A, c, rfl, hh, hq, hc, hg⟩
  refine ⟨A, c, rfl, ?_, fun q o e => ?_, Lib.hid (h.turn ?_ hg.out)⟩
  · rw [← lst_cut L d s (by omega)]
    exact hh
  · have h1 := hq.out q o e
    have h2 := h.r4.lt
    omega
  · have := hc.out
    rw [List.drop_drop, hd] at this
    exact this
theorem string_beq (a b : List UInt8) : ((⟨a.toArray⟩ : ByteArray).toList == (⟨b.toArray⟩ : ByteArray).toList) = decide (a = b) := by
  rw [ByteArray.toList_eq, ByteArray.toList_eq, Bool.eq_iff_iff]
  simp
theorem bequal_any (A B : Option Addr) (n m c d : Nat) (a b : List UInt8) (hn : n = a.length) (hm : m = b.length) (w : World) (hA : Hol w A a) (hB : Hol w B b) :
    Calls Tryz.prog 80 #[.slice A n c, .slice B m d] w fun e w' => e = .returned (.bool (decide (a = b))) ∧ w' = w := by
  have h1 := run_to_string (P := Tryz.prog) w 22 9 5 A c n a hn Tryz.underlying22 Tryz.underlying5 Tryz.underlying9 hA
  have h2 := run_to_string (P := Tryz.prog) w 22 9 5 B d m b hm Tryz.underlying22 Tryz.underlying5 Tryz.underlying9 hB
  have hs := string_beq a b
  generalize (⟨a.toArray⟩ : ByteArray) = S at *
  generalize (⟨b.toArray⟩ : ByteArray) = T at *
  clear hA hB hn hm
  go_enter Tryz.func80, Tryz.ntmps80
  go_wp2
  go_ret
  exact ⟨by rw [← hs]; rfl, rfl⟩
set_option maxHeartbeats 4000000 in
theorem gunpack_ok (A : Option Addr) (cb : Nat) (L : List UInt8) (hok : SOk L) (w : World) (hA : Hol w A L) :
    Calls Tryz.prog 69 #[.slice A 256 cb] w fun e w' => e = .returned (.tuple #[.agg (sr L).cs.toArray, .int .i64 0]) ∧ Below w.heap.size w w' := by
  have i1 := Lib.hid (fun x : Sup => info_cs x)
  have hz := Lib.hid zero_sup
  have hn := hok.1
  have HNew : Hid (∀ w', Below w.heap.size w w' → Calls Tryz.prog 78 #[.slice A 256 cb] w' fun e w'' => ∃ g, e = .returned (.pointer (some ⟨g, 0, none⟩)) ∧ w'.heap.size ≤ g ∧ Cur w'' g L false ∧ Below w'.heap.size w' w'') := fun w' hb => by
    have h := cur_new_any A cb L w' (hA.below hb) (by omega)
    rwa [hn] at h
  have HA := Lib.hid hA
  have HL := Lib.hid hn
  have HP := Lib.hid (fun w => gpack_ok (sr L) hok.2.1 (srS_lt L) w)
  have HE := Lib.hid (p := decide (lst 256 (sr L).pb = L) = true) (decide_eq_true hok.2.2)
  clear hok hA hn
  go_enter Tryz.func69, Tryz.ntmps69
  go_wp2_with (first
    | (refine step_alloc rfl 2 rfl 59 rfl _ hz.out ?_; intro g2 w2 hr2 hg2 hb2 hs2
       have R2 := Lib.hid hr2
       have HB2 := Lib.hid hb2
       have Q2 := Lib.hid (p := w.heap.size ≤ g2) (by rw [hg2.out]; exact Nat.le_refl _)
       clear hr2 hb2 hg2 hs2)
    | (refine step_alloc rfl 4 rfl 59 rfl _ hz.out ?_; intro g4 w4 hr4 hg4 hb4 hs4
       have R4 := Lib.hid hr4
       have R24 := Lib.hid (R2.out.kept hb4)
       have HB4 := Lib.hid (below_nxt hb4 HB2.out)
       have N24 := Lib.hid (p := g2 < g4) (by rw [hg4.out]; exact R2.out.lt)
       clear hr4 hb4 hg4 hs4)
    | (go_at_call 78; refine (HNew.out _ HB4.out).mono ?_; rintro e5 w5 ⟨gc, rfl, hq5, hc5, hb5⟩
       have NS := Lib.hid (p := US w w5 gc g2 g4 L 0 (pr 0 L 0 0 0)) ⟨by rw [List.drop_zero]; exact hc5, R24.out.kept hb5, by rw [← pr_zero]; exact R4.out.kept hb5, ⟨N24.out, Nat.lt_of_lt_of_le R4.out.lt hq5⟩, Q2.out, HB4.out.trans (hb5.mono HB4.out.size)⟩
       clear hq5 hc5 hb5 R4 R24 HB4))
  refine (NS.out.take 4 4 rfl HL.out (by omega)).mono ?_
  rintro e w6 ⟨A6, c6, rfl, _, _, N6⟩
  go_wp2_with fail
  refine (N6.out.num 8 12 (.inr (.inr (.inr rfl))) rfl HL.out (by omega)).mono ?_
  rintro e w7 ⟨rfl, N7⟩
  have c0 : w7.cell? ⟨g4, 0, none⟩ = some (.int .u64 0) := by rw [N7.out.r4.cell]; rfl
  have f0 := N7.out.r4.free 0
  have HSS := Lib.hid (p := num ((L.drop 4).take 8) = srS L) rfl
  rw [HSS.out]
  obtain ⟨s, hs⟩ : ∃ s, srS L = s := ⟨_, rfl⟩
  rw [hs]
  have HS := Lib.hid hs
  have N8 := Lib.hid (p := US w (w7.setCell ⟨g4, 0, none⟩ (.int .u64 (s : Int))) gc g2 g4 L 12 (pr s L 0 0 0)) (N7.out.row (by rw [← pr_s]; exact N7.out.r4.put 0 _) (grown_set w7 ⟨g4, 0, none⟩ _))
  clear hs
  go_wp2_with fail
  clear c0 f0 NS N6 N7
  generalize w7.setCell ⟨g4, 0, none⟩ (.int .u64 (s : Int)) = w8 at *
  refine wp_region_held_drew (S := fun _ => True) (by kernel_rfl) trivial (fun hHeld => ?_)
  refine wpAnyH_take (i := 0) (oi := ⟨some 20, .fieldAddr 59 (.tmp 4) 1, _, _, _, _⟩) (v := .pointer (some ⟨g4, 1, none⟩)) rfl (by kernel_rfl) (by kernel_rfl) (by kernel_rfl) (fun _ _ _ h => h) (.inl ⟨by rfl, fun w hSw => by go_simp⟩) (by assumption) ?_
  simp only [Act.put, List.setIfInBounds_toArray, List.set_cons_zero, List.set_cons_succ]
  refine wpAnyH_take (i := 1) (oi := ⟨some 21, .slice 55 (.tmp 20) none none none, _, _, _, _⟩) (v := .slice (some ⟨g4, 1, none⟩) 256 256) rfl (by kernel_rfl) (by kernel_rfl) (by kernel_rfl) (fun _ _ _ h => h) (.inl ⟨by rfl, fun w hSw => by go_simp⟩) (by assumption) ?_
  simp only [Act.put, List.setIfInBounds_toArray, List.set_cons_zero, List.set_cons_succ]
  refine wpAnyH_take (i := 2) (oi := ⟨some 22, .move (.tmp 5), _, _, _, _⟩) (v := .pointer (some ⟨gc, 0, none⟩)) rfl (by kernel_rfl) (by kernel_rfl) (by kernel_rfl) (fun _ _ _ h => h) (.inl ⟨by rfl, fun w hSw => by go_simp⟩) (by assumption) ?_
  simp only [Act.put, List.setIfInBounds_toArray, List.set_cons_zero, List.set_cons_succ]
  refine wpAnyH_ready (rs := [3]) (by kernel_rfl) (by simp) ?_
  refine AllReadyH.cons (o := ⟨some 23, .call ⟨.value (.func 100), #[.tmp 22, .const (.int .i64 32)], _⟩, _, _, _, _⟩) rfl (fun K hK => ?_) AllReadyH.nil
  go_simp
  refine (N8.out.drew.take 32 44 rfl HL.out (by omega)).mono ?_
  rintro e wt7 ⟨At7, ct7, rfl, HT7, HQ7, NT7⟩
  refine hK.out _ _ trivial (fun _hH => ?_)
  clear hK K
  refine wpAnyH_ready (rs := [4]) (by kernel_rfl) (by simp) ?_
  refine AllReadyH.cons (o := ⟨some 24, .call ⟨.value (.func 101), #[.tmp 21, .tmp 23], _⟩, _, _, _, _⟩) rfl (fun K hK => ?_) AllReadyH.nil
  go_simp
  refine (unpackbits_any g4 1 32 256 ct7 256 59 (fun j => L.getD (12 + j) 0) (fun i => (pr s L i 0 0).cs) rfl (fun i hi => pr_u s L i (by omega)) (fun i hi => ⟨_, Sup.c_u _ (by omega)⟩) (by omega) At7 wt7 HT7.out HQ7.out (by exact NT7.out.r4)).mono ?_
  rintro e wu7 ⟨rfl, hru7, hgu7⟩
  have NU7 := Lib.hid (NT7.out.row hru7.out hgu7.out)
  clear HT7 HQ7 NT7 hru7 hgu7
  refine hK.out _ _ trivial (fun _hH1 => ?_)
  clear hK K
  refine wpAnyH_done (by kernel_rfl) ?_ _
  go_wp2_with fail
  go_loopw [25] (fun x wr => ∃ k : Nat, Hid (k ≤ 64) ∧ x = .int .i64 (k : Int) ∧ Hid (US w wr gc g2 g4 L (44 + 2 * k) (pr s L 256 k 0))) (fun x _ => 64 - (intOf x).toNat)
  case atStart => exact ⟨0, Lib.hid (by omega), rfl, NU7⟩
  case round =>
    clear NU7 N8
    obtain ⟨k, HK, rfl, NR⟩ := hrel
    have hkw : IntKind.i64.wrap ((k : Int) + 1) = (k : Int) + 1 := by rw [IntKind.wrap_i64]; have := HK.out; omega
    by_cases hk : k < 64
    · have hki : (k : Int) < 64 := by omega
      have hk0 : (0 : Int) ≤ (k : Int) := by omega
      have HKL := Lib.hid hk
      obtain ⟨x, hx⟩ : ∃ x, num ((L.drop (44 + 2 * k)).take 2) = x := ⟨_, rfl⟩
      have bx : x < 65536 := by rw [← hx]; exact num_take_lt _ 2
      have wx : IntKind.i64.wrap (x : Int) = (x : Int) := by rw [IntKind.wrap_i64]; omega
      have HNM := Lib.hid (NR.out.num 2 (44 + 2 * (k + 1)) (.inr (.inl rfl)) (by omega) HL.out (by omega))
      rw [hx] at HNM
      obtain ⟨p, hp⟩ : ∃ p, k + 1 = p := ⟨_, rfl⟩
      have hpw : IntKind.i64.wrap ((k : Int) + 1) = (p : Int) := by rw [hkw]; omega
      have hpe : (k : Int) + 1 = (p : Int) := by omega
      have hpn : (p : Int) < 65 := by omega
      have hp0 : (0 : Int) ≤ (p : Int) := by omega
      have HP := Lib.hid hp
      have HXI := Lib.hid (p := srI L k = (x : Int)) (by unfold srI; rw [hx])
      have HCI : Hid (∀ W, US w W gc g2 g4 L (44 + 2 * (k + 1)) (pr s L 256 k 0) → (∃ z, W.cell? ⟨g4, 257 + p, none⟩ = some (.int .i64 z)) ∧ W.frozen? ⟨g4, 257 + p, none⟩ = false) := Lib.hid (fun W h => ⟨⟨_, by rw [h.r4.cell, Sup.c_i _ (by omega)]⟩, h.r4.free _⟩)
      clear hk hx bx hp hkw
      go_wp2_with (go_at_call 79; refine HNM.out.mono ?_; rintro e w9 ⟨rfl, N9⟩
                   obtain ⟨z9, cz9⟩ := (HCI.out _ N9.out).1
                   have fz9 := (HCI.out _ N9.out).2
                   have N10 := Lib.hid (p := US w (w9.setCell ⟨g4, 257 + p, none⟩ (.int .i64 (x : Int))) gc g2 g4 L (44 + 2 * (k + 1)) (pr s L 256 (k + 1) 0)) (N9.out.row (by rw [← pr_i s L k HKL.out, HXI.out, HP.out]; exact N9.out.r4.put _ _) (grown_set w9 ⟨g4, 257 + p, none⟩ _)))
      clear cz9 fz9 N9 HNM
      go_roundw
      case rel => exact ⟨k + 1, Lib.hid HKL.out, (by first | go_num | exact congrArg (Value.int .i64) (by have := HP.out; omega)), N10⟩
      case measure => have := HKL.out; have := HP.out; simp [intOf]; omega
    · obtain rfl : k = 64 := by have := HK.out; omega
      have hki : ¬ ((64 : Nat) : Int) < 64 := by omega
      clear hk hkw
      go_wp2_with fail
      refine wp_region_held_drew (S := fun _ => True) (by kernel_rfl) trivial (fun hHeld => ?_)
      refine wpAnyH_take (i := 0) (oi := ⟨some 36, .fieldAddr 59 (.tmp 4) 3, _, _, _, _⟩) (v := .pointer (some ⟨g4, 322, none⟩)) rfl (by kernel_rfl) (by kernel_rfl) (by kernel_rfl) (fun _ _ _ h => h) (.inl ⟨by rfl, fun w hSw => by go_simp⟩) (by assumption) ?_
      simp only [Act.put, List.setIfInBounds_toArray, List.set_cons_zero, List.set_cons_succ]
      refine wpAnyH_take (i := 1) (oi := ⟨some 37, .slice 57 (.tmp 36) (some (.const (.int .i64 1))) none none, _, _, _, _⟩) (v := .slice (some ⟨g4, 323, none⟩) 64 64) rfl (by kernel_rfl) (by kernel_rfl) (by kernel_rfl) (fun _ _ _ h => h) (.inl ⟨by rfl, fun w hSw => by go_simp⟩) (by assumption) ?_
      simp only [Act.put, List.setIfInBounds_toArray, List.set_cons_zero, List.set_cons_succ]
      refine wpAnyH_take (i := 2) (oi := ⟨some 38, .move (.tmp 5), _, _, _, _⟩) (v := .pointer (some ⟨gc, 0, none⟩)) rfl (by kernel_rfl) (by kernel_rfl) (by kernel_rfl) (fun _ _ _ h => h) (.inl ⟨by rfl, fun w hSw => by go_simp⟩) (by assumption) ?_
      simp only [Act.put, List.setIfInBounds_toArray, List.set_cons_zero, List.set_cons_succ]
      refine wpAnyH_ready (rs := [3]) (by kernel_rfl) (by simp) ?_
      refine AllReadyH.cons (o := ⟨some 39, .call ⟨.value (.func 100), #[.tmp 38, .const (.int .i64 8)], _⟩, _, _, _, _⟩) rfl (fun K hK => ?_) AllReadyH.nil
      go_simp
      refine (NR.out.drew.take 8 180 rfl HL.out (by omega)).mono ?_
      rintro e wt13 ⟨At13, ct13, rfl, HT13, HQ13, NT13⟩
      refine hK.out _ _ trivial (fun _hH => ?_)
      clear hK K
      refine wpAnyH_ready (rs := [4]) (by kernel_rfl) (by simp) ?_
      refine AllReadyH.cons (o := ⟨some 40, .call ⟨.value (.func 101), #[.tmp 37, .tmp 39], _⟩, _, _, _, _⟩) rfl (fun K hK => ?_) AllReadyH.nil
      go_simp
      refine (unpackbits_any g4 323 8 64 ct13 64 59 (fun j => L.getD (172 + j) 0) (fun i => (pr s L 256 64 i).cs) rfl (fun i hi => pr_o s L i (by omega)) (fun i hi => ⟨_, by rw [show 323 + i = 322 + (i + 1) by omega]; exact Sup.c_o _ (by omega)⟩) (by omega) At13 wt13 HT13.out HQ13.out (by exact NT13.out.r4)).mono ?_
      rintro e wu13 ⟨rfl, hru13, hgu13⟩
      have NU13 := Lib.hid (NT13.out.row hru13.out hgu13.out)
      clear HT13 HQ13 NT13 hru13 hgu13
      refine hK.out _ _ trivial (fun _hH1 => ?_)
      clear hK K
      refine wpAnyH_done (by kernel_rfl) ?_ _
      have NF := Lib.hid (p := US w wu13 gc g2 g4 L 180 (sr L)) (by unfold sr; rw [HS.out]; exact NU13.out)
      clear NU13 NR
      go_wp2_with (first
        | (refine step_load rfl 42 rfl 59 (.tmp 4) rfl g4 rfl (sr L).cs _ NF.out.r4.all Tryz.underlying59 rfl (i1.out _) ?_)
        | (go_at_call 64; refine (HP.out _).mono ?_; rintro e8 w18 ⟨g8, c8, rfl, ho8, hb8⟩
           have R10 := Lib.hid (NF.out.r4.kept hb8.out)
           have R28 := Lib.hid (NF.out.r2.kept hb8.out)
           have HB8 := Lib.hid (below_nxt hb8.out NF.out.b)
           have HH8 := Lib.hid (Hol.own ho8.out)
           clear hb8 ho8)
        | (go_at_call 80; refine (bequal_any (some ⟨g8, 0, none⟩) A 256 256 c8 cb (lst 256 (sr L).pb) L (lst_len _ _).symm HL.out.symm _ HH8.out (HA.out.below HB8.out)).mono ?_; rintro e9 w19 ⟨rfl, hw9⟩; obtain rfl := hw9.symm; rw [HE.out])
        | (refine step_load rfl 55 rfl 59 (.tmp 4) rfl g4 rfl (sr L).cs _ R10.out.all Tryz.underlying59 rfl (i1.out _) ?_)
        | (refine step_store rfl 59 (.tmp 2) (.tmp 55) rfl g2 (by rfl) _ sup0.cs (sr L).cs (by rfl) R28.out (by rw [Sup.cs_len, Sup.cs_len]) (i1.out _) (Sup.cs_one _) ?_; intro w9 hr9 hg9 hs9))
      refine bodyPost_ret (results_row_tmp rfl _ _ g2 _ _ _ _ rfl hr9 Tryz.underlying59 rfl (by simpa using i1.out (sr L))) rfl ?_
      exact ⟨rfl, HB8.out.grown hg9 HB8.out.size (fun q hq => by injection hq with hq; subst hq; exact Q2.out)⟩
set_option maxHeartbeats 4000000 in
theorem gunpack_diff (A : Option Addr) (cb : Nat) (L : List UInt8) (hn : L.length = 256) (hm : (sr L).May) (hd : lst 256 (sr L).pb ≠ L) (w : World) (hA : Hol w A L) :
    Calls Tryz.prog 69 #[.slice A 256 cb] w fun e w' => e = .returned (.tuple #[.agg sup0.cs.toArray, .int .i64 210]) ∧ Below w.heap.size w w' := by
  have i1 := Lib.hid (fun x : Sup => info_cs x)
  have hz := Lib.hid zero_sup
  have HNew : Hid (∀ w', Below w.heap.size w w' → Calls Tryz.prog 78 #[.slice A 256 cb] w' fun e w'' => ∃ g, e = .returned (.pointer (some ⟨g, 0, none⟩)) ∧ w'.heap.size ≤ g ∧ Cur w'' g L false ∧ Below w'.heap.size w' w'') := fun w' hb => by
    have h := cur_new_any A cb L w' (hA.below hb) (by omega)
    rwa [hn] at h
  have HA := Lib.hid hA
  have HL := Lib.hid hn
  have HP := Lib.hid (fun w => gpack_ok (sr L) hm (srS_lt L) w)
  have HE := Lib.hid (p := decide (lst 256 (sr L).pb = L) = false) (decide_eq_false hd)
  clear hm hd hA hn
  go_enter Tryz.func69, Tryz.ntmps69
  go_wp2_with (first
    | (refine step_alloc rfl 2 rfl 59 rfl _ hz.out ?_; intro g2 w2 hr2 hg2 hb2 hs2
       have R2 := Lib.hid hr2
       have HB2 := Lib.hid hb2
       have Q2 := Lib.hid (p := w.heap.size ≤ g2) (by rw [hg2.out]; exact Nat.le_refl _)
       clear hr2 hb2 hg2 hs2)
    | (refine step_alloc rfl 4 rfl 59 rfl _ hz.out ?_; intro g4 w4 hr4 hg4 hb4 hs4
       have R4 := Lib.hid hr4
       have R24 := Lib.hid (R2.out.kept hb4)
       have HB4 := Lib.hid (below_nxt hb4 HB2.out)
       have N24 := Lib.hid (p := g2 < g4) (by rw [hg4.out]; exact R2.out.lt)
       clear hr4 hb4 hg4 hs4)
    | (go_at_call 78; refine (HNew.out _ HB4.out).mono ?_; rintro e5 w5 ⟨gc, rfl, hq5, hc5, hb5⟩
       have NS := Lib.hid (p := US w w5 gc g2 g4 L 0 (pr 0 L 0 0 0)) ⟨by rw [List.drop_zero]; exact hc5, R24.out.kept hb5, by rw [← pr_zero]; exact R4.out.kept hb5, ⟨N24.out, Nat.lt_of_lt_of_le R4.out.lt hq5⟩, Q2.out, HB4.out.trans (hb5.mono HB4.out.size)⟩
       clear hq5 hc5 hb5 R4 R24 HB4))
  refine (NS.out.take 4 4 rfl HL.out (by omega)).mono ?_
  rintro e w6 ⟨A6, c6, rfl, _, _, N6⟩
  go_wp2_with fail
  refine (N6.out.num 8 12 (.inr (.inr (.inr rfl))) rfl HL.out (by omega)).mono ?_
  rintro e w7 ⟨rfl, N7⟩
  have c0 : w7.cell? ⟨g4, 0, none⟩ = some (.int .u64 0) := by rw [N7.out.r4.cell]; rfl
  have f0 := N7.out.r4.free 0
  have HSS := Lib.hid (p := num ((L.drop 4).take 8) = srS L) rfl
  rw [HSS.out]
  obtain ⟨s, hs⟩ : ∃ s, srS L = s := ⟨_, rfl⟩
  rw [hs]
  have HS := Lib.hid hs
  have N8 := Lib.hid (p := US w (w7.setCell ⟨g4, 0, none⟩ (.int .u64 (s : Int))) gc g2 g4 L 12 (pr s L 0 0 0)) (N7.out.row (by rw [← pr_s]; exact N7.out.r4.put 0 _) (grown_set w7 ⟨g4, 0, none⟩ _))
  clear hs
  go_wp2_with fail
  clear c0 f0 NS N6 N7
  generalize w7.setCell ⟨g4, 0, none⟩ (.int .u64 (s : Int)) = w8 at *
  refine wp_region_held_drew (S := fun _ => True) (by kernel_rfl) trivial (fun hHeld => ?_)
  refine wpAnyH_take (i := 0) (oi := ⟨some 20, .fieldAddr 59 (.tmp 4) 1, _, _, _, _⟩) (v := .pointer (some ⟨g4, 1, none⟩)) rfl (by kernel_rfl) (by kernel_rfl) (by kernel_rfl) (fun _ _ _ h => h) (.inl ⟨by rfl, fun w hSw => by go_simp⟩) (by assumption) ?_
  simp only [Act.put, List.setIfInBounds_toArray, List.set_cons_zero, List.set_cons_succ]
  refine wpAnyH_take (i := 1) (oi := ⟨some 21, .slice 55 (.tmp 20) none none none, _, _, _, _⟩) (v := .slice (some ⟨g4, 1, none⟩) 256 256) rfl (by kernel_rfl) (by kernel_rfl) (by kernel_rfl) (fun _ _ _ h => h) (.inl ⟨by rfl, fun w hSw => by go_simp⟩) (by assumption) ?_
  simp only [Act.put, List.setIfInBounds_toArray, List.set_cons_zero, List.set_cons_succ]
  refine wpAnyH_take (i := 2) (oi := ⟨some 22, .move (.tmp 5), _, _, _, _⟩) (v := .pointer (some ⟨gc, 0, none⟩)) rfl (by kernel_rfl) (by kernel_rfl) (by kernel_rfl) (fun _ _ _ h => h) (.inl ⟨by rfl, fun w hSw => by go_simp⟩) (by assumption) ?_
  simp only [Act.put, List.setIfInBounds_toArray, List.set_cons_zero, List.set_cons_succ]
  refine wpAnyH_ready (rs := [3]) (by kernel_rfl) (by simp) ?_
  refine AllReadyH.cons (o := ⟨some 23, .call ⟨.value (.func 100), #[.tmp 22, .const (.int .i64 32)], _⟩, _, _, _, _⟩) rfl (fun K hK => ?_) AllReadyH.nil
  go_simp
  refine (N8.out.drew.take 32 44 rfl HL.out (by omega)).mono ?_
  rintro e wt7 ⟨At7, ct7, rfl, HT7, HQ7, NT7⟩
  refine hK.out _ _ trivial (fun _hH => ?_)
  clear hK K
  refine wpAnyH_ready (rs := [4]) (by kernel_rfl) (by simp) ?_
  refine AllReadyH.cons (o := ⟨some 24, .call ⟨.value (.func 101), #[.tmp 21, .tmp 23], _⟩, _, _, _, _⟩) rfl (fun K hK => ?_) AllReadyH.nil
  go_simp
  refine (unpackbits_any g4 1 32 256 ct7 256 59 (fun j => L.getD (12 + j) 0) (fun i => (pr s L i 0 0).cs) rfl (fun i hi => pr_u s L i (by omega)) (fun i hi => ⟨_, Sup.c_u _ (by omega)⟩) (by omega) At7 wt7 HT7.out HQ7.out (by exact NT7.out.r4)).mono ?_
  rintro e wu7 ⟨rfl, hru7, hgu7⟩
  have NU7 := Lib.hid (NT7.out.row hru7.out hgu7.out)
  clear HT7 HQ7 NT7 hru7 hgu7
  refine hK.out _ _ trivial (fun _hH1 => ?_)
  clear hK K
  refine wpAnyH_done (by kernel_rfl) ?_ _
  go_wp2_with fail
  go_loopw [25] (fun x wr => ∃ k : Nat, Hid (k ≤ 64) ∧ x = .int .i64 (k : Int) ∧ Hid (US w wr gc g2 g4 L (44 + 2 * k) (pr s L 256 k 0))) (fun x _ => 64 - (intOf x).toNat)
  case atStart => exact ⟨0, Lib.hid (by omega), rfl, NU7⟩
  case round =>
    clear NU7 N8
    obtain ⟨k, HK, rfl, NR⟩ := hrel
    have hkw : IntKind.i64.wrap ((k : Int) + 1) = (k : Int) + 1 := by rw [IntKind.wrap_i64]; have := HK.out; omega
    by_cases hk : k < 64
    · have hki : (k : Int) < 64 := by omega
      have hk0 : (0 : Int) ≤ (k : Int) := by omega
      have HKL := Lib.hid hk
      obtain ⟨x, hx⟩ : ∃ x, num ((L.drop (44 + 2 * k)).take 2) = x := ⟨_, rfl⟩
      have bx : x < 65536 := by rw [← hx]; exact num_take_lt _ 2
      have wx : IntKind.i64.wrap (x : Int) = (x : Int) := by rw [IntKind.wrap_i64]; omega
      have HNM := Lib.hid (NR.out.num 2 (44 + 2 * (k + 1)) (.inr (.inl rfl)) (by omega) HL.out (by omega))
      rw [hx] at HNM
      obtain ⟨p, hp⟩ : ∃ p, k + 1 = p := ⟨_, rfl⟩
      have hpw : IntKind.i64.wrap ((k : Int) + 1) = (p : Int) := by rw [hkw]; omega
      have hpe : (k : Int) + 1 = (p : Int) := by omega
      have hpn : (p : Int) < 65 := by omega
      have hp0 : (0 : Int) ≤ (p : Int) := by omega
      have HP := Lib.hid hp
      have HXI := Lib.hid (p := srI L k = (x : Int)) (by unfold srI; rw [hx])
      have HCI : Hid (∀ W, US w W gc g2 g4 L (44 + 2 * (k + 1)) (pr s L 256 k 0) → (∃ z, W.cell? ⟨g4, 257 + p, none⟩ = some (.int .i64 z)) ∧ W.frozen? ⟨g4, 257 + p, none⟩ = false) := Lib.hid (fun W h => ⟨⟨_, by rw [h.r4.cell, Sup.c_i _ (by omega)]⟩, h.r4.free _⟩)
      clear hk hx bx hp hkw
      go_wp2_with (go_at_call 79; refine HNM.out.mono ?_; rintro e w9 ⟨rfl, N9⟩
                   obtain ⟨z9, cz9⟩ := (HCI.out _ N9.out).1
                   have fz9 := (HCI.out _ N9.out).2
                   have N10 := Lib.hid (p := US w (w9.setCell ⟨g4, 257 + p, none⟩ (.int .i64 (x : Int))) gc g2 g4 L (44 + 2 * (k + 1)) (pr s L 256 (k + 1) 0)) (N9.out.row (by rw [← pr_i s L k HKL.out, HXI.out, HP.out]; exact N9.out.r4.put _ _) (grown_set w9 ⟨g4, 257 + p, none⟩ _)))
      clear cz9 fz9 N9 HNM
      go_roundw
      case rel => exact ⟨k + 1, Lib.hid HKL.out, (by first | go_num | exact congrArg (Value.int .i64) (by have := HP.out; omega)), N10⟩
      case measure => have := HKL.out; have := HP.out; simp [intOf]; omega
    · obtain rfl : k = 64 := by have := HK.out; omega
      have hki : ¬ ((64 : Nat) : Int) < 64 := by omega
      clear hk hkw
      go_wp2_with fail
      refine wp_region_held_drew (S := fun _ => True) (by kernel_rfl) trivial (fun hHeld => ?_)
      refine wpAnyH_take (i := 0) (oi := ⟨some 36, .fieldAddr 59 (.tmp 4) 3, _, _, _, _⟩) (v := .pointer (some ⟨g4, 322, none⟩)) rfl (by kernel_rfl) (by kernel_rfl) (by kernel_rfl) (fun _ _ _ h => h) (.inl ⟨by rfl, fun w hSw => by go_simp⟩) (by assumption) ?_
      simp only [Act.put, List.setIfInBounds_toArray, List.set_cons_zero, List.set_cons_succ]
      refine wpAnyH_take (i := 1) (oi := ⟨some 37, .slice 57 (.tmp 36) (some (.const (.int .i64 1))) none none, _, _, _, _⟩) (v := .slice (some ⟨g4, 323, none⟩) 64 64) rfl (by kernel_rfl) (by kernel_rfl) (by kernel_rfl) (fun _ _ _ h => h) (.inl ⟨by rfl, fun w hSw => by go_simp⟩) (by assumption) ?_
      simp only [Act.put, List.setIfInBounds_toArray, List.set_cons_zero, List.set_cons_succ]
      refine wpAnyH_take (i := 2) (oi := ⟨some 38, .move (.tmp 5), _, _, _, _⟩) (v := .pointer (some ⟨gc, 0, none⟩)) rfl (by kernel_rfl) (by kernel_rfl) (by kernel_rfl) (fun _ _ _ h => h) (.inl ⟨by rfl, fun w hSw => by go_simp⟩) (by assumption) ?_
      simp only [Act.put, List.setIfInBounds_toArray, List.set_cons_zero, List.set_cons_succ]
      refine wpAnyH_ready (rs := [3]) (by kernel_rfl) (by simp) ?_
      refine AllReadyH.cons (o := ⟨some 39, .call ⟨.value (.func 100), #[.tmp 38, .const (.int .i64 8)], _⟩, _, _, _, _⟩) rfl (fun K hK => ?_) AllReadyH.nil
      go_simp
      refine (NR.out.drew.take 8 180 rfl HL.out (by omega)).mono ?_
      rintro e wt13 ⟨At13, ct13, rfl, HT13, HQ13, NT13⟩
      refine hK.out _ _ trivial (fun _hH => ?_)
      clear hK K
      refine wpAnyH_ready (rs := [4]) (by kernel_rfl) (by simp) ?_
      refine AllReadyH.cons (o := ⟨some 40, .call ⟨.value (.func 101), #[.tmp 37, .tmp 39], _⟩, _, _, _, _⟩) rfl (fun K hK => ?_) AllReadyH.nil
      go_simp
      refine (unpackbits_any g4 323 8 64 ct13 64 59 (fun j => L.getD (172 + j) 0) (fun i => (pr s L 256 64 i).cs) rfl (fun i hi => pr_o s L i (by omega)) (fun i hi => ⟨_, by rw [show 323 + i = 322 + (i + 1) by omega]; exact Sup.c_o _ (by omega)⟩) (by omega) At13 wt13 HT13.out HQ13.out (by exact NT13.out.r4)).mono ?_
      rintro e wu13 ⟨rfl, hru13, hgu13⟩
      have NU13 := Lib.hid (NT13.out.row hru13.out hgu13.out)
      clear HT13 HQ13 NT13 hru13 hgu13
      refine hK.out _ _ trivial (fun _hH1 => ?_)
      clear hK K
      refine wpAnyH_done (by kernel_rfl) ?_ _
      have NF := Lib.hid (p := US w wu13 gc g2 g4 L 180 (sr L)) (by unfold sr; rw [HS.out]; exact NU13.out)
      clear NU13 NR
      go_wp2_with (first
        | (refine step_load rfl 42 rfl 59 (.tmp 4) rfl g4 rfl (sr L).cs _ NF.out.r4.all Tryz.underlying59 rfl (i1.out _) ?_)
        | (go_at_call 64; refine (HP.out _).mono ?_; rintro e8 w18 ⟨g8, c8, rfl, ho8, hb8⟩
           have R10 := Lib.hid (NF.out.r4.kept hb8.out)
           have R28 := Lib.hid (NF.out.r2.kept hb8.out)
           have HB8 := Lib.hid (below_nxt hb8.out NF.out.b)
           have HH8 := Lib.hid (Hol.own ho8.out)
           clear hb8 ho8)
        | (go_at_call 80; refine (bequal_any (some ⟨g8, 0, none⟩) A 256 256 c8 cb (lst 256 (sr L).pb) L (lst_len _ _).symm HL.out.symm _ HH8.out (HA.out.below HB8.out)).mono ?_; rintro e9 w19 ⟨rfl, hw9⟩; obtain rfl := hw9.symm; rw [HE.out])
        | (refine step_build rfl 59 #[] rfl [] ?hv _ built_sup0 ?_; case hv => simp)
        | (refine step_store rfl 59 (.tmp 2) (.tmp 54) rfl g2 (by rfl) _ sup0.cs sup0.cs (by rfl) R28.out (by rw [Sup.cs_len]) (i1.out _) (Sup.cs_one _) ?_; intro w9 hr9 hg9 hs9))
      refine bodyPost_ret (results_row_tmp rfl _ _ g2 _ _ _ _ rfl hr9 Tryz.underlying59 rfl (by simpa using i1.out sup0)) rfl ?_
      exact ⟨rfl, HB8.out.grown hg9 HB8.out.size (fun q hq => by injection hq with hq; subst hq; exact Q2.out)⟩
set_option maxHeartbeats 4000000 in
theorem gunpack_may (A : Option Addr) (cb : Nat) (L : List UInt8) (hn : L.length = 256) (hm : ¬ (sr L).May) (w : World) (hA : Hol w A L) :
    Calls Tryz.prog 69 #[.slice A 256 cb] w fun e w' => e = .returned (.tuple #[.agg sup0.cs.toArray, .int .i64 210]) ∧ Below w.heap.size w w' := by
  have i1 := Lib.hid (fun x : Sup => info_cs x)
  have hz := Lib.hid zero_sup
  have HNew : Hid (∀ w', Below w.heap.size w w' → Calls Tryz.prog 78 #[.slice A 256 cb] w' fun e w'' => ∃ g, e = .returned (.pointer (some ⟨g, 0, none⟩)) ∧ w'.heap.size ≤ g ∧ Cur w'' g L false ∧ Below w'.heap.size w' w'') := fun w' hb => by
    have h := cur_new_any A cb L w' (hA.below hb) (by omega)
    rwa [hn] at h
  have HA := Lib.hid hA
  have HL := Lib.hid hn
  have HP := Lib.hid (fun w => gpack_not (sr L) hm w)
  clear hm hA hn
  go_enter Tryz.func69, Tryz.ntmps69
  go_wp2_with (first
    | (refine step_alloc rfl 2 rfl 59 rfl _ hz.out ?_; intro g2 w2 hr2 hg2 hb2 hs2
       have R2 := Lib.hid hr2
       have HB2 := Lib.hid hb2
       have Q2 := Lib.hid (p := w.heap.size ≤ g2) (by rw [hg2.out]; exact Nat.le_refl _)
       clear hr2 hb2 hg2 hs2)
    | (refine step_alloc rfl 4 rfl 59 rfl _ hz.out ?_; intro g4 w4 hr4 hg4 hb4 hs4
       have R4 := Lib.hid hr4
       have R24 := Lib.hid (R2.out.kept hb4)
       have HB4 := Lib.hid (below_nxt hb4 HB2.out)
       have N24 := Lib.hid (p := g2 < g4) (by rw [hg4.out]; exact R2.out.lt)
       clear hr4 hb4 hg4 hs4)
    | (go_at_call 78; refine (HNew.out _ HB4.out).mono ?_; rintro e5 w5 ⟨gc, rfl, hq5, hc5, hb5⟩
       have NS := Lib.hid (p := US w w5 gc g2 g4 L 0 (pr 0 L 0 0 0)) ⟨by rw [List.drop_zero]; exact hc5, R24.out.kept hb5, by rw [← pr_zero]; exact R4.out.kept hb5, ⟨N24.out, Nat.lt_of_lt_of_le R4.out.lt hq5⟩, Q2.out, HB4.out.trans (hb5.mono HB4.out.size)⟩
       clear hq5 hc5 hb5 R4 R24 HB4))
  refine (NS.out.take 4 4 rfl HL.out (by omega)).mono ?_
  rintro e w6 ⟨A6, c6, rfl, _, _, N6⟩
  go_wp2_with fail
  refine (N6.out.num 8 12 (.inr (.inr (.inr rfl))) rfl HL.out (by omega)).mono ?_
  rintro e w7 ⟨rfl, N7⟩
  have c0 : w7.cell? ⟨g4, 0, none⟩ = some (.int .u64 0) := by rw [N7.out.r4.cell]; rfl
  have f0 := N7.out.r4.free 0
  have HSS := Lib.hid (p := num ((L.drop 4).take 8) = srS L) rfl
  rw [HSS.out]
  obtain ⟨s, hs⟩ : ∃ s, srS L = s := ⟨_, rfl⟩
  rw [hs]
  have HS := Lib.hid hs
  have N8 := Lib.hid (p := US w (w7.setCell ⟨g4, 0, none⟩ (.int .u64 (s : Int))) gc g2 g4 L 12 (pr s L 0 0 0)) (N7.out.row (by rw [← pr_s]; exact N7.out.r4.put 0 _) (grown_set w7 ⟨g4, 0, none⟩ _))
  clear hs
  go_wp2_with fail
  clear c0 f0 NS N6 N7
  generalize w7.setCell ⟨g4, 0, none⟩ (.int .u64 (s : Int)) = w8 at *
  refine wp_region_held_drew (S := fun _ => True) (by kernel_rfl) trivial (fun hHeld => ?_)
  refine wpAnyH_take (i := 0) (oi := ⟨some 20, .fieldAddr 59 (.tmp 4) 1, _, _, _, _⟩) (v := .pointer (some ⟨g4, 1, none⟩)) rfl (by kernel_rfl) (by kernel_rfl) (by kernel_rfl) (fun _ _ _ h => h) (.inl ⟨by rfl, fun w hSw => by go_simp⟩) (by assumption) ?_
  simp only [Act.put, List.setIfInBounds_toArray, List.set_cons_zero, List.set_cons_succ]
  refine wpAnyH_take (i := 1) (oi := ⟨some 21, .slice 55 (.tmp 20) none none none, _, _, _, _⟩) (v := .slice (some ⟨g4, 1, none⟩) 256 256) rfl (by kernel_rfl) (by kernel_rfl) (by kernel_rfl) (fun _ _ _ h => h) (.inl ⟨by rfl, fun w hSw => by go_simp⟩) (by assumption) ?_
  simp only [Act.put, List.setIfInBounds_toArray, List.set_cons_zero, List.set_cons_succ]
  refine wpAnyH_take (i := 2) (oi := ⟨some 22, .move (.tmp 5), _, _, _, _⟩) (v := .pointer (some ⟨gc, 0, none⟩)) rfl (by kernel_rfl) (by kernel_rfl) (by kernel_rfl) (fun _ _ _ h => h) (.inl ⟨by rfl, fun w hSw => by go_simp⟩) (by assumption) ?_
  simp only [Act.put, List.setIfInBounds_toArray, List.set_cons_zero, List.set_cons_succ]
  refine wpAnyH_ready (rs := [3]) (by kernel_rfl) (by simp) ?_
  refine AllReadyH.cons (o := ⟨some 23, .call ⟨.value (.func 100), #[.tmp 22, .const (.int .i64 32)], _⟩, _, _, _, _⟩) rfl (fun K hK => ?_) AllReadyH.nil
  go_simp
  refine (N8.out.drew.take 32 44 rfl HL.out (by omega)).mono ?_
  rintro e wt7 ⟨At7, ct7, rfl, HT7, HQ7, NT7⟩
  refine hK.out _ _ trivial (fun _hH => ?_)
  clear hK K
  refine wpAnyH_ready (rs := [4]) (by kernel_rfl) (by simp) ?_
  refine AllReadyH.cons (o := ⟨some 24, .call ⟨.value (.func 101), #[.tmp 21, .tmp 23], _⟩, _, _, _, _⟩) rfl (fun K hK => ?_) AllReadyH.nil
  go_simp
  refine (unpackbits_any g4 1 32 256 ct7 256 59 (fun j => L.getD (12 + j) 0) (fun i => (pr s L i 0 0).cs) rfl (fun i hi => pr_u s L i (by omega)) (fun i hi => ⟨_, Sup.c_u _ (by omega)⟩) (by omega) At7 wt7 HT7.out HQ7.out (by exact NT7.out.r4)).mono ?_
  rintro e wu7 ⟨rfl, hru7, hgu7⟩
  have NU7 := Lib.hid (NT7.out.row hru7.out hgu7.out)
  clear HT7 HQ7 NT7 hru7 hgu7
  refine hK.out _ _ trivial (fun _hH1 => ?_)
  clear hK K
  refine wpAnyH_done (by kernel_rfl) ?_ _
  go_wp2_with fail
  go_loopw [25] (fun x wr => ∃ k : Nat, Hid (k ≤ 64) ∧ x = .int .i64 (k : Int) ∧ Hid (US w wr gc g2 g4 L (44 + 2 * k) (pr s L 256 k 0))) (fun x _ => 64 - (intOf x).toNat)
  case atStart => exact ⟨0, Lib.hid (by omega), rfl, NU7⟩
  case round =>
    clear NU7 N8
    obtain ⟨k, HK, rfl, NR⟩ := hrel
    have hkw : IntKind.i64.wrap ((k : Int) + 1) = (k : Int) + 1 := by rw [IntKind.wrap_i64]; have := HK.out; omega
    by_cases hk : k < 64
    · have hki : (k : Int) < 64 := by omega
      have hk0 : (0 : Int) ≤ (k : Int) := by omega
      have HKL := Lib.hid hk
      obtain ⟨x, hx⟩ : ∃ x, num ((L.drop (44 + 2 * k)).take 2) = x := ⟨_, rfl⟩
      have bx : x < 65536 := by rw [← hx]; exact num_take_lt _ 2
      have wx : IntKind.i64.wrap (x : Int) = (x : Int) := by rw [IntKind.wrap_i64]; omega
      have HNM := Lib.hid (NR.out.num 2 (44 + 2 * (k + 1)) (.inr (.inl rfl)) (by omega) HL.out (by omega))
      rw [hx] at HNM
      obtain ⟨p, hp⟩ : ∃ p, k + 1 = p := ⟨_, rfl⟩
      have hpw : IntKind.i64.wrap ((k : Int) + 1) = (p : Int) := by rw [hkw]; omega
      have hpe : (k : Int) + 1 = (p : Int) := by omega
      have hpn : (p : Int) < 65 := by omega
      have hp0 : (0 : Int) ≤ (p : Int) := by omega
      have HP := Lib.hid hp
      have HXI := Lib.hid (p := srI L k = (x : Int)) (by unfold srI; rw [hx])
      have HCI : Hid (∀ W, US w W gc g2 g4 L (44 + 2 * (k + 1)) (pr s L 256 k 0) → (∃ z, W.cell? ⟨g4, 257 + p, none⟩ = some (.int .i64 z)) ∧ W.frozen? ⟨g4, 257 + p, none⟩ = false) := Lib.hid (fun W h => ⟨⟨_, by rw [h.r4.cell, Sup.c_i _ (by omega)]⟩, h.r4.free _⟩)
      clear hk hx bx hp hkw
      go_wp2_with (go_at_call 79; refine HNM.out.mono ?_; rintro e w9 ⟨rfl, N9⟩
                   obtain ⟨z9, cz9⟩ := (HCI.out _ N9.out).1
                   have fz9 := (HCI.out _ N9.out).2
                   have N10 := Lib.hid (p := US w (w9.setCell ⟨g4, 257 + p, none⟩ (.int .i64 (x : Int))) gc g2 g4 L (44 + 2 * (k + 1)) (pr s L 256 (k + 1) 0)) (N9.out.row (by rw [← pr_i s L k HKL.out, HXI.out, HP.out]; exact N9.out.r4.put _ _) (grown_set w9 ⟨g4, 257 + p, none⟩ _)))
      clear cz9 fz9 N9 HNM
      go_roundw
      case rel => exact ⟨k + 1, Lib.hid HKL.out, (by first | go_num | exact congrArg (Value.int .i64) (by have := HP.out; omega)), N10⟩
      case measure => have := HKL.out; have := HP.out; simp [intOf]; omega
    · obtain rfl : k = 64 := by have := HK.out; omega
      have hki : ¬ ((64 : Nat) : Int) < 64 := by omega
      clear hk hkw
      go_wp2_with fail
      refine wp_region_held_drew (S := fun _ => True) (by kernel_rfl) trivial (fun hHeld => ?_)
      refine wpAnyH_take (i := 0) (oi := ⟨some 36, .fieldAddr 59 (.tmp 4) 3, _, _, _, _⟩) (v := .pointer (some ⟨g4, 322, none⟩)) rfl (by kernel_rfl) (by kernel_rfl) (by kernel_rfl) (fun _ _ _ h => h) (.inl ⟨by rfl, fun w hSw => by go_simp⟩) (by assumption) ?_
      simp only [Act.put, List.setIfInBounds_toArray, List.set_cons_zero, List.set_cons_succ]
      refine wpAnyH_take (i := 1) (oi := ⟨some 37, .slice 57 (.tmp 36) (some (.const (.int .i64 1))) none none, _, _, _, _⟩) (v := .slice (some ⟨g4, 323, none⟩) 64 64) rfl (by kernel_rfl) (by kernel_rfl) (by kernel_rfl) (fun _ _ _ h => h) (.inl ⟨by rfl, fun w hSw => by go_simp⟩) (by assumption) ?_
      simp only [Act.put, List.setIfInBounds_toArray, List.set_cons_zero, List.set_cons_succ]
      refine wpAnyH_take (i := 2) (oi := ⟨some 38, .move (.tmp 5), _, _, _, _⟩) (v := .pointer (some ⟨gc, 0, none⟩)) rfl (by kernel_rfl) (by kernel_rfl) (by kernel_rfl) (fun _ _ _ h => h) (.inl ⟨by rfl, fun w hSw => by go_simp⟩) (by assumption) ?_
      simp only [Act.put, List.setIfInBounds_toArray, List.set_cons_zero, List.set_cons_succ]
      refine wpAnyH_ready (rs := [3]) (by kernel_rfl) (by simp) ?_
      refine AllReadyH.cons (o := ⟨some 39, .call ⟨.value (.func 100), #[.tmp 38, .const (.int .i64 8)], _⟩, _, _, _, _⟩) rfl (fun K hK => ?_) AllReadyH.nil
      go_simp
      refine (NR.out.drew.take 8 180 rfl HL.out (by omega)).mono ?_
      rintro e wt13 ⟨At13, ct13, rfl, HT13, HQ13, NT13⟩
      refine hK.out _ _ trivial (fun _hH => ?_)
      clear hK K
      refine wpAnyH_ready (rs := [4]) (by kernel_rfl) (by simp) ?_
      refine AllReadyH.cons (o := ⟨some 40, .call ⟨.value (.func 101), #[.tmp 37, .tmp 39], _⟩, _, _, _, _⟩) rfl (fun K hK => ?_) AllReadyH.nil
      go_simp
      refine (unpackbits_any g4 323 8 64 ct13 64 59 (fun j => L.getD (172 + j) 0) (fun i => (pr s L 256 64 i).cs) rfl (fun i hi => pr_o s L i (by omega)) (fun i hi => ⟨_, by rw [show 323 + i = 322 + (i + 1) by omega]; exact Sup.c_o _ (by omega)⟩) (by omega) At13 wt13 HT13.out HQ13.out (by exact NT13.out.r4)).mono ?_
      rintro e wu13 ⟨rfl, hru13, hgu13⟩
      have NU13 := Lib.hid (NT13.out.row hru13.out hgu13.out)
      clear HT13 HQ13 NT13 hru13 hgu13
      refine hK.out _ _ trivial (fun _hH1 => ?_)
      clear hK K
      refine wpAnyH_done (by kernel_rfl) ?_ _
      have NF := Lib.hid (p := US w wu13 gc g2 g4 L 180 (sr L)) (by unfold sr; rw [HS.out]; exact NU13.out)
      clear NU13 NR
      go_wp2_with (first
        | (refine step_load rfl 42 rfl 59 (.tmp 4) rfl g4 rfl (sr L).cs _ NF.out.r4.all Tryz.underlying59 rfl (i1.out _) ?_)
        | (go_at_call 64; refine (HP.out _).mono ?_; rintro e8 w18 ⟨rfl, hb8⟩
           have R10 := Lib.hid (NF.out.r4.kept hb8)
           have R28 := Lib.hid (NF.out.r2.kept hb8)
           have HB8 := Lib.hid (below_nxt hb8 NF.out.b)
           clear hb8)
        | (refine step_build rfl 59 #[] rfl [] ?hv _ built_sup0 ?_; case hv => simp)
        | (refine step_store rfl 59 (.tmp 2) (.tmp 54) rfl g2 (by rfl) _ sup0.cs sup0.cs (by rfl) R28.out (by rw [Sup.cs_len]) (i1.out _) (Sup.cs_one _) ?_; intro w9 hr9 hg9 hs9))
      refine bodyPost_ret (results_row_tmp rfl _ _ g2 _ _ _ _ rfl hr9 Tryz.underlying59 rfl (by simpa using i1.out sup0)) rfl ?_
      exact ⟨rfl, HB8.out.grown hg9 HB8.out.size (fun q hq => by injection hq with hq; subst hq; exact Q2.out)⟩
theorem gunpack_len (A : Option Addr) (n cb : Nat) (h256 : n ≠ 256) (hlen : n < 9223372036854775808) (w : World) :
    Calls Tryz.prog 69 #[.slice A n cb] w fun e w' => e = .returned (.tuple #[.agg sup0.cs.toArray, .int .i64 210]) ∧ Below w.heap.size w w' := by
  have i1 := Lib.hid (fun x : Sup => info_cs x)
  have hz := Lib.hid zero_sup
  have hne : ((n : Int) != 256) = true := by simp; omega
  have hlen' : (n : Int) ≤ 9223372036854775807 := by omega
  clear hlen h256
  go_enter Tryz.func69, Tryz.ntmps69
  go_wp2_with (first
    | (refine step_alloc rfl 2 rfl 59 rfl _ hz.out ?_; intro g2 w2 hr2 hg2 hb2 hs2
       have R2 := Lib.hid hr2
       have HB2 := Lib.hid hb2
       have Q2 := Lib.hid (p := w.heap.size ≤ g2) (by rw [hg2.out]; exact Nat.le_refl _)
       clear hr2 hb2 hg2 hs2)
    | (refine step_build rfl 59 #[] rfl [] ?hv _ built_sup0 ?_; case hv => simp)
    | (refine step_store rfl 59 (.tmp 2) (.tmp 12) rfl g2 (by rfl) _ sup0.cs sup0.cs (by rfl) R2.out (by rw [Sup.cs_len]) (i1.out _) (Sup.cs_one _) ?_; intro w9 hr9 hg9 hs9))
  refine bodyPost_ret (results_row_tmp rfl _ _ g2 _ _ _ _ rfl hr9 Tryz.underlying59 rfl (by simpa using i1.out sup0)) rfl ?_
  exact ⟨rfl, HB2.out.grown hg9 HB2.out.size (fun q hq => by injection hq with hq; subst hq; exact Q2.out)⟩
theorem gunpack_not (A : Option Addr) (n cb : Nat) (L : List UInt8) (hn : L.length = n) (hlen : n < 9223372036854775808) (hno : ¬ SOk L) (w : World) (hA : Hol w A L) :
    Calls Tryz.prog 69 #[.slice A n cb] w fun e w' => e = .returned (.tuple #[.agg sup0.cs.toArray, .int .i64 210]) ∧ Below w.heap.size w w' := by
  by_cases h256 : n = 256
  · subst h256
    by_cases hm : (sr L).May
    · exact gunpack_diff A cb L hn hm (fun h => hno ⟨hn, hm, h⟩) w hA
    · exact gunpack_may A cb L hn hm w hA
  · exact gunpack_len A n cb h256 hlen w
end Go.Proofs.YtfbfeplegdpemaaGreat
