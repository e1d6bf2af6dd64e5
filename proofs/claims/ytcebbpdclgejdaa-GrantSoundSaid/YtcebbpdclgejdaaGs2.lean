/- Steps that came in; what keeps a super one that may be. Conditions: those named. -/
import Derived.Test.YtcebbpdclgejdaaGn
import Derived.Test.YtcebbpdclgejdaaGd
import Derived.Test.YtcebbpdclgejdaaBin
import Derived.Deep.Strs
import Derived.ProofKit
import Derived.OpenShut
set_option linter.unusedVariables false
set_option maxRecDepth 20000
namespace Go.Proofs.Ytcebbpdclgejdaa
open Go.ChangeShapes Go.WideShapes Go.ChangeAt Go.RowKit

/-- Steps that came in: what to do, and where. -/
structure InP (w : World) (A : Option Addr) (len cap : Nat) (ds : List (Int × Int)) : Prop where
  len_ : len = ds.length
  at_ : ∀ (j : Nat) (d : Int × Int), ds[j]? = some d → ∃ g o, A = some ⟨g, o, none⟩ ∧ w.cell? ⟨g, o + j * 2, none⟩ = some (.int .i64 d.1) ∧ w.cell? ⟨g, o + j * 2 + 1, none⟩ = some (.int .i64 d.2)
  cap_ : len ≤ cap
  max_ : cap ≤ maxLen
theorem InP.below {w w' : World} {A : Option Addr} {n c : Nat} {ds : List (Int × Int)} (h : InP w A n c ds) (hb : Below w.heap.size w w') : InP w' A n c ds :=
  ⟨h.len_, fun j d hd => by
    obtain ⟨g, o, rfl, h1, h2⟩ := h.at_ j d hd
    exact ⟨g, o, rfl, (hb.cell (p := ⟨g, o + j * 2, none⟩) (World.block_lt_of_cell? w _ h1)).trans h1, (hb.cell (p := ⟨g, o + j * 2 + 1, none⟩) (World.block_lt_of_cell? w _ h2)).trans h2⟩, h.cap_, h.max_⟩
theorem list2 {α : Type} : ∀ {l : List α}, l.length = 2 → ∃ a b, l = [a, b]
  | [a, b], _ => ⟨a, b, rfl⟩
section
variable {H : Type} {enc : TypeId × Value → H} {W : World} {sp : Nat → Bool} {held : Bool} {base : Nat}
theorem do_cs {fuel : Nat} {cs : List Value} {x : DataW H × List MemPlace} (hf : DataW.trod enc Try.prog W base sp held fuel 41 cs = some x) : ∃ k a : Int, cs = [.int .i64 k, .int .i64 a] := by
  have ci : Try.prog.cellsOf 3 = 1 := by kernel_rfl
  have cd : Try.prog.cellsOf 41 = 2 := by kernel_rfl
  obtain ⟨xs, m, _, _, hl, hlen, hf'⟩ := DataW.trod_struct Try.underlying41 hf
  obtain ⟨y0, y1, rfl⟩ := list2 hlen
  obtain ⟨v0, v1, rfl⟩ := list2 (hl.trans cd)
  have g0 := hf' 0 _ rfl
  have g1 := hf' 1 _ rfl
  simp [ci] at g0 g1
  obtain ⟨k, e0, _, _⟩ := DataW.trod_int Try.underlying3 g0
  obtain ⟨a, e1, _, _⟩ := DataW.trod_int Try.underlying3 g1
  simp at e0 e1
  subst e0 e1
  exact ⟨k, a, rfl⟩
theorem dos_in {a : Option Addr} {len cap : Nat} {d : DataW H} {p : List MemPlace} (h : DataW.Trod enc Try.prog W base sp held 38 (.slice a len cap) d p) : ∃ ds, InP W a len cap ds := by
  have ce : Try.prog.cellsOf 41 = 2 := by kernel_rfl
  obtain ⟨fuel, hf⟩ := h
  rcases Deep.open_slice Try.underlying38 hf with ⟨hcs, _⟩ | ⟨a', len', cap', m, n, D, Pl, hcs, hb, hl, hm, hmm, _, hx⟩
  · simp [Value.cells] at hcs
    obtain ⟨rfl, rfl, rfl⟩ := hcs
    exact ⟨[], rfl, fun j d hd => by simp at hd, Nat.le_refl _, by decide⟩
  · simp [Value.cells] at hcs
    obtain ⟨rfl, rfl, rfl⟩ := hcs
    have hlm : len ≤ m := by rw [hmm]; split <;> omega
    have each : ∀ i, i < len → ∃ d : Int × Int, W.cell? (a'.add (i * 2 + 0)) = some (.int .i64 d.1) ∧ W.cell? (a'.add (i * 2 + 1)) = some (.int .i64 d.2) := by
      intro i hi
      obtain ⟨cs', h1, h2⟩ := hx i (by omega)
      rw [ce] at h1
      obtain ⟨_, hlen, hcell⟩ := World.cells?_some h1
      obtain ⟨k, a, rfl⟩ := do_cs h2
      have c0 := hcell 0 (by omega)
      have c1 := hcell 1 (by omega)
      rw [Deep.add_add] at c0 c1
      exact ⟨(k, a), c0, c1⟩
    obtain ⟨q, hq⟩ := @Deep.choose_lt (Int × Int) ⟨(0, 0)⟩ _ _ each
    refine ⟨(List.range len).map q, by simp, fun j d hd => ?_, hl, hm⟩
    rw [List.getElem?_map] at hd
    obtain ⟨j', hj', rfl⟩ := Option.map_eq_some_iff.1 hd
    obtain ⟨hj, rfl⟩ := List.getElem?_eq_some_iff.1 hj'
    simp only [List.length_range] at hj
    simp only [List.getElem_range]
    obtain ⟨k0, k1⟩ := hq j hj
    obtain ⟨b, off, spot⟩ := a'
    have hs : spot = none := by
      have h1 := (hq 0 (by omega)).1
      have e1 : (Addr.add ⟨b, off, spot⟩ (0 * 2 + 0)) = ⟨b, off, spot⟩ := by simp [Addr.add]
      rw [e1] at h1
      exact cell_spot h1
    subst hs
    rw [Addr.add_lit] at k0 k1
    exact ⟨b, off, rfl, k0, by rw [Nat.add_assoc]; exact k1⟩
end
/-! What keeps it. -/
theorem may_N : supN.May := by
  refine ⟨by decide, rfl, rfl, fun j hj => ?_⟩
  unfold Sup.OkA
  exact (if_pos rfl).mpr rfl
theorem may_take (x : Sup) (h : x.May) (k : Nat) : (x.setU k true).May := by
  refine ⟨h.1, ?_, h.2.2.1, fun j hj => ?_⟩
  · show at1 x.u k true 0 = true
    by_cases e : 0 = k
    · rw [← e, at1_same]
    · rw [at1_other _ _ e]; exact h.2.1
  · have h1 := h.2.2.2 j hj
    unfold Sup.OkA at h1 ⊢
    show if x.i j = 0 then x.o j = false else (0 ≤ x.i j ∧ x.i j < 256 ∧ at1 x.u k true (x.i j).toNat = true ∧ ∀ k, k < j → x.i k ≠ x.i j)
    by_cases h0 : x.i j = 0
    · rw [if_pos h0] at h1 ⊢
      exact h1
    · rw [if_neg h0] at h1 ⊢
      refine ⟨h1.1, h1.2.1, ?_, h1.2.2.2⟩
      by_cases e : (x.i j).toNat = k
      · rw [e, at1_same]
      · rw [at1_other _ _ e]; exact h1.2.2.1
theorem oka_used {x : Sup} {j : Nat} (h : x.OkA j) (h0 : x.i j ≠ 0) : 0 ≤ x.i j ∧ x.i j < 256 ∧ x.u (x.i j).toNat = true ∧ ∀ k, k < j → x.i k ≠ x.i j := by
  unfold Sup.OkA at h
  rwa [if_neg h0] at h
theorem may_add (x : Sup) (h : x.May) (k s : Nat) (hk : k < 64) (h0 : x.i (k + 1) = 0) (hs : s < 256) (hu : x.u s = false) : ((x.setU s true).setI (k + 1) s).May := by
  have hs0 : s ≠ 0 := fun e => by rw [e, h.2.1] at hu; cases hu
  have hno : ∀ j, j < 65 → x.i j ≠ (s : Int) := fun j hj e => by
    have h1 := (oka_used (h.2.2.2 j hj) (by rw [e]; omega)).2.2.1
    rw [e, Int.toNat_natCast, hu] at h1
    cases h1
  have ht := may_take x h s
  refine ⟨h.1, ht.2.1, ?_, fun j hj => ?_⟩
  · show at1 x.i (k + 1) (s : Int) 0 = 0
    rw [at1_other _ _ (by omega)]
    exact h.2.2.1
  · have h1 := ht.2.2.2 j hj
    unfold Sup.OkA at h1 ⊢
    change if x.i j = 0 then x.o j = false else (0 ≤ x.i j ∧ x.i j < 256 ∧ at1 x.u s true (x.i j).toNat = true ∧ ∀ k, k < j → x.i k ≠ x.i j) at h1
    show if at1 x.i (k + 1) (s : Int) j = 0 then x.o j = false else (0 ≤ at1 x.i (k + 1) (s : Int) j ∧ at1 x.i (k + 1) (s : Int) j < 256 ∧ at1 x.u s true (at1 x.i (k + 1) (s : Int) j).toNat = true ∧ ∀ k2, k2 < j → at1 x.i (k + 1) (s : Int) k2 ≠ at1 x.i (k + 1) (s : Int) j)
    by_cases e : j = k + 1
    · subst e
      rw [at1_same, if_neg (by omega)]
      refine ⟨by omega, by omega, by rw [Int.toNat_natCast, at1_same], fun k2 hk2 => ?_⟩
      rw [at1_other _ _ (by omega)]
      exact hno k2 (by omega)
    · rw [at1_other _ _ e]
      by_cases hj0 : x.i j = 0
      · rw [if_pos hj0] at h1 ⊢
        exact h1
      · rw [if_neg hj0] at h1 ⊢
        refine ⟨h1.1, h1.2.1, h1.2.2.1, fun k2 hk2 => ?_⟩
        by_cases e2 : k2 = k + 1
        · subst e2
          rw [at1_same]
          exact fun e3 => hno j hj e3.symm
        · rw [at1_other _ _ e2]
          exact h1.2.2.2 k2 hk2
theorem may_less (x : Sup) (h : x.May) (k : Nat) (hk : 1 ≤ k ∧ k ≤ 64) (h0 : x.i k ≠ 0) : (x.less k).May ∧ (x.less k).s = x.s := by
  obtain ⟨b1, b2, b3, b4⟩ := oka_used (h.2.2.2 k (by omega)) h0
  have hg : x.give (x.i k) = x.setU (x.i k).toNat false := by unfold Sup.give; rw [if_pos (by omega)]
  unfold Sup.less
  rw [hg]
  refine ⟨⟨h.1, ?_, ?_, fun j hj => ?_⟩, rfl⟩
  · show at1 x.u (x.i k).toNat false 0 = true
    rw [at1_other _ _ (by omega)]
    exact h.2.1
  · show at1 x.i k 0 0 = 0
    rw [at1_other _ _ (by omega)]
    exact h.2.2.1
  · unfold Sup.OkA
    show if at1 x.i k 0 j = 0 then at1 x.o k false j = false else (0 ≤ at1 x.i k 0 j ∧ at1 x.i k 0 j < 256 ∧ at1 x.u (x.i k).toNat false (at1 x.i k 0 j).toNat = true ∧ ∀ k2, k2 < j → at1 x.i k 0 k2 ≠ at1 x.i k 0 j)
    by_cases e : j = k
    · subst e
      rw [at1_same, if_pos rfl, at1_same]
    · rw [at1_other _ _ e, at1_other _ _ e]
      have h1 := h.2.2.2 j hj
      by_cases hj0 : x.i j = 0
      · unfold Sup.OkA at h1
        rw [if_pos hj0] at h1 ⊢
        exact h1
      · obtain ⟨c1, c2, c3, c4⟩ := oka_used h1 hj0
        rw [if_neg hj0]
        have hne : x.i j ≠ x.i k := by
          by_cases hjk : j < k
          · exact b4 j hjk
          · exact (c4 k (by omega)).symm
        refine ⟨c1, c2, ?_, fun k2 hk2 => ?_⟩
        · rw [at1_other _ _ (by omega)]
          exact c3
        · by_cases e2 : k2 = k
          · subst e2
            rw [at1_same]
            exact fun e3 => hj0 e3.symm
          · rw [at1_other _ _ e2]
            exact c4 k2 hk2
theorem may_orp (x : Sup) (h : x.May) (k : Nat) (z : Bool) (hz : (x.i k != 0) = z) : (x.setO k z).May := by
  refine ⟨h.1, h.2.1, h.2.2.1, fun j hj => ?_⟩
  have h1 := h.2.2.2 j hj
  unfold Sup.OkA at h1 ⊢
  show if x.i j = 0 then at1 x.o k z j = false else (0 ≤ x.i j ∧ x.i j < 256 ∧ x.u (x.i j).toNat = true ∧ ∀ k, k < j → x.i k ≠ x.i j)
  by_cases h0 : x.i j = 0
  · rw [if_pos h0] at h1 ⊢
    by_cases e : j = k
    · subst e
      rw [at1_same, ← hz, h0]
      rfl
    · rw [at1_other _ _ e]
      exact h1
  · rw [if_neg h0] at h1 ⊢
    exact h1
/-! What is packed is read as it was. -/
theorem pb_get (x : Sup) (j : Nat) (hj : j < 256) : (lst 256 x.pb).getD j 0 = x.pb j := by
  simp [List.getD, lst_get x.pb hj]
theorem lst_drop_take (f : Nat → UInt8) (n i m : Nat) (h : i + m ≤ n) : ((lst n f).drop i).take m = lst m (fun j => f (i + j)) := by
  rw [lst_cut _ i m (by rw [lst_len]; exact h)]
  refine lst_congr fun j hj => ?_
  simp [List.getD, lst_get f (show i + j < n by omega)]
theorem sr_pb (x : Sup) (h : x.May) (hs64 : x.s < 18446744073709551616) : (sr (lst 256 x.pb)).cs = x.cs := by
  have hS : srS (lst 256 x.pb) = x.s := by
    unfold srS
    rw [lst_drop_take x.pb 256 4 8 (by omega)]
    have e : lst 8 (fun j => x.pb (4 + j)) = leb x.s 8 := by
      rw [leb_lst]
      refine lst_congr fun j hj => ?_
      unfold Sup.pb
      rw [if_neg (by omega), if_pos (by omega), show 4 + j - 4 = j by omega]
    rw [e, num_leb, Nat.mod_eq_of_lt hs64]
  refine Sup.cs_of hS (fun j hj => ?_) (fun j hj => ?_) (fun j hj => ?_)
  · show (if j < 256 then srU _ j else false) = x.u j
    rw [if_pos hj]
    unfold srU
    rw [pb_get x _ (by omega)]
    have e : x.pb (12 + j / 8) = bt x.u (j / 8) := by
      unfold Sup.pb
      rw [if_neg (by omega), if_neg (by omega), if_pos (by omega), show 12 + j / 8 - 12 = j / 8 by omega]
    rw [e, ub_bt _ _ _ (by omega), show 8 * (j / 8) + j % 8 = j by omega]
  · show (if 1 ≤ j ∧ j < 64 + 1 then srI _ (j - 1) else 0) = x.i j
    by_cases h0 : j = 0
    · subst h0
      rw [if_neg (by omega)]
      exact h.2.2.1.symm
    · rw [if_pos (by omega)]
      obtain ⟨a, rfl⟩ : ∃ a, j = a + 1 := ⟨j - 1, by omega⟩
      rw [Nat.add_sub_cancel]
      have hb := oka_b (h.2.2.2 (a + 1) hj)
      unfold srI
      rw [lst_drop_take x.pb 256 (44 + 2 * a) 2 (by omega)]
      have e : lst 2 (fun j => x.pb (44 + 2 * a + j)) = leb (x.i (a + 1)).toNat 2 := by
        rw [leb_lst]
        refine lst_congr fun j hj => ?_
        unfold Sup.pb
        rw [if_neg (by omega), if_neg (by omega), if_neg (by omega), if_pos (by omega), show 1 + (44 + 2 * a + j - 44) / 2 = a + 1 by omega, show (44 + 2 * a + j - 44) % 2 = j by omega]
      rw [e, num_leb]
      have e2 : (256 : Nat) ^ 2 = 65536 := rfl
      omega
  · show (if 1 ≤ j ∧ j < 64 + 1 then srO _ (j - 1) else false) = x.o j
    by_cases h0 : j = 0
    · subst h0
      rw [if_neg (by omega)]
      have h1 := h.2.2.2 0 (by omega)
      unfold Sup.OkA at h1
      rw [if_pos h.2.2.1] at h1
      exact h1.symm
    · rw [if_pos (by omega)]
      obtain ⟨a, rfl⟩ : ∃ a, j = a + 1 := ⟨j - 1, by omega⟩
      rw [Nat.add_sub_cancel]
      unfold srO
      rw [pb_get x _ (by omega)]
      have e : x.pb (172 + a / 8) = bt (fun k => x.o (k + 1)) (a / 8) := by
        unfold Sup.pb
        rw [if_neg (by omega), if_neg (by omega), if_neg (by omega), if_neg (by omega), if_pos (by omega), show 172 + a / 8 - 172 = a / 8 by omega]
      rw [e, ub_bt _ _ _ (by omega), show 8 * (a / 8) + a % 8 = a by omega]
theorem cs_inj {x y : Sup} (h : x.cs = y.cs) : x.s = y.s ∧ (∀ j, j < 256 → x.u j = y.u j) ∧ (∀ j, j < 65 → x.i j = y.i j) ∧ ∀ j, j < 65 → x.o j = y.o j := by
  refine ⟨?_, fun j hj => ?_, fun j hj => ?_, fun j hj => ?_⟩
  · have h1 := x.c_s
    rw [h, y.c_s] at h1
    injection h1 with h1
    injection h1 with _ h1
    omega
  · have h1 := x.c_u hj
    rw [h, y.c_u hj] at h1
    injection h1 with h1
    injection h1 with h1
    exact h1.symm
  · have h1 := x.c_i hj
    rw [h, y.c_i hj] at h1
    injection h1 with h1
    injection h1 with _ h1
    exact h1.symm
  · have h1 := x.c_o hj
    rw [h, y.c_o hj] at h1
    injection h1 with h1
    injection h1 with h1
    exact h1.symm
theorem pb_congr {x y : Sup} (e1 : y.s = x.s) (e2 : ∀ j, j < 256 → y.u j = x.u j) (e3 : ∀ j, j < 65 → y.i j = x.i j) (e4 : ∀ j, j < 65 → y.o j = x.o j) (j : Nat) (hj : j < 256) : y.pb j = x.pb j := by
  have eu : ∀ k, k < 32 → bt y.u k = bt x.u k := fun k hk => by
    unfold bt
    have : ∀ m, m ≤ 8 → bn y.u k m = bn x.u k m := fun m => by
      induction m with
      | zero => intro _; rfl
      | succ m ih => intro hm; rw [bn_step, bn_step, ih (by omega), e2 (8 * k + m) (by omega)]
    rw [this 8 (by omega)]
  have eo : ∀ k, k < 8 → bt (fun j => y.o (j + 1)) k = bt (fun j => x.o (j + 1)) k := fun k hk => by
    unfold bt
    have : ∀ m, m ≤ 8 → bn (fun j => y.o (j + 1)) k m = bn (fun j => x.o (j + 1)) k m := fun m => by
      induction m with
      | zero => intro _; rfl
      | succ m ih => intro hm; rw [bn_step, bn_step, ih (by omega), e4 (8 * k + m + 1) (by omega)]
    rw [this 8 (by omega)]
  unfold Sup.pb
  by_cases c1 : j < 4
  · rw [if_pos c1, if_pos c1]
  · rw [if_neg c1, if_neg c1]
    by_cases c2 : j < 12
    · rw [if_pos c2, if_pos c2, e1]
    · rw [if_neg c2, if_neg c2]
      by_cases c3 : j < 44
      · rw [if_pos c3, if_pos c3, eu _ (by omega)]
      · rw [if_neg c3, if_neg c3]
        by_cases c4 : j < 172
        · rw [if_pos c4, if_pos c4, e3 _ (by omega)]
        · rw [if_neg c4, if_neg c4]
          by_cases c5 : j < 180
          · rw [if_pos c5, if_pos c5, eo _ (by omega)]
          · rw [if_neg c5, if_neg c5]
theorem sok_pb (x : Sup) (h : x.May) (hs64 : x.s < 18446744073709551616) : SOk (lst 256 x.pb) := by
  have e := sr_pb x h hs64
  obtain ⟨e1, e2, e3, e4⟩ := cs_inj e
  refine ⟨lst_len _ _, ⟨by rw [e1]; exact h.1, by rw [e2 0 (by omega)]; exact h.2.1, by rw [e3 0 (by omega)]; exact h.2.2.1, fun j hj => ?_⟩, ?_⟩
  · have h1 := h.2.2.2 j hj
    unfold Sup.OkA at h1 ⊢
    rw [e3 j hj, e4 j hj]
    by_cases h0 : x.i j = 0
    · rw [if_pos h0] at h1 ⊢
      exact h1
    · rw [if_neg h0] at h1 ⊢
      refine ⟨h1.1, h1.2.1, by rw [e2 _ (by omega)]; exact h1.2.2.1, fun k hk => ?_⟩
      rw [e3 k (by omega)]
      exact h1.2.2.2 k hk
  · exact lst_congr fun j hj => pb_congr e1 e2 e3 e4 j hj
end Go.Proofs.Ytcebbpdclgejdaa
