/- Plain facts of the reference's reading: an entry at its place in a leaf. No conditions. -/
import Derived.Test.YtijffkklhgnknaaDoorMgSf0
set_option linter.unusedVariables false
set_option maxRecDepth 20000
namespace Go.Proofs.YtijffkklhgnknaaDoor
open Go.RowKit

def sub (b : List UInt8) (o n : Nat) : List UInt8 := (b.drop o).take n
theorem sub_at {b a m r : List UInt8} {p j n : Nat} (h : b.drop p = a ++ (m ++ r)) (ha : a.length = j) (hm : m.length = n) : sub b (p + j) n = m := by
  unfold sub
  rw [← List.drop_drop, h, List.drop_left' ha, List.take_left' hm]
theorem sub_len (b : List UInt8) (o n : Nat) : (sub b o n).length ≤ n := by unfold sub; rw [List.length_take]; omega
theorem sub_full {b : List UInt8} {o n : Nat} (h : o + n ≤ b.length) : (sub b o n).length = n := by unfold sub; rw [List.length_take, List.length_drop]; omega
theorem sub_one {b : List UInt8} {p : Nat} (h : p < b.length) : num (sub b p 1) = (b[p]).toNat := by
  unfold sub
  rw [List.drop_eq_getElem_cons h, List.take_succ_cons, List.take_zero]
  rfl
/-- The length of the name that stands there. -/
def refN (b : List UInt8) (p : Nat) : Nat := num (sub b (p + 14) 2)
/-- The entry that stands there. -/
def refE (b : List UInt8) (p : Nat) : Ent := ⟨⟨(sub b (p + 16) (refN b p)).toArray⟩, (num (sub b p 1) : Int), num (sub b (p + 2) 8), (num (sub b (p + 1) 1) : Int), num (sub b (p + 10) 4)⟩
theorem num_sub_lt (b : List UInt8) (o n : Nat) : num (sub b o n) < 256 ^ n := Nat.lt_of_lt_of_le (num_lt _) (Nat.pow_le_pow_right (by omega) (sub_len b o n))
theorem refE_wide (b : List UInt8) (p : Nat) : (refE b p).ser < 18446744073709551616 ∧ (refE b p).ck < 4294967296 := ⟨num_sub_lt b _ 8, num_sub_lt b _ 4⟩
theorem refE_nm (b : List UInt8) (p : Nat) : (refE b p).nm.size ≤ refN b p := by
  have e : (refE b p).nm.size = (sub b (p + 16) (refN b p)).length := by simp [refE, ByteArray.size]
  rw [e]
  exact sub_len _ _ _
theorem refE_enb {b : List UInt8} {p : Nat} (x : Ent) (i k s : Nat) (hn : Nice x i k s) (r : List UInt8) (h : b.drop p = enb x ++ r) : refE b p = x ∧ refN b p = x.nm.data.toList.length := by
  obtain ⟨hi, hk, hil, hkl, hser, hck, hnm, hsl⟩ := hn
  have e : b.drop p = leb i 1 ++ (leb k 1 ++ (leb x.ser 8 ++ (leb x.ck 4 ++ (leb s 2 ++ (x.nm.data.toList ++ r))))) := by
    rw [h]
    unfold enb
    rw [hi, hk, hnm, Int.toNat_natCast, Int.toNat_natCast]
    simp only [List.append_assoc]
  have a0 : sub b p 1 = leb i 1 := sub_at (a := []) (j := 0) e rfl (leb_len _ _)
  have a1 : sub b (p + 1) 1 = leb k 1 := sub_at e (leb_len _ _) (leb_len _ _)
  have a2 : sub b (p + 2) 8 = leb x.ser 8 := sub_at (a := leb i 1 ++ leb k 1) (r := leb x.ck 4 ++ (leb s 2 ++ (x.nm.data.toList ++ r))) (by rw [e]; simp only [List.append_assoc]) (by simp [leb_len]) (leb_len _ _)
  have a3 : sub b (p + 10) 4 = leb x.ck 4 := sub_at (a := leb i 1 ++ leb k 1 ++ leb x.ser 8) (r := leb s 2 ++ (x.nm.data.toList ++ r)) (by rw [e]; simp only [List.append_assoc]) (by simp [leb_len]) (leb_len _ _)
  have a4 : sub b (p + 14) 2 = leb s 2 := sub_at (a := leb i 1 ++ leb k 1 ++ leb x.ser 8 ++ leb x.ck 4) (r := x.nm.data.toList ++ r) (by rw [e]; simp only [List.append_assoc]) (by simp [leb_len]) (leb_len _ _)
  have a5 : sub b (p + 16) s = x.nm.data.toList := sub_at (a := leb i 1 ++ leb k 1 ++ leb x.ser 8 ++ leb x.ck 4 ++ leb s 2) (r := r) (by rw [e]; simp only [List.append_assoc]) (by simp [leb_len]) hnm
  have hs : num (leb s 2) = s := by rw [num_leb]; exact Nat.mod_eq_of_lt (by omega)
  have hN : refN b p = s := by unfold refN; rw [a4, hs]
  refine ⟨?_, by rw [hN, hnm]⟩
  unfold refE
  rw [hN, a0, a1, a2, a3, a5, num_leb, num_leb, num_leb, num_leb, Nat.mod_eq_of_lt (by omega : i < 256 ^ 1), Nat.mod_eq_of_lt (by omega : k < 256 ^ 1), Nat.mod_eq_of_lt (by omega : x.ser < 256 ^ 8), Nat.mod_eq_of_lt (by omega : x.ck < 256 ^ 4), ← hi, ← hk]
theorem leaf_step {R : List Ent} {k p : Nat} (h : NiceL R) (hk : k < fitL 255 R) (hp : p = 1 + (packL (R.take k)).length) : R.take (k + 1) = R.take k ++ [refE (leafB R) p] ∧ p + 16 + refN (leafB R) p = 1 + (packL (R.take (k + 1))).length ∧ p + 16 + refN (leafB R) p ≤ 256 := by
  have hle := fitL_le R 255
  obtain ⟨x, hx⟩ : ∃ x, R[k]? = some x := ⟨_, List.getElem?_eq_getElem (by omega)⟩
  have hin := fitL_in R 255 k x hx hk
  obtain ⟨i, q, s, hn, _⟩ := h x (List.mem_of_getElem? hx)
  have hkl : k < (R.take (fitL 255 R)).length := by rw [List.length_take]; omega
  have hge : (R.take (fitL 255 R))[k]'hkl = x := by
    have h1 : (R.take (fitL 255 R))[k]? = some x := by rw [List.getElem?_take, if_pos hk, hx]
    rw [List.getElem?_eq_getElem hkl] at h1
    exact Option.some.inj h1
  have hd : (leafB R).drop p = enb x ++ (packL ((R.take (fitL 255 R)).drop (k + 1)) ++ List.replicate (255 - (packL (R.take (fitL 255 R))).length) 0) := by
    have e1 : packL (R.take (fitL 255 R)) = packL (R.take k) ++ (enb x ++ packL ((R.take (fitL 255 R)).drop (k + 1))) := by
      have e2 : R.take (fitL 255 R) = R.take k ++ x :: (R.take (fitL 255 R)).drop (k + 1) := by
        have e3 := List.take_append_drop k (R.take (fitL 255 R))
        rw [List.drop_eq_getElem_cons hkl, hge, List.take_take, Nat.min_eq_left (by omega)] at e3
        exact e3.symm
      have e4 := congrArg packL e2
      rw [e4]
      unfold packL
      rw [List.flatMap_append, List.flatMap_cons]
    have e5 : leafB R = (UInt8.ofNat (fitL 255 R) :: packL (R.take k)) ++ (enb x ++ (packL ((R.take (fitL 255 R)).drop (k + 1)) ++ List.replicate (255 - (packL (R.take (fitL 255 R))).length) 0)) := by
      unfold leafB
      rw [List.cons_append]
      congr 1
      conv => lhs; arg 1; rw [e1]
      simp only [List.append_assoc]
    rw [e5]
    exact List.drop_left' (by rw [List.length_cons, hp]; omega)
  obtain ⟨h1, h2⟩ := refE_enb x i q s hn _ hd
  have hen := enb_len x
  have hps := packL_snoc hx
  refine ⟨?_, ?_, ?_⟩
  · rw [h1, List.take_add_one, hx]
    rfl
  · rw [h2, hps, List.length_append, hen]
    omega
  · rw [h2]
    omega
theorem leaf_head {R : List Ent} (h : 0 < (leafB R).length) : ((leafB R)[0]).toNat = fitL 255 R := by
  have h1 := fitL_255 (R := R)
  have h2 : (leafB R)[0] = UInt8.ofNat (fitL 255 R) := by
    have h3 : (leafB R)[0]? = some (UInt8.ofNat (fitL 255 R)) := by unfold leafB; rfl
    rw [List.getElem?_eq_getElem h] at h3
    exact Option.some.inj h3
  rw [h2]
  simp
  omega
/-- A leaf of a list. -/
theorem okb_leaf {Bs : List (List UInt8)} {M i : Nat} {b : List UInt8} (h : OkB Bs) (hM : ∀ b ∈ Bs, b.length ≤ M) (hb : Bs[i]? = some b) : ∃ R, b = leafB R ∧ NiceL R := by
  have hn := niceL_may h.1 (prs_ok hM).1
  have hb2 : (leavesN (prs Bs).length (prs Bs))[i]? = some b := by
    have : leavesN (prs Bs).length (prs Bs) = Bs := h.2
    rw [this]; exact hb
  obtain ⟨R, h1, h2, _⟩ := leavesN_get _ hn (Nat.le_refl _) hb2
  exact ⟨R, h1, h2⟩
/-- What holds while a block is read. -/
def MidB (Bs : List (List UInt8)) (i : Nat) (b : List UInt8) (k p : Nat) (L : List Ent) : Prop := OkB Bs → ∃ R, b = leafB R ∧ NiceL R ∧ k ≤ fitL 255 R ∧ p = 1 + (packL (R.take k)).length ∧ L = prs (Bs.take i) ++ R.take k
theorem MidB.begin {Bs : List (List UInt8)} {M i : Nat} {b : List UInt8} {L : List Ent} (hM : ∀ b ∈ Bs, b.length ≤ M) (hb : Bs[i]? = some b) (hL : OkB Bs → L = prs (Bs.take i)) : MidB Bs i b 0 1 L := fun h => by
  obtain ⟨R, h1, h2⟩ := okb_leaf h hM hb
  exact ⟨R, h1, h2, Nat.zero_le _, by simp [packL], by rw [hL h]; simp⟩
theorem MidB.no {Bs : List (List UInt8)} {i k p : Nat} {b : List UInt8} {L : List Ent} (h : MidB Bs i b k p L) (h0 : 0 < b.length) (hk : k < (b[0]).toNat) (hp : 256 < p + 16 + refN b p) : ¬ OkB Bs := fun ho => by
  obtain ⟨R, rfl, h2, h3, h4, h5⟩ := h ho
  rw [leaf_head] at hk
  have := (leaf_step h2 hk h4).2.2
  omega
theorem MidB.step {Bs : List (List UInt8)} {i k p : Nat} {b : List UInt8} {L : List Ent} (h : MidB Bs i b k p L) (h0 : 0 < b.length) (hk : k < (b[0]).toNat) : MidB Bs i b (k + 1) (p + 16 + refN b p) (L ++ [refE b p]) := fun ho => by
  obtain ⟨R, rfl, h2, h3, h4, h5⟩ := h ho
  rw [leaf_head] at hk
  obtain ⟨e1, e2, _⟩ := leaf_step h2 hk h4
  exact ⟨R, rfl, h2, hk, e2, by rw [h5, e1, List.append_assoc]⟩
theorem MidB.fin {Bs : List (List UInt8)} {i k p : Nat} {b : List UInt8} {L : List Ent} (h : MidB Bs i b k p L) (h0 : 0 < b.length) (hk : (b[0]).toNat ≤ k) (hb : Bs[i]? = some b) : OkB Bs → L = prs (Bs.take (i + 1)) := fun ho => by
  obtain ⟨R, rfl, h2, h3, h4, h5⟩ := h ho
  rw [leaf_head] at hk
  obtain rfl : k = fitL 255 R := by omega
  rw [h5]
  unfold prs
  rw [List.take_add_one, hb]
  simp [read_leaf h2]
theorem okb_256 {Bs : List (List UInt8)} {M i : Nat} {b : List UInt8} (hM : ∀ b ∈ Bs, b.length ≤ M) (hb : Bs[i]? = some b) (hl : b.length ≠ 256) : ¬ OkB Bs := fun h => by
  obtain ⟨R, h1, _⟩ := okb_leaf h hM hb
  exact hl (by rw [h1]; exact leafB_len R)
theorem okb_32 {Bs : List (List UInt8)} {i : Nat} {L : List Ent} (hL : OkB Bs → L = prs (Bs.take i)) (hl : 32 < L.length) : ¬ OkB Bs := fun h => by
  have h1 := h.1.1
  have h2 := hL h
  have h3 : (prs (Bs.take i)).length ≤ (prs Bs).length := by
    conv => rhs; rw [← List.take_append_drop i Bs]
    unfold prs
    rw [List.flatMap_append, List.length_append]
    omega
  rw [h2] at hl
  omega
end Go.Proofs.YtijffkklhgnknaaDoor
