/- Plain facts of reading leaves: what is read of a list's leaves is the list. No conditions. -/
import Derived.Test.YtijffkklhgnknaaDoorRf
set_option linter.unusedVariables false
set_option maxRecDepth 20000
namespace Go.Proofs.YtijffkklhgnknaaDoor
open Go.RowKit

/-- An entry read, and what is left. -/
def rdE (s : List UInt8 × Bool) : Ent × (List UInt8 × Bool) :=
  let a := nnx 1 s.1 s.2
  let b := nnx 1 a.2.1 a.2.2
  let c := nnx 8 b.2.1 b.2.2
  let d := nnx 4 c.2.1 c.2.2
  let t := tnx d.2.1 d.2.2
  (⟨⟨t.1.toArray⟩, (num a.1 : Int), num c.1, (num b.1 : Int), num d.1⟩, (t.2.1, t.2.2))
/-- What is left behind so many entries. -/
def rdS (s : List UInt8 × Bool) : Nat → List UInt8 × Bool
  | 0 => s
  | k + 1 => (rdE (rdS s k)).2
def rdL (s : List UInt8 × Bool) (k : Nat) : List Ent := (List.range k).map fun j => (rdE (rdS s j)).1
theorem rdL_succ (s : List UInt8 × Bool) (k : Nat) : rdL s (k + 1) = rdL s k ++ [(rdE (rdS s k)).1] := by simp [rdL, List.range_succ]
/-- The entries of a block. -/
def readL (b : List UInt8) : List Ent := rdL ((nnx 1 b false).2.1, (nnx 1 b false).2.2) (num (nnx 1 b false).1)
def prs (Bs : List (List UInt8)) : List Ent := Bs.flatMap readL
theorem nnx_le (n : Int) (l : List UInt8) (bad : Bool) : (nnx n l bad).2.1.length ≤ l.length := by
  unfold nnx
  split
  · simp
  · exact (nxt_le n l bad).2
theorem tnx_le (l : List UInt8) (bad : Bool) : (tnx l bad).1.length ≤ l.length ∧ (tnx l bad).2.1.length ≤ l.length := by
  unfold tnx
  have h1 := nxt_le 2 l bad
  have h2 := nxt_le (num (nxt 2 l bad).1 : Nat) (nxt 2 l bad).2.1 (nxt 2 l bad).2.2
  omega
theorem rdE_le (s : List UInt8 × Bool) : (rdE s).2.1.length ≤ s.1.length ∧ (rdE s).1.nm.size ≤ s.1.length := by
  have h1 := nnx_le 1 s.1 s.2
  unfold rdE
  dsimp only
  generalize nnx 1 s.1 s.2 = a at *
  have h2 := nnx_le 1 a.2.1 a.2.2
  generalize nnx 1 a.2.1 a.2.2 = b at *
  have h3 := nnx_le 8 b.2.1 b.2.2
  generalize nnx 8 b.2.1 b.2.2 = c at *
  have h4 := nnx_le 4 c.2.1 c.2.2
  generalize nnx 4 c.2.1 c.2.2 = d at *
  have h5 := tnx_le d.2.1 d.2.2
  generalize tnx d.2.1 d.2.2 = t at *
  have e : (⟨t.1.toArray⟩ : ByteArray).size = t.1.length := by simp [ByteArray.size]
  rw [e]
  constructor <;> omega
theorem rdS_le (s : List UInt8 × Bool) : ∀ k, (rdS s k).1.length ≤ s.1.length
  | 0 => Nat.le_refl _
  | k + 1 => Nat.le_trans (rdE_le (rdS s k)).1 (rdS_le s k)
theorem num_nnx_lt (n : Int) (l : List UInt8) (bad : Bool) (k : Nat) (hk : n = (k : Int)) : num (nnx n l bad).1 < 256 ^ k := by
  have h1 : (nnx n l bad).1.length ≤ k := by
    unfold nnx
    split
    · simp
    · have := nxt_one n l bad (by omega)
      omega
  exact Nat.lt_of_lt_of_le (num_lt _) (Nat.pow_le_pow_right (by omega) h1)
theorem rdE_wide (s : List UInt8 × Bool) : (rdE s).1.ser < 18446744073709551616 ∧ (rdE s).1.ck < 4294967296 := ⟨num_nnx_lt 8 _ _ 8 rfl, num_nnx_lt 4 _ _ 4 rfl⟩
theorem prs_ok {Bs : List (List UInt8)} {M : Nat} (h : ∀ b ∈ Bs, b.length ≤ M) : Wide (prs Bs) ∧ ∀ e ∈ prs Bs, e.nm.size ≤ M := by
  have h1 : ∀ e ∈ prs Bs, (e.ser < 18446744073709551616 ∧ e.ck < 4294967296) ∧ e.nm.size ≤ M := fun e he => by
    obtain ⟨b, hb, he⟩ := List.mem_flatMap.1 he
    obtain ⟨j, _, rfl⟩ := List.mem_map.1 he
    refine ⟨rdE_wide _, Nat.le_trans (rdE_le _).2 (Nat.le_trans (rdS_le _ _) (Nat.le_trans (nnx_le 1 b false) (h b hb)))⟩
  exact ⟨fun e he => (h1 e he).1, fun e he => (h1 e he).2⟩
/-! There and back. -/
theorem nxt_app (n : Nat) (a r : List UInt8) (h : a.length = n) : nxt (n : Int) (a ++ r) false = (a, r, false) := by
  unfold nxt
  rw [if_neg (by simp; omega), Int.toNat_natCast, List.take_left' h, List.drop_left' h]
theorem nnx_app (n : Nat) (a r : List UInt8) (h : a.length = n) (hw : wid (n : Int) ≠ 0) : nnx (n : Int) (a ++ r) false = (a, r, false) := by
  unfold nnx
  rw [if_neg hw, nxt_app n a r h]
theorem rdE_enb (x : Ent) (i k s : Nat) (hn : Nice x i k s) (r : List UInt8) : rdE (enb x ++ r, false) = (x, (r, false)) := by
  obtain ⟨hi, hk, hil, hkl, hser, hck, hnm, hsl⟩ := hn
  have e : enb x ++ r = leb i 1 ++ (leb k 1 ++ (leb x.ser 8 ++ (leb x.ck 4 ++ (leb s 2 ++ (x.nm.data.toList ++ r))))) := by
    unfold enb
    rw [hi, hk, hnm, Int.toNat_natCast, Int.toNat_natCast]
    simp only [List.append_assoc]
  have a1 := nnx_app 1 (leb i 1) (leb k 1 ++ (leb x.ser 8 ++ (leb x.ck 4 ++ (leb s 2 ++ (x.nm.data.toList ++ r))))) (leb_len _ _) (by decide)
  have a2 := nnx_app 1 (leb k 1) (leb x.ser 8 ++ (leb x.ck 4 ++ (leb s 2 ++ (x.nm.data.toList ++ r)))) (leb_len _ _) (by decide)
  have a3 := nnx_app 8 (leb x.ser 8) (leb x.ck 4 ++ (leb s 2 ++ (x.nm.data.toList ++ r))) (leb_len _ _) (by decide)
  have a4 := nnx_app 4 (leb x.ck 4) (leb s 2 ++ (x.nm.data.toList ++ r)) (leb_len _ _) (by decide)
  have a5 := nxt_app 2 (leb s 2) (x.nm.data.toList ++ r) (leb_len _ _)
  have hs : num (leb s 2) = s := by rw [num_leb]; exact Nat.mod_eq_of_lt (by omega)
  have a6 := nxt_app s x.nm.data.toList r hnm
  have t : tnx (leb s 2 ++ (x.nm.data.toList ++ r)) false = (x.nm.data.toList, r, false) := by
    unfold tnx
    rw [show (2 : Int) = ((2 : Nat) : Int) from rfl, a5]
    dsimp only
    rw [hs, a6]
  rw [e]
  unfold rdE
  dsimp only
  rw [show (1 : Int) = ((1 : Nat) : Int) from rfl, show (8 : Int) = ((8 : Nat) : Int) from rfl, show (4 : Int) = ((4 : Nat) : Int) from rfl]
  rw [a1]
  dsimp only
  rw [a2]
  dsimp only
  rw [a3]
  dsimp only
  rw [a4]
  dsimp only
  rw [t]
  dsimp only
  rw [num_leb, num_leb, num_leb, num_leb, Nat.mod_eq_of_lt (by omega : i < 256 ^ 1), Nat.mod_eq_of_lt (by omega : k < 256 ^ 1), Nat.mod_eq_of_lt (by omega : x.ser < 256 ^ 8), Nat.mod_eq_of_lt (by omega : x.ck < 256 ^ 4), ← hi, ← hk]
theorem packL_cons (x : Ent) (X : List Ent) : packL (x :: X) = enb x ++ packL X := rfl
theorem rdS_pack {X : List Ent} (h : NiceL X) (r : List UInt8) : ∀ k, k ≤ X.length → rdS (packL X ++ r, false) k = (packL (X.drop k) ++ r, false)
  | 0, _ => by simp [rdS]
  | k + 1, hk => by
    rw [rdS, rdS_pack h r k (by omega)]
    have hx : X[k] ∈ X := List.getElem_mem (by omega)
    obtain ⟨i, q, s, hn, _⟩ := h _ hx
    rw [← List.getElem_cons_drop (by omega : k < X.length), packL_cons, List.append_assoc, rdE_enb _ i q s hn]
theorem rdL_pack {X : List Ent} (h : NiceL X) (r : List UInt8) : ∀ k, k ≤ X.length → rdL (packL X ++ r, false) k = X.take k
  | 0, _ => by simp [rdL]
  | k + 1, hk => by
    rw [rdL_succ, rdL_pack h r k (by omega), rdS_pack h r k (by omega)]
    have hx : X[k] ∈ X := List.getElem_mem (by omega)
    obtain ⟨i, q, s, hn, _⟩ := h _ hx
    rw [← List.getElem_cons_drop (by omega : k < X.length), packL_cons, List.append_assoc, rdE_enb _ i q s hn, List.take_succ_eq_append_getElem (by omega)]
theorem fitL_255 {R : List Ent} : fitL 255 R < 256 := by
  have h1 := fitL_pack R 255
  have h2 : ∀ L : List Ent, L.length ≤ (packL L).length := fun L => by
    induction L with
    | nil => exact Nat.le_refl _
    | cons y L ih => rw [packL_cons, List.length_append, List.length_cons]; have := enb_len y; omega
  have h3 := h2 (R.take (fitL 255 R))
  rw [List.length_take] at h3
  have := fitL_le R 255
  omega
theorem NiceL.take {X : List Ent} (h : NiceL X) (k : Nat) : NiceL (X.take k) := fun e he => h e (List.mem_of_mem_take he)
theorem NiceL.drop {X : List Ent} (h : NiceL X) (k : Nat) : NiceL (X.drop k) := fun e he => h e (List.mem_of_mem_drop he)
theorem read_leaf {R : List Ent} (h : NiceL R) : readL (leafB R) = R.take (fitL 255 R) := by
  have h1 := nnx_app 1 [UInt8.ofNat (fitL 255 R)] (packL (R.take (fitL 255 R)) ++ List.replicate (255 - (packL (R.take (fitL 255 R))).length) 0) rfl (by decide)
  have h2 : nnx 1 (leafB R) false = ([UInt8.ofNat (fitL 255 R)], packL (R.take (fitL 255 R)) ++ List.replicate (255 - (packL (R.take (fitL 255 R))).length) 0, false) := h1
  have hn : num [UInt8.ofNat (fitL 255 R)] = fitL 255 R := by
    have := fitL_255 (R := R)
    simp [num]
    omega
  unfold readL
  rw [h2]
  dsimp only
  rw [hn, rdL_pack (h.take _) _ _ (by rw [List.length_take]; have := fitL_le R 255; omega), List.take_take, Nat.min_self]
theorem prs_leavesN : ∀ (f : Nat) {X : List Ent}, NiceL X → X.length ≤ f → prs (leavesN f X) = X
  | 0, X, _, h => by
    have : X = [] := List.eq_nil_of_length_eq_zero (by omega)
    subst this
    rfl
  | f + 1, X, hn, h => by
    unfold leavesN
    by_cases h0 : X = []
    · rw [if_pos h0, h0]
      rfl
    · rw [if_neg h0]
      have hp := fitL_pos h0 (niceL_enb hn)
      show readL (leafB X) ++ prs (leavesN f (X.drop (fitL 255 X))) = X
      rw [read_leaf hn, prs_leavesN f (hn.drop _) (by rw [List.length_drop]; omega), List.take_append_drop]
theorem prs_leaves {X : List Ent} (h : NiceL X) : prs (leaves X) = X := prs_leavesN _ h (Nat.le_refl _)
theorem leavesN_len : ∀ (f : Nat) {X : List Ent}, NiceL X → (leavesN f X).length ≤ X.length
  | 0, X, _ => by simp [leavesN]
  | f + 1, X, hn => by
    unfold leavesN
    by_cases h0 : X = []
    · rw [if_pos h0]; simp
    · rw [if_neg h0]
      have hp := fitL_pos h0 (niceL_enb hn)
      have hl := fitL_le X 255
      have h1 := leavesN_len f (hn.drop (fitL 255 X))
      rw [List.length_drop] at h1
      rw [List.length_cons]
      omega
theorem leavesN_get : ∀ (f : Nat) {X : List Ent} {i : Nat} {b : List UInt8}, NiceL X → X.length ≤ f → (leavesN f X)[i]? = some b → ∃ R, b = leafB R ∧ NiceL R ∧ R = X.drop (prs ((leavesN f X).take i)).length
  | 0, X, i, b, _, _, hb => by simp [leavesN] at hb
  | f + 1, X, i, b, hn, hf, hb => by
    by_cases h0 : X = []
    · unfold leavesN at hb
      rw [if_pos h0] at hb
      simp at hb
    · have hl : leavesN (f + 1) X = leafB X :: leavesN f (X.drop (fitL 255 X)) := by rw [leavesN, if_neg h0]
      have hp := fitL_pos h0 (niceL_enb hn)
      have hle := fitL_le X 255
      rw [hl] at hb ⊢
      cases i with
      | zero =>
        simp at hb
        exact ⟨X, hb.symm, hn, by simp [prs]⟩
      | succ i =>
        obtain ⟨R, h1, h2, h3⟩ := leavesN_get f (hn.drop (fitL 255 X)) (by rw [List.length_drop]; omega) (by simpa using hb)
        refine ⟨R, h1, h2, ?_⟩
        rw [h3, List.drop_drop]
        congr 1
        simp only [List.take_succ_cons, prs, List.flatMap_cons, List.length_append]
        rw [read_leaf hn, List.length_take]
        omega
/-- What Parse answers. -/
def OkB (Bs : List (List UInt8)) : Prop := MayL (prs Bs) ∧ leaves (prs Bs) = Bs
open Classical in
noncomputable def prL (Bs : List (List UInt8)) : List Ent := if OkB Bs then prs Bs else []
open Classical in
noncomputable def prE (Bs : List (List UInt8)) : Int := if OkB Bs then 0 else 5
theorem okb_of {Bs : List (List UInt8)} {X : List Ent} (h : MayL X) (hw : Wide X) (he : leaves X = Bs) : OkB Bs ∧ prs Bs = X := by
  have h1 : prs Bs = X := by rw [← he]; exact prs_leaves (niceL_may h hw)
  exact ⟨⟨by rw [h1]; exact h, by rw [h1]; exact he⟩, h1⟩
theorem okb_len {Bs : List (List UInt8)} {M : Nat} (h : OkB Bs) (hM : ∀ b ∈ Bs, b.length ≤ M) : Bs.length ≤ 32 := by
  have h1 := leavesN_len (prs Bs).length (niceL_may h.1 (prs_ok hM).1)
  have h2 := h.1.1
  have h3 := congrArg List.length h.2
  unfold leaves at h3
  omega
end Go.Proofs.YtijffkklhgnknaaDoor
