/- Plain facts of leaves: an entry's bytes; how many entries a leaf has room for; a list's leaves. No conditions. -/
import Derived.Test.YtijffkklhgnknaaDoorMgMem
import Derived.Test.YtijffkklhgnknaaDoorChecked
import Derived.WalkKit
import Derived.WalkMore
import Derived.WalkSpells
import Derived.WalkLawsBesides
import Derived.Outline
set_option linter.unusedVariables false
namespace Go.Proofs.YtijffkklhgnknaaDoor
open Go.RowKit

/-- An entry's bytes. -/
def enb (e : Ent) : List UInt8 := leb e.ino.toNat 1 ++ leb e.kind.toNat 1 ++ leb e.ser 8 ++ leb e.ck 4 ++ leb e.nm.data.toList.length 2 ++ e.nm.data.toList
theorem enb_len (e : Ent) : (enb e).length = 16 + e.nm.data.toList.length := by simp [enb, leb_len]; omega
def packL (X : List Ent) : List UInt8 := X.flatMap enb
theorem packL_snoc {X : List Ent} {k : Nat} {x : Ent} (hx : X[k]? = some x) : packL (X.take (k + 1)) = packL (X.take k) ++ enb x := by
  unfold packL
  rw [List.take_add_one, hx]
  simp
/-- How many entries have room in so many bytes. -/
def fitL : Nat → List Ent → Nat
  | _, [] => 0
  | r, x :: L => if r < (enb x).length then 0 else fitL (r - (enb x).length) L + 1
theorem fitL_le : ∀ (L : List Ent) (r : Nat), fitL r L ≤ L.length
  | [], _ => Nat.zero_le _
  | x :: L, r => by
    unfold fitL
    split
    · exact Nat.zero_le _
    · have := fitL_le L (r - (enb x).length)
      simp
      omega
theorem fitL_in : ∀ (L : List Ent) (r k : Nat) (x : Ent), L[k]? = some x → k < fitL r L → (packL (L.take k)).length + (enb x).length ≤ r
  | [], _, _, _, hx, _ => by simp at hx
  | y :: L, r, k, x, hx, hk => by
    unfold fitL at hk
    split at hk
    · omega
    · rename_i h
      cases k with
      | zero =>
        simp at hx
        subst hx
        simp [packL]
        omega
      | succ k =>
        have h1 := fitL_in L (r - (enb y).length) k x (by simpa using hx) (by omega)
        simp only [packL, List.take_succ_cons, List.flatMap_cons, List.length_append] at h1 ⊢
        omega
theorem fitL_out : ∀ (L : List Ent) (r : Nat) (x : Ent), L[fitL r L]? = some x → r < (packL (L.take (fitL r L))).length + (enb x).length
  | [], _, _, hx => by simp at hx
  | y :: L, r, x, hx => by
    unfold fitL at hx ⊢
    split at hx
    · rename_i h
      simp at hx
      subst hx
      rw [if_pos h]
      simp [packL]
      exact h
    · rename_i h
      rw [if_neg h]
      have h1 := fitL_out L (r - (enb y).length) x (by simpa using hx)
      simp only [packL, List.take_succ_cons, List.flatMap_cons, List.length_append] at h1 ⊢
      omega
theorem fitL_pack (L : List Ent) (r : Nat) : (packL (L.take (fitL r L))).length ≤ r := by
  by_cases h0 : fitL r L = 0
  · rw [h0]
    simp [packL]
  · have hle := fitL_le L r
    obtain ⟨x, hx⟩ : ∃ x, L[fitL r L - 1]? = some x := ⟨_, List.getElem?_eq_getElem (by omega)⟩
    have h1 := fitL_in L r (fitL r L - 1) x hx (by omega)
    have h2 := packL_snoc hx
    rw [show fitL r L - 1 + 1 = fitL r L by omega] at h2
    rw [h2, List.length_append]
    exact h1
theorem fitL_pos {L : List Ent} {r : Nat} (h : L ≠ []) (hb : ∀ x ∈ L, (enb x).length ≤ r) : 1 ≤ fitL r L := by
  cases L with
  | nil => exact absurd rfl h
  | cons x L =>
    unfold fitL
    rw [if_neg (by have := hb x (by simp); omega)]
    omega
/-- A leaf's bytes. -/
def leafB (X : List Ent) : List UInt8 := UInt8.ofNat (fitL 255 X) :: (packL (X.take (fitL 255 X)) ++ List.replicate (255 - (packL (X.take (fitL 255 X))).length) 0)
theorem leafB_len (X : List Ent) : (leafB X).length = 256 := by
  have := fitL_pack X 255
  simp [leafB]
  omega
theorem leaf_lst (b : UInt8) (E : List UInt8) (h : E.length ≤ 255) : lst 256 (ov 1 E (ov 0 [b] fun _ => 0)) = b :: (E ++ List.replicate (255 - E.length) 0) := by
  apply List.ext_getElem?
  intro j
  by_cases hj : j < 256
  · rw [lst_get _ hj]
    cases j with
    | zero =>
      rw [ov_out (by omega), ov_in (by omega) (by simp)]
      rfl
    | succ j =>
      rw [List.getElem?_cons_succ]
      by_cases h1 : j < E.length
      · rw [ov_in (by omega) (by omega), List.getElem?_append_left h1, show j + 1 - 1 = j by omega, List.getD_eq_getElem?_getD, List.getElem?_eq_getElem h1]
        rfl
      · rw [ov_out (by omega), ov_out (by simp), List.getElem?_append_right (by omega), List.getElem?_replicate, if_pos (by omega)]
  · rw [List.getElem?_eq_none (by rw [lst_len]; omega), List.getElem?_eq_none (by simp; omega)]
/-- A list's leaves (as far as so many steps go). -/
def leavesN : Nat → List Ent → List (List UInt8)
  | 0, _ => []
  | f + 1, X => if X = [] then [] else leafB X :: leavesN f (X.drop (fitL 255 X))
theorem leavesN_nil (f : Nat) : leavesN f [] = [] := by
  cases f with
  | zero => rfl
  | succ f => unfold leavesN; rw [if_pos rfl]
theorem leavesN_step {f : Nat} {X : List Ent} (h : X ≠ []) (hf : X.length ≤ f) (hb : ∀ x ∈ X, (enb x).length ≤ 255) : ∃ f', leavesN f X = leafB X :: leavesN f' (X.drop (fitL 255 X)) ∧ (X.drop (fitL 255 X)).length ≤ f' := by
  cases f with
  | zero =>
    cases X with
    | nil => exact absurd rfl h
    | cons x L => simp at hf
  | succ f =>
    refine ⟨f, by rw [leavesN, if_neg h], ?_⟩
    have := fitL_pos h hb
    rw [List.length_drop]
    omega
def leaves (X : List Ent) : List (List UInt8) := leavesN X.length X
end Go.Proofs.YtijffkklhgnknaaDoor
/- The small functions of package wire: what each call leaves, for every argument (bytes of at most 2^46). -/
set_option linter.unusedVariables false
namespace Go.Proofs.YtijffkklhgnknaaDoor
open Go.RowKit

theorem info5 : (Tryd.prog.info? 5).map (fun i => (i.zero, i.size, i.bytes)) = some (some (.int .u8 0), 1, 1) := by kernel_rfl
theorem u8_table : ∃ i, U8 Tryd.prog 33 5 i := by
  obtain ⟨i, hi, hz, h1, h2⟩ := info_parts info5
  exact ⟨i, Tryd.underlying33, hi, hz, h1, h2⟩

theorem width_any (n : Int) (w : World) : Calls Tryd.prog 66 #[.int .i64 n] w fun e w' => e = .returned (.int .i64 (wid n : Nat)) ∧ w = w' := by
  by_cases h8 : n = 8
  · subst h8
    go_enter Tryd.func66, Tryd.ntmps66
    go_wp2
    go_ret
    exact ⟨rfl, rfl⟩
  by_cases h4 : n = 4
  · subst h4
    go_enter Tryd.func66, Tryd.ntmps66
    go_wp2
    go_ret
    exact ⟨rfl, rfl⟩
  by_cases h2 : n = 2
  · subst h2
    go_enter Tryd.func66, Tryd.ntmps66
    go_wp2
    go_ret
    exact ⟨rfl, rfl⟩
  by_cases h1 : n = 1
  · subst h1
    go_enter Tryd.func66, Tryd.ntmps66
    go_wp2
    go_ret
    exact ⟨rfl, rfl⟩
  have e8 : (n == 8) = false := by simp [h8]
  have e4 : (n == 4) = false := by simp [h4]
  have e2 : (n == 2) = false := by simp [h2]
  have e1 : (n == 1) = false := by simp [h1]
  have hw : wid n = 0 := by simp [wid, h8, h4, h2, h1]
  rw [hw]
  clear h8 h4 h2 h1 hw
  go_enter Tryd.func66, Tryd.ntmps66
  go_wp2
  go_ret
  exact ⟨rfl, rfl⟩

theorem room_any (A : Option Addr) (c : Nat) (l : List UInt8) (more : Nat) (w : World) (hA : Hol w A l) (hb : l.length + more ≤ 70368744177664) :
    Calls Tryd.prog 65 #[.slice A l.length c, .int .i64 more] w fun e w' => ∃ v, e = .returned v ∧ w'.ownsRow w.heap.size 5 1 v l.length (bc l) ∧ Below w.heap.size w w' := by
  obtain ⟨i, U⟩ := u8_table
  go_enter Tryd.func65, Tryd.ntmps65
  go_wp2_with (first
    | (refine wpList_make_own _ rfl _ _ 33 rfl w.heap.size 5 i (.int .u8 0) 1 U.ht U.hi U.hz U.h1 .i64 .i64 _ (l.length + more) rfl rfl (by omega) (by rw [U.h2]; omega) (by unfold maxLen; omega) (Nat.le_refl _) ?_
       intro w1 hown1 hg1)
    | (at_builtin
       refine wpList_app _ rfl _ _ _ rfl 5 i U w.heap.size _ 0 [] rfl hown1 A l.length c l rfl rfl (hA.below (below_of_grown hg1)) (by omega) hg1.size ?_
       intro v2 w2 hown2 hg2 hat2))
  go_ret
  refine ⟨v2, rfl, by simpa using hown2, (below_of_grown hg1).grown hg2 hg1.size (fun k hk => (hown1.lt k hk).1)⟩

/-- One byte in a new block of its own. -/
theorem hol_one (w : World) (e : TypeId) (x : UInt8) (z : Int) (hz : z = (x.toNat : Int)) : Hol (w.alloc (.cells #[.int .u8 z] e)) (some ⟨w.heap.size, 0, none⟩) [x] := by
  subst hz
  refine .inr ⟨w.heap.size, 0, rfl, fun j y hy => ?_⟩
  match j, hy with
  | 0, hy =>
    simp at hy
    subst hy
    simp

theorem byte_shr (x k : Nat) : (x : Int) / 2 ^ (8 * k) % 256 = ((UInt8.ofNat (x / 256 ^ k)).toNat : Int) := by
  have e : (UInt8.ofNat (x / 256 ^ k)).toNat = x / 256 ^ k % 256 := UInt8.toNat_ofNat' ..
  have e2 : (2 : Int) ^ (8 * k) = ((256 ^ k : Nat) : Int) := by
    rw [Int.pow_mul]
    simp
  rw [e, e2]
  omega

set_option maxHeartbeats 400000 in
theorem number_any (B : Nat) (v : Value) (n : Nat) (l : List UInt8) (size : Nat) (x : Nat) (w : World) (hown : w.ownsRow B 5 1 v n (bc l)) (hs : size ≤ 8) (hx : x < 18446744073709551616)
    (hn : n ≤ 70368744177664) (hB : B ≤ w.heap.size) :
    Calls Tryd.prog 78 #[v, .int .i64 size, .int .u64 x] w fun e w' => ∃ v', e = .returned v' ∧ w'.ownsRow B 5 1 v' (n + size) (bc (l ++ leb x size)) ∧ Below B w w' := by
  obtain ⟨i, U⟩ := u8_table
  go_enter Tryd.func78, Tryd.ntmps78
  go_wp2
  go_loopw [0, 9] (fun s i wr => ∃ k : Nat, k ≤ size ∧ i = .int .i64 k ∧ wr.ownsRow B 5 1 s (n + k) (bc (l ++ leb x k)) ∧ Below B w wr) (fun _ i _ => size - (intOf i).toNat)
  case atStart => exact ⟨0, Nat.zero_le _, rfl, by simpa [leb] using hown, Below.refl _ _⟩
  case round =>
    obtain ⟨k, hk, rfl, hown1, hb1⟩ := hrel
    by_cases hlt : k < size
    · go_wp2_with (at_builtin; refine wpList_app _ rfl _ _ _ rfl 5 i U B _ (n + k) _ rfl (hown1.alloc _) (some ⟨wr.heap.size, 0, none⟩) 1 1 [UInt8.ofNat (x / 256 ^ k)] rfl rfl (hol_one _ _ _ _ ?hz) (by omega) (by have := hb1.size; simp; omega) ?_)
      case hz => exact byte_shr x k
      intro v2 w2 hown2 hg2 hat2
      have hb2 : Below B w w2 := (hb1.alloc (by have := hb1.size; omega) _).grown hg2 (by have := hb1.size; simp; omega) (fun k hk => (hown1.lt k hk).1)
      have hown3 : w2.ownsRow B 5 1 v2 (n + (k + 1)) (bc (l ++ leb x (k + 1))) := by
        rw [leb_succ, ← List.append_assoc, bc_app]
        exact hown2
      clear hown2 hg2 hat2 hown1 hb1
      go_wp2
      go_roundw
      case rel => exact ⟨k + 1, by omega, by go_num, hown3, hb2⟩
      case measure => simp [intOf]; omega
    · go_wp2
      go_ret
      have hks : k = size := by omega
      subst hks
      exact ⟨_, rfl, hown1, hb1⟩

theorem put_arg (v : Value) (size : Int) (x : Nat) (w : World) (h : wid size = 0) :
    Calls Tryd.prog 64 #[v, .int .i64 size, .int .u64 x] w fun e w' => e = .returned (.tuple #[.slice none 0 0, .int .i64 201]) ∧ w = w' := by
  go_enter Tryd.func64, Tryd.ntmps64
  go_wp2_with (go_at_call 66; refine (width_any _ _).mono ?_; rintro e w' ⟨rfl, rfl⟩; rw [h])
  go_ret2
  exact ⟨rfl, rfl⟩

theorem put_long (v : Value) (size : Int) (x : Nat) (w : World) (h : wid size ≠ 0) (hx : x / 2 ^ wid size ≠ 0) (h64 : wid size < 64) :
    Calls Tryd.prog 64 #[v, .int .i64 size, .int .u64 x] w fun e w' => e = .returned (.tuple #[.slice none 0 0, .int .i64 202]) ∧ w = w' := by
  go_enter Tryd.func64, Tryd.ntmps64
  have hx2 : ((x : Int) / 2 ^ wid size != 0) = true := by
    rw [bne_iff_ne]
    intro e
    apply hx
    have : ((x / 2 ^ wid size : Nat) : Int) = 0 := by rw [← e]; simp
    omega
  have hw0 : ((wid size : Int) == 0) = false := by simp; omega
  clear hx h
  go_wp2_with (go_at_call 66; refine (width_any _ _).mono ?_; rintro e w' ⟨rfl, rfl⟩)
  go_ret2
  exact ⟨rfl, rfl⟩

/-- The address holds bytes in a row of bytes. -/
def RowB (w : World) (A : Option Addr) (l : List UInt8) : Prop :=
  l = [] ∨ ∃ h off cur, A = some ⟨h, off, none⟩ ∧ w.heap[h]? = some (.cells cur 5 (0, 0)) ∧ ∀ j x, l[j]? = some x → cur[off + j]? = some (.int .u8 (x.toNat : Int))
theorem RowB.hol {w : World} {A : Option Addr} {l : List UInt8} (h : RowB w A l) : Hol w A l := by
  rcases h with rfl | ⟨h, off, cur, rfl, hh, hc⟩
  · exact .inl rfl
  · exact .inr ⟨h, off, rfl, fun j x hx => by rw [cell_of_row w h (off + j) cur _ _ hh]; exact hc j x hx⟩
theorem RowB.take_ {w : World} {A : Option Addr} {l : List UInt8} (h : RowB w A l) (n : Nat) : RowB w A (l.take n) := by
  rcases h with rfl | ⟨h, off, cur, rfl, hh, hc⟩
  · exact .inl (by simp)
  · refine .inr ⟨h, off, cur, rfl, hh, fun j x hx => hc j x ?_⟩
    rw [List.getElem?_take] at hx
    split at hx
    · exact hx
    · cases hx
theorem RowB.drop_ {w : World} {h off : Nat} {l : List UInt8} (hr : RowB w (some ⟨h, off, none⟩) l) (n : Nat) : RowB w (some ⟨h, off + n, none⟩) (l.drop n) := by
  rcases hr with rfl | ⟨h', off', cur, e, hh, hc⟩
  · exact .inl (by simp)
  · injection e with e
    injection e with e1 e2
    subst e1 e2
    refine .inr ⟨h, off + n, cur, rfl, hh, fun j x hx => ?_⟩
    rw [List.getElem?_drop] at hx
    rw [Nat.add_assoc]
    exact hc (n + j) x hx
theorem RowB.grown {w w' : World} {A : Option Addr} {l : List UInt8} (h : RowB w A l) {row : Option Nat} (hg : w.grownBy w' row) (hr : ∀ b off, A = some ⟨b, off, none⟩ → l ≠ [] → some b ≠ row) : RowB w' A l := by
  by_cases hl : l = []
  · exact .inl hl
  · rcases h with h | ⟨h, off, cur, rfl, hh, hc⟩
    · exact absurd h hl
    · exact .inr ⟨h, off, cur, rfl, (hg.block h (Array.getElem?_eq_some_iff.1 hh).1 (hr h off rfl hl)).trans hh, hc⟩
theorem RowB.own {w : World} {base n c : Nat} {A : Option Addr} {l : List UInt8} (h : w.ownsRow base 5 1 (.slice A n c) n (bc l)) : RowB w A l := by
  by_cases hl : l = []
  · exact .inl hl
  · have hn : n = l.length := (own_form h).1
    rcases h.2 with ⟨h1, h2⟩ | ⟨g, cap, cur, h1, hb, hg, hn', hc, hs, ht⟩
    · exact absurd (List.eq_nil_of_length_eq_zero (by omega)) hl
    · simp only [Value.slice.injEq] at h1
      obtain ⟨rfl, _, rfl⟩ := h1
      refine .inr ⟨g, 0, cur, rfl, hg, fun j x hx => ?_⟩
      have hj := get_bc hx
      rw [← ht, List.getElem?_take] at hj
      split at hj
      · simpa using hj
      · cases hj

/-- A cursor: block g holds what is left and whether it is bad. -/
def Cur (w : World) (g : Nat) (l : List UInt8) (bad : Bool) : Prop :=
  ∃ A c, w.heap[g]? = some (.cells #[.slice A l.length c, .bool bad] 82 (0, 0)) ∧ l.length ≤ c ∧ c ≤ maxLen ∧ RowB w A l ∧ ∀ q o, A = some ⟨q, o, none⟩ → q < g
theorem RowB.apart {w : World} {g : Nat} {cs : Array Value} (hg : w.heap[g]? = some (.cells cs 82 (0, 0))) {A : Option Addr} {l : List UInt8} (h : RowB w A l) :
    ∀ b off, A = some ⟨b, off, none⟩ → l ≠ [] → some b ≠ some g := by
  intro b off hA hl e
  injection e with e
  subst e
  rcases h with h | ⟨h, off', cur, e, hh, _⟩
  · exact absurd h hl
  · rw [hA] at e
    injection e with e
    injection e with e1 e2
    subst e1
    rw [hg] at hh
    injection hh with hh
    injection hh with _ ht
    exact absurd ht (by decide)
theorem Cur.lt {w : World} {g : Nat} {l : List UInt8} {bad : Bool} (h : Cur w g l bad) : g < w.heap.size := by
  obtain ⟨A, c, hg, _⟩ := h
  exact (Array.getElem?_eq_some_iff.1 hg).1
theorem Cur.grown {w w' : World} {g : Nat} {l : List UInt8} {bad : Bool} (h : Cur w g l bad) {row : Option Nat} (hg : w.grownBy w' row) (hne : some g ≠ row)
    (hrow : ∀ k, row = some k → ∀ cs, w.heap[k]? ≠ some (.cells cs 5 (0, 0))) : Cur w' g l bad := by
  obtain ⟨A, c, hh, h1, h2, h3, h4⟩ := h
  refine ⟨A, c, (hg.block g (Array.getElem?_eq_some_iff.1 hh).1 hne).trans hh, h1, h2, h3.grown hg ?_, h4⟩
  intro b off hA hl e
  rcases h3 with h | ⟨h, off', cur, e', hh', _⟩
  · exact hl h
  · rw [hA] at e'
    injection e' with e'
    injection e' with e1 e2
    subst e1
    exact hrow b e.symm cur hh'
theorem Cur.below {w w' : World} {g : Nat} {l : List UInt8} {bad : Bool} (h : Cur w g l bad) (hb : Below w.heap.size w w') : Cur w' g l bad :=
  h.grown (row := none) (grown_of_below hb) (by simp) (by intro k hk; cases hk)
theorem grown_two (w : World) (g : Nat) (a b : Value) : w.grownBy ((w.setCell ⟨g, 0, none⟩ a).setCell ⟨g, 1, none⟩ b) (some g) :=
  grown_trans (grown_set w ⟨g, 0, none⟩ a) (grown_set _ ⟨g, 1, none⟩ b)
theorem cur_set {w : World} {g : Nat} {a b : Value} (hg : w.heap[g]? = some (.cells #[a, b] 82 (0, 0))) (A : Option Addr) (n c : Nat) (l : List UInt8) (bad : Bool) (hn : n = l.length) (h1 : l.length ≤ c) (h2 : c ≤ maxLen) (hr : RowB w A l) (hq : ∀ q o, A = some ⟨q, o, none⟩ → q < g) :
    Cur ((w.setCell ⟨g, 0, none⟩ (.slice A n c)).setCell ⟨g, 1, none⟩ (.bool bad)) g l bad := by
  subst hn
  refine ⟨A, c, ?_, h1, h2, hr.grown (grown_two w g _ _) (RowB.apart hg hr), hq⟩
  rw [heap_set (heap_set hg 0 _) 1 _]
  rfl
theorem cur_set1 {w : World} {g : Nat} {a : Value} {bad : Bool} (hg : w.heap[g]? = some (.cells #[a, .bool bad] 82 (0, 0))) (A : Option Addr) (n c : Nat) (l : List UInt8) (hn : n = l.length) (h1 : l.length ≤ c) (h2 : c ≤ maxLen) (hr : RowB w A l) (hq : ∀ q o, A = some ⟨q, o, none⟩ → q < g) :
    Cur (w.setCell ⟨g, 0, none⟩ (.slice A n c)) g l bad := by
  subst hn
  refine ⟨A, c, ?_, h1, h2, hr.grown (grown_set w ⟨g, 0, none⟩ _) (RowB.apart hg hr), hq⟩
  rw [heap_set hg 0 _]
  rfl

theorem left_any (g : Nat) (l : List UInt8) (bad : Bool) (w : World) (hc : Cur w g l bad) :
    Calls Tryd.prog 79 #[.pointer (some ⟨g, 0, none⟩)] w fun e w' => e = .returned (.int .i64 l.length) ∧ w = w' := by
  obtain ⟨A, c, hg, h1, h2, _⟩ := hc
  have hc0 : w.cell? ⟨g, 0, none⟩ = some (.slice A l.length c) := by rw [cell_of_row w g 0 _ _ _ hg]; rfl
  go_enter Tryd.func79, Tryd.ntmps79
  go_wp2
  go_ret
  exact ⟨rfl, rfl⟩
theorem left_nil (w : World) : Calls Tryd.prog 79 #[.pointer none] w fun e w' => e = .returned (.int .i64 0) ∧ w = w' := by
  go_enter Tryd.func79, Tryd.ntmps79
  go_wp2
  go_ret
  exact ⟨rfl, rfl⟩
theorem spoil_nil (w : World) : Calls Tryd.prog 67 #[.pointer none] w fun e w' => e = .returned (.tuple #[]) ∧ w = w' := by
  go_enter Tryd.func67, Tryd.ntmps67
  go_wp2
  go_end0
  exact ⟨rfl, rfl⟩
theorem spoil_any (g : Nat) (l : List UInt8) (bad : Bool) (w : World) (hc : Cur w g l bad) :
    Calls Tryd.prog 67 #[.pointer (some ⟨g, 0, none⟩)] w fun e w' => e = .returned (.tuple #[]) ∧ Cur w' g [] true ∧ w.grownBy w' (some g) := by
  obtain ⟨A, c, hg, h1, h2, _⟩ := hc
  have hc0 : w.cell? ⟨g, 0, none⟩ = some (.slice A l.length c) := by rw [cell_of_row w g 0 _ _ _ hg]; rfl
  have hc1 : w.cell? ⟨g, 1, none⟩ = some (.bool bad) := by rw [cell_of_row w g 1 _ _ _ hg]; rfl
  have hf0 : w.frozen? ⟨g, 0, none⟩ = false := by simp [World.frozen?, hg]
  have hf1 : w.frozen? ⟨g, 1, none⟩ = false := by simp [World.frozen?, hg]
  go_enter Tryd.func67, Tryd.ntmps67
  go_wp2
  go_end0
  exact ⟨rfl, cur_set hg none 0 0 [] true rfl (Nat.le_refl _) (by decide) (.inl rfl) (fun q o e => by cases e), grown_two w g _ _⟩

theorem next_nil (n : Int) (w : World) : Calls Tryd.prog 68 #[.pointer none, .int .i64 n] w fun e w' => e = .returned (.slice none 0 0) ∧ w = w' := by
  by_cases h0 : n < 0
  · go_enter Tryd.func68, Tryd.ntmps68
    go_wp2_with (go_at_call 67; refine (spoil_nil _).mono ?_; rintro e w' ⟨rfl, rfl⟩)
    go_ret
    exact ⟨rfl, rfl⟩
  by_cases h1 : 0 < n
  · have hd : decide (n < 0) = false := by simpa using h0
    go_enter Tryd.func68, Tryd.ntmps68
    go_wp2_with (first
      | (go_at_call 67; refine (spoil_nil _).mono ?_; rintro e w' ⟨rfl, rfl⟩)
      | (go_at_call 79; refine (left_nil _).mono ?_; rintro e w' ⟨rfl, rfl⟩))
    go_ret
    exact ⟨rfl, rfl⟩
  obtain rfl : n = 0 := by omega
  go_enter Tryd.func68, Tryd.ntmps68
  go_wp2_with (go_at_call 79; refine (left_nil _).mono ?_; rintro e w' ⟨rfl, rfl⟩)
  go_ret
  exact ⟨rfl, rfl⟩

/-- What a call of next leaves. -/
def NextPost (w : World) (g : Nat) (r : List UInt8 × List UInt8 × Bool) (e : Ending) (w' : World) : Prop :=
  ∃ A c, e = .returned (.slice A r.1.length c) ∧ r.1.length ≤ c ∧ c ≤ maxLen ∧ Hol w' A r.1 ∧ Cur w' g r.2.1 r.2.2 ∧ w.grownBy w' (some g)

theorem next_any (g : Nat) (l : List UInt8) (bad : Bool) (n : Int) (w : World) (hc : Cur w g l bad) (hl : l.length ≤ 140737488355328) :
    Calls Tryd.prog 68 #[.pointer (some ⟨g, 0, none⟩), .int .i64 n] w (NextPost w g (nxt n l bad)) := by
  by_cases h0 : n < 0
  · have hnx : nxt n l bad = ([], [], true) := by unfold nxt; rw [if_pos (.inl h0)]
    rw [hnx]
    go_enter Tryd.func68, Tryd.ntmps68
    go_wp2_with (go_at_call 67; refine (spoil_any g l bad _ hc).mono ?_; rintro e w' ⟨rfl, hc', hg'⟩)
    go_ret
    exact ⟨none, 0, rfl, Nat.le_refl _, by decide, .inl rfl, hc', hg'⟩
  have hd : decide (n < 0) = false := by simpa using h0
  by_cases h1 : (l.length : Int) < n
  · have hnx : nxt n l bad = ([], [], true) := by unfold nxt; rw [if_pos (.inr h1)]
    rw [hnx]
    go_enter Tryd.func68, Tryd.ntmps68
    go_wp2_with (first
      | (go_at_call 67; refine (spoil_any g l bad _ hc).mono ?_; rintro e w' ⟨rfl, hc', hg'⟩)
      | (go_at_call 79; refine (left_any g l bad _ hc).mono ?_; rintro e w' ⟨rfl, rfl⟩))
    go_ret
    exact ⟨none, 0, rfl, Nat.le_refl _, by decide, .inl rfl, hc', hg'⟩
  have hnx : nxt n l bad = (l.take n.toNat, l.drop n.toNat, bad) := by unfold nxt; rw [if_neg (by omega)]
  rw [hnx]
  by_cases h2 : n = 0
  · subst h2
    go_enter Tryd.func68, Tryd.ntmps68
    go_wp2_with (go_at_call 79; refine (left_any g l bad _ hc).mono ?_; rintro e w' ⟨rfl, rfl⟩)
    go_ret
    exact ⟨none, 0, rfl, Nat.le_refl _, by decide, .inl rfl, hc, ⟨rfl, rfl, rfl, Nat.le_refl _, fun _ _ _ => rfl⟩⟩
  obtain ⟨m, rfl⟩ := Int.eq_ofNat_of_zero_le (by omega : 0 ≤ n)
  have hm : 0 < m ∧ m ≤ l.length := by omega
  have hne : l ≠ [] := by intro e; subst e; simp at hm; omega
  obtain ⟨A, c, hg, hl1, hl2, hrow, hqg⟩ := id hc
  obtain ⟨q, off, rfl⟩ : ∃ q off, A = some ⟨q, off, none⟩ := by
    rcases hrow with e | ⟨q, off, cur, e, _⟩
    · exact absurd e hne
    · exact ⟨q, off, e⟩
  have hc0 : w.cell? ⟨g, 0, none⟩ = some (.slice (some ⟨q, off, none⟩) l.length c) := by rw [cell_of_row w g 0 _ _ _ hg]; rfl
  have hf0 : w.frozen? ⟨g, 0, none⟩ = false := by simp [World.frozen?, hg]
  have hb0 : ((m : Int) == 0) = false := by simp; omega
  have hm1 : (m : Int) ≤ l.length := by omega
  have hcm : (l.length : Int) ≤ c := by omega
  have hc63 : (c : Int) ≤ 9223372036854775807 := by unfold maxLen at hl2; omega
  rw [Int.toNat_natCast]
  clear hnx h0 h1 h2 hne
  go_enter Tryd.func68, Tryd.ntmps68
  go_wp2_with (go_at_call 79; refine (left_any g l bad _ hc).mono ?_; rintro e w' ⟨rfl, rfl⟩)
  · go_ret
    have hlm : l.length = m := by omega
    have e0 : l.drop m = [] := List.drop_eq_nil_of_le (by omega)
    have e1 : l.take m = l := List.take_of_length_le (by omega)
    rw [e0, e1]
    exact ⟨some ⟨q, off, none⟩, m, by rw [hlm]; rfl, by show l.length ≤ m; omega, by omega, (hrow.hol).grown (grown_set w ⟨g, 0, none⟩ _) (fun b o e => RowB.apart hg hrow b o e (by intro e; subst e; simp at hm; omega)), cur_set1 hg _ _ 0 [] (by simp; omega) (by simp) (by decide) (.inl rfl) hqg, grown_set w ⟨g, 0, none⟩ _⟩
  · go_ret
    have e1 : (l.take m).length = m := by simp; omega
    exact ⟨some ⟨q, off, none⟩, c, by rw [e1]; rfl, by show (l.take m).length ≤ c; omega, hl2, (hrow.hol.take_ m).grown (grown_set w ⟨g, 0, none⟩ _) (fun b o e => RowB.apart hg hrow b o e (by intro e; subst e; simp at hm; omega)),
      cur_set1 hg _ _ (c - m) (l.drop m) (by simp) (by simp; omega) (by omega) (hrow.drop_ m) (fun q2 o2 e => by injection e with e; injection e with e1 e2; subst e1; exact hqg _ _ rfl), grown_set w ⟨g, 0, none⟩ _⟩

/-- What a call of Take leaves. -/
def TakePost (w : World) (g : Nat) (r : List UInt8 × List UInt8 × Bool) (e : Ending) (w' : World) : Prop :=
  ∃ v, e = .returned v ∧ w'.ownsRow w.heap.size 5 1 v r.1.length (bc r.1) ∧ Cur w' g r.2.1 r.2.2 ∧ w.grownBy w' (some g)
theorem next_of (g : Nat) (l : List UInt8) (bad : Bool) (n : Int) (w : World) (hc : Cur w g l bad) (hl : l.length ≤ 70368744177664) (r : List UInt8 × List UInt8 × Bool) (hr : nxt n l bad = r) :
    Calls Tryd.prog 68 #[.pointer (some ⟨g, 0, none⟩), .int .i64 n] w (NextPost w g r) := by
  subst hr
  exact next_any g l bad n w hc (by omega)
/-- What a call of Num leaves. -/
def NumPost (w : World) (g : Nat) (r : List UInt8 × List UInt8 × Bool) (e : Ending) (w' : World) : Prop :=
  e = .returned (.int .u64 (num r.1 : Nat)) ∧ Cur w' g r.2.1 r.2.2 ∧ w.grownBy w' (some g)
theorem num_nil_ (n : Int) (w : World) : Calls Tryd.prog 52 #[.pointer none, .int .i64 n] w fun e w' => e = .returned (.int .u64 0) ∧ w = w' := by
  by_cases h : wid n = 0
  · go_enter Tryd.func52, Tryd.ntmps52
    go_wp2_with (first
      | (go_at_call 66; refine (width_any _ _).mono ?_; rintro e w' ⟨rfl, rfl⟩; rw [h])
      | (go_at_call 67; refine (spoil_nil _).mono ?_; rintro e w' ⟨rfl, rfl⟩))
    go_ret
    exact ⟨rfl, rfl⟩
  · have hw0 : ((wid n : Int) == 0) = false := by simp; omega
    go_enter Tryd.func52, Tryd.ntmps52
    go_wp2_with (first
      | (go_at_call 66; refine (width_any _ _).mono ?_; rintro e w' ⟨rfl, rfl⟩)
      | (go_at_call 68; refine (next_nil _ _).mono ?_; rintro e w' ⟨rfl, rfl⟩))
    go_loop [5, 17] (fun v i => v = .int .u64 0 ∧ i = .int .i64 0) (fun _ _ => 0)
    case atStart => exact ⟨rfl, rfl⟩
    case round =>
      obtain ⟨rfl, rfl⟩ := hrel
      go_wp2
      go_ret
      exact ⟨rfl, rfl⟩

set_option maxHeartbeats 400000 in
theorem num_any (g : Nat) (l : List UInt8) (bad : Bool) (n : Int) (w : World) (hc : Cur w g l bad) (hl : l.length ≤ 70368744177664) :
    Calls Tryd.prog 52 #[.pointer (some ⟨g, 0, none⟩), .int .i64 n] w (NumPost w g (nnx n l bad)) := by
  by_cases h : wid n = 0
  · have hn : nnx n l bad = ([], [], true) := by unfold nnx; rw [if_pos h]
    rw [hn]
    clear hn
    go_enter Tryd.func52, Tryd.ntmps52
    go_wp2_with (first
      | (go_at_call 66; refine (width_any _ _).mono ?_; rintro e w' ⟨rfl, rfl⟩; rw [h])
      | (go_at_call 67; refine (spoil_any g l bad _ hc).mono ?_; rintro e w' ⟨rfl, hc', hg'⟩))
    go_ret
    exact ⟨rfl, hc', hg'⟩
  · have hn : nnx n l bad = nxt n l bad := by unfold nnx; rw [if_neg h]
    have hle := nxt_one n l bad (by have := wid_pos h; omega)
    have hlt := num_lt (nxt n l bad).1
    have h8 := (wid_pos h).2
    rw [hn]
    generalize hr : nxt n l bad = r at hle hlt ⊢
    have cN := next_of g l bad n w hc hl r hr
    clear hr hn
    obtain ⟨out, rest, bd⟩ := r
    replace hle : out.length ≤ 8 := by have : out.length ≤ n.toNat := hle; omega
    have hw0 : ((wid n : Int) == 0) = false := by simp; omega
    clear h hlt
    go_enter Tryd.func52, Tryd.ntmps52
    go_wp2_with (first
      | (go_at_call 66; refine (width_any _ _).mono ?_; rintro e w' ⟨rfl, rfl⟩)
      | (go_at_call 68; refine cN.mono ?_; rintro e w1 ⟨A, c, rfl, h1, h2, h3, h4, h5⟩))
    replace h1 : out.length ≤ c := h1
    replace h3 : Hol w1 A out := h3
    go_loop [5, 17] (fun v i => ∃ k : Nat, k ≤ out.length ∧ i = .int .i64 k ∧ v = .int .u64 (num (out.take k) : Nat)) (fun _ i => out.length - (intOf i).toNat)
    case atStart => exact ⟨0, Nat.zero_le _, rfl, rfl⟩
    case round =>
      obtain ⟨k, hk, rfl, rfl⟩ := hrel
      by_cases hlt : k < out.length
      · obtain ⟨q, off, rfl, _, hcell⟩ := h3.at_ hlt
        obtain ⟨x, hx⟩ : ∃ x, out[k] = x := ⟨_, rfl⟩
        rw [hx] at hcell
        have hX : x.toNat < 256 := x.toNat_lt
        obtain ⟨N, hN⟩ : ∃ N, num (out.take k) = N := ⟨_, rfl⟩
        rw [hN]
        have HX := Lib.hid hx
        have HN := Lib.hid hN
        clear hx hN
        go_wp2
        go_round
        case rel =>
          refine ⟨k + 1, by omega, by go_num, ?_⟩
          have e1 : out.take (k + 1) = out.take k ++ [x] := by rw [List.take_succ_eq_append_getElem hlt, HX.out]
          have e2 : (out.take k).length = k := by simp; omega
          have e3 := num_lt (out.take k)
          rw [e2, HN.out] at e3
          rw [e1, num_app, e2, HN.out, or_join N x.toNat k e3 hX (by omega)]
        case measure => simp [intOf]; omega
      · go_wp2
        go_ret
        have e1 : out.take k = out := List.take_of_length_le (by omega)
        rw [e1]
        exact ⟨rfl, h4, h5⟩

theorem text_nil (w : World) : Calls Tryd.prog 53 #[.pointer none] w fun e w' => e = .returned (.string ByteArray.empty) ∧ w = w' := by
  have hk := run_to_string (P := Tryd.prog) w 33 9 5 none 0 0 [] rfl Tryd.underlying33 Tryd.underlying5 Tryd.underlying9 (.inl rfl)
  go_enter Tryd.func53, Tryd.ntmps53
  go_wp2_with (first
    | (go_at_call 52; refine (num_nil_ _ _).mono ?_; rintro e w' ⟨rfl, rfl⟩)
    | (go_at_call 68; refine (next_nil _ _).mono ?_; rintro e w' ⟨rfl, rfl⟩))
  go_ret
  exact ⟨rfl, rfl⟩

/-- What a call of Text leaves. -/
def TextPost (w : World) (g : Nat) (r : List UInt8 × List UInt8 × Bool) (e : Ending) (w' : World) : Prop :=
  e = .returned (.string ⟨r.1.toArray⟩) ∧ Cur w' g r.2.1 r.2.2 ∧ w.grownBy w' (some g)
theorem text_any (g : Nat) (l : List UInt8) (bad : Bool) (w : World) (hc : Cur w g l bad) (hl : l.length ≤ 70368744177664) :
    Calls Tryd.prog 53 #[.pointer (some ⟨g, 0, none⟩)] w (TextPost w g (tnx l bad)) := by
  have cM : Calls Tryd.prog 52 #[.pointer (some ⟨g, 0, none⟩), .int .i64 2] w (NumPost w g (nxt 2 l bad)) := num_any g l bad 2 w hc hl
  unfold tnx
  have hle := nxt_le 2 l bad
  have h1 := nxt_one 2 l bad (by omega)
  generalize nxt 2 l bad = r at cM hle h1 ⊢
  obtain ⟨o, r1, b1⟩ := r
  replace hle : r1.length ≤ l.length := hle.2
  replace h1 : o.length ≤ 2 := h1
  have hm : num o < 65536 := by
    have h2 := num_lt o
    have h3 : 256 ^ o.length ≤ 256 ^ 2 := Nat.pow_le_pow_right (by decide) h1
    omega
  show Calls _ _ _ _ (TextPost w g (nxt (num o : Nat) r1 b1))
  have cM2 : Calls Tryd.prog 52 #[.pointer (some ⟨g, 0, none⟩), .int .i64 2] w (fun e w' => e = .returned (.int .u64 (num o : Nat)) ∧ Cur w' g r1 b1 ∧ w.grownBy w' (some g)) := cM
  clear cM
  generalize num o = m at cM2 hm ⊢
  have hmz : (m : Int) < 65536 := by omega
  generalize hr : nxt (m : Int) r1 b1 = r2 at *
  obtain ⟨o2, r3, b3⟩ := r2
  have cN := fun w1 hc1 => next_of g r1 b1 m w1 hc1 (by omega) _ hr
  clear hr
  have CN := Lib.hid cN
  clear cN
  go_enter Tryd.func53, Tryd.ntmps53
  go_wp2_with (first
    | (go_at_call 52; refine cM2.mono ?_; rintro e w1 ⟨rfl, hc1, hg1⟩)
    | (go_at_call 68; refine (CN.out w1 hc1).mono ?_; rintro e w2 ⟨A, c, rfl, h1, h2, h3, h4, h5⟩; have hk := run_to_string (P := Tryd.prog) w2 33 9 5 A c o2.length o2 rfl Tryd.underlying33 Tryd.underlying5 Tryd.underlying9 h3))
  go_ret
  exact ⟨rfl, h4, grown_trans hg1 h5⟩

/-- A new cursor. -/
theorem new_any (A : Option Addr) (c : Nat) (l : List UInt8) (w : World) (hA : Hol w A l) (hb : l.length ≤ 70368744177664) :
    Calls Tryd.prog 51 #[.slice A l.length c] w fun e w' => ∃ g, e = .returned (.pointer (some ⟨g, 0, none⟩)) ∧ w.heap.size ≤ g ∧ Cur w' g l false ∧ Below w.heap.size w w' := by
  go_enter Tryd.func51, Tryd.ntmps51
  go_wp2_with (go_at_call 65; refine (room_any A c l 0 w hA (by omega)).mono ?_; rintro e w1 ⟨v, rfl, hown1, hb1⟩; obtain ⟨_, A1, c1, rfl, h1, h2, h3⟩ := own_form hown1)
  go_ret
  exact ⟨w1.heap.size, rfl, hb1.size, ⟨A1, c1, heap_alloc_new w1 _, h1, h2, (RowB.own hown1).grown (World.grownBy_alloc w1 _ none) (by simp), fun q o e => (hown1.lt q (by rw [e]; rfl)).2⟩, hb1.alloc hb1.size _⟩

/-- What a call of Put gives. -/
def putR (l : List UInt8) (size : Int) (x : Nat) : List UInt8 × Int :=
  if wid size = 0 then ([], 201) else if x / 256 ^ size.toNat ≠ 0 then ([], 202) else (l ++ leb x size.toNat, 0)
/-- Bytes and an error, the bytes the call's own. -/
def BytesPost (w : World) (r : List UInt8 × Int) (e : Ending) (w' : World) : Prop :=
  ∃ v, e = .returned (.tuple #[v, .int .i64 r.2]) ∧ w'.ownsRow w.heap.size 5 1 v r.1.length (bc r.1) ∧ Below w.heap.size w w'
theorem wid_pow (size : Int) (h : wid size ≠ 0) : (2 : Nat) ^ wid size = 256 ^ size.toNat := by
  have h1 := wid_eq h
  have h2 := wid_pos h
  have e : wid size = 8 * size.toNat := by omega
  rw [e, Nat.pow_mul]

theorem put_any (A : Option Addr) (c : Nat) (l : List UInt8) (size : Int) (x : Nat) (w : World) (hA : Hol w A l) (hx : x < 18446744073709551616) (hl : l.length ≤ 35184372088832) :
    Calls Tryd.prog 64 #[.slice A l.length c, .int .i64 size, .int .u64 x] w (BytesPost w (putR l size x)) := by
  by_cases h : wid size = 0
  · have hr : putR l size x = ([], 201) := by unfold putR; rw [if_pos h]
    rw [hr]
    exact (put_arg _ size x w h).mono fun e w' ⟨he, hw⟩ => ⟨_, he, World.ownsRow_nil _ _ _ _, by rw [hw]; exact Below.refl _ _⟩
  by_cases hx2 : x / 256 ^ size.toNat ≠ 0
  · have hr : putR l size x = ([], 202) := by unfold putR; rw [if_neg h, if_pos hx2]
    rw [hr]
    refine (put_long _ size x w h (by rw [wid_pow size h]; exact hx2) ?_).mono fun e w' ⟨he, hw⟩ => ⟨_, he, World.ownsRow_nil _ _ _ _, by rw [hw]; exact Below.refl _ _⟩
    have hp := wid_pos h
    have he := wid_eq h
    rcases (by omega : size = 8 ∨ size < 8) with h8 | h8
    · exfalso
      apply hx2
      rw [h8]
      exact Nat.div_eq_of_lt (by simpa using hx)
    · omega
  · have hr : putR l size x = (l ++ leb x size.toNat, 0) := by unfold putR; rw [if_neg h, if_neg hx2]
    rw [hr]
    have hp := wid_pos h
    have he := wid_eq h
    have hx3 : ((x : Int) / 2 ^ wid size != 0) = false := by
      rw [bne_eq_false_iff_eq]
      have e1 : (2 : Int) ^ wid size = ((256 ^ size.toNat : Nat) : Int) := by rw [← wid_pow size h, Int.natCast_pow]; rfl
      rw [e1]
      have : x / 256 ^ size.toNat = 0 := by simpa using hx2
      rw [← Int.natCast_ediv, this]
      rfl
    have hw0 : ((wid size : Int) == 0) = false := by simp; omega
    have hw1 : wid size ≤ 64 := wid_le size
    obtain ⟨k, rfl⟩ := Int.eq_ofNat_of_zero_le (by omega : 0 ≤ size)
    rw [Int.toNat_natCast]
    have hk : k ≤ 8 := by omega
    clear hx2 h hr hp he
    go_enter Tryd.func64, Tryd.ntmps64
    go_wp2_with (first
      | (go_at_call 66; refine (width_any _ _).mono ?_; rintro e w' ⟨rfl, rfl⟩)
      | (go_at_call 65; refine (room_any A c l k w hA (by omega)).mono ?_; rintro e w1 ⟨v, rfl, hown1, hb1⟩)
      | (go_at_call 78; refine (number_any w.heap.size v l.length l k x w1 hown1 hk hx (by omega) hb1.size).mono ?_; rintro e w2 ⟨v2, rfl, hown2, hb2⟩))
    go_ret2
    refine ⟨v2, rfl, ?_, hb1.trans hb2⟩
    have : (l ++ leb x k).length = l.length + k := by rw [List.length_append, leb_len]
    rw [this]
    exact hown2

/-- What a call of Text gives. -/
def txtR (l : List UInt8) (s : List UInt8) : List UInt8 × Int :=
  if 65535 < s.length then ([], 202) else (l ++ leb s.length 2 ++ s, 0)
theorem txt_any (A : Option Addr) (c : Nat) (l : List UInt8) (s : ByteArray) (w : World) (hA : Hol w A l) (hl : l.length ≤ 35184372088832) (hs : s.size ≤ 9223372036854775807) :
    Calls Tryd.prog 63 #[.slice A l.length c, .string s] w (BytesPost w (txtR l s.data.toList)) := by
  have hsz : s.data.toList.length = s.size := by rw [Array.length_toList]; rfl
  by_cases h : 65535 < s.size
  · have hr : txtR l s.data.toList = ([], 202) := by unfold txtR; rw [hsz, if_pos h]
    rw [hr]
    have hz : (65535 : Int) < (s.size : Int) := by omega
    clear hr hsz h
    go_enter Tryd.func63, Tryd.ntmps63
    go_wp2
    go_ret2
    exact ⟨_, rfl, World.ownsRow_nil _ _ _ _, Below.refl _ _⟩
  · have hr : txtR l s.data.toList = (l ++ leb s.size 2 ++ s.data.toList, 0) := by unfold txtR; rw [hsz, if_neg h]
    rw [hr]
    obtain ⟨i, U⟩ := u8_table
    have HS := Lib.hid hsz
    clear hr hsz
    have hz : (s.size : Int) ≤ 65535 := by omega
    have hz2 : s.size ≤ 65535 := by omega
    clear h
    go_enter Tryd.func63, Tryd.ntmps63
    go_wp2_with (first
      | (go_at_call 65; refine (room_any A c l (2 + s.size) w hA (by omega)).mono ?_; rintro e w1 ⟨v, rfl, hown1, hb1⟩)
      | (go_at_call 78; refine (number_any w.heap.size v l.length l 2 s.size w1 hown1 (by omega) (by omega) (by omega) hb1.size).mono ?_; rintro e w2 ⟨v2, rfl, hown2, hb2⟩)
      | (at_builtin; refine Lib.wpList_append_own_string _ rfl _ _ 33 9 rfl w.heap.size 5 i U.ht Tryd.underlying9 U.hi U.hz U.h1 U.h2 v2 (l.length + 2) _ rfl hown2 s rfl (by unfold maxLen; omega) (by omega) (hb1.trans hb2).size ?_; intro v3 w3 hown3 hg3 _))
    go_ret2
    refine ⟨v3, rfl, ?_, (hb1.trans hb2).grown hg3 (hb1.trans hb2).size (fun k hk => (hown2.lt k hk).1)⟩
    have : (l ++ leb s.size 2 ++ s.data.toList).length = l.length + 2 + s.size := by rw [List.length_append, List.length_append, leb_len, HS.out]
    show w3.ownsRow _ _ _ _ (l ++ leb s.size 2 ++ s.data.toList).length (bc (l ++ leb s.size 2 ++ s.data.toList))
    rw [this, bc_app]
    exact hown3
end Go.Proofs.YtijffkklhgnknaaDoor
/- Package dir: numbers behind bytes; an entry's bytes. Conditions: those named. -/
set_option linter.unusedVariables false
set_option maxRecDepth 20000
namespace Go.Proofs.YtijffkklhgnknaaDoor
open Go.RowKit

/-- Bytes of the call's own are answered. -/
def ByP (w : World) (m : Nat) (l : List UInt8) (e : Ending) (w' : World) : Prop :=
  ∃ A c, e = .returned (.slice A m c) ∧ w'.ownsRow w.heap.size 5 1 (.slice A m c) m (bc l) ∧ Below w.heap.size w w'
theorem own8_sl {w : World} {b n : Nat} {v : Value} {l : List UInt8} (h : w.ownsRow b 5 1 v n (bc l)) : ∃ A c, v = .slice A n c := by
  obtain ⟨hn, A, c, rfl, _⟩ := own_form h
  exact ⟨A, c, by rw [hn]⟩
theorem own8_row {w : World} {base g n : Nat} {f : Nat → UInt8} (h : Row w g 5 (brr n f)) (hb : base ≤ g) (hn : n ≤ maxLen) : w.ownsRow base 5 1 (.slice (some ⟨g, 0, none⟩) n n) n (bc (lst n f)) := by
  rw [← lst_bc]
  exact ⟨by rw [brr_len, Nat.mul_one], .inr ⟨g, n, _, rfl, hb, h.heap, Nat.le_refl _, hn, by simp [brr_len], List.take_of_length_le (by simp [brr_len])⟩⟩
theorem putR_ok (l : List UInt8) (k x : Nat) (hk : k = 1 ∨ k = 2 ∨ k = 4 ∨ k = 8) (hx : x < 256 ^ k) : putR l (k : Int) x = (l ++ leb x k, 0) := by
  have e : ((k : Int)).toNat = k := Int.toNat_natCast k
  have hw : wid (k : Int) ≠ 0 := by rcases hk with rfl | rfl | rfl | rfl <;> decide
  unfold putR
  rw [if_neg hw, e, Nat.div_eq_of_lt hx, if_neg (by omega)]
set_option maxHeartbeats 1000000 in
theorem dnumber_any (A : Option Addr) (c m : Nat) (l : List UInt8) (k x : Nat) (z : Int) (hz : z = (k : Int)) (hm : m = l.length) (w : World) (hA : Hol w A l) (hk : k = 1 ∨ k = 2 ∨ k = 4 ∨ k = 8) (hx : x < 256 ^ k) (hl : l.length ≤ 1000000) :
    Calls Tryd.prog 48 #[.slice A m c, .int .i64 z, .int .u64 (x : Int)] w (ByP w (m + k) (l ++ leb x k)) := by
  subst hm
  subst hz
  have hx64 : x < 18446744073709551616 := Nat.lt_of_lt_of_le hx (by rcases hk with rfl | rfl | rfl | rfl <;> decide)
  have HP := Lib.hid (fun w hA => put_any A c l (k : Int) x w hA hx64 (by omega))
  rw [putR_ok l k x hk hx] at HP
  have HA := Lib.hid hA
  have HL := Lib.hid (p := (l ++ leb x k).length = l.length + k) (by rw [List.length_append, leb_len])
  clear hx64 hx hk hA hl
  go_enter Tryd.func48, Tryd.ntmps48
  go_wp2_with (go_at_call 64; refine (HP.out _ HA.out).mono ?_; rintro e w1 ⟨v, rfl, ho, hb⟩
               have HO := Lib.hid ho
               have HB := Lib.hid hb
               clear ho hb)
  go_ret
  have h1 := HO.out
  rw [HL.out] at h1
  obtain ⟨A1, c1, rfl⟩ := own8_sl h1
  exact ⟨A1, c1, rfl, h1, HB.out⟩
/-- What the bytes of an entry need. -/
structure Nice (e : Ent) (i k s : Nat) : Prop where
  ino : e.ino = (i : Int)
  kind : e.kind = (k : Int)
  il : i < 256
  kl : k < 256
  ser : e.ser < 18446744073709551616
  ck : e.ck < 4294967296
  nm : e.nm.data.toList.length = s
  sl : s ≤ 65535
theorem u64_nat (n : Nat) (h : n < 18446744073709551616) : IntKind.u64.wrap (n : Int) = (n : Int) := by
  simp [IntKind.wrap, IntKind.bits, IntKind.signed]
  omega
set_option maxHeartbeats 2000000 in
theorem packed_any (x : Ent) (i k s : Nat) (hn : Nice x i k s) (w : World) : Calls Tryd.prog 47 #[.agg (ecs x).toArray] w (ByP w (16 + s) (enb x)) := by
  obtain ⟨hi, hk, hil, hkl, hser, hck, hnm, hsl⟩ := hn
  obtain ⟨l1, h1⟩ : ∃ l, [] ++ leb i 1 = l := ⟨_, rfl⟩
  obtain ⟨l2, h2⟩ : ∃ l, l1 ++ leb k 1 = l := ⟨_, rfl⟩
  obtain ⟨l3, h3⟩ : ∃ l, l2 ++ leb x.ser 8 = l := ⟨_, rfl⟩
  obtain ⟨l4, h4⟩ : ∃ l, l3 ++ leb x.ck 4 = l := ⟨_, rfl⟩
  have q1 : l1.length = 1 := by rw [← h1]; simp [leb_len]
  have q2 : l2.length = 2 := by rw [← h2]; simp [leb_len, q1]
  have q3 : l3.length = 10 := by rw [← h3]; simp [leb_len, q2]
  have q4 : l4.length = 14 := by rw [← h4]; simp [leb_len, q3]
  have h5 : enb x = l4 ++ leb s 2 ++ x.nm.data.toList := by
    rw [← h4, ← h3, ← h2, ← h1]
    unfold enb
    rw [hi, hk, hnm, Int.toNat_natCast, Int.toNat_natCast]
    simp only [List.nil_append, List.append_assoc]
  rw [h5]
  have hsz : x.nm.size = s := by rw [← hnm, Array.length_toList]; rfl
  have N1 := Lib.hid (fun w => dnumber_any none 0 0 [] 1 i 1 rfl rfl w (.inl rfl) (.inl rfl) (by omega) (by decide))
  rw [h1] at N1
  have N2 := Lib.hid (fun (A : Option Addr) (c : Nat) w (hA : Hol w A l1) => dnumber_any A c 1 l1 1 k 1 rfl q1.symm w hA (.inl rfl) (by omega) (by omega))
  rw [h2] at N2
  have N3 := Lib.hid (fun (A : Option Addr) (c : Nat) w (hA : Hol w A l2) => dnumber_any A c 2 l2 8 x.ser 8 rfl q2.symm w hA (.inr (.inr (.inr rfl))) (by omega) (by omega))
  rw [h3] at N3
  have N4 := Lib.hid (fun (A : Option Addr) (c : Nat) w (hA : Hol w A l3) => dnumber_any A c 10 l3 4 x.ck 4 rfl q3.symm w hA (.inr (.inr (.inl rfl))) (by omega) (by omega))
  rw [h4] at N4
  have N5 := Lib.hid (p := ∀ (A : Option Addr) (c : Nat) w (hA : Hol w A l4), Calls Tryd.prog 63 #[.slice A 14 c, .string x.nm] w fun e w' => ∃ A' c', e = .returned (.tuple #[.slice A' (16 + s) c', .int .i64 0]) ∧ w'.ownsRow w.heap.size 5 1 (.slice A' (16 + s) c') (16 + s) (bc (l4 ++ leb s 2 ++ x.nm.data.toList)) ∧ Below w.heap.size w w') (fun A c w hA => by
    have h := txt_any A c l4 x.nm w hA (by omega) (by omega)
    have hr : txtR l4 x.nm.data.toList = (l4 ++ leb s 2 ++ x.nm.data.toList, 0) := by unfold txtR; rw [hnm, if_neg (by omega)]
    rw [hr, q4] at h
    refine h.mono ?_
    rintro e w' ⟨v, rfl, ho, hb⟩
    dsimp only at ho
    rw [show (l4 ++ leb s 2 ++ x.nm.data.toList).length = 16 + s by simp [leb_len, q4, hnm]; omega] at ho
    obtain ⟨A1, c1, rfl⟩ := own8_sl ho
    exact ⟨A1, c1, rfl, ho, hb⟩)
  have HC := Lib.hid (p := ∀ (w : World) (g : Nat), Row w g 42 (ecs x) → w.cell? ⟨g, 0, none⟩ = some (.string x.nm) ∧ w.cell? ⟨g, 1, none⟩ = some (.int .i64 (i : Int)) ∧ w.cell? ⟨g, 2, none⟩ = some (.int .u64 (x.ser : Int)) ∧ w.cell? ⟨g, 3, none⟩ = some (.int .i64 (k : Int)) ∧ w.cell? ⟨g, 4, none⟩ = some (.int .u32 (x.ck : Int))) (fun w g h => ⟨by rw [h.cell]; rfl, by rw [h.cell, ← hi]; rfl, by rw [h.cell]; rfl, by rw [h.cell, ← hk]; rfl, by rw [h.cell]; rfl⟩)
  have u1 := u64_nat i (by omega)
  have u2 := u64_nat k (by omega)
  have u3 := u64_nat x.ck (by omega)
  obtain ⟨nm, hnm2⟩ : ∃ b, x.nm = b := ⟨_, rfl⟩
  obtain ⟨ser, hser2⟩ : ∃ b, x.ser = b := ⟨_, rfl⟩
  obtain ⟨ck, hck2⟩ : ∃ b, x.ck = b := ⟨_, rfl⟩
  obtain ⟨l5, hl5⟩ : ∃ l, l4 ++ leb s 2 ++ x.nm.data.toList = l := ⟨_, rfl⟩
  rw [hl5] at N5 ⊢
  rw [hnm2, hser2, hck2] at HC
  rw [hnm2] at N5
  rw [hser2] at N3
  rw [hck2] at N4 u3
  clear hi hk hil hkl hser hck hnm hsl h1 h2 h3 h4 h5 q1 q2 q3 q4 hsz hl5 hnm2 hser2 hck2
  go_enter Tryd.func47, Tryd.ntmps47
  go_wp2_with (first
    | (refine step_box rfl 1 rfl 42 (.tmp 0) rfl (ecs x) rfl ?_; intro g w1 hr1 hg1 hb1 hs1
       have R1 := Lib.hid hr1
       have B1 := Lib.hid hb1
       obtain ⟨c0, c1, c2, c3, c4⟩ := HC.out w1 g hr1
       clear hr1 hg1 hb1 hs1)
    | (go_at_call 48; refine (N1.out _).mono ?_; rintro e w2 ⟨A1, d1, rfl, ho, hb⟩
       have O1 := Lib.hid (Hol.own ho)
       have R2 := Lib.hid (R1.out.kept hb)
       have B2 := Lib.hid (below_nxt hb B1.out)
       obtain ⟨c0, c1, c2, c3, c4⟩ := HC.out w2 g R2.out
       clear ho hb N1)
    | (go_at_call 48; refine (N2.out _ _ _ O1.out).mono ?_; rintro e w3 ⟨A2, d2, rfl, ho, hb⟩
       have O2 := Lib.hid (Hol.own ho)
       have R3 := Lib.hid (R2.out.kept hb)
       have B3 := Lib.hid (below_nxt hb B2.out)
       obtain ⟨c0, c1, c2, c3, c4⟩ := HC.out w3 g R3.out
       clear ho hb N2)
    | (go_at_call 48; refine (N3.out _ _ _ O2.out).mono ?_; rintro e w4 ⟨A3, d3, rfl, ho, hb⟩
       have O3 := Lib.hid (Hol.own ho)
       have R4 := Lib.hid (R3.out.kept hb)
       have B4 := Lib.hid (below_nxt hb B3.out)
       obtain ⟨c0, c1, c2, c3, c4⟩ := HC.out w4 g R4.out
       clear ho hb N3)
    | (go_at_call 48; refine (N4.out _ _ _ O3.out).mono ?_; rintro e w5 ⟨A4, d4, rfl, ho, hb⟩
       have O4 := Lib.hid (Hol.own ho)
       have R5 := Lib.hid (R4.out.kept hb)
       have B5 := Lib.hid (below_nxt hb B4.out)
       obtain ⟨c0, c1, c2, c3, c4⟩ := HC.out w5 g R5.out
       clear ho hb N4)
    | (go_at_call 63; refine (N5.out _ _ _ O4.out).mono ?_; rintro e w6 ⟨A5, d5, rfl, ho, hb⟩
       have O5 := Lib.hid (own_lower ho B5.out.size)
       have B6 := Lib.hid (below_nxt hb B5.out)
       clear ho hb N5))
  go_ret
  exact ⟨A5, d5, rfl, O5.out, B6.out⟩
end Go.Proofs.YtijffkklhgnknaaDoor
