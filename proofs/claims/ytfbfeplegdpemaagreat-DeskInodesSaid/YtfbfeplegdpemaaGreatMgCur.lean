/- Cursors of package wire: what each call leaves, for every argument (bytes of at most 2^46). No other conditions. -/
import Derived.Test.YtfbfeplegdpemaaGreatMgPut
import Derived.Test.YtfbfeplegdpemaaGreatMgGr
set_option linter.unusedVariables false
namespace Go.Proofs.YtfbfeplegdpemaaGreat
open Go.RowKit

/-- The address holds bytes in a row of bytes. -/
def RowB (w : World) (A : Option Addr) (l : List UInt8) : Prop :=
  l = [] ∨ ∃ h off cur, A = some ⟨h, off, none⟩ ∧ w.heap[h]? = some (.cells cur 5 (0, 0)) ∧ ∀ j x, l[j]? = some x → cur[off + j]? = some (.int .u8 (x.toNat : Int))
theorem RowB.hol {w : World} {A : Option Addr} {l : List UInt8} (h : RowB w A l) : Hol w A l := by
  rcases h with rfl | ⟨h, off, cur, rfl, hh, hc⟩
  · exact .inl rfl
  · exact .inr ⟨h, off, rfl, fun j x hx => by rw [cell_of_row w h (off + j) cur _ _ hh]; exact hc j x hx⟩
theorem RowB.take_ {w : World} {A : Option Addr} {l : List UInt8} (h : RowB w A l) (n : Nat) : RowB w A (l.take n) := by
  rcases h with rfl | ⟨h, off, cur, rfl, hh, hc⟩
  · exact .inl (by simp)
  · refine .inr ⟨h, off, cur, rfl, hh, fun j x hx => hc j x ?_⟩
    rw [List.getElem?_take] at hx
    split at hx
    · exact hx
    · cases hx
theorem RowB.drop_ {w : World} {h off : Nat} {l : List UInt8} (hr : RowB w (some ⟨h, off, none⟩) l) (n : Nat) : RowB w (some ⟨h, off + n, none⟩) (l.drop n) := by
  rcases hr with rfl | ⟨h', off', cur, e, hh, hc⟩
  · exact .inl (by simp)
  · injection e with e
    injection e with e1 e2
    subst e1 e2
    refine .inr ⟨h, off + n, cur, rfl, hh, fun j x hx => ?_⟩
    rw [List.getElem?_drop] at hx
    rw [Nat.add_assoc]
    exact hc (n + j) x hx
theorem RowB.grown {w w' : World} {A : Option Addr} {l : List UInt8} (h : RowB w A l) {row : Option Nat} (hg : w.grownBy w' row) (hr : ∀ b off, A = some ⟨b, off, none⟩ → l ≠ [] → some b ≠ row) : RowB w' A l := by
  by_cases hl : l = []
  · exact .inl hl
  · rcases h with h | ⟨h, off, cur, rfl, hh, hc⟩
    · exact absurd h hl
    · exact .inr ⟨h, off, cur, rfl, (hg.block h (Array.getElem?_eq_some_iff.1 hh).1 (hr h off rfl hl)).trans hh, hc⟩
theorem RowB.own {w : World} {base n c : Nat} {A : Option Addr} {l : List UInt8} (h : w.ownsRow base 5 1 (.slice A n c) n (bc l)) : RowB w A l := by
  by_cases hl : l = []
  · exact .inl hl
  · have hn : n = l.length := (own_form h).1
    rcases h.2 with ⟨h1, h2⟩ | ⟨g, cap, cur, h1, hb, hg, hn', hc, hs, ht⟩
    · exact absurd (List.eq_nil_of_length_eq_zero (by omega)) hl
    · simp only [Value.slice.injEq] at h1
      obtain ⟨rfl, _, rfl⟩ := h1
      refine .inr ⟨g, 0, cur, rfl, hg, fun j x hx => ?_⟩
      have hj := get_bc hx
      rw [← ht, List.getElem?_take] at hj
      split at hj
      · simpa using hj
      · cases hj

/-- A cursor: block g holds what is left and whether it is bad. -/
def Cur (w : World) (g : Nat) (l : List UInt8) (bad : Bool) : Prop :=
  ∃ A c, w.heap[g]? = some (.cells #[.slice A l.length c, .bool bad] 156 (0, 0)) ∧ l.length ≤ c ∧ c ≤ maxLen ∧ RowB w A l ∧ ∀ q o, A = some ⟨q, o, none⟩ → q < g
theorem RowB.apart {w : World} {g : Nat} {cs : Array Value} (hg : w.heap[g]? = some (.cells cs 156 (0, 0))) {A : Option Addr} {l : List UInt8} (h : RowB w A l) :
    ∀ b off, A = some ⟨b, off, none⟩ → l ≠ [] → some b ≠ some g := by
  intro b off hA hl e
  injection e with e
  subst e
  rcases h with h | ⟨h, off', cur, e, hh, _⟩
  · exact absurd h hl
  · rw [hA] at e
    injection e with e
    injection e with e1 e2
    subst e1
    rw [hg] at hh
    injection hh with hh
    injection hh with _ ht
    exact absurd ht (by decide)
theorem Cur.lt {w : World} {g : Nat} {l : List UInt8} {bad : Bool} (h : Cur w g l bad) : g < w.heap.size := by
  obtain ⟨A, c, hg, _⟩ := h
  exact (Array.getElem?_eq_some_iff.1 hg).1
theorem Cur.grown {w w' : World} {g : Nat} {l : List UInt8} {bad : Bool} (h : Cur w g l bad) {row : Option Nat} (hg : w.grownBy w' row) (hne : some g ≠ row)
    (hrow : ∀ k, row = some k → ∀ cs, w.heap[k]? ≠ some (.cells cs 5 (0, 0))) : Cur w' g l bad := by
  obtain ⟨A, c, hh, h1, h2, h3, h4⟩ := h
  refine ⟨A, c, (hg.block g (Array.getElem?_eq_some_iff.1 hh).1 hne).trans hh, h1, h2, h3.grown hg ?_, h4⟩
  intro b off hA hl e
  rcases h3 with h | ⟨h, off', cur, e', hh', _⟩
  · exact hl h
  · rw [hA] at e'
    injection e' with e'
    injection e' with e1 e2
    subst e1
    exact hrow b e.symm cur hh'
theorem Cur.below {w w' : World} {g : Nat} {l : List UInt8} {bad : Bool} (h : Cur w g l bad) (hb : Below w.heap.size w w') : Cur w' g l bad :=
  h.grown (row := none) (grown_of_below hb) (by simp) (by intro k hk; cases hk)
theorem grown_two (w : World) (g : Nat) (a b : Value) : w.grownBy ((w.setCell ⟨g, 0, none⟩ a).setCell ⟨g, 1, none⟩ b) (some g) :=
  grown_trans (grown_set w ⟨g, 0, none⟩ a) (grown_set _ ⟨g, 1, none⟩ b)
theorem cur_set {w : World} {g : Nat} {a b : Value} (hg : w.heap[g]? = some (.cells #[a, b] 156 (0, 0))) (A : Option Addr) (n c : Nat) (l : List UInt8) (bad : Bool) (hn : n = l.length) (h1 : l.length ≤ c) (h2 : c ≤ maxLen) (hr : RowB w A l) (hq : ∀ q o, A = some ⟨q, o, none⟩ → q < g) :
    Cur ((w.setCell ⟨g, 0, none⟩ (.slice A n c)).setCell ⟨g, 1, none⟩ (.bool bad)) g l bad := by
  subst hn
  refine ⟨A, c, ?_, h1, h2, hr.grown (grown_two w g _ _) (RowB.apart hg hr), hq⟩
  rw [heap_set (heap_set hg 0 _) 1 _]
  rfl
theorem cur_set1 {w : World} {g : Nat} {a : Value} {bad : Bool} (hg : w.heap[g]? = some (.cells #[a, .bool bad] 156 (0, 0))) (A : Option Addr) (n c : Nat) (l : List UInt8) (hn : n = l.length) (h1 : l.length ≤ c) (h2 : c ≤ maxLen) (hr : RowB w A l) (hq : ∀ q o, A = some ⟨q, o, none⟩ → q < g) :
    Cur (w.setCell ⟨g, 0, none⟩ (.slice A n c)) g l bad := by
  subst hn
  refine ⟨A, c, ?_, h1, h2, hr.grown (grown_set w ⟨g, 0, none⟩ _) (RowB.apart hg hr), hq⟩
  rw [heap_set hg 0 _]
  rfl

theorem cleft_any (g : Nat) (l : List UInt8) (bad : Bool) (w : World) (hc : Cur w g l bad) :
    Calls Tryz.prog 120 #[.pointer (some ⟨g, 0, none⟩)] w fun e w' => e = .returned (.int .i64 l.length) ∧ w = w' := by
  obtain ⟨A, c, hg, h1, h2, _⟩ := hc
  have hc0 : w.cell? ⟨g, 0, none⟩ = some (.slice A l.length c) := by rw [cell_of_row w g 0 _ _ _ hg]; rfl
  go_enter Tryz.func120, Tryz.ntmps120
  go_wp2
  go_ret
  exact ⟨rfl, rfl⟩
theorem spoil_any (g : Nat) (l : List UInt8) (bad : Bool) (w : World) (hc : Cur w g l bad) :
    Calls Tryz.prog 108 #[.pointer (some ⟨g, 0, none⟩)] w fun e w' => e = .returned (.tuple #[]) ∧ Cur w' g [] true ∧ w.grownBy w' (some g) := by
  obtain ⟨A, c, hg, h1, h2, _⟩ := hc
  have hc0 : w.cell? ⟨g, 0, none⟩ = some (.slice A l.length c) := by rw [cell_of_row w g 0 _ _ _ hg]; rfl
  have hc1 : w.cell? ⟨g, 1, none⟩ = some (.bool bad) := by rw [cell_of_row w g 1 _ _ _ hg]; rfl
  have hf0 : w.frozen? ⟨g, 0, none⟩ = false := by simp [World.frozen?, hg]
  have hf1 : w.frozen? ⟨g, 1, none⟩ = false := by simp [World.frozen?, hg]
  go_enter Tryz.func108, Tryz.ntmps108
  go_wp2
  go_end0
  exact ⟨rfl, cur_set hg none 0 0 [] true rfl (Nat.le_refl _) (by decide) (.inl rfl) (fun q o e => by cases e), grown_two w g _ _⟩

/-- What a call of next leaves. -/
def NextPost (w : World) (g : Nat) (r : List UInt8 × List UInt8 × Bool) (e : Ending) (w' : World) : Prop :=
  ∃ A c, e = .returned (.slice A r.1.length c) ∧ r.1.length ≤ c ∧ c ≤ maxLen ∧ Hol w' A r.1 ∧ Cur w' g r.2.1 r.2.2 ∧ w.grownBy w' (some g)

theorem next_any (g : Nat) (l : List UInt8) (bad : Bool) (n : Int) (w : World) (hc : Cur w g l bad) (hl : l.length ≤ 140737488355328) :
    Calls Tryz.prog 109 #[.pointer (some ⟨g, 0, none⟩), .int .i64 n] w (NextPost w g (nxt n l bad)) := by
  by_cases h0 : n < 0
  · have hnx : nxt n l bad = ([], [], true) := by unfold nxt; rw [if_pos (.inl h0)]
    rw [hnx]
    go_enter Tryz.func109, Tryz.ntmps109
    go_wp2_with (go_at_call 108; refine (spoil_any g l bad _ hc).mono ?_; rintro e w' ⟨rfl, hc', hg'⟩)
    go_ret
    exact ⟨none, 0, rfl, Nat.le_refl _, by decide, .inl rfl, hc', hg'⟩
  have hd : decide (n < 0) = false := by simpa using h0
  by_cases h1 : (l.length : Int) < n
  · have hnx : nxt n l bad = ([], [], true) := by unfold nxt; rw [if_pos (.inr h1)]
    rw [hnx]
    go_enter Tryz.func109, Tryz.ntmps109
    go_wp2_with (first
      | (go_at_call 108; refine (spoil_any g l bad _ hc).mono ?_; rintro e w' ⟨rfl, hc', hg'⟩)
      | (go_at_call 120; refine (cleft_any g l bad _ hc).mono ?_; rintro e w' ⟨rfl, rfl⟩))
    go_ret
    exact ⟨none, 0, rfl, Nat.le_refl _, by decide, .inl rfl, hc', hg'⟩
  have hnx : nxt n l bad = (l.take n.toNat, l.drop n.toNat, bad) := by unfold nxt; rw [if_neg (by omega)]
  rw [hnx]
  by_cases h2 : n = 0
  · subst h2
    go_enter Tryz.func109, Tryz.ntmps109
    go_wp2_with (go_at_call 120; refine (cleft_any g l bad _ hc).mono ?_; rintro e w' ⟨rfl, rfl⟩)
    go_ret
    exact ⟨none, 0, rfl, Nat.le_refl _, by decide, .inl rfl, hc, ⟨rfl, rfl, rfl, Nat.le_refl _, fun _ _ _ => rfl⟩⟩
  obtain ⟨m, rfl⟩ := Int.eq_ofNat_of_zero_le (by omega : 0 ≤ n)
  have hm : 0 < m ∧ m ≤ l.length := by omega
  have hne : l ≠ [] := by intro e; subst e; simp at hm; omega
  obtain ⟨A, c, hg, hl1, hl2, hrow, hqg⟩ := id hc
  obtain ⟨q, off, rfl⟩ : ∃ q off, A = some ⟨q, off, none⟩ := by
    rcases hrow with e | ⟨q, off, cur, e, _⟩
    · exact absurd e hne
    · exact ⟨q, off, e⟩
  have hc0 : w.cell? ⟨g, 0, none⟩ = some (.slice (some ⟨q, off, none⟩) l.length c) := by rw [cell_of_row w g 0 _ _ _ hg]; rfl
  have hf0 : w.frozen? ⟨g, 0, none⟩ = false := by simp [World.frozen?, hg]
  have hb0 : ((m : Int) == 0) = false := by simp; omega
  have hm1 : (m : Int) ≤ l.length := by omega
  have hcm : (l.length : Int) ≤ c := by omega
  have hc63 : (c : Int) ≤ 9223372036854775807 := by unfold maxLen at hl2; omega
  rw [Int.toNat_natCast]
  clear hnx h0 h1 h2 hne
  go_enter Tryz.func109, Tryz.ntmps109
  go_wp2_with (go_at_call 120; refine (cleft_any g l bad _ hc).mono ?_; rintro e w' ⟨rfl, rfl⟩)
  · go_ret
    have hlm : l.length = m := by omega
    have e0 : l.drop m = [] := List.drop_eq_nil_of_le (by omega)
    have e1 : l.take m = l := List.take_of_length_le (by omega)
    rw [e0, e1]
    exact ⟨some ⟨q, off, none⟩, m, by rw [hlm]; rfl, by show l.length ≤ m; omega, by omega, (hrow.hol).grown (grown_set w ⟨g, 0, none⟩ _) (fun b o e => RowB.apart hg hrow b o e (by intro e; subst e; simp at hm; omega)), cur_set1 hg _ _ 0 [] (by simp; omega) (by simp) (by decide) (.inl rfl) hqg, grown_set w ⟨g, 0, none⟩ _⟩
  · go_ret
    have e1 : (l.take m).length = m := by simp; omega
    exact ⟨some ⟨q, off, none⟩, c, by rw [e1]; rfl, by show (l.take m).length ≤ c; omega, hl2, (hrow.hol.take_ m).grown (grown_set w ⟨g, 0, none⟩ _) (fun b o e => RowB.apart hg hrow b o e (by intro e; subst e; simp at hm; omega)),
      cur_set1 hg _ _ (c - m) (l.drop m) (by simp) (by simp; omega) (by omega) (hrow.drop_ m) (fun q2 o2 e => by injection e with e; injection e with e1 e2; subst e1; exact hqg _ _ rfl), grown_set w ⟨g, 0, none⟩ _⟩

/-- What a call of Take leaves. -/
def TakePost (w : World) (g : Nat) (r : List UInt8 × List UInt8 × Bool) (e : Ending) (w' : World) : Prop :=
  ∃ v, e = .returned v ∧ w'.ownsRow w.heap.size 5 1 v r.1.length (bc r.1) ∧ Cur w' g r.2.1 r.2.2 ∧ w.grownBy w' (some g)
theorem next_of (g : Nat) (l : List UInt8) (bad : Bool) (n : Int) (w : World) (hc : Cur w g l bad) (hl : l.length ≤ 70368744177664) (r : List UInt8 × List UInt8 × Bool) (hr : nxt n l bad = r) :
    Calls Tryz.prog 109 #[.pointer (some ⟨g, 0, none⟩), .int .i64 n] w (NextPost w g r) := by
  subst hr
  exact next_any g l bad n w hc (by omega)
theorem take_any (g : Nat) (l : List UInt8) (bad : Bool) (n : Int) (w : World) (hc : Cur w g l bad) (hl : l.length ≤ 70368744177664) :
    Calls Tryz.prog 100 #[.pointer (some ⟨g, 0, none⟩), .int .i64 n] w (TakePost w g (nxt n l bad)) := by
  obtain ⟨i, U⟩ := u8_table
  have hle := (nxt_le n l bad).1
  generalize hr : nxt n l bad = r at hle ⊢
  have cN := next_of g l bad n w hc hl r hr
  clear hr
  obtain ⟨out, rest, bd⟩ := r
  replace hle : out.length ≤ l.length := hle
  go_enter Tryz.func100, Tryz.ntmps100
  go_wp2_with (first
    | (go_at_call 109; refine cN.mono ?_; rintro e w1 ⟨A, c, rfl, h1, h2, h3, h4, h5⟩)
    | (at_builtin; refine wpList_app _ rfl _ _ _ rfl 5 i U w.heap.size (.slice none 0 0) 0 [] rfl (World.ownsRow_nil _ _ _ _) A out.length c out rfl rfl h3 (by omega) h5.size ?_; intro v2 w2 hown2 hg2 hat2))
  go_ret
  refine ⟨v2, rfl, by simpa using hown2, h4.below (below_of_grown hg2), grown_trans h5 (grown_of_below ((below_of_grown hg2).mono (Nat.le_refl _)))⟩

/-- What a call of Num leaves. -/
def NumPost (w : World) (g : Nat) (r : List UInt8 × List UInt8 × Bool) (e : Ending) (w' : World) : Prop :=
  e = .returned (.int .u64 (num r.1 : Nat)) ∧ Cur w' g r.2.1 r.2.2 ∧ w.grownBy w' (some g)
set_option maxHeartbeats 400000 in
theorem num_any (g : Nat) (l : List UInt8) (bad : Bool) (n : Int) (w : World) (hc : Cur w g l bad) (hl : l.length ≤ 70368744177664) :
    Calls Tryz.prog 79 #[.pointer (some ⟨g, 0, none⟩), .int .i64 n] w (NumPost w g (nnx n l bad)) := by
  by_cases h : wid n = 0
  · have hn : nnx n l bad = ([], [], true) := by unfold nnx; rw [if_pos h]
    rw [hn]
    clear hn
    go_enter Tryz.func79, Tryz.ntmps79
    go_wp2_with (first
      | (go_at_call 107; refine (width_any _ _).mono ?_; rintro e w' ⟨rfl, rfl⟩; rw [h])
      | (go_at_call 108; refine (spoil_any g l bad _ hc).mono ?_; rintro e w' ⟨rfl, hc', hg'⟩))
    go_ret
    exact ⟨rfl, hc', hg'⟩
  · have hn : nnx n l bad = nxt n l bad := by unfold nnx; rw [if_neg h]
    have hle := nxt_one n l bad (by have := wid_pos h; omega)
    have hlt := num_lt (nxt n l bad).1
    have h8 := (wid_pos h).2
    rw [hn]
    generalize hr : nxt n l bad = r at hle hlt ⊢
    have cN := next_of g l bad n w hc hl r hr
    clear hr hn
    obtain ⟨out, rest, bd⟩ := r
    replace hle : out.length ≤ 8 := by have : out.length ≤ n.toNat := hle; omega
    have hw0 : ((wid n : Int) == 0) = false := by simp; omega
    clear h hlt
    go_enter Tryz.func79, Tryz.ntmps79
    go_wp2_with (first
      | (go_at_call 107; refine (width_any _ _).mono ?_; rintro e w' ⟨rfl, rfl⟩)
      | (go_at_call 109; refine cN.mono ?_; rintro e w1 ⟨A, c, rfl, h1, h2, h3, h4, h5⟩))
    replace h1 : out.length ≤ c := h1
    replace h3 : Hol w1 A out := h3
    go_loop [5, 17] (fun v i => ∃ k : Nat, k ≤ out.length ∧ i = .int .i64 k ∧ v = .int .u64 (num (out.take k) : Nat)) (fun _ i => out.length - (intOf i).toNat)
    case atStart => exact ⟨0, Nat.zero_le _, rfl, rfl⟩
    case round =>
      obtain ⟨k, hk, rfl, rfl⟩ := hrel
      by_cases hlt : k < out.length
      · obtain ⟨q, off, rfl, _, hcell⟩ := h3.at_ hlt
        obtain ⟨x, hx⟩ : ∃ x, out[k] = x := ⟨_, rfl⟩
        rw [hx] at hcell
        have hX : x.toNat < 256 := x.toNat_lt
        obtain ⟨N, hN⟩ : ∃ N, num (out.take k) = N := ⟨_, rfl⟩
        rw [hN]
        have HX := Lib.hid hx
        have HN := Lib.hid hN
        clear hx hN
        go_wp2
        go_round
        case rel =>
          refine ⟨k + 1, by omega, by go_num, ?_⟩
          have e1 : out.take (k + 1) = out.take k ++ [x] := by rw [List.take_succ_eq_append_getElem hlt, HX.out]
          have e2 : (out.take k).length = k := by simp; omega
          have e3 := num_lt (out.take k)
          rw [e2, HN.out] at e3
          rw [e1, num_app, e2, HN.out, or_join N x.toNat k e3 hX (by omega)]
        case measure => simp [intOf]; omega
      · go_wp2
        go_ret
        have e1 : out.take k = out := List.take_of_length_le (by omega)
        rw [e1]
        exact ⟨rfl, h4, h5⟩

/-- A new cursor. -/
theorem cur_new_any (A : Option Addr) (c : Nat) (l : List UInt8) (w : World) (hA : Hol w A l) (hb : l.length ≤ 70368744177664) :
    Calls Tryz.prog 78 #[.slice A l.length c] w fun e w' => ∃ g, e = .returned (.pointer (some ⟨g, 0, none⟩)) ∧ w.heap.size ≤ g ∧ Cur w' g l false ∧ Below w.heap.size w w' := by
  go_enter Tryz.func78, Tryz.ntmps78
  go_wp2_with (go_at_call 106; refine (room_any A c l 0 w hA (by omega)).mono ?_; rintro e w1 ⟨v, rfl, hown1, hb1⟩; obtain ⟨_, A1, c1, rfl, h1, h2, h3⟩ := own_form hown1)
  go_ret
  exact ⟨w1.heap.size, rfl, hb1.size, ⟨A1, c1, heap_alloc_new w1 _, h1, h2, (RowB.own hown1).grown (World.grownBy_alloc w1 _ none) (by simp), fun q o e => (hown1.lt q (by rw [e]; rfl)).2⟩, hb1.alloc hb1.size _⟩

end Go.Proofs.YtfbfeplegdpemaaGreat
/- The number of the first bytes of some, by the reference: what the call leaves. Conditions: those named. -/
set_option linter.unusedVariables false
namespace Go.Proofs.YtfbfeplegdpemaaGreat
open Go.RowKit

theorem num_drop1 : ∀ (l : List UInt8) (k : Nat) (h : k < l.length), num (l.drop k) = (l[k]).toNat + 256 * num (l.drop (k + 1))
  | [], k, h => by simp at h
  | a :: t, 0, h => by simp [num]
  | a :: t, k + 1, h => by
    have := num_drop1 t k (by simpa using h)
    simpa using this
set_option maxHeartbeats 400000 in
theorem rnumk_any (A : Option Addr) (n c : Nat) (l : List UInt8) (hn : l.length ≤ n) (w : World) (hA : Hol w A l) (hl : l.length ≤ 8) :
    Calls Tryz.prog 61 #[.slice A n c, .int .i64 l.length] w fun e w' => e = .returned (.int .u64 (num l : Nat)) ∧ w = w' := by
  have HN := Lib.hid hn
  clear hn
  go_enter Tryz.func61, Tryz.ntmps61
  go_wp2
  go_loop [5, 6] (fun v i => ∃ j : Nat, j ≤ l.length ∧ i = .int .i64 ((j : Int) - 1) ∧ v = .int .u64 (num (l.drop j) : Nat)) (fun _ i => (intOf i + 1).toNat)
  case atStart => exact ⟨l.length, Nat.le_refl _, rfl, by rw [List.drop_length]; rfl⟩
  case round =>
    obtain ⟨j, hj, rfl, rfl⟩ := hrel
    by_cases h0 : 0 < j
    · obtain ⟨k, rfl⟩ : ∃ k, j = k + 1 := ⟨j - 1, by omega⟩
      have hlt : k < l.length := by omega
      obtain ⟨g, o, rfl, _, hc⟩ := hA.at_ hlt
      have hnd := num_drop1 l k hlt
      have hbd := num_lt (l.drop k)
      have hpw : 256 ^ (l.drop k).length ≤ 256 ^ 8 := Nat.pow_le_pow_right (by decide) (by rw [List.length_drop]; omega)
      have hb2 : num (l.drop k) < 18446744073709551616 := Nat.lt_of_lt_of_le hbd hpw
      clear hbd hpw
      obtain ⟨x, hx⟩ : ∃ x, l[k] = x := ⟨_, rfl⟩
      rw [hx] at hc hnd
      have hX : x.toNat < 256 := x.toNat_lt
      generalize num (l.drop (k + 1)) = N at hnd ⊢
      have hb3 : x.toNat + 256 * N < 18446744073709551616 := by omega
      have HND := Lib.hid hnd
      have HX := Lib.hid hx
      clear hnd hx hb2
      have hk1 : ((k + 1 : Nat) : Int) - 1 = (k : Int) := by omega
      rw [hk1]
      clear hk1
      have hkz : (k : Int) < (n : Int) := by have := HN.out; omega
      go_wp2
      go_round
      case rel =>
        exact ⟨k, by omega, rfl, by rw [HND.out]; exact congrArg (Value.int .u64) (by omega)⟩
      case measure => simp [intOf]
    · obtain rfl : j = 0 := by omega
      rw [List.drop_zero]
      have e0 : ((0 : Nat) : Int) - 1 = -1 := rfl
      rw [e0]
      clear e0
      go_wp2
      go_ret
      exact ⟨rfl, rfl⟩
end Go.Proofs.YtfbfeplegdpemaaGreat
/- Package grant: flags out of bytes; what a cursor takes; the super that a block tells. Conditions: those named. -/
set_option linter.unusedVariables false
set_option maxRecDepth 20000
namespace Go.Proofs.YtfbfeplegdpemaaGreat
open Go.RowKit

section
variable {P : Program} {w : World} {ops : Array Oper} {rest : List Oper} {o : Oper} {a : Act} {Q : Exit → Act → World → Prop}
theorem shr_fact (X b : Nat) : (X : Int).fdiv (2 ^ b) = ((X / 2 ^ b : Nat) : Int) := by
  have e : (2 : Int) ^ b = ((2 ^ b : Nat) : Int) := by simp
  rw [e, Int.fdiv_eq_ediv_of_nonneg _ (Int.natCast_nonneg _)]
  exact (Int.natCast_ediv X (2 ^ b)).symm
theorem wp_shr8 (hgd : o.guard = none) (t t2 : TypeId) (x y : Operand) (ho : o.op = .binOp .shr t x y t2) (X : Nat) (hx : a.eval x = .int .u8 (X : Int)) (k2 : IntKind) (b r : Nat) (hy : a.eval y = .int k2 (b : Int)) (hb : b < 8) (hr : X / 2 ^ b = r)
    (h : wpList P ops Q rest (a.put o.dst (.int .u8 (r : Int))) w) : wpList P ops Q (o :: rest) a w := by
  refine wpList_plain hgd fun K hK => ?_
  have hm : min b 8 = b := by omega
  have hs := shr_fact X b
  rw [hr] at hs
  have hneg : ¬ ((b : Int) < 0) := by omega
  unfold Oper.wp execOp
  simp only [ho, hx, hy]
  simp only [go_sem, Op.shift, IntKind.bits, Int.toNat_natCast, hneg, hm, hs, if_false]
  simp [hs, hm]
  exact hK _ _ h
theorem and1 : ∀ q : Fin 256, bits .and .u8 (q.val : Int) 1 = ((q.val % 2 : Nat) : Int) := by decide +kernel
theorem wp_and1 (hgd : o.guard = none) (t t2 : TypeId) (x y : Operand) (ho : o.op = .binOp .and t x y t2) (X r : Nat) (hx : a.eval x = .int .u8 (X : Int)) (hX : X < 256) (hy : a.eval y = .int .u8 1) (hr : X % 2 = r)
    (h : wpList P ops Q rest (a.put o.dst (.int .u8 (r : Int))) w) : wpList P ops Q (o :: rest) a w := by
  refine wpList_plain hgd fun K hK => ?_
  have h1 := and1 ⟨X, hX⟩
  dsimp only at h1
  rw [hr] at h1
  unfold Oper.wp execOp
  simp only [ho, hx, hy]
  simp [go_sem, h1]
  exact hK _ _ h
theorem eq1_fact (r : Nat) : ((r : Int) == 1) = (r == 1) := by
  rw [Bool.eq_iff_iff]
  simp
  omega
theorem wp_eq1 (hgd : o.guard = none) (t t2 : TypeId) (x y : Operand) (ho : o.op = .binOp .eql t x y t2) (ht : P.underlying t = some (.int .u8)) (r : Nat) (z : Bool) (hx : a.eval x = .int .u8 (r : Int)) (hy : a.eval y = .int .u8 1) (hz : (r == 1) = z)
    (h : wpList P ops Q rest (a.put o.dst (.bool z)) w) : wpList P ops Q (o :: rest) a w := by
  refine wpList_plain hgd fun K hK => ?_
  have h1 := eq1_fact r
  rw [hz] at h1
  unfold Oper.wp execOp
  simp only [ho, hx, hy]
  simp [go_sem, h1]
  exact hK _ _ h
end
theorem ub_def (x : UInt8) (b r r2 : Nat) (hr : x.toNat / 2 ^ b = r) (hr2 : r % 2 = r2) : (r2 == 1) = ub x b := by
  unfold ub
  rw [hr, hr2]
set_option maxHeartbeats 4000000 in
theorem unpackbits_any (g o m n cap d : Nat) (t : TypeId) (B : Nat → UInt8) (C : Nat → List Value) (hn : 8 * m = n) (hC : ∀ i, i < n → (C i).set (o + i) (.bool (ub (B (i / 8)) (i % 8))) = C (i + 1)) (hz : ∀ i, i < n → ∃ z, (C i)[o + i]? = some (.bool z)) (hm : m ≤ 32)
    (A : Option Addr) (w : World) (hA : Hol w A (lst m B)) (hAg : ∀ q off, A = some ⟨q, off, none⟩ → q ≠ g) (hr : Row w g t (C 0)) :
    Calls Tryz.prog 101 #[.slice (some ⟨g, o, none⟩) n d, .slice A m cap] w fun e w' => e = .returned (.tuple #[]) ∧ Hid (Row w' g t (C n)) ∧ Hid (w.grownBy w' (some g)) := by
  have HA := Lib.hid hA
  have HAG := Lib.hid hAg
  have HN := Lib.hid hn
  have HC := Lib.hid hC
  have HZ := Lib.hid hz
  have HM := Lib.hid hm
  have HR0 := Lib.hid (p := Row w g t (C (8 * 0))) hr
  clear hA hAg hn hC hz hm hr
  go_enter Tryz.func101, Tryz.ntmps101
  go_wp2
  go_loopw [9] (fun y wr => ∃ k : Nat, Hid (k ≤ m) ∧ y = .int .i64 (k : Int) ∧ Hid (Row wr g t (C (8 * k))) ∧ Hid (w.grownBy wr (some g))) (fun y _ => 32 - (intOf y).toNat)
  case atStart => exact ⟨0, Lib.hid (by omega), rfl, HR0, Lib.hid ⟨rfl, rfl, rfl, Nat.le_refl _, fun _ _ _ => rfl⟩⟩
  case round =>
    clear HR0
    obtain ⟨k, HK, rfl, HR, HG⟩ := hrel
    have hkw : IntKind.i64.wrap ((k : Int) + 1) = (k : Int) + 1 := by rw [IntKind.wrap_i64]; have := HM.out; have := HK.out; omega
    by_cases hk : k < m
    · have hki : (k : Int) < (m : Int) := by omega
      have hk0 : (0 : Int) ≤ (k : Int) := by omega
      have HKL := Lib.hid hk
      have hAk := HA.out.grown HG.out (fun q off e e2 => HAG.out q off e (by injection e2))
      obtain ⟨ga, oa, hAe, _, hc⟩ := hAk.at_ (j := k) (by rw [lst_len]; exact hk)
      have hbk : (lst m B)[k]'(by rw [lst_len]; exact hk) = B k := by
        have h1 : (lst m B)[k]? = some (B k) := lst_get _ hk
        rw [List.getElem?_eq_getElem (by rw [lst_len]; exact hk)] at h1
        injection h1
      rw [hbk] at hc
      subst hAe
      obtain ⟨X, hX⟩ : ∃ X, (B k).toNat = X := ⟨_, rfl⟩
      rw [hX] at hc
      have HX := Lib.hid (p := (B k).toNat = X ∧ X < 256) ⟨hX, by rw [← hX]; exact (B k).toNat_lt⟩
      have h8k : IntKind.i64.wrap (8 * (k : Int)) = ((8 * k : Nat) : Int) := by rw [IntKind.wrap_i64]; have := HM.out; omega
      obtain ⟨p0, hp0⟩ : ∃ p0, 8 * k = p0 := ⟨_, rfl⟩
      rw [hp0] at h8k
      have HP0 := Lib.hid hp0
      have HR1 := Lib.hid (p := Row wr g t (C (p0 + 0))) (by rw [Nat.add_zero, ← hp0]; exact HR.out)
      clear hk hp0 hbk hAk hX HR
      go_wp2
      go_loopw [14] (fun y wr2 => ∃ b : Nat, b ≤ 8 ∧ y = .int .i64 (b : Int) ∧ Hid (Row wr2 g t (C (p0 + b))) ∧ Hid (w.grownBy wr2 (some g))) (fun y _ => 8 - (intOf y).toNat)
      case atStart => exact ⟨0, by omega, rfl, HR1, HG⟩
      case round =>
        clear HR1 HG hc
        obtain ⟨b, hb, rfl, HR, HG⟩ := hrel
        have hbw : IntKind.i64.wrap ((b : Int) + 1) = (b : Int) + 1 := by rw [IntKind.wrap_i64]; omega
        by_cases hb8 : b < 8
        · have hbi : (b : Int) < 8 := by omega
          have hb0 : (0 : Int) ≤ (b : Int) := by omega
          obtain ⟨p, hp⟩ : ∃ p, p0 + b = p := ⟨_, rfl⟩
          have hpw : IntKind.i64.wrap ((p0 : Int) + (b : Int)) = (p : Int) := by rw [IntKind.wrap_i64]; have := HM.out; have := HP0.out; have := HKL.out; omega
          have hpn : (p : Int) < (n : Int) := by have := HN.out; have := HP0.out; have := HKL.out; omega
          have hpn' : p < n := by omega
          have hp0' : (0 : Int) ≤ (p : Int) := by omega
          obtain ⟨z0, hz0⟩ := HZ.out p hpn'
          rw [hp] at HR
          have cz : wr.cell? ⟨g, o + p, none⟩ = some (.bool z0) := by rw [HR.out.cell, hz0]
          have fz := HR.out.free (o + p)
          obtain ⟨r, hr⟩ : ∃ r, X / 2 ^ b = r := ⟨_, rfl⟩
          obtain ⟨r2, hr2⟩ : ∃ r2, r % 2 = r2 := ⟨_, rfl⟩
          obtain ⟨z, hzz⟩ : ∃ z, ub (B k) b = z := ⟨_, rfl⟩
          have hrX : r < 256 := Nat.lt_of_le_of_lt (by rw [← hr]; exact Nat.div_le_self _ _) HX.out.2
          have hzr : (r2 == 1) = z := by rw [← hzz]; exact ub_def (B k) b r r2 (by rw [HX.out.1]; exact hr) hr2
          have HST := Lib.hid (p := (C p).set (o + p) (.bool z) = C (p + 1)) (by
            have h1 := HC.out p hpn'
            rw [show p / 8 = k by have := HP0.out; omega, show p % 8 = b by have := HP0.out; omega, hzz] at h1
            exact h1)
          have HF := Lib.hid (p := X / 2 ^ b = r ∧ r % 2 = r2 ∧ (r2 == 1) = z ∧ r < 256 ∧ b < 8 ∧ p0 + b = p) ⟨hr, hr2, hzr, hrX, hb8, hp⟩
          clear hr hr2 hzz hrX hzr hb hb8 hp hpn' hz0
          go_wp2_with (first
            | (refine wp_shr8 rfl _ _ _ _ rfl X rfl _ b r rfl HF.out.2.2.2.2.1 HF.out.1 ?_)
            | (refine wp_and1 rfl _ _ (.tmp 24) _ rfl r r2 rfl HF.out.2.2.2.1 rfl HF.out.2.1 ?_)
            | (refine wp_eq1 rfl _ _ (.tmp 25) _ rfl Tryz.underlying5 r2 z rfl rfl HF.out.2.2.1 ?_))
          clear hpw hpn hp0' cz fz hbi hb0
          go_roundw
          case rel => exact ⟨b + 1, HF.out.2.2.2.2.1, by go_num, Lib.hid (by rw [show p0 + (b + 1) = p + 1 by have := HF.out.2.2.2.2.2; omega, ← HST.out]; exact HR.out.put _ _), Lib.hid (grown_trans HG.out (grown_set wr ⟨g, o + p, none⟩ _))⟩
          case measure => have := HF.out.2.2.2.2.1; simp [intOf]; omega
        · obtain rfl : b = 8 := by omega
          have hbi : ¬ ((8 : Nat) : Int) < 8 := by omega
          have HR2 := Lib.hid (p := Row wr g t (C (8 * (k + 1)))) (by rw [show 8 * (k + 1) = p0 + 8 by have := HP0.out; omega]; exact HR.out)
          clear hb hb8 HR
          go_wp2
          go_roundw
          case rel => exact ⟨k + 1, Lib.hid HKL.out, by go_num, HR2, HG⟩
          case measure => have := HKL.out; have := HM.out; simp [intOf]; omega
    · obtain rfl : k = m := by have := HK.out; omega
      have hki : ¬ (k : Int) < (k : Int) := by omega
      have HR2 := Lib.hid (p := Row wr g t (C n)) (by rw [← HN.out]; exact HR.out)
      clear hk HR
      go_wp2
      go_end0
      exact ⟨rfl, HR2, HG⟩
end Go.Proofs.YtfbfeplegdpemaaGreat
