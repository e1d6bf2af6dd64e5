/- A source and a view as they lie; what a source tells; what a view sees. Conditions: those named. -/
import Derived.Test.YtpobppoaidngeaaKb
import Derived.BigQuiet
import Derived.Deep.QuietTactic
set_option linter.unusedVariables false
set_option maxRecDepth 20000
namespace Go.Proofs.Ytpobppoaidngeaa
open Go.RowKit

theorem below_al (w : World) (o : Obj) : Below w.heap.size w (w.alloc o) := (Below.refl _ _).alloc (Nat.le_refl _) _
/-- Records that lie in blocks below b. -/
def LiesB {α : Type} (f : α → List Value) (k b : Nat) (w : World) (A : Option Addr) (xs : List α) : Prop := Lies f k w A xs ∧ (xs = [] ∨ ∀ ad, A = some ad → ad.block < b)
/-- Bytes that lie in a block below b. -/
def HolB (b : Nat) (w : World) (A : Option Addr) (l : List UInt8) : Prop := Hol w A l ∧ (l = [] ∨ ∀ ad, A = some ad → ad.block < b)
section
variable {α : Type} {f : α → List Value} {k b : Nat} {w w' : World} {A : Option Addr} {xs : List α} {l : List UInt8}
theorem LiesB.keep (h : LiesB f k b w A xs) (hb : Below b w w') : LiesB f k b w' A xs := by
  refine ⟨?_, h.2⟩
  rcases h with ⟨rfl | ⟨g, o, rfl, hc⟩, h2⟩
  · exact .inl rfl
  · rcases h2 with rfl | h2
    · exact .inl rfl
    · exact .inr ⟨g, o, rfl, fun j x hx i u hu => (hb.cell (p := ⟨g, o + j * k + i, none⟩) (h2 ⟨g, o, none⟩ rfl)).trans (hc j x hx i u hu)⟩
theorem HolB.keep (h : HolB b w A l) (hb : Below b w w') : HolB b w' A l := by
  refine ⟨?_, h.2⟩
  rcases h with ⟨rfl | ⟨g, o, rfl, hc⟩, h2⟩
  · exact .inl rfl
  · rcases h2 with rfl | h2
    · exact .inl rfl
    · exact .inr ⟨g, o, rfl, fun j x hx => (hb.cell (p := ⟨g, o + j, none⟩) (h2 ⟨g, o, none⟩ rfl)).trans (hc j x hx)⟩
theorem LiesB.mono {b' : Nat} (h : LiesB f k b w A xs) (hb : b ≤ b') : LiesB f k b' w A xs := ⟨h.1, h.2.imp id fun h ad e => Nat.lt_of_lt_of_le (h ad e) hb⟩
theorem HolB.mono {b' : Nat} (h : HolB b w A l) (hb : b ≤ b') : HolB b' w A l := ⟨h.1, h.2.imp id fun h ad e => Nat.lt_of_lt_of_le (h ad e) hb⟩
theorem LiesB.all (hk : ∀ x, 0 < (f x).length) (h : Lies f k w A xs) : LiesB f k w.heap.size w A xs := by
  refine ⟨h, ?_⟩
  rcases h with rfl | ⟨g, o, rfl, hc⟩
  · exact .inl rfl
  · cases xs with
    | nil => exact .inl rfl
    | cons x t =>
      refine .inr fun ad e => ?_
      injection e with e
      subst e
      exact World.block_lt_of_cell? w ⟨g, o + 0 * k + 0, none⟩ (hc 0 x rfl 0 _ (List.getElem?_eq_getElem (hk x)))
theorem HolB.all (h : Hol w A l) : HolB w.heap.size w A l := by
  refine ⟨h, ?_⟩
  rcases h with rfl | ⟨g, o, rfl, hc⟩
  · exact .inl rfl
  · cases l with
    | nil => exact .inl rfl
    | cons x t =>
      refine .inr fun ad e => ?_
      injection e with e
      subst e
      exact World.block_lt_of_cell? w ⟨g, o + 0, none⟩ (hc 0 x rfl)
end
/-- A source: blocks, and which of them are known; all in blocks below b. -/
structure Src (b : Nat) (w : World) (gs : Nat) (Bs : List BV) (Ks : List Bool) : Prop where
  lt : gs < b
  c0 : ∃ A c, w.cell? ⟨gs, 0, none⟩ = some (.slice A Bs.length c) ∧ LiesB sc 1 b w A Bs
  c1 : ∃ A c, w.cell? ⟨gs, 1, none⟩ = some (.slice A Ks.length c) ∧ LiesB bcs 1 b w A Ks
  hol : ∀ x ∈ Bs, HolB b w x.A x.l
  len : ∀ x ∈ Bs, x.l.length ≤ 131072
  eq : Bs.length = Ks.length
  lim : Bs.length ≤ 300
/-- What it tells. -/
def srcF (Bs : List BV) (Ks : List Bool) (a : Int) : Option BV := if 0 ≤ a ∧ Ks[a.toNat]? = some true then Bs[a.toNat]? else none
theorem Src.keep {b : Nat} {w w' : World} {gs : Nat} {Bs : List BV} {Ks : List Bool} (h : Src b w gs Bs Ks) (hb : Below b w w') : Src b w' gs Bs Ks := by
  obtain ⟨A, c, h1, h2⟩ := h.c0
  obtain ⟨A', c', h3, h4⟩ := h.c1
  exact ⟨h.lt, ⟨A, c, (hb.cell (p := ⟨gs, 0, none⟩) h.lt).trans h1, h2.keep hb⟩, ⟨A', c', (hb.cell (p := ⟨gs, 1, none⟩) h.lt).trans h3, h4.keep hb⟩, fun x hx => (h.hol x hx).keep hb, h.len, h.eq, h.lim⟩
theorem Src.mono {b b' : Nat} {w : World} {gs : Nat} {Bs : List BV} {Ks : List Bool} (h : Src b w gs Bs Ks) (hb : b ≤ b') : Src b' w gs Bs Ks := by
  obtain ⟨A, c, h1, h2⟩ := h.c0
  obtain ⟨A', c', h3, h4⟩ := h.c1
  exact ⟨Nat.lt_of_lt_of_le h.lt hb, ⟨A, c, h1, h2.mono hb⟩, ⟨A', c', h3, h4.mono hb⟩, fun x hx => (h.hol x hx).mono hb, h.len, h.eq, h.lim⟩
theorem src_neg {Bs : List BV} {Ks : List Bool} {a : Int} (h : a < 0) : srcF Bs Ks a = none := if_neg (by omega)
theorem src_far {Bs : List BV} {Ks : List Bool} {a : Nat} (he : Bs.length = Ks.length) (h : Bs.length ≤ a) : srcF Bs Ks (a : Int) = none := by
  refine if_neg ?_
  rintro ⟨_, h2⟩
  rw [Int.toNat_natCast, List.getElem?_eq_none (by omega)] at h2
  cases h2
theorem src_not {Bs : List BV} {Ks : List Bool} {a : Nat} (h : Ks[a]? = some false) : srcF Bs Ks (a : Int) = none := by
  refine if_neg ?_
  rintro ⟨_, h2⟩
  rw [Int.toNat_natCast, h] at h2
  cases h2
theorem src_yes {Bs : List BV} {Ks : List Bool} {a : Nat} (h : Ks[a]? = some true) : srcF Bs Ks (a : Int) = Bs[a]? := by
  unfold srcF
  rw [Int.toNat_natCast, if_pos ⟨by omega, h⟩]
theorem src_mem {Bs : List BV} {Ks : List Bool} {a : Int} {x : BV} (h : srcF Bs Ks a = some x) : x ∈ Bs := by
  unfold srcF at h
  split at h
  · exact List.mem_of_getElem? h
  · cases h
theorem get_any {b : Nat} {w : World} {gs : Nat} {Bs : List BV} {Ks : List Bool} (h : Src b w gs Bs Ks) (a : Int) :
    Calls Try.prog 10 #[.pointer (some ⟨gs, 0, none⟩), .int .i64 a] w fun e w' => e = .returned (.tuple #[bvo (srcF Bs Ks a), .bool (srcF Bs Ks a).isSome]) ∧ w = w' := by
  obtain ⟨A, c, h0, hA⟩ := h.c0
  obtain ⟨A', c', h1, hA'⟩ := h.c1
  obtain ⟨n, hn⟩ : ∃ n, Bs.length = n := ⟨_, rfl⟩
  have hn2 : Ks.length = n := by rw [← h.eq]; exact hn
  have hlim : n ≤ 300 := by rw [← hn]; exact h.lim
  rw [hn] at h0
  rw [hn2] at h1
  by_cases ha : a < 0
  · rw [src_neg ha]
    clear hA hA' h
    go_enter Try.func10, Try.ntmps10
    go_wp2
    go_ret2
    exact ⟨rfl, rfl⟩
  · obtain ⟨m, rfl⟩ := Int.eq_ofNat_of_zero_le (by omega : 0 ≤ a)
    by_cases hm : m < n
    · have hmi : (m : Int) < (n : Int) := by omega
      have hmi2 : ¬ (n : Int) ≤ (m : Int) := by omega
      obtain ⟨g, o, rfl, hc⟩ := hA.1.at_ (j := m) (by omega)
      obtain ⟨g', o', rfl, hc'⟩ := hA'.1.at_ (j := m) (by omega)
      have cx := hc 0 _ rfl
      have cy := hc' 0 _ rfl
      obtain ⟨x, hx⟩ : ∃ x, Bs[m]'(by omega) = x := ⟨_, rfl⟩
      obtain ⟨y, hy⟩ : ∃ y, Ks[m]'(by omega) = y := ⟨_, rfl⟩
      rw [hx] at cx
      rw [hy] at cy
      have hxs : Bs[m]? = some x := by rw [← hx]; exact List.getElem?_eq_getElem _
      have hys : Ks[m]? = some y := by rw [← hy]; exact List.getElem?_eq_getElem _
      clear hx hy hc hc' hA hA' h
      simp only [Nat.mul_one, Nat.add_zero] at cx cy
      unfold bvv at cx
      cases y with
      | false =>
        rw [src_not hys]
        clear hxs hys ha hm
        go_enter Try.func10, Try.ntmps10
        go_wp2
        go_ret2
        exact ⟨rfl, rfl⟩
      | true =>
        rw [src_yes hys, hxs]
        clear hxs hys ha hm
        go_enter Try.func10, Try.ntmps10
        go_wp2
        go_ret2
        exact ⟨rfl, rfl⟩
    · have hmi2 : (n : Int) ≤ (m : Int) := by omega
      rw [src_far h.eq (by omega)]
      clear hA hA' h ha hm
      go_enter Try.func10, Try.ntmps10
      go_wp2
      go_ret2
      exact ⟨rfl, rfl⟩

/-- Bytes cloned. -/
theorem clone8 (x : BV) (w : World) (hx : Hol w x.A x.l) (hl : x.l.length ≤ 131072) :
    Calls Try.prog 32 #[.slice x.A x.l.length x.c] w fun e w' => ∃ y : BV, e = .returned (.slice y.A y.l.length y.c) ∧ Hid (y.l = x.l) ∧ Hid (Own8 w.heap.size w' y) ∧ Hid (Below w.heap.size w w') := by
  obtain ⟨i, U⟩ := u8_tab
  have hnil : ∀ (w : World) (a : Option Addr) (n c : Nat), (binOp .eql 44 (.slice a n c) (.slice none 0 0)).run Try.prog w = .ok (.bool a.isNone) w := fun w a n c => Lib.run_eql_slice_nil w _ _ a n c 0 0 Try.underlying44
  obtain ⟨A, c, l⟩ := x
  have HL := Lib.hid hl
  have HH := Lib.hid hx
  cases A with
  | none =>
    have h0 : l = [] := by
      rcases hx with h | ⟨g, o, h, _⟩
      · exact h
      · cases h
    subst h0
    clear hx hl
    go_enter Try.func32, Try.ntmps32
    go_wp2
    go_ret
    exact ⟨noBV, rfl, Lib.hid rfl, Lib.hid (Own8.none_ _ _), Lib.hid (Below.refl _ _)⟩
  | some ad =>
    clear hx hl
    go_enter Try.func32, Try.ntmps32
    go_wp2_with (first
      | (at_builtin; refine wpList_app _ rfl _ _ _ rfl 5 i U w.heap.size (.slice (some ⟨w.heap.size, 0, none⟩) 0 0) 0 [] rfl (void_own w _ 1 _ (Nat.le_refl _)) _ l.length c l rfl rfl (HH.out.below ((Below.refl _ _).alloc (Nat.le_refl _) _)) (by have h9 : l.length ≤ 131072 := HL.out; omega) (by simp) ?_
         intro v2' w2 hown2 hg2 hat2
         rw [List.nil_append, Nat.zero_add] at hown2
         obtain ⟨Ax, cx, rfl⟩ := own_sl hown2
         have hb2 : Below w.heap.size w w2 := ((Below.refl _ _).alloc (Nat.le_refl _) _).grown hg2 (by simp) (fun q hq => by have h0 : some w.heap.size = some q := hq; injection h0 with h0; omega)
         have HX2 := Lib.hid hown2
         have HB2 := Lib.hid hb2
         clear hown2 hg2 hat2 hb2))
    go_ret
    exact ⟨⟨Ax, cx, l⟩, rfl, Lib.hid rfl, HX2, HB2⟩
end Go.Proofs.Ytpobppoaidngeaa
