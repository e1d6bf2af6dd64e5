/- Words for memory: a thing of several blocks that may be written, all else as it was; rows of records; rows of bytes of the call's own. No conditions. -/
import Derived.Test.YtpobppoaidngeaaKept
import Derived.Test.YtpobppoaidngeaaCopy
set_option linter.unusedVariables false
namespace Go.Proofs.Ytpobppoaidngeaa
open Go.RowKit

theorem below_nxt {w u v : World} (hb : Below u.heap.size u v) (ha : Below w.heap.size w u) : Below w.heap.size w v := ha.trans (hb.mono ha.size)
theorem below_drw (w : World) : Below w.heap.size w w.drew := (Below.refl _ _).drew
/-- Behind the call there are new blocks, and the blocks of F may have been written; all else is as it was. -/
structure Chg (F : List Nat) (w w' : World) : Prop where
  os : w'.os = w.os
  tape : w'.tape = w.tape
  output : w'.output = w.output
  size : w.heap.size ≤ w'.heap.size
  block : ∀ j, j < w.heap.size → j ∉ F → w'.heap[j]? = w.heap[j]?
theorem Chg.refl (F : List Nat) (w : World) : Chg F w w := ⟨rfl, rfl, rfl, Nat.le_refl _, fun _ _ _ => rfl⟩
theorem Chg.of {F : List Nat} {w w' : World} (h : Below w.heap.size w w') : Chg F w w' := ⟨h.os, h.tape, h.output, h.size, fun j hj _ => h.block j hj⟩
theorem Chg.wider {F G : List Nat} {w w' : World} (h : Chg F w w') (hs : ∀ x ∈ F, x ∈ G ∨ w.heap.size ≤ x) : Chg G w w' :=
  ⟨h.os, h.tape, h.output, h.size, fun j hj hn => h.block j hj (fun hf => by rcases hs j hf with h | h; exact hn h; omega)⟩
theorem Chg.trans {F G : List Nat} {a b c : World} (h : Chg F a b) (k : Chg G b c) (hs : ∀ x ∈ G, x ∈ F ∨ a.heap.size ≤ x) : Chg F a c :=
  ⟨k.os.trans h.os, k.tape.trans h.tape, k.output.trans h.output, Nat.le_trans h.size k.size, fun j hj hn => (k.block j (Nat.lt_of_lt_of_le hj h.size) (fun hg => by rcases hs j hg with h | h; exact hn h; omega)).trans (h.block j hj hn)⟩
theorem Chg.grown {F : List Nat} {w w1 w2 : World} {row : Option Nat} (h : Chg F w w1) (hg : w1.grownBy w2 row) (hr : ∀ k, row = some k → k ∈ F ∨ w.heap.size ≤ k) : Chg F w w2 :=
  ⟨hg.os.trans h.os, hg.tape.trans h.tape, hg.output.trans h.output, Nat.le_trans h.size hg.size, fun j hj hn => (hg.block j (Nat.lt_of_lt_of_le hj h.size) (fun e => by rcases hr j e.symm with h | h; exact hn h; omega)).trans (h.block j hj hn)⟩
theorem Chg.setCell {F : List Nat} {w w1 : World} (h : Chg F w w1) {p : Addr} (hp : p.block ∈ F ∨ w.heap.size ≤ p.block) (u : Value) : Chg F w (w1.setCell p u) :=
  h.grown (grown_set w1 p u) (fun k hk => by injection hk with hk; rw [← hk]; exact hp)
theorem Chg.drew {F : List Nat} {w w1 : World} (h : Chg F w w1) : Chg F w w1.drew := ⟨h.os, h.tape, h.output, h.size, h.block⟩
theorem Chg.alloc {F : List Nat} {w w1 : World} (h : Chg F w w1) (o : Obj) : Chg F w (w1.alloc o) := h.grown (World.grownBy_alloc w1 o none) (fun k hk => by cases hk)
theorem Chg.below {F : List Nat} {w w' : World} {b : Nat} (h : Chg F w w') (hb : b ≤ w.heap.size) (hF : ∀ x ∈ F, b ≤ x) : Below b w w' :=
  ⟨h.os, h.tape, h.output, h.size, fun j hj => h.block j (by omega) (fun hf => by have := hF j hf; omega)⟩
theorem Chg.cell {F : List Nat} {w w' : World} (h : Chg F w w') {g o : Nat} {v : Value} (hc : w.cell? ⟨g, o, none⟩ = some v) (hn : g ∉ F) : w'.cell? ⟨g, o, none⟩ = some v :=
  (World.cell?_of_block (h.block g (World.block_lt_of_cell? w _ hc) hn)).trans hc
theorem Chg.own {F : List Nat} {w w' : World} {b size n : Nat} {e : TypeId} {v : Value} {xs : List Value} (h : w.ownsRow b e size v n xs) (hc : Chg F w w') (hn : ∀ k, v.ownBlock = some k → k ∉ F) : w'.ownsRow b e size v n xs := by
  refine ⟨h.1, ?_⟩
  rcases h.2 with h0 | ⟨g, cap, cur, rfl, hb, hg, rest⟩
  · exact .inl h0
  · exact .inr ⟨g, cap, cur, rfl, hb, (hc.block g (Array.getElem?_eq_some_iff.1 hg).1 (hn g rfl)).trans hg, rest⟩
theorem Chg.row {F : List Nat} {w w' : World} {g : Nat} {t : TypeId} {cs : List Value} (h : Row w g t cs) (hc : Chg F w w') (hn : g ∉ F) : Row w' g t cs := (hc.block g h.lt hn).trans h
theorem Chg.hol {F : List Nat} {w w' : World} {A : Option Addr} {l : List UInt8} (h : Hol w A l) (hc : Chg F w w') (hn : ∀ g o, A = some ⟨g, o, none⟩ → l ≠ [] → g ∉ F) : Hol w' A l := by
  rcases h with rfl | ⟨g, o, rfl, hcell⟩
  · exact .inl rfl
  · by_cases hl : l = []
    · exact .inl hl
    · exact .inr ⟨g, o, rfl, fun j x hx => hc.cell (hcell j x hx) (hn g o rfl hl)⟩

/-! Records, so many cells each. -/
section
variable {α : Type} {f : α → List Value} {k : Nat}
theorem flat_len (hf : ∀ x, (f x).length = k) : ∀ xs : List α, (xs.flatMap f).length = xs.length * k
  | [] => by simp
  | x :: t => by
    rw [List.flatMap_cons, List.length_append, hf, flat_len hf t, List.length_cons, Nat.add_mul]
    omega
theorem flat_snoc (xs : List α) (x : α) : (xs ++ [x]).flatMap f = xs.flatMap f ++ f x := by simp
theorem flat_get (hf : ∀ x, (f x).length = k) : ∀ {xs : List α} {j : Nat} {x : α}, xs[j]? = some x → ∀ i, i < k → (xs.flatMap f)[j * k + i]? = (f x)[i]?
  | [], j, x, h, _, _ => by simp at h
  | a :: t, 0, x, h, i, hi => by
    simp at h
    subst h
    rw [List.flatMap_cons, Nat.zero_mul, Nat.zero_add, List.getElem?_append_left (by rw [hf]; exact hi)]
  | a :: t, j + 1, x, h, i, hi => by
    have h' : t[j]? = some x := by simpa using h
    rw [List.flatMap_cons, List.getElem?_append_right (by rw [hf, Nat.add_mul]; omega), hf, show (j + 1) * k + i - k = j * k + i by rw [Nat.add_mul]; omega]
    exact flat_get hf h' i hi
end
/-- A record's cells in a row of the call's own. -/
theorem own_rec {α : Type} {f : α → List Value} {k : Nat} (hf : ∀ x, (f x).length = k) {w : World} {b n : Nat} {e : TypeId} {v : Value} {xs : List α} (h : w.ownsRow b e k v n (xs.flatMap f)) {j : Nat} {x : α} (hj : xs[j]? = some x) (hk : 0 < k) :
    ∃ g c, v = .slice (some ⟨g, 0, none⟩) n c ∧ g < w.heap.size ∧ b ≤ g ∧ ∀ i u, (f x)[i]? = some u → w.cell? ⟨g, j * k + i, none⟩ = some u := by
  have hlt := (List.getElem?_eq_some_iff.1 hj).1
  have hl := h.1
  rw [flat_len hf] at hl
  rcases h.2 with ⟨_, h0⟩ | ⟨g, cap, cur, rfl, hb, hg, _⟩
  · rw [h0, Nat.zero_mul] at hl
    have := Nat.mul_pos (Nat.lt_of_le_of_lt (Nat.zero_le _) hlt) hk
    omega
  · refine ⟨g, cap, rfl, (Array.getElem?_eq_some_iff.1 hg).1, hb, fun i u hu => ?_⟩
    have hi : i < k := by rw [← hf x]; exact (List.getElem?_eq_some_iff.1 hu).1
    have := h.cells (g := g) rfl (j * k + i) u (by rw [flat_get hf hj i hi]; exact hu)
    rw [Addr.add_lit, Nat.zero_add] at this
    exact this

/-- Bytes, as a slice says them. -/
structure BV where
  A : Option Addr
  c : Nat
  l : List UInt8
def bvv (b : BV) : Value := .slice b.A b.l.length b.c
def noBV : BV := ⟨none, 0, []⟩
/-- They lie in a row of bytes of the call's own, from block b on. -/
def Own8 (b : Nat) (w : World) (x : BV) : Prop := w.ownsRow b 5 1 (bvv x) x.l.length (bc x.l)
theorem Own8.none_ (b : Nat) (w : World) : Own8 b w noBV := World.ownsRow_nil _ _ _ _
theorem Own8.hol {b : Nat} {w : World} {x : BV} (h : Own8 b w x) : Hol w x.A x.l := Hol.own h
theorem Own8.cap {b : Nat} {w : World} {x : BV} (h : Own8 b w x) : x.l.length ≤ x.c := by
  rcases h.2 with ⟨e0, h0⟩ | ⟨g, cap', cur, e0, _, _, hc, _⟩
  · omega
  · simp only [bvv, Value.slice.injEq] at e0
    omega
theorem Own8.below {b : Nat} {w w' : World} {x : BV} (h : Own8 b w x) (hb : Below w.heap.size w w') : Own8 b w' x := own_kept h hb
theorem Own8.lower {b b' : Nat} {w : World} {x : BV} (h : Own8 b w x) (hb : b' ≤ b) : Own8 b' w x := by
  refine ⟨h.1, ?_⟩
  rcases h.2 with h0 | ⟨g, cap, cur, h1, h2, h3⟩
  · exact .inl h0
  · exact .inr ⟨g, cap, cur, h1, Nat.le_trans hb h2, h3⟩
/-- The blocks of F hold no bytes. -/
def NoBytes (w : World) (F : List Nat) : Prop := ∀ x ∈ F, ∀ cs fr, w.heap[x]? ≠ some (.cells cs 5 fr)
theorem Own8.chg {b : Nat} {F : List Nat} {w w' : World} {x : BV} (h : Own8 b w x) (hc : Chg F w w') (hF : NoBytes w F) : Own8 b w' x := by
  refine Chg.own h hc fun k hk hf => ?_
  rcases h.2 with ⟨e0, _⟩ | ⟨g, cap, cur, e0, _, hg, _⟩
  · rw [e0] at hk
    cases hk
  · rw [e0] at hk
    injection hk with hk
    subst hk
    exact hF _ hf _ _ hg
end Go.Proofs.Ytpobppoaidngeaa
