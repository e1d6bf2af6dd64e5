/- Words for memory: rows of records of the call's own, as they grow; lists of bytes, of changes, of steps, as they lie. No conditions but those named. -/
import Derived.Test.YtpobppoaidngeaaChg
import Derived.Deep.RegionLaw
import Derived.Deep.AppendLies
import Derived.Lib.SliceRun
set_option linter.unusedVariables false
namespace Go.Proofs.Ytpobppoaidngeaa
open Go.RowKit

/-- What the table says of a record's type, and of slices of it. -/
structure Rec (P : Program) (t e : TypeId) (k : Nat) : Prop where
  ht : P.underlying t = some (.slice e)
  inf : ∃ i z, P.info? e = some i ∧ i.zero = some z ∧ i.size = k ∧ i.bytes ≤ 64 ∧ z.cells.size = k
  pos : 0 < k
theorem rec_of {P : Program} {t e : TypeId} {k n : Nat} {z : Value} (ht : P.underlying t = some (.slice e)) (h : (P.info? e).map (fun i => (i.zero, i.size, i.bytes)) = some (some z, k, n)) (hn : n ≤ 64) (hz : z.cells.size = k) (hk : 0 < k) : Rec P t e k := by
  obtain ⟨i, h1, h2, h3, h4⟩ := info_parts h
  exact ⟨ht, ⟨i, z, h1, h2, h3, by omega, hz⟩, hk⟩
theorem rec_sl : Rec Try.prog 22 44 1 := rec_of (z := .slice none 0 0) (n := 24) Try.underlying22 (by kernel_rfl) (by decide) rfl (by decide)
theorem rec_put : Rec Try.prog 37 61 2 := rec_of (z := .agg #[.int .i64 0, .slice none 0 0]) (n := 32) Try.underlying37 (by kernel_rfl) (by decide) rfl (by decide)
theorem rec_bool : Rec Try.prog 23 4 1 := rec_of (z := .bool false) (n := 1) Try.underlying23 (by kernel_rfl) (by decide) rfl (by decide)

theorem own_parted {w : World} {b b' : Nat} {e e' : TypeId} {s s' n n' : Nat} {v v' : Value} {xs xs' : List Value} (h : w.ownsRow b e s v n xs) (h' : w.ownsRow b' e' s' v' n' xs') (hne : e ≠ e') : v.ownBlock = none ∨ v.ownBlock ≠ v'.ownBlock := by
  rcases h.2 with ⟨rfl, _⟩ | ⟨g, cap, cur, rfl, _, hg, _⟩
  · exact .inl rfl
  · refine .inr fun he => ?_
    rcases h'.2 with ⟨rfl, _⟩ | ⟨g', cap', cur', rfl, _, hg', _⟩
    · simp [Value.ownBlock] at he
    · simp [Value.ownBlock] at he
      subst he
      rw [hg] at hg'
      injection hg' with hg'
      injection hg' with _ ht
      exact hne ht
theorem row_parted {w : World} {b g : Nat} {t e : TypeId} {s n : Nat} {v : Value} {cs xs : List Value} (h : Row w g t cs) (h' : w.ownsRow b e s v n xs) (hne : t ≠ e) : v.ownBlock ≠ some g := by
  intro he
  rcases h'.2 with ⟨rfl, _⟩ | ⟨g', cap', cur', rfl, _, hg', _⟩
  · simp [Value.ownBlock] at he
  · simp [Value.ownBlock] at he
    subst he
    have h1 := h.heap
    rw [h1] at hg'
    injection hg' with hg'
    injection hg' with _ ht
    exact hne ht
theorem own_lower {w : World} {b b' : Nat} {e : TypeId} {size n : Nat} {v : Value} {xs : List Value} (h : w.ownsRow b e size v n xs) (hb : b' ≤ b) : w.ownsRow b' e size v n xs := by
  refine ⟨h.1, ?_⟩
  rcases h.2 with h0 | ⟨g, cap, cur, h1, h2, h3⟩
  · exact .inl h0
  · exact .inr ⟨g, cap, cur, h1, Nat.le_trans hb h2, h3⟩

section
variable {P : Program} {w : World} {t e : TypeId} {k : Nat}
/-- A row of the call's own, appended to another one. -/
theorem run_join (R : Rec P t e k) (ty : TypeId) (base : Nat) (v : Value) (n : Nat) (xs : List Value) (hown : w.ownsRow base e k v n xs)
    (A : Option Addr) (m c : Nat) (ys : List Value) (hys : ys.length = m * k) (hA : m = 0 ∧ A = none ∨ ∃ ad, A = some ad ∧ ∀ j u, ys[j]? = some u → w.cell? (ad.add j) = some u) (h1 : ∀ u ∈ ys, u.oneCell' = true) (hb : n + m ≤ 1000001) (hbase : base ≤ w.heap.size) :
    ∃ v' w', (Builtin.append_ #[t, t] ty #[v, .slice A m c]).run P w = .ok v' w' ∧ w'.ownsRow base e k v' (n + m) (xs ++ ys) ∧ w.grownBy w' v.ownBlock ∧ (v'.ownBlock = v.ownBlock ∨ v'.ownBlock = some w.heap.size) := by
  obtain ⟨i, z, hi, hz, hs, hby, hzs⟩ := R.inf
  rcases hA with ⟨rfl, rfl⟩ | ⟨ad, rfl, hc⟩
  · have hy : ys = [] := List.eq_nil_of_length_eq_zero (by rw [hys, Nat.zero_mul])
    subst hy
    refine ⟨v, w, ?_, by simpa using hown, ⟨rfl, rfl, rfl, Nat.le_refl _, fun _ _ _ => rfl⟩, .inl rfl⟩
    rcases hown.2 with ⟨rfl, rfl⟩ | ⟨g, cap, cur, rfl, _, _, hnc, _⟩
    · simp [Builtin.append_, run_underlying R.ht, sizeOf, typeInfo, hi, Builtin.lenOf, Builtin.firstCells]
    · simp [Builtin.append_, run_underlying R.ht, sizeOf, typeInfo, hi, Builtin.lenOf, Builtin.firstCells, hnc, storeCells]
  · obtain ⟨v', w', hr, h2, h3, _, h5⟩ := run_append_own_at (P := P) w base t ty e i z k i.bytes R.ht hi hz hs rfl hzs R.pos v n xs hown ad m c ys hys hc h1
      (by unfold maxLen; omega) (Nat.le_trans (Nat.mul_le_mul hb hby) (by omega)) hbase
    exact ⟨v', w', hr, h2, h3, h5⟩
/-- The same, for the walk. -/
theorem wp_join {ops : Array Oper} {rest : List Oper} {o : Oper} {a : Act} {Q : Exit → Act → World → Prop} (hgd : o.guard = none) (s x : Operand)
    (ho : o.op = .call { callee := .builtin .append, args := #[s, x], argTypes := #[t, t] }) (R : Rec P t e k) (base : Nat) (v : Value) (n : Nat) (xs : List Value) (hs : a.eval s = v) (hown : w.ownsRow base e k v n xs)
    (A : Option Addr) (m c : Nat) (ys : List Value) (hx : a.eval x = .slice A m c) (hys : ys.length = m * k) (hA : m = 0 ∧ A = none ∨ ∃ ad, A = some ad ∧ ∀ j u, ys[j]? = some u → w.cell? (ad.add j) = some u) (h1 : ∀ u ∈ ys, u.oneCell' = true) (hb : n + m ≤ 1000001) (hbase : base ≤ w.heap.size)
    (h : ∀ v' w', w'.ownsRow base e k v' (n + m) (xs ++ ys) → w.grownBy w' v.ownBlock → (v'.ownBlock = v.ownBlock ∨ v'.ownBlock = some w.heap.size) → wpList P ops Q rest (a.put o.dst v') w') :
    wpList P ops Q (o :: rest) a w := by
  refine wpList_plain hgd fun K hK => ?_
  obtain ⟨v', w', hr, h2, h3, h4⟩ := run_join (P := P) R o.type base v n xs hown A m c ys hys hA h1 hb hbase
  unfold Oper.wp execOp
  simp only [ho, resolve, invoke, builtin, Sem.run_bind, Sem.run_pure, Result.andThen_ok, List.map_toArray, List.map_cons, List.map_nil, hs, hx, hr]
  exact hK _ _ (h v' w' h2 h3 h4)
end
/-- An own row as the source of an append. -/
theorem own_src {w : World} {b k n : Nat} {e : TypeId} {A : Option Addr} {c : Nat} {xs : List Value} (h : w.ownsRow b e k (.slice A n c) n xs) : n = 0 ∧ A = none ∨ ∃ ad, A = some ad ∧ ∀ j u, xs[j]? = some u → w.cell? (ad.add j) = some u := by
  rcases h.2 with ⟨e0, h0⟩ | ⟨g, cap, cur, e0, _⟩
  · simp only [Value.slice.injEq] at e0
    exact .inl ⟨h0, e0.1⟩
  · simp only [Value.slice.injEq] at e0
    obtain ⟨rfl, _, _⟩ := e0
    exact .inr ⟨_, rfl, fun j u hu => h.cells (g := g) rfl j u hu⟩
theorem flat_one {α : Type} {f : α → List Value} (hf : ∀ x, ∀ u ∈ f x, u.oneCell' = true) (xs : List α) : ∀ u ∈ xs.flatMap f, u.oneCell' = true := by
  intro u hu
  obtain ⟨x, _, hx⟩ := List.mem_flatMap.1 hu
  exact hf x u hx
theorem void_own (w : World) (e : TypeId) (k b : Nat) (hb : b ≤ w.heap.size) : (w.alloc (.cells #[] e)).ownsRow b e k (.slice (some ⟨w.heap.size, 0, none⟩) 0 0) 0 [] :=
  ⟨by simp, .inr ⟨w.heap.size, 0, #[], rfl, hb, heap_alloc_new w _, Nat.le_refl _, by decide, by simp, by simp⟩⟩
theorem made_src (w : World) (cs : List Value) (e : TypeId) {m : Nat} : m = 0 ∧ (some (⟨w.heap.size, 0, none⟩ : Addr)) = none ∨ ∃ ad, some (⟨w.heap.size, 0, none⟩ : Addr) = some ad ∧ ∀ j u, cs[j]? = some u → (w.alloc (.cells cs.toArray e)).cell? (ad.add j) = some u :=
  .inr ⟨_, rfl, fun j u hu => by rw [Addr.add_lit, Nat.zero_add, (Row.made w e cs).cell]; exact hu⟩
theorem made_own (w : World) (e : TypeId) (k b n : Nat) (cs : List Value) (hl : cs.length = n * k) (hb : b ≤ w.heap.size) (hn : n ≤ maxLen) : (w.alloc (.cells cs.toArray e)).ownsRow b e k (.slice (some ⟨w.heap.size, 0, none⟩) n n) n cs :=
  ⟨hl, .inr ⟨w.heap.size, n, _, rfl, hb, heap_alloc_new w _, Nat.le_refl _, hn, by simp [hl], List.take_of_length_le (by rw [hl]; exact Nat.le_refl _)⟩⟩

/-- A slice's cell. -/
def sc (b : BV) : List Value := [bvv b]
theorem sc_len (b : BV) : (sc b).length = 1 := rfl
/-- A change's two cells. -/
def pcs (p : Int × BV) : List Value := [.int .i64 p.1, bvv p.2]
theorem pcs_len (p : Int × BV) : (pcs p).length = 2 := rfl
/-- A step of a script. -/
structure DV where
  put : Bool
  slot : Int
  blk : BV
def dcs (d : DV) : List Value := [.bool d.put, .int .i64 d.slot, bvv d.blk]
theorem dcs_len (d : DV) : (dcs d).length = 3 := rfl
def bcs (b : Bool) : List Value := [.bool b]
theorem bcs_len (b : Bool) : (bcs b).length = 1 := rfl
theorem sc_one (b : BV) : ∀ u ∈ sc b, u.oneCell' = true := by intro u hu; simp [sc, bvv] at hu; subst hu; rfl
theorem pcs_one (p : Int × BV) : ∀ u ∈ pcs p, u.oneCell' = true := by intro u hu; simp [pcs, bvv] at hu; rcases hu with rfl | rfl <;> rfl
theorem bcs_one (b : Bool) : ∀ u ∈ bcs b, u.oneCell' = true := by intro u hu; simp [bcs] at hu; subst hu; rfl

/-- The records xs lie where the address says (wherever that is, if there are none). -/
def Lies {α : Type} (f : α → List Value) (k : Nat) (w : World) (A : Option Addr) (xs : List α) : Prop :=
  xs = [] ∨ ∃ g o, A = some ⟨g, o, none⟩ ∧ ∀ j x, xs[j]? = some x → ∀ i u, (f x)[i]? = some u → w.cell? ⟨g, o + j * k + i, none⟩ = some u
section
variable {α : Type} {f : α → List Value} {k : Nat} {w w' : World} {A : Option Addr} {xs : List α}
theorem Lies.at_ (h : Lies f k w A xs) {j : Nat} (hj : j < xs.length) : ∃ g o, A = some ⟨g, o, none⟩ ∧ ∀ i u, (f (xs[j]'hj))[i]? = some u → w.cell? ⟨g, o + j * k + i, none⟩ = some u := by
  rcases h with rfl | ⟨g, o, rfl, hc⟩
  · simp at hj
  · exact ⟨g, o, rfl, hc j _ (List.getElem?_eq_getElem hj)⟩
theorem Lies.below (h : Lies f k w A xs) (hb : Below w.heap.size w w') : Lies f k w' A xs := by
  rcases h with rfl | ⟨g, o, rfl, hc⟩
  · exact .inl rfl
  · exact .inr ⟨g, o, rfl, fun j x hx i u hu => (hb.cell (p := ⟨g, o + j * k + i, none⟩) (World.block_lt_of_cell? w _ (hc j x hx i u hu))).trans (hc j x hx i u hu)⟩
theorem Lies.chg {F : List Nat} (h : Lies f k w A xs) (hc : Chg F w w') (hn : ∀ g o, A = some ⟨g, o, none⟩ → g ∉ F) : Lies f k w' A xs := by
  rcases h with rfl | ⟨g, o, rfl, h⟩
  · exact .inl rfl
  · exact .inr ⟨g, o, rfl, fun j x hx i u hu => hc.cell (h j x hx i u hu) (hn g o rfl)⟩
theorem Lies.own {b n c : Nat} {e : TypeId} (hk : k ≠ 0) (hf : ∀ x, (f x).length = k) (h : w.ownsRow b e k (.slice A n c) n (xs.flatMap f)) : Lies f k w A xs := by
  by_cases hl : xs = []
  · exact .inl hl
  · rcases h.2 with ⟨h1, h2⟩ | ⟨g, cap, cur, h1, hb, hg, hn, hc, hs, ht⟩
    · subst h2
      have := h.1
      rw [flat_len hf, Nat.zero_mul] at this
      rcases Nat.mul_eq_zero.1 this with h0 | h0
      · exact absurd (List.eq_nil_of_length_eq_zero h0) hl
      · exact absurd h0 hk
    · simp only [Value.slice.injEq] at h1
      obtain ⟨rfl, _, rfl⟩ := h1
      refine .inr ⟨g, 0, rfl, fun j x hx i u hu => ?_⟩
      have hi : i < k := by rw [← hf x]; exact (List.getElem?_eq_some_iff.1 hu).1
      have := h.cells (g := g) rfl (j * k + i) u (by rw [flat_get hf hx i hi]; exact hu)
      rwa [Addr.add_lit, ← Nat.add_assoc] at this
end
end Go.Proofs.Ytpobppoaidngeaa
