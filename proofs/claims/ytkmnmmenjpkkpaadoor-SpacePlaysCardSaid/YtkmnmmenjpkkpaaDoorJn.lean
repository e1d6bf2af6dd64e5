/- Words for memory: rows of the call's own: made whole, told by a function of the place, or grown by append. No conditions but those named. -/
import Derived.Test.YtkmnmmenjpkkpaaDoorRows2
import Derived.Test.YtkmnmmenjpkkpaaDoorChecked
import Derived.WalkMore
import Derived.Deep.RegionLaw
import Derived.Deep.AppendLies
import Derived.BigQuiet
import Derived.Deep.QuietTactic
set_option linter.unusedVariables false
namespace Go.Proofs.YtkmnmmenjpkkpaaDoor
open Go.RowKit

theorem below_nxt {w u v : World} (hb : Below u.heap.size u v) (ha : Below w.heap.size w u) : Below w.heap.size w v := ha.trans (hb.mono ha.size)
theorem below_drw (w : World) : Below w.heap.size w w.drew := (Below.refl _ _).drew
theorem below_al (w : World) (o : Obj) : Below w.heap.size w (w.alloc o) := (Below.refl _ _).alloc (Nat.le_refl _) _
theorem own_kept {w w' : World} {base : Nat} {e : TypeId} {size n : Nat} {v : Value} {xs : List Value} (h : w.ownsRow base e size v n xs) (hb : Below w.heap.size w w') : w'.ownsRow base e size v n xs := by
  refine h.kept (grown_of_below (row := some w.heap.size) hb) ?_
  cases hv : v.ownBlock with
  | none => exact .inl rfl
  | some k =>
    refine .inr (fun e => ?_)
    injection e with e
    have := (h.lt k hv).2
    omega
theorem own_lower {w : World} {b b' : Nat} {e : TypeId} {size n : Nat} {v : Value} {xs : List Value} (h : w.ownsRow b e size v n xs) (hb : b' ≤ b) : w.ownsRow b' e size v n xs := by
  refine ⟨h.1, ?_⟩
  rcases h.2 with h0 | ⟨g, cap, cur, h1, h2, h3⟩
  · exact .inl h0
  · exact .inr ⟨g, cap, cur, h1, Nat.le_trans hb h2, h3⟩
theorem own_sl {w : World} {base : Nat} {e : TypeId} {size n : Nat} {v : Value} {xs : List Value} (h : w.ownsRow base e size v n xs) : ∃ A c, v = .slice A n c := by
  rcases h.2 with ⟨rfl, rfl⟩ | ⟨g, cap, cur, rfl, _⟩
  · exact ⟨none, 0, rfl⟩
  · exact ⟨_, _, rfl⟩
theorem void_own (w : World) (e : TypeId) (k b : Nat) (hb : b ≤ w.heap.size) : (w.alloc (.cells #[] e)).ownsRow b e k (.slice (some ⟨w.heap.size, 0, none⟩) 0 0) 0 [] :=
  ⟨by simp, .inr ⟨w.heap.size, 0, #[], rfl, hb, heap_alloc_new w _, Nat.le_refl _, by decide, by simp, by simp⟩⟩

/-! Records, so many cells each. -/
section
variable {α : Type} {f : α → List Value} {k : Nat}
theorem flat_len (hf : ∀ x, (f x).length = k) : ∀ xs : List α, (xs.flatMap f).length = xs.length * k
  | [] => by simp
  | x :: t => by
    rw [List.flatMap_cons, List.length_append, hf, flat_len hf t, List.length_cons, Nat.add_mul]
    omega
theorem flat_snoc (xs : List α) (x : α) : (xs ++ [x]).flatMap f = xs.flatMap f ++ f x := by simp
theorem flat_get (hf : ∀ x, (f x).length = k) : ∀ {xs : List α} {j : Nat} {x : α}, xs[j]? = some x → ∀ i, i < k → (xs.flatMap f)[j * k + i]? = (f x)[i]?
  | [], j, x, h, _, _ => by simp at h
  | a :: t, 0, x, h, i, hi => by
    simp at h
    subst h
    rw [List.flatMap_cons, Nat.zero_mul, Nat.zero_add, List.getElem?_append_left (by rw [hf]; exact hi)]
  | a :: t, j + 1, x, h, i, hi => by
    have h' : t[j]? = some x := by simpa using h
    rw [List.flatMap_cons, List.getElem?_append_right (by rw [hf, Nat.add_mul]; omega), hf, show (j + 1) * k + i - k = j * k + i by rw [Nat.add_mul]; omega]
    exact flat_get hf h' i hi
end

/-- What the table says of a record's type, and of slices of it. -/
structure Rec (P : Program) (t e : TypeId) (k : Nat) : Prop where
  ht : P.underlying t = some (.slice e)
  inf : ∃ i z, P.info? e = some i ∧ i.zero = some z ∧ i.size = k ∧ i.bytes ≤ 64 ∧ z.cells.size = k
  pos : 0 < k
theorem rec_of {P : Program} {t e : TypeId} {k n : Nat} {z : Value} (ht : P.underlying t = some (.slice e)) (h : (P.info? e).map (fun i => (i.zero, i.size, i.bytes)) = some (some z, k, n)) (hn : n ≤ 64) (hz : z.cells.size = k) (hk : 0 < k) : Rec P t e k := by
  obtain ⟨i, h1, h2, h3, h4⟩ := info_parts h
  exact ⟨ht, ⟨i, z, h1, h2, h3, by omega, hz⟩, hk⟩
theorem rec_int : Rec Tryd.prog 45 3 1 := rec_of (z := .int .i64 0) (n := 8) Tryd.underlying45 (by kernel_rfl) (by decide) rfl (by decide)

section
variable {P : Program} {w : World} {t e : TypeId} {k : Nat}
/-- Cells appended to a row of the call's own. -/
theorem run_join (R : Rec P t e k) (ty : TypeId) (base : Nat) (v : Value) (n : Nat) (xs : List Value) (hown : w.ownsRow base e k v n xs)
    (A : Option Addr) (m c : Nat) (ys : List Value) (hys : ys.length = m * k) (hA : m = 0 ∧ A = none ∨ ∃ ad, A = some ad ∧ ∀ j u, ys[j]? = some u → w.cell? (ad.add j) = some u) (h1 : ∀ u ∈ ys, u.oneCell' = true) (hb : n + m ≤ 1000001) (hbase : base ≤ w.heap.size) :
    ∃ v' w', (Builtin.append_ #[t, t] ty #[v, .slice A m c]).run P w = .ok v' w' ∧ w'.ownsRow base e k v' (n + m) (xs ++ ys) ∧ w.grownBy w' v.ownBlock ∧ (v'.ownBlock = v.ownBlock ∨ v'.ownBlock = some w.heap.size) := by
  obtain ⟨i, z, hi, hz, hs, hby, hzs⟩ := R.inf
  rcases hA with ⟨rfl, rfl⟩ | ⟨ad, rfl, hc⟩
  · have hy : ys = [] := List.eq_nil_of_length_eq_zero (by rw [hys, Nat.zero_mul])
    subst hy
    refine ⟨v, w, ?_, by simpa using hown, ⟨rfl, rfl, rfl, Nat.le_refl _, fun _ _ _ => rfl⟩, .inl rfl⟩
    rcases hown.2 with ⟨rfl, rfl⟩ | ⟨g, cap, cur, rfl, _, _, hnc, _⟩
    · simp [Builtin.append_, run_underlying R.ht, sizeOf, typeInfo, hi, Builtin.lenOf, Builtin.firstCells]
    · simp [Builtin.append_, run_underlying R.ht, sizeOf, typeInfo, hi, Builtin.lenOf, Builtin.firstCells, hnc, storeCells]
  · obtain ⟨v', w', hr, h2, h3, _, h5⟩ := run_append_own_at (P := P) w base t ty e i z k i.bytes R.ht hi hz hs rfl hzs R.pos v n xs hown ad m c ys hys hc h1
      (by unfold maxLen; omega) (Nat.le_trans (Nat.mul_le_mul hb hby) (by omega)) hbase
    exact ⟨v', w', hr, h2, h3, h5⟩
/-- The same, for the walk. -/
theorem wp_join {ops : Array Oper} {rest : List Oper} {o : Oper} {a : Act} {Q : Exit → Act → World → Prop} (hgd : o.guard = none) (s x : Operand)
    (ho : o.op = .call { callee := .builtin .append, args := #[s, x], argTypes := #[t, t] }) (R : Rec P t e k) (base : Nat) (v : Value) (n : Nat) (xs : List Value) (hs : a.eval s = v) (hown : w.ownsRow base e k v n xs)
    (A : Option Addr) (m c : Nat) (ys : List Value) (hx : a.eval x = .slice A m c) (hys : ys.length = m * k) (hA : m = 0 ∧ A = none ∨ ∃ ad, A = some ad ∧ ∀ j u, ys[j]? = some u → w.cell? (ad.add j) = some u) (h1 : ∀ u ∈ ys, u.oneCell' = true) (hb : n + m ≤ 1000001) (hbase : base ≤ w.heap.size)
    (h : ∀ v' w', w'.ownsRow base e k v' (n + m) (xs ++ ys) → w.grownBy w' v.ownBlock → (v'.ownBlock = v.ownBlock ∨ v'.ownBlock = some w.heap.size) → wpList P ops Q rest (a.put o.dst v') w') :
    wpList P ops Q (o :: rest) a w := by
  refine wpList_plain hgd fun K hK => ?_
  obtain ⟨v', w', hr, h2, h3, h4⟩ := run_join (P := P) R o.type base v n xs hown A m c ys hys hA h1 hb hbase
  unfold Oper.wp execOp
  simp only [ho, resolve, invoke, builtin, Sem.run_bind, Sem.run_pure, Result.andThen_ok, List.map_toArray, List.map_cons, List.map_nil, hs, hx, hr]
  exact hK _ _ (h v' w' h2 h3 h4)
end

/-! Numbers. -/
/-- Numbers as cells. -/
def ic (l : List Int) : List Value := l.map (Value.int .i64)
theorem ic_len (l : List Int) : (ic l).length = l.length := by simp [ic]
theorem ic_app (a b : List Int) : ic (a ++ b) = ic a ++ ic b := by simp [ic]
theorem ic_one (l : List Int) : ∀ u ∈ ic l, u.oneCell' = true := by
  intro u hu
  obtain ⟨b, _, rfl⟩ := List.mem_map.1 hu
  rfl
theorem ic_get {l : List Int} {j : Nat} {z : Int} (h : l[j]? = some z) : (ic l)[j]? = some (.int .i64 z) := by simp [ic, h]
theorem get_ic {l : List Int} {j : Nat} {u : Value} (h : (ic l)[j]? = some u) : ∃ z, l[j]? = some z ∧ u = .int .i64 z := by
  simp only [ic, List.getElem?_map] at h
  obtain ⟨z, hz, rfl⟩ := Option.map_eq_some_iff.1 h
  exact ⟨z, hz, rfl⟩
/-- The numbers zs lie where the address says (wherever that is, if there are none). -/
def HolI (w : World) (A : Option Addr) (zs : List Int) : Prop :=
  zs = [] ∨ ∃ g off, A = some ⟨g, off, none⟩ ∧ ∀ j z, zs[j]? = some z → w.cell? ⟨g, off + j, none⟩ = some (.int .i64 z)
section
variable {w w' : World} {A : Option Addr} {l : List Int}
theorem HolI.at_ (h : HolI w A l) {j : Nat} (hj : j < l.length) : ∃ g off, A = some ⟨g, off, none⟩ ∧ g < w.heap.size ∧ w.cell? ⟨g, off + j, none⟩ = some (.int .i64 (l[j]'hj)) := by
  rcases h with rfl | ⟨g, off, rfl, hc⟩
  · simp at hj
  · have := hc j _ (List.getElem?_eq_getElem hj)
    exact ⟨g, off, rfl, World.block_lt_of_cell? w _ this, this⟩
theorem HolI.below (h : HolI w A l) (hb : Below w.heap.size w w') : HolI w' A l := by
  rcases h with rfl | ⟨g, off, rfl, hc⟩
  · exact .inl rfl
  · exact .inr ⟨g, off, rfl, fun j x hx => (hb.cell (p := ⟨g, off + j, none⟩) (World.block_lt_of_cell? w _ (hc j x hx))).trans (hc j x hx)⟩
theorem HolI.src (h : HolI w A l) (hn : A = none → l = []) : l.length = 0 ∧ A = none ∨ ∃ ad, A = some ad ∧ ∀ j u, (ic l)[j]? = some u → w.cell? (ad.add j) = some u := by
  cases A with
  | none => exact .inl ⟨by rw [hn rfl]; rfl, rfl⟩
  | some ad =>
    refine .inr ⟨ad, rfl, fun j u hu => ?_⟩
    obtain ⟨z, hz, rfl⟩ := get_ic hu
    rcases h with rfl | ⟨g, off, e, hc⟩
    · simp at hz
    · injection e with e
      subst e
      rw [Addr.add_lit]
      exact hc j z hz
theorem HolI.own {base : Nat} {e : TypeId} {n c : Nat} (h : w.ownsRow base e 1 (.slice A n c) n (ic l)) : HolI w A l := by
  by_cases hl : l = []
  · exact .inl hl
  · rcases h.2 with ⟨h1, h2⟩ | ⟨g, cap, cur, h1, hb, hg, hn, hc, hs, ht⟩
    · have := h.1
      rw [ic_len] at this
      exact absurd (List.eq_nil_of_length_eq_zero (by omega)) hl
    · simp only [Value.slice.injEq] at h1
      obtain ⟨rfl, _, rfl⟩ := h1
      refine .inr ⟨g, 0, rfl, fun j x hx => ?_⟩
      have := h.cells (g := g) rfl j _ (ic_get hx)
      rw [Addr.add_lit] at this
      exact this
end

theorem made_src (w : World) (cs : List Value) (e : TypeId) {m : Nat} : m = 0 ∧ (some (⟨w.heap.size, 0, none⟩ : Addr)) = none ∨ ∃ ad, some (⟨w.heap.size, 0, none⟩ : Addr) = some ad ∧ ∀ j u, cs[j]? = some u → (w.alloc (.cells cs.toArray e)).cell? (ad.add j) = some u :=
  .inr ⟨_, rfl, fun j u hu => by rw [Addr.add_lit, Nat.zero_add, (Row.made w e cs).cell]; exact hu⟩

/-! Rows of the call's own of numbers. -/
def OwnI (b : Nat) (w : World) (A : Option Addr) (n c : Nat) (xs : List Int) : Prop := w.ownsRow b 3 1 (.slice A n c) n (ic xs)
section
variable {b : Nat} {w w' : World} {A : Option Addr} {n c : Nat}
theorem OwnI.nil (b : Nat) (w : World) : OwnI b w none 0 0 [] := World.ownsRow_nil _ _ _ _
theorem OwnI.len {xs : List Int} (h : OwnI b w A n c xs) : n = xs.length := by have := h.1; rw [ic_len] at this; omega
theorem OwnI.kept {xs : List Int} (h : OwnI b w A n c xs) (hb : Below w.heap.size w w') : OwnI b w' A n c xs := own_kept h hb
theorem OwnI.hol {xs : List Int} (h : OwnI b w A n c xs) : HolI w A xs := HolI.own h
end
/-- One more number: what is left of a row of the call's own. -/
theorem int_more {W w w' : World} {A : Option Addr} {n c : Nat} {xs : List Int} {x : Int} {v' : Value} {o : Obj} (hb : Below W.heap.size W w) (hown : OwnI W.heap.size w A n c xs)
    (h1 : w'.ownsRow W.heap.size 3 1 v' (n + 1) (ic xs ++ [.int .i64 x])) (hg : (w.alloc o).grownBy w' (Value.slice A n c).ownBlock) :
    ∃ A' c', v' = .slice A' (n + 1) c' ∧ OwnI W.heap.size w' A' (n + 1) c' (xs ++ [x]) ∧ Below W.heap.size W w' := by
  obtain ⟨A', c', rfl⟩ := own_sl h1
  refine ⟨A', c', rfl, ?_, ?_⟩
  · unfold OwnI
    rw [ic_app]
    exact h1
  · refine (hb.trans ((below_al w o).mono hb.size)).grown hg (Nat.le_trans hb.size (below_al w o).size) ?_
    intro k hk
    exact (hown.lt k hk).1

/-! Rows told by a function of the place. -/
def fv (n : Nat) (f : Nat → Value) : List Value := (List.range n).map f
theorem fv_len (n : Nat) (f : Nat → Value) : (fv n f).length = n := by simp [fv]
theorem fv_get {n j : Nat} (f : Nat → Value) (h : j < n) : (fv n f)[j]? = some (f j) := by simp [fv, h]
theorem fv_none {n j : Nat} (f : Nat → Value) (h : n ≤ j) : (fv n f)[j]? = none := by simp [fv, h]
theorem fv_congr {n : Nat} {f g : Nat → Value} (h : ∀ j, j < n → f j = g j) : fv n f = fv n g := List.map_congr_left fun j hj => h j (by simpa using hj)
theorem fv_set {n i : Nat} (f g : Nat → Value) (h : ∀ j, j < n → g j = if j = i then g i else f j) : (fv n f).set i (g i) = fv n g := by
  apply List.ext_getElem?
  intro j
  rw [List.getElem?_set]
  by_cases hj : j < n
  · by_cases e : i = j
    · subst e
      rw [if_pos rfl, if_pos (by rw [fv_len]; exact hj), fv_get _ hj]
    · rw [if_neg e, fv_get _ hj, fv_get _ hj, h j hj, if_neg (Ne.symm e)]
  · rw [fv_none g (by omega)]
    split
    · rw [if_neg (by rw [fv_len]; omega)]
    · exact fv_none f (by omega)
theorem fv_snoc (n : Nat) (f : Nat → Value) : fv (n + 1) f = fv n f ++ [f n] := by
  unfold fv
  rw [List.range_succ, List.map_append]
  rfl
theorem fv_zero (f : Nat → Value) : fv 0 f = [] := rfl
attribute [irreducible] fv
theorem made_fv {z : Value} (hz : z.cells = #[z]) (n : Nat) : madeCells z.cells (n * 1) = (fv n fun _ => z).toArray := by
  apply Array.ext'
  apply List.ext_getElem?
  intro j
  rw [hz]
  by_cases h : j < n
  · rw [fv_get _ h]
    simp [madeCells, h, Nat.mod_one]
  · rw [fv_none _ (by omega)]
    simp [madeCells]
    omega
/-- A row of so many zeros, made. -/
theorem step_mk {P : Program} {w : World} {ops : Array Oper} {rest : List Oper} {o : Oper} {a : Act} {Q : Exit → Act → World → Prop} (hg : o.guard = none) (l c : Operand) (t e : TypeId) (z : Value) (b : Nat) (ht : P.underlying t = some (.slice e))
    (hi : (P.info? e).map (fun i => (i.zero, i.size, i.bytes)) = some (some z, 1, b)) (hb : b ≤ 64) (hz : z.cells = #[z]) (hop : o.op = Op.makeSlice t l c)
    (n : Nat) (hl : a.eval l = .int .i64 n) (hc : a.eval c = .int .i64 n) (hn : n ≤ 1000000)
    (h : ∀ g w', _root_.Go.Proofs.YtkmnmmenjpkkpaaDoor.Row w' g e (fv n fun _ => z) → Hid (g = w.heap.size) → Below w.heap.size w w' → Hid (w'.heap.size = w.heap.size + 1) → wpList P ops Q rest (a.put o.dst (.slice (some ⟨g, 0, none⟩) n n)) w') :
    wpList P ops Q (o :: rest) a w := by
  refine wpList_plain hg fun K hK' => ?_
  obtain ⟨i, h1, h2, h3, h4⟩ := info_parts hi
  have hr := run_make (P := P) w t e i z ht h1 h2 .i64 .i64 n n (by omega) (Int.le_refl _) (by
    rw [h4]
    have h2 : (b : Int) * n ≤ 64 * n := Int.mul_le_mul_of_nonneg_right (by omega) (by omega)
    omega) (by omega)
  simp only [Int.toNat_natCast, h3] at hr
  rw [made_fv hz] at hr
  unfold Oper.wp
  simp [execOp, hop, hl, hc, hr, Result.andThen]
  exact hK' _ _ (h _ _ (Row.made w e _) (show _ = _ from rfl) ((Below.refl _ _).alloc (Nat.le_refl _) _) (show _ = _ by simp))
end Go.Proofs.YtkmnmmenjpkkpaaDoor
