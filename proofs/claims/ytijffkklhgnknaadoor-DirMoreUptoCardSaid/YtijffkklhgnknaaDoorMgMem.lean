/- Words for memory: the bytes that a slice holds, and what appending bytes to a row of the call's own leaves. No conditions. -/
import Derived.WalkKit
import Derived.Below
import Derived.Laws.OwnMore
import Derived.Maps.AppendAt
import Derived.Lib.AppendStr
import Derived.Laws.IdiomStrings
import Derived.Laws.BytesString
import Derived.Lib.Hide
import Derived.Laws.BitsAllLaws
import Derived.Deep.MidRow
import Derived.Deep.Draws
import Derived.Test.YtijffkklhgnknaaDoorChecked
import Derived.WalkMore
import Derived.Deep.RegionLaw
import Derived.Deep.AppendLies
import Derived.BigQuiet
import Derived.Deep.QuietTactic
import Derived.Laws.CopyOwn
import Derived.Lib.SliceRun
import Derived.Laws.StructEq
import Derived.Deep.RegionHeld
import Derived.WalkSpells
import Derived.WalkLawsBesides
import Derived.WalkSmall
import Derived.Outline
namespace Go.Proofs.YtijffkklhgnknaaDoor
open Go.RowKit

/-- Bytes as cells. -/
def bc (l : List UInt8) : List Value := l.map fun b => Value.int .u8 (b.toNat : Int)
theorem bc_len (l : List UInt8) : (bc l).length = l.length := by simp [bc]
theorem bc_app (a b : List UInt8) : bc (a ++ b) = bc a ++ bc b := by simp [bc]
theorem bc_nil : bc [] = [] := rfl
theorem bc_str (s : ByteArray) : Lib.strCells s = bc s.data.toList := rfl
theorem bc_one (l : List UInt8) : ∀ u ∈ bc l, u.oneCell' = true := by
  intro u hu
  obtain ⟨b, _, rfl⟩ := List.mem_map.1 hu
  rfl
theorem bc_get {l : List UInt8} {j : Nat} {u : Value} (h : (bc l)[j]? = some u) : ∃ x, l[j]? = some x ∧ u = .int .u8 (x.toNat : Int) := by
  unfold bc at h
  rw [List.getElem?_map] at h
  obtain ⟨x, hx, rfl⟩ := Option.map_eq_some_iff.1 h
  exact ⟨x, hx, rfl⟩
theorem get_bc {l : List UInt8} {j : Nat} {x : UInt8} (h : l[j]? = some x) : (bc l)[j]? = some (.int .u8 (x.toNat : Int)) := by
  unfold bc
  rw [List.getElem?_map, h]
  rfl
theorem bc_inj {a b : List UInt8} (h : bc a = bc b) : a = b := by
  apply List.ext_getElem?
  intro j
  have hj := congrArg (fun l : List Value => l[j]?) h
  simp only [bc, List.getElem?_map] at hj
  cases ha : a[j]? <;> cases hb : b[j]? <;> simp [ha, hb] at hj
  · rfl
  · rename_i x y
    rw [UInt8.toNat_inj.1 (by omega : x.toNat = y.toNat)]

/-- The address A holds the bytes l (whatever A is, if there are none). -/
def Hol (w : World) (A : Option Addr) (l : List UInt8) : Prop :=
  l = [] ∨ ∃ g off, A = some ⟨g, off, none⟩ ∧ ∀ j x, l[j]? = some x → w.cell? ⟨g, off + j, none⟩ = some (.int .u8 (x.toNat : Int))

section
variable {w w' : World} {A : Option Addr} {l : List UInt8}
theorem Hol.none_ : Hol w A [] := .inl rfl
theorem Hol.some_ (h : Hol w A l) (hl : 0 < l.length) : ∃ g off, A = some ⟨g, off, none⟩ ∧ g < w.heap.size ∧ ∀ j x, l[j]? = some x → w.cell? ⟨g, off + j, none⟩ = some (.int .u8 (x.toNat : Int)) := by
  rcases h with rfl | ⟨g, off, rfl, hc⟩
  · simp at hl
  · exact ⟨g, off, rfl, World.block_lt_of_cell? w _ (hc 0 l[0] (List.getElem?_eq_getElem hl)), hc⟩
theorem Hol.at_ (h : Hol w A l) {j : Nat} (hj : j < l.length) : ∃ g off, A = some ⟨g, off, none⟩ ∧ g < w.heap.size ∧ w.cell? ⟨g, off + j, none⟩ = some (.int .u8 ((l[j]'hj).toNat : Int)) := by
  obtain ⟨g, off, rfl, hg, hc⟩ := h.some_ (by omega)
  exact ⟨g, off, rfl, hg, hc j _ (List.getElem?_eq_getElem hj)⟩
theorem Hol.grown (h : Hol w A l) {row : Option Nat} (hg : w.grownBy w' row) (hr : ∀ g off, A = some ⟨g, off, none⟩ → some g ≠ row) : Hol w' A l := by
  rcases h with rfl | ⟨g, off, rfl, hc⟩
  · exact .inl rfl
  · exact .inr ⟨g, off, rfl, fun j x hx => hg.cell (hc j x hx) (hr g off rfl)⟩
theorem Hol.below (h : Hol w A l) (hb : Below w.heap.size w w') : Hol w' A l := by
  rcases h with rfl | ⟨g, off, rfl, hc⟩
  · exact .inl rfl
  · exact .inr ⟨g, off, rfl, fun j x hx => (hb.cell (p := ⟨g, off + j, none⟩) (World.block_lt_of_cell? w _ (hc j x hx))).trans (hc j x hx)⟩
theorem Hol.take_ (h : Hol w A l) (n : Nat) : Hol w A (l.take n) := by
  rcases h with rfl | ⟨g, off, rfl, hc⟩
  · exact .inl (by simp)
  · refine .inr ⟨g, off, rfl, fun j x hx => hc j x ?_⟩
    rw [List.getElem?_take] at hx
    split at hx
    · exact hx
    · cases hx
theorem Hol.cut {cap : Nat} (h : Hol w A l) (n : Nat) (hc : l.length ≤ cap) : Hol w (if cap = n then A else A.map (·.add n)) (l.drop n) := by
  by_cases hn : l.length ≤ n
  · exact .inl (List.drop_eq_nil_of_le hn)
  · rw [if_neg (by omega)]
    rcases h with rfl | ⟨g, off, rfl, hcell⟩
    · exact .inl (by simp)
    · refine .inr ⟨g, off + n, ?_, fun j x hx => ?_⟩
      · show some ((⟨g, off, none⟩ : Addr).add n) = _
        unfold Addr.add
        split <;> simp_all
      · rw [List.getElem?_drop] at hx
        have := hcell (n + j) x hx
        rw [← Nat.add_assoc] at this
        exact this
theorem Hol.own {base : Nat} {e : TypeId} {n c : Nat} (h : w.ownsRow base e 1 (.slice A n c) n (bc l)) : Hol w A l := by
  by_cases hl : l = []
  · exact .inl hl
  · rcases h.2 with ⟨h1, h2⟩ | ⟨g, cap, cur, h1, hb, hg, hn, hc, hs, ht⟩
    · have := h.1
      rw [bc_len] at this
      exact absurd (List.eq_nil_of_length_eq_zero (by omega)) hl
    · simp only [Value.slice.injEq] at h1
      obtain ⟨rfl, _, rfl⟩ := h1
      refine .inr ⟨g, 0, rfl, fun j x hx => ?_⟩
      have := h.cells (g := g) rfl j _ (get_bc hx)
      rw [show (⟨g, 0 + j, none⟩ : Addr) = (⟨g, 0, none⟩ : Addr).add j by unfold Addr.add; split <;> simp_all]
      exact this
end

theorem below_of_grown {w w' : World} (h : w.grownBy w' none) : Below w.heap.size w w' := ⟨h.os, h.tape, h.output, h.size, fun k hk => h.block k hk (by simp)⟩
theorem grown_of_below {w w' : World} {row : Option Nat} (h : Below w.heap.size w w') : w.grownBy w' row := ⟨h.os, h.tape, h.output, h.size, fun k hk _ => h.block k hk⟩
theorem Below.grown_ {B : Nat} {a w w' : World} {row : Option Nat} (h : Below B a w) (hB : B ≤ w.heap.size) (hg : w.grownBy w' row) (hr : ∀ k, row = some k → B ≤ k) : Below B a w' := h.grown hg hB hr
theorem grown_trans {a b c : World} {row : Option Nat} (h : a.grownBy b row) (k : b.grownBy c row) : a.grownBy c row :=
  ⟨k.os.trans h.os, k.tape.trans h.tape, k.output.trans h.output, Nat.le_trans h.size k.size, fun i hi hr => (k.block i (Nat.lt_of_lt_of_le hi h.size) hr).trans (h.block i hi hr)⟩
theorem grown_set (w : World) (p : Addr) (u : Value) : w.grownBy (w.setCell p u) (some p.block) :=
  ⟨rfl, rfl, rfl, by simp [World.setCell], fun k _ hne => Below.heap_setCell w p u k (fun e => hne (by rw [e]))⟩
theorem heap_set {w : World} {g : Nat} {cs : Array Value} {t : TypeId} {fr : Nat × Nat} (h : w.heap[g]? = some (.cells cs t fr)) (i : Nat) (u : Value) :
    (w.setCell ⟨g, i, none⟩ u).heap[g]? = some (.cells (cs.setIfInBounds i u) t fr) := by simp [World.setCell, Array.getElem?_modify, h]

/-- What the table says of bytes, and of slices of them. -/
structure U8 (P : Program) (t e : TypeId) (i : TypeInfo) : Prop where
  ht : P.underlying t = some (.slice e)
  hi : P.info? e = some i
  hz : i.zero = some (.int .u8 0)
  h1 : i.size = 1
  h2 : i.bytes = 1

section
variable {P : Program} (w : World)

theorem run_app_none (t ty e : TypeId) (i : TypeInfo) (U : U8 P t e i) (base : Nat) (v : Value) (n : Nat) (xs : List Value) (hown : w.ownsRow base e 1 v n xs) (c : Nat) :
    (Builtin.append_ #[t, t] ty #[v, .slice none 0 c]).run P w = .ok v w := by
  rcases hown.2 with ⟨rfl, rfl⟩ | ⟨g, cap, cur, rfl, _, _, hnc, _⟩
  · simp [Builtin.append_, run_underlying U.ht, sizeOf, typeInfo, U.hi, Builtin.lenOf, Builtin.firstCells]
  · simp [Builtin.append_, run_underlying U.ht, sizeOf, typeInfo, U.hi, Builtin.lenOf, Builtin.firstCells, hnc, storeCells]

/-- Bytes appended to a row of the call's own: the source may be nil, empty, or wherever. -/
theorem run_app (t ty e : TypeId) (i : TypeInfo) (U : U8 P t e i) (base : Nat) (v : Value) (n : Nat) (xs : List Value) (hown : w.ownsRow base e 1 v n xs)
    (A : Option Addr) (m c : Nat) (l : List UInt8) (hm : m = l.length) (hA : Hol w A l) (hnil : A = none ∨ True) (hb : n + m ≤ 140737488355328) (hbase : base ≤ w.heap.size) :
    ∃ v' w', (Builtin.append_ #[t, t] ty #[v, .slice A m c]).run P w = .ok v' w' ∧ w'.ownsRow base e 1 v' (n + m) (xs ++ bc l) ∧ w.grownBy w' v.ownBlock ∧
      (v'.ownBlock = v.ownBlock ∨ v'.ownBlock = some w.heap.size) := by
  subst hm
  rcases A with _ | ad
  · have hl : l = [] := by
      rcases hA with h | ⟨g, off, h, _⟩
      · exact h
      · cases h
    subst hl
    exact ⟨v, w, run_app_none w t ty e i U base v n xs hown c, by simpa [bc] using hown, ⟨rfl, rfl, rfl, Nat.le_refl _, fun _ _ _ => rfl⟩, .inl rfl⟩
  · have hcells : ∀ j u, (bc l)[j]? = some u → w.cell? (ad.add j) = some u := by
      intro j u hu
      obtain ⟨x, hx, rfl⟩ := bc_get hu
      rcases hA with rfl | ⟨g, off, h, hc⟩
      · simp at hx
      · injection h with h
        subst h
        have := hc j x hx
        rw [show (⟨g, off, none⟩ : Addr).add j = ⟨g, off + j, none⟩ by unfold Addr.add; split <;> simp_all]
        exact this
    obtain ⟨v', w', hr, h2, h3, _, h5⟩ := run_append_own_at (P := P) w base t ty e i (.int .u8 0) 1 1 U.ht U.hi U.hz U.h1 U.h2 rfl (by decide) v n xs hown ad l.length c (bc l) (by rw [bc_len, Nat.mul_one]) hcells (bc_one l)
      (by unfold maxLen; omega) (by omega) hbase
    exact ⟨v', w', hr, h2, h3, h5⟩

/-- The same, for the walk. -/
theorem wpList_app {ops : Array Oper} {rest : List Oper} {o : Oper} {a : Act} {Q : Exit → Act → World → Prop} (hgd : o.guard = none) (s x : Operand) (t : TypeId)
    (ho : o.op = .call { callee := .builtin .append, args := #[s, x], argTypes := #[t, t] })
    (e : TypeId) (i : TypeInfo) (U : U8 P t e i) (base : Nat) (v : Value) (n : Nat) (xs : List Value) (hs : a.eval s = v) (hown : w.ownsRow base e 1 v n xs)
    (A : Option Addr) (m c : Nat) (l : List UInt8) (hx : a.eval x = .slice A m c) (hm : m = l.length) (hA : Hol w A l) (hb : n + m ≤ 140737488355328) (hbase : base ≤ w.heap.size)
    (h : ∀ v' w', w'.ownsRow base e 1 v' (n + m) (xs ++ bc l) → w.grownBy w' v.ownBlock → (v'.ownBlock = v.ownBlock ∨ v'.ownBlock = some w.heap.size) → wpList P ops Q rest (a.put o.dst v') w') :
    wpList P ops Q (o :: rest) a w := by
  refine wpList_plain hgd fun K hK => ?_
  obtain ⟨v', w', hr, h2, h3, h4⟩ := run_app (P := P) w t o.type e i U base v n xs hown A m c l hm hA (.inr trivial) hb hbase
  unfold Oper.wp execOp
  simp only [ho, resolve, invoke, builtin, Sem.run_bind, Sem.run_pure, Result.andThen_ok, List.map_toArray, List.map_cons, List.map_nil, hs, hx, hr]
  exact hK _ _ (h v' w' h2 h3 h4)
end

/-- A text made of bytes. -/
theorem run_to_string {P : Program} (w : World) (src dst e : TypeId) (A : Option Addr) (c n : Nat) (l : List UInt8) (hn : n = l.length) (hs : P.underlying src = some (.slice e)) (he : P.underlying e = some (.int .u8)) (hd : P.underlying dst = some .string)
    (hA : Hol w A l) : (convert src dst (.slice A n c)).run P w = .ok (.string ⟨l.toArray⟩) w := by
  subst hn
  by_cases hl : l = []
  · subst hl
    rw [run_convert_bytes_string w src dst e A _ c hs he hd]
    cases A <;> simp [Conv.bytesToString, loadCells]
    all_goals rfl
  · rcases hA with h | ⟨g, off, rfl, hc⟩
    · exact absurd h hl
    · refine run_convert_bytes_back w src dst e ⟨g, off, none⟩ c l hs he hd fun j hj => ?_
      rw [show (⟨g, off, none⟩ : Addr).add j = ⟨g, off + j, none⟩ by unfold Addr.add; split <;> simp_all]
      exact hc j _ (List.getElem?_eq_getElem hj)

/-- An owned row of bytes, as a slice value written out. -/
theorem own_form {w : World} {base : Nat} {e : TypeId} {v : Value} {n : Nat} {l : List UInt8} (h : w.ownsRow base e 1 v n (bc l)) :
    n = l.length ∧ ∃ A c, v = .slice A l.length c ∧ l.length ≤ c ∧ c ≤ maxLen ∧ Hol w A l := by
  have hn : n = l.length := by have := h.1; rw [bc_len] at this; omega
  subst hn
  refine ⟨rfl, ?_⟩
  rcases h.2 with ⟨rfl, h0⟩ | ⟨g, cap, cur, rfl, hb, hg, hn, hc, hs, ht⟩
  · rw [h0]
    exact ⟨none, 0, rfl, Nat.le_refl _, by decide, .inl (List.eq_nil_of_length_eq_zero h0)⟩
  · exact ⟨_, cap, rfl, hn, hc, Hol.own h⟩
end Go.Proofs.YtijffkklhgnknaaDoor
/- Lists in order by a key, those of one key as they stood. No conditions but those named. -/
set_option linter.unusedVariables false
namespace Go.Proofs.YtijffkklhgnknaaDoor

section
variable {α : Type} (key : α → Nat)
/-- In order. -/
def Ord (l : List α) : Prop := l.Pairwise fun x y => key x ≤ key y
/-- The same, of each key in the same order. -/
def SameK (l m : List α) : Prop := ∀ c, m.filter (fun x => key x == c) = l.filter (fun x => key x == c)
variable {key}
theorem filter_pos {p : α → Bool} {x : α} (l : List α) (h : p x = true) : (x :: l).filter p = x :: l.filter p := List.filter_cons_of_pos h
theorem filter_neg {p : α → Bool} {x : α} (l : List α) (h : p x = false) : (x :: l).filter p = l.filter p := List.filter_cons_of_neg (by rw [h]; decide)
theorem SameK.refl (l : List α) : SameK key l l := fun _ => rfl
theorem SameK.symm {l m : List α} (h : SameK key l m) : SameK key m l := fun c => (h c).symm
theorem SameK.trans {l m n : List α} (h : SameK key l m) (k : SameK key m n) : SameK key l n := fun c => (k c).trans (h c)
theorem SameK.app {l m l' m' : List α} (h : SameK key l m) (h' : SameK key l' m') : SameK key (l ++ l') (m ++ m') := fun c => by
  rw [List.filter_append, List.filter_append, h c, h' c]
theorem SameK.mem {l m : List α} (h : SameK key l m) (x : α) : x ∈ m ↔ x ∈ l := by
  have h1 := h (key x)
  constructor
  · intro hx
    have h2 : x ∈ m.filter (fun y => key y == key x) := List.mem_filter.2 ⟨hx, beq_self_eq_true _⟩
    rw [h1] at h2
    exact (List.mem_filter.1 h2).1
  · intro hx
    have h2 : x ∈ l.filter (fun y => key y == key x) := List.mem_filter.2 ⟨hx, beq_self_eq_true _⟩
    rw [← h1] at h2
    exact (List.mem_filter.1 h2).1
/-- Two rows that have no key in common, exchanged. -/
theorem SameK.swap {l m : List α} (h : ∀ x ∈ l, ∀ y ∈ m, key x ≠ key y) : SameK key (l ++ m) (m ++ l) := fun c => by
  rw [List.filter_append, List.filter_append]
  by_cases hl : ∃ x ∈ l, key x = c
  · obtain ⟨x, hx, rfl⟩ := hl
    have e : m.filter (fun y => key y == key x) = [] := List.filter_eq_nil_iff.2 fun y hy hk => h x hx y hy (beq_iff_eq.1 hk).symm
    rw [e, List.append_nil, List.nil_append]
  · have e : l.filter (fun y => key y == c) = [] := List.filter_eq_nil_iff.2 fun y hy hk => hl ⟨y, hy, beq_iff_eq.1 hk⟩
    rw [e, List.append_nil, List.nil_append]
theorem Ord.nil : Ord key ([] : List α) := List.Pairwise.nil
theorem Ord.one (x : α) : Ord key [x] := List.pairwise_singleton ..
theorem Ord.app {l m : List α} (h : Ord key l) (k : Ord key m) (hh : ∀ x ∈ l, ∀ y ∈ m, key x ≤ key y) : Ord key (l ++ m) := List.pairwise_append.2 ⟨h, k, hh⟩
theorem Ord.left {l m : List α} (h : Ord key (l ++ m)) : Ord key l := (List.pairwise_append.1 h).1
theorem Ord.right {l m : List α} (h : Ord key (l ++ m)) : Ord key m := (List.pairwise_append.1 h).2.1
theorem Ord.across {l m : List α} (h : Ord key (l ++ m)) : ∀ x ∈ l, ∀ y ∈ m, key x ≤ key y := (List.pairwise_append.1 h).2.2
theorem Ord.get {l : List α} (h : Ord key l) {i j : Nat} {x y : α} (hx : l[i]? = some x) (hy : l[j]? = some y) (hij : i ≤ j) : key x ≤ key y := by
  obtain ⟨hi, rfl⟩ := List.getElem?_eq_some_iff.1 hx
  obtain ⟨hj, rfl⟩ := List.getElem?_eq_some_iff.1 hy
  rcases Nat.lt_or_eq_of_le hij with h1 | h1
  · exact List.pairwise_iff_getElem.1 h i j hi hj h1
  · subst h1
    exact Nat.le_refl _
/-- In order and the same: there is one such list. -/
theorem ord_one : ∀ (l m : List α), Ord key l → Ord key m → SameK key l m → l = m
  | [], m, _, _, h => by
    cases m with
    | nil => rfl
    | cons y m =>
      have h1 := (h.mem y).1 (List.mem_cons_self ..)
      cases h1
  | x :: l, m, hl, hm, h => by
    cases m with
    | nil =>
      have h1 := (h.mem x).2 (List.mem_cons_self ..)
      cases h1
    | cons y m =>
      have hl' := List.pairwise_cons.1 hl
      have hm' := List.pairwise_cons.1 hm
      have hk : key x = key y := by
        have h1 : key x ≤ key y := by
          rcases List.mem_cons.1 ((h.mem y).1 (List.mem_cons_self ..)) with e | e
          · rw [e]; exact Nat.le_refl _
          · exact hl'.1 y e
        have h2 : key y ≤ key x := by
          rcases List.mem_cons.1 ((h.mem x).2 (List.mem_cons_self ..)) with e | e
          · rw [e]; exact Nat.le_refl _
          · exact hm'.1 x e
        omega
      have h1 := h (key x)
      rw [filter_pos m (show (fun z => key z == key x) y = true from beq_iff_eq.2 hk.symm), filter_pos l (show (fun z => key z == key x) x = true from beq_self_eq_true _)] at h1
      injection h1 with e _
      subst e
      have h2 : SameK key l m := fun c => by
        have h3 := h c
        by_cases hc : key y = c
        · rw [filter_pos m (show (fun z => key z == c) y = true from beq_iff_eq.2 hc), filter_pos l (show (fun z => key z == c) y = true from beq_iff_eq.2 hc)] at h3
          injection h3
        · rw [filter_neg m (show (fun z => key z == c) y = false from beq_false_of_ne hc), filter_neg l (show (fun z => key z == c) y = false from beq_false_of_ne hc)] at h3
          exact h3
      rw [ord_one l m hl'.2 hm'.2 h2]
/-- One more, behind all of its key. -/
theorem SameK.ins {l m : List α} {x : α} (h : ∀ y ∈ m, key y ≠ key x) : SameK key (l ++ m ++ [x]) (l ++ x :: m) := by
  have h1 : SameK key (m ++ [x]) ([x] ++ m) := SameK.swap (fun y hy z hz => by rw [List.mem_singleton] at hz; subst hz; exact h y hy)
  have h2 := (SameK.refl (key := key) l).app h1
  rw [← List.append_assoc] at h2
  exact h2
theorem SameK.len {l m : List α} (h : SameK key l m) : l.length = m.length := by
  induction l generalizing m with
  | nil =>
    cases m with
    | nil => rfl
    | cons y m => exact absurd ((h.mem y).1 (List.mem_cons_self ..)) (by simp)
  | cons x l ih =>
    have hx := (h.mem x).2 (List.mem_cons_self ..)
    have h1 := h (key x)
    rw [filter_pos l (show (fun z => key z == key x) x = true from beq_self_eq_true _)] at h1
    -- the first one of its key in m
    obtain ⟨A, y, B, hm, hA, hy⟩ : ∃ A y B, m = A ++ y :: B ∧ (∀ z ∈ A, key z ≠ key x) ∧ key y = key x := by
      clear h ih h1
      induction m with
      | nil => cases hx
      | cons z m ihm =>
        by_cases hz : key z = key x
        · exact ⟨[], z, m, rfl, fun _ h => (by cases h), hz⟩
        · rcases List.mem_cons.1 hx with e | e
          · exact absurd (by rw [e]) hz
          · obtain ⟨A, y, B, rfl, h2, h3⟩ := ihm e
            exact ⟨z :: A, y, B, rfl, fun q hq => by rcases List.mem_cons.1 hq with e2 | e2; exact e2 ▸ hz; exact h2 q e2, h3⟩
    subst hm
    have e1 : A.filter (fun z => key z == key x) = [] := List.filter_eq_nil_iff.2 fun z hz hk => hA z hz (beq_iff_eq.1 hk)
    rw [List.filter_append, e1, List.nil_append, filter_pos B (show (fun z => key z == key x) y = true from beq_iff_eq.2 hy)] at h1
    injection h1 with e2 h1
    subst e2
    have h3 : SameK key l (A ++ B) := fun c => by
      have h4 := h c
      rw [List.filter_append, List.filter_cons, List.filter_cons] at h4
      rw [List.filter_append]
      by_cases hc : key y = c
      · subst hc
        rw [e1, List.nil_append]
        rw [e1, List.nil_append, if_pos (beq_self_eq_true _), if_pos (beq_self_eq_true _)] at h4
        injection h4
      · rw [if_neg (by simpa using hc), if_neg (by simpa using hc)] at h4
        exact h4
    have h5 := ih h3
    simp only [List.length_append, List.length_cons] at h5 ⊢
    omega
end
end Go.Proofs.YtijffkklhgnknaaDoor
/- Plain facts: the digest of the document in words of 32 bits, and what one operation makes of words. No program is in sight here, and no conditions. -/
set_option linter.unusedVariables false
namespace Go.Proofs.YtijffkklhgnknaaDoor

/-- A word, and a byte, as a number (kept shut in walks), and as a cell's value. -/
def uv (x : UInt32) : Int := (x.toNat : Int)
def bv (x : UInt8) : Int := (x.toNat : Int)
abbrev U (x : UInt32) : Value := .int .u32 (uv x)
abbrev B (x : UInt8) : Value := .int .u8 (bv x)

/-- A word moved, and turned. -/
def shr (x : UInt32) (n : Nat) : UInt32 := UInt32.ofNat (x.toNat / 2 ^ n)
def shl (x : UInt32) (n : Nat) : UInt32 := UInt32.ofNat (x.toNat * 2 ^ n)
def rot (x : UInt32) (n : Nat) : UInt32 := shr x n ||| shl x (32 - n)
def sg0 (x : UInt32) : UInt32 := rot x 7 ^^^ rot x 18 ^^^ shr x 3
def sg1 (x : UInt32) : UInt32 := rot x 17 ^^^ rot x 19 ^^^ shr x 10
def t1 (e f g h k w : UInt32) : UInt32 := h + (rot e 6 ^^^ rot e 11 ^^^ rot e 25) + ((e &&& f) ^^^ (~~~e &&& g)) + k + w
def t2 (a b c : UInt32) : UInt32 := (rot a 2 ^^^ rot a 13 ^^^ rot a 22) + ((a &&& b) ^^^ (a &&& c) ^^^ (b &&& c))

theorem rot_or (x : UInt32) (n : Nat) : rot x n = shl x (32 - n) ||| shr x n := UInt32.or_comm _ _
theorem u32_toNat (n : Nat) : (UInt32.ofNat n).toNat = n % 4294967296 := UInt32.toNat_ofNat' ..
theorem u8_toNat (n : Nat) : (UInt8.ofNat n).toNat = n % 256 := UInt8.toNat_ofNat' ..
theorem u32_lt (x : UInt32) : x.toNat < 4294967296 := UInt32.toNat_lt x
theorem u8_lt (x : UInt8) : x.toNat < 256 := UInt8.toNat_lt x
theorem wrap_add (x y : UInt32) : IntKind.u32.wrap ((x.toNat : Int) + y.toNat) = ((x + y).toNat : Int) := by
  have := UInt32.toNat_add x y
  rw [IntKind.wrap_u32']
  omega
theorem wrap_mul (x y : UInt32) : IntKind.u32.wrap ((x.toNat : Int) * y.toNat) = ((x * y).toNat : Int) := by
  have := UInt32.toNat_mul x y
  rw [IntKind.wrap_u32', this]
  simp
theorem xor_u32 (x y : UInt32) : bits .xor .u32 (x.toNat : Int) (y.toNat : Int) = ((x ^^^ y).toNat : Int) := by
  rw [u32_xor_nat _ _ (u32_lt x) (u32_lt y), UInt32.toNat_xor]
theorem and_u32 (x y : UInt32) : bits .and .u32 (x.toNat : Int) (y.toNat : Int) = ((x &&& y).toNat : Int) := by
  rw [u32_and_nat _ _ (u32_lt x) (u32_lt y), UInt32.toNat_and]
theorem or_u32 (x y : UInt32) : bits .or .u32 (x.toNat : Int) (y.toNat : Int) = ((x ||| y).toNat : Int) := by
  rw [u32_or_nat _ _ (u32_lt x) (u32_lt y), UInt32.toNat_or]
theorem not_u32 (x : UInt32) : bits .xor .u32 (4294967295 : Int) (x.toNat : Int) = ((~~~x).toNat : Int) := by
  have h : (4294967295 : Int) = ((4294967295 : UInt32).toNat : Int) := by decide
  rw [h, xor_u32]
  congr 2
theorem shl_u32 (x : UInt32) (n : Nat) : IntKind.u32.wrap ((x.toNat : Int) * 2 ^ min n 32) = ((shl x n).toNat : Int) := by
  unfold shl
  rw [u32_toNat, IntKind.wrap_u32']
  by_cases h : n ≤ 32
  · rw [Nat.min_eq_left h]
    simp
  · obtain ⟨k, rfl⟩ : ∃ k, n = 32 + k := ⟨n - 32, by omega⟩
    rw [Nat.min_eq_right (by omega), Nat.pow_add]
    have h1 : (x.toNat : Int) * 2 ^ 32 % 4294967296 = 0 := by omega
    have h2 : x.toNat * (2 ^ 32 * 2 ^ k) % 4294967296 = 0 := by
      rw [show x.toNat * (2 ^ 32 * 2 ^ k) = 4294967296 * (x.toNat * 2 ^ k) by rw [show (2:Nat) ^ 32 = 4294967296 by decide, Nat.mul_left_comm]]
      exact Nat.mul_mod_right _ _
    rw [h1, h2]
    rfl
theorem shr_u32 (x : UInt32) (n : Nat) : (x.toNat : Int).fdiv (2 ^ min n 32) = ((shr x n).toNat : Int) := by
  unfold shr
  have hx := u32_lt x
  have e : x.toNat / 2 ^ min n 32 = x.toNat / 2 ^ n := by
    by_cases h : n ≤ 32
    · rw [Nat.min_eq_left h]
    · rw [Nat.min_eq_right (by omega), Nat.div_eq_of_lt (by omega), Nat.div_eq_of_lt]
      exact Nat.lt_of_lt_of_le hx (by
        have : 2 ^ 32 ≤ 2 ^ n := Nat.pow_le_pow_right (by decide) (by omega)
        simpa using this)
  rw [u32_toNat, Nat.mod_eq_of_lt (Nat.lt_of_le_of_lt (Nat.div_le_self _ _) hx), ← e, Int.fdiv_eq_ediv_of_nonneg _ (by exact_mod_cast Nat.zero_le _)]
  simp

section
variable (x y : UInt32) (v : UInt8)
theorem uv_add : IntKind.u32.wrap (uv x + uv y) = uv (x + y) := wrap_add x y
theorem uv_add' : (uv x + uv y) % 4294967296 = uv (x + y) := by rw [← uv_add, IntKind.wrap_u32']
theorem uv_mul : IntKind.u32.wrap (uv x * 256) = uv (x * 256) := wrap_mul x 256
theorem uv_mul' : (uv x * 256) % 4294967296 = uv (x * 256) := by rw [← uv_mul, IntKind.wrap_u32']
theorem uv_xor : bits .xor .u32 (uv x) (uv y) = uv (x ^^^ y) := xor_u32 x y
theorem uv_and : bits .and .u32 (uv x) (uv y) = uv (x &&& y) := and_u32 x y
theorem uv_or : bits .or .u32 (uv x) (uv y) = uv (x ||| y) := or_u32 x y
theorem uv_not : bits .xor .u32 4294967295 (uv x) = uv (~~~x) := not_u32 x
theorem uv_not' : bits .xor .u32 (if IntKind.u32.signed = true then -1 else IntKind.u32.max) (uv x) = uv (~~~x) := not_u32 x
theorem uv_shr (n : Nat) : uv x / 2 ^ n = uv (shr x n) := by
  have hx := u32_lt x
  unfold uv shr
  rw [u32_toNat, Nat.mod_eq_of_lt (Nat.lt_of_le_of_lt (Nat.div_le_self _ _) hx)]
  simp
theorem uv_shr3 : uv x / 8 = uv (shr x 3) := uv_shr x 3
theorem uv_shr10 : uv x / 1024 = uv (shr x 10) := uv_shr x 10
theorem uv_shr8 : uv x / 256 = uv (shr x 8) := uv_shr x 8
theorem uv_shr16 : uv x / 65536 = uv (shr x 16) := uv_shr x 16
theorem uv_shr24 : uv x / 16777216 = uv (shr x 24) := uv_shr x 24
theorem uv_shl (n : Nat) (h : n ≤ 32) : IntKind.u32.wrap (uv x * 2 ^ n) = uv (shl x n) := by
  have := shl_u32 x n
  rw [Nat.min_eq_left h] at this
  exact this
theorem uv_to8 : IntKind.u8.wrap (uv x) = bv x.toUInt8 := by
  unfold uv bv
  rw [UInt32.toNat_toUInt8, IntKind.wrap_u8']
  omega
theorem uv_to8' : uv x % 256 = bv x.toUInt8 := by rw [← uv_to8, IntKind.wrap_u8']
theorem bv_to32 : IntKind.u32.wrap (bv v) = uv v.toUInt32 := by
  have := u8_lt v
  unfold uv bv
  rw [UInt8.toNat_toUInt32, IntKind.wrap_u32']
  omega
theorem bv_to32' : bv v % 4294967296 = uv v.toUInt32 := by rw [← bv_to32, IntKind.wrap_u32']
theorem uv_zero : uv 0 = 0 := rfl
theorem bv_zero : bv 0 = 0 := rfl
end

attribute [go_sem] uv_add uv_add' uv_mul uv_mul' uv_xor uv_and uv_or uv_not uv_not' uv_shr3 uv_shr10 uv_shr8 uv_shr16 uv_shr24 uv_to8 uv_to8' bv_to32 bv_to32'

/-- Rows of words and of bytes, told by a function of the place. -/
def arr (n : Nat) (f : Nat → UInt32) : List Value := (List.range n).map fun j => U (f j)
def brr (n : Nat) (f : Nat → UInt8) : List Value := (List.range n).map fun j => B (f j)
def upd {α : Type} (f : Nat → α) (i : Nat) (x : α) : Nat → α := fun j => if j = i then x else f j
theorem arr_len (n : Nat) (f : Nat → UInt32) : (arr n f).length = n := by simp [arr]
theorem brr_len (n : Nat) (f : Nat → UInt8) : (brr n f).length = n := by simp [brr]
theorem arr_get {n j : Nat} (f : Nat → UInt32) (h : j < n) : (arr n f)[j]? = some (U (f j)) := by simp [arr, h]
theorem brr_get {n j : Nat} (f : Nat → UInt8) (h : j < n) : (brr n f)[j]? = some (B (f j)) := by simp [brr, h]
theorem arr_none {n j : Nat} (f : Nat → UInt32) (h : n ≤ j) : (arr n f)[j]? = none := by simp [arr, h]
theorem brr_none {n j : Nat} (f : Nat → UInt8) (h : n ≤ j) : (brr n f)[j]? = none := by simp [brr, h]
theorem arr_one (n : Nat) (f : Nat → UInt32) : ∀ u ∈ arr n f, u.oneCell' = true := by
  intro u hu
  obtain ⟨b, _, rfl⟩ := List.mem_map.1 hu
  rfl
theorem brr_one (n : Nat) (f : Nat → UInt8) : ∀ u ∈ brr n f, u.oneCell' = true := by
  intro u hu
  obtain ⟨b, _, rfl⟩ := List.mem_map.1 hu
  rfl
theorem arr_congr {n : Nat} {f g : Nat → UInt32} (h : ∀ j, j < n → f j = g j) : arr n f = arr n g := by
  unfold arr
  refine List.map_congr_left fun j hj => ?_
  rw [h j (by simpa using hj)]
theorem brr_congr {n : Nat} {f g : Nat → UInt8} (h : ∀ j, j < n → f j = g j) : brr n f = brr n g := by
  unfold brr
  refine List.map_congr_left fun j hj => ?_
  rw [h j (by simpa using hj)]
theorem arr_set (n i : Nat) (f : Nat → UInt32) (x : UInt32) : (arr n f).set i (U x) = arr n (upd f i x) := by
  apply List.ext_getElem?
  intro j
  by_cases hj : j < n
  · rw [arr_get _ hj, List.getElem?_set]
    by_cases e : i = j
    · subst e
      rw [if_pos rfl, if_pos (by rw [arr_len]; exact hj)]
      simp [upd]
    · rw [if_neg e, arr_get _ hj]
      simp [upd, Ne.symm e]
  · rw [arr_none _ (by omega), List.getElem?_eq_none (by rw [List.length_set, arr_len]; omega)]
theorem brr_set (n i : Nat) (f : Nat → UInt8) (x : UInt8) : (brr n f).set i (B x) = brr n (upd f i x) := by
  apply List.ext_getElem?
  intro j
  by_cases hj : j < n
  · rw [brr_get _ hj, List.getElem?_set]
    by_cases e : i = j
    · subst e
      rw [if_pos rfl, if_pos (by rw [brr_len]; exact hj)]
      simp [upd]
    · rw [if_neg e, brr_get _ hj]
      simp [upd, Ne.symm e]
  · rw [brr_none _ (by omega), List.getElem?_eq_none (by rw [List.length_set, brr_len]; omega)]

/-- A word out of four bytes; the words that a block's bytes are, and those that follow from them. -/
def ap (x : UInt32) (b : UInt8) : UInt32 := x * 256 + b.toUInt32
def wd (b : Nat → UInt8) (i : Nat) : UInt32 := ap (ap (ap (ap 0 (b (4 * i))) (b (4 * i + 1))) (b (4 * i + 2))) (b (4 * i + 3))
def sch (b : Nat → UInt8) (t : Nat) : UInt32 :=
  if t < 16 then wd b t else sg1 (sch b (t - 2)) + sch b (t - 7) + sg0 (sch b (t - 15)) + sch b (t - 16)
theorem sch_lo (b : Nat → UInt8) (t : Nat) (h : t < 16) : sch b t = wd b t := by rw [sch, if_pos h]
theorem sch_hi (b : Nat → UInt8) (t : Nat) (h : 16 ≤ t) : sch b t = sg1 (sch b (t - 2)) + sch b (t - 7) + sg0 (sch b (t - 15)) + sch b (t - 16) := by rw [sch, if_neg (by omega)]
/-- The words behind i bytes. -/
def prt (b : Nat → UInt8) (i j : Nat) : UInt32 :=
  if 4 * j + 4 ≤ i then wd b j else if 4 * j + 3 = i then ap (ap (ap 0 (b (4 * j))) (b (4 * j + 1))) (b (4 * j + 2)) else if 4 * j + 2 = i then ap (ap 0 (b (4 * j))) (b (4 * j + 1)) else if 4 * j + 1 = i then ap 0 (b (4 * j)) else 0
theorem prt_zero (b : Nat → UInt8) (j : Nat) : prt b 0 j = 0 := by
  unfold prt
  rw [if_neg (by omega), if_neg (by omega), if_neg (by omega), if_neg (by omega)]
theorem prt_step (b : Nat → UInt8) (i : Nat) : upd (prt b i) (i / 4) (ap (prt b i (i / 4)) (b i)) = prt b (i + 1) := by
  funext j
  unfold upd
  split
  · rename_i h
    subst h
    have h4 : i % 4 = 0 ∨ i % 4 = 1 ∨ i % 4 = 2 ∨ i % 4 = 3 := by omega
    have hd := Nat.div_add_mod i 4
    generalize i / 4 = q at hd ⊢
    rcases h4 with h | h | h | h
    · obtain rfl : i = 4 * q := by omega
      unfold prt
      rw [if_neg (by omega), if_neg (by omega), if_neg (by omega), if_neg (by omega), if_neg (by omega), if_neg (by omega), if_neg (by omega), if_pos (by omega)]
    · obtain rfl : i = 4 * q + 1 := by omega
      unfold prt
      rw [if_neg (by omega), if_neg (by omega), if_neg (by omega), if_pos (by omega), if_neg (by omega), if_neg (by omega), if_pos (by omega)]
    · obtain rfl : i = 4 * q + 2 := by omega
      unfold prt
      rw [if_neg (by omega), if_neg (by omega), if_pos (by omega), if_neg (by omega), if_pos (by omega)]
    · obtain rfl : i = 4 * q + 3 := by omega
      unfold prt
      rw [if_neg (by omega), if_pos (by omega), if_pos (by omega)]
      rfl
  · rename_i h
    unfold prt
    by_cases h4 : 4 * j + 4 ≤ i
    · rw [if_pos h4, if_pos (by omega)]
    · rw [if_neg h4, if_neg (by omega)]
      rw [if_neg (by omega), if_neg (by omega), if_neg (by omega), if_neg (by omega), if_neg (by omega), if_neg (by omega)]
theorem prt_full (b : Nat → UInt8) (j : Nat) (h : j < 16) : prt b 64 j = wd b j := by
  unfold prt
  rw [if_pos (by omega)]
theorem prt_far (b : Nat → UInt8) (j : Nat) (h : 16 ≤ j) : prt b 64 j = 0 := by
  unfold prt
  rw [if_neg (by omega), if_neg (by omega), if_neg (by omega), if_neg (by omega)]
/-- The first t words. -/
def sft (b : Nat → UInt8) (t j : Nat) : UInt32 := if j < t then sch b j else 0
theorem sft_lt (b : Nat → UInt8) {t j : Nat} (h : j < t) : sft b t j = sch b j := if_pos h
theorem sft_start (b : Nat → UInt8) : ∀ j, j < 64 → prt b 64 j = sft b 16 j := by
  intro j hj
  unfold sft
  split
  · rename_i h
    rw [prt_full b j h, sch_lo b j h]
  · exact prt_far b j (by omega)
theorem sft_step (b : Nat → UInt8) (t : Nat) : upd (sft b t) t (sch b t) = sft b (t + 1) := by
  funext j
  unfold upd sft
  by_cases h : j = t
  · subst h
    simp
  · rw [if_neg h]
    by_cases h2 : j < t
    · rw [if_pos h2, if_pos (by omega)]
    · rw [if_neg h2, if_neg (by omega)]
/-- A word moved by a byte and joined with one. -/
theorem join_ap (x : UInt32) (b : UInt8) : x * 256 ||| b.toUInt32 = ap x b := by
  have hb := u8_lt b
  have hx := u32_lt x
  apply UInt32.toNat_inj.1
  unfold ap
  rw [UInt32.toNat_or, UInt32.toNat_add, UInt32.toNat_mul, UInt8.toNat_toUInt32]
  have h256 : (256 : UInt32).toNat = 256 := rfl
  rw [h256]
  have e : x.toNat * 256 % 2 ^ 32 = 2 ^ 8 * (x.toNat % 16777216) := by omega
  rw [e, ← Nat.two_pow_add_eq_or_of_lt (by omega)]
  omega

/-- The 64 constants of the document. -/
def ksL : List UInt32 := [
  1116352408, 1899447441, 3049323471, 3921009573, 961987163, 1508970993, 2453635748, 2870763221,
  3624381080, 310598401, 607225278, 1426881987, 1925078388, 2162078206, 2614888103, 3248222580,
  3835390401, 4022224774, 264347078, 604807628, 770255983, 1249150122, 1555081692, 1996064986,
  2554220882, 2821834349, 2952996808, 3210313671, 3336571891, 3584528711, 113926993, 338241895,
  666307205, 773529912, 1294757372, 1396182291, 1695183700, 1986661051, 2177026350, 2456956037,
  2730485921, 2820302411, 3259730800, 3345764771, 3516065817, 3600352804, 4094571909, 275423344,
  430227734, 506948616, 659060556, 883997877, 958139571, 1322822218, 1537002063, 1747873779,
  1955562222, 2024104815, 2227730452, 2361852424, 2428436474, 2756734187, 3204031479, 3329325298]
def kk (j : Nat) : UInt32 := ksL.getD j 0
/-- Eight words; what a step makes of them, and a block. -/
structure S8 where
  (a b c d e f g h : UInt32)
def S8.at (s : S8) : Nat → UInt32
  | 0 => s.a | 1 => s.b | 2 => s.c | 3 => s.d | 4 => s.e | 5 => s.f | 6 => s.g | 7 => s.h | _ => 0
def rnd (s : S8) (k w : UInt32) : S8 := ⟨t1 s.e s.f s.g s.h k w + t2 s.a s.b s.c, s.a, s.b, s.c, s.d + t1 s.e s.f s.g s.h k w, s.e, s.f, s.g⟩
def rnds (s : S8) (w : Nat → UInt32) : Nat → S8
  | 0 => s
  | n + 1 => rnd (rnds s w n) (kk n) (w n)
def S8.plus (s r : S8) : S8 := ⟨s.a + r.a, s.b + r.b, s.c + r.c, s.d + r.d, s.e + r.e, s.f + r.f, s.g + r.g, s.h + r.h⟩
def cmp (s : S8) (f : Nat → UInt8) : S8 := s.plus (rnds s (sch f) 64)
theorem plus_at (s r : S8) (j : Nat) (h : j < 8) : (s.plus r).at j = s.at j + r.at j := by
  match j, h with
  | 0, _ => rfl
  | 1, _ => rfl
  | 2, _ => rfl
  | 3, _ => rfl
  | 4, _ => rfl
  | 5, _ => rfl
  | 6, _ => rfl
  | 7, _ => rfl
/-- The first k of the sums. -/
def mix (s r : S8) (k j : Nat) : UInt32 := if j < k then (s.plus r).at j else s.at j
theorem mix_zero (s r : S8) : mix s r 0 = s.at := by
  funext j
  exact if_neg (by omega)
theorem mix_at (s r : S8) (k : Nat) : mix s r k k = s.at k := if_neg (by omega)
theorem mix_step (s r : S8) (k : Nat) (h : k < 8) : upd (mix s r k) k (s.at k + r.at k) = mix s r (k + 1) := by
  funext j
  unfold upd mix
  by_cases e : j = k
  · subst e
    rw [if_pos rfl, if_pos (by omega), plus_at s r j h]
  · rw [if_neg e]
    by_cases h2 : j < k
    · rw [if_pos h2, if_pos (by omega)]
    · rw [if_neg h2, if_neg (by omega)]
theorem mix_full (s r : S8) : arr 8 (mix s r 8) = arr 8 (s.plus r).at := arr_congr fun j hj => if_pos hj
/-- The eight beginnings of the document. -/
def h0 : S8 := ⟨0x6a09e667, 0xbb67ae85, 0x3c6ef372, 0xa54ff53a, 0x510e527f, 0x9b05688c, 0x1f83d9ab, 0x5be0cd19⟩
theorem arr8 (s : S8) : arr 8 s.at = [U s.a, U s.b, U s.c, U s.d, U s.e, U s.f, U s.g, U s.h] := rfl
attribute [irreducible] arr brr
end Go.Proofs.YtijffkklhgnknaaDoor
/- Words for memory: a block that is known whole, and cells in the midst of one. No conditions. -/
set_option linter.unusedVariables false
namespace Go.Proofs.YtijffkklhgnknaaDoor
open Go.RowKit

/-- Block g is just these cells, and may be written. -/
def Row (w : World) (g : Nat) (t : TypeId) (cs : List Value) : Prop := w.heap[g]? = some (.cells cs.toArray t (0, 0))

section
variable {w w' : World} {g : Nat} {t : TypeId} {cs : List Value}
theorem Row.heap (h : Row w g t cs) : w.heap[g]? = some (.cells cs.toArray t (0, 0)) := h
theorem Row.lt (h : Row w g t cs) : g < w.heap.size := (Array.getElem?_eq_some_iff.1 h).1
theorem Row.cell (h : Row w g t cs) (i : Nat) : w.cell? ⟨g, i, none⟩ = cs[i]? := by
  have := cell_of_row w g i cs.toArray t (0, 0) h
  simpa using this
theorem Row.free (h : Row w g t cs) (i : Nat) : w.frozen? ⟨g, i, none⟩ = false := by
  have h' := h.heap
  simp [World.frozen?, h']
theorem Row.made (w : World) (t : TypeId) (cs : List Value) : Row (w.alloc (.cells cs.toArray t)) w.heap.size t cs := heap_alloc_new w _
theorem Row.drew (h : Row w g t cs) : Row w.drew g t cs := h
theorem Row.drewN (h : Row w g t cs) (n : Nat) : Row (w.drewN n) g t cs := h
theorem Row.alloc (h : Row w g t cs) (o : Obj) : Row (w.alloc o) g t cs := (Below.heap_alloc w o g h.lt).trans h
theorem Row.put (h : Row w g t cs) (i : Nat) (u : Value) : Row (w.setCell ⟨g, i, none⟩ u) g t (cs.set i u) := by
  have h' := heap_set h i u
  unfold Row
  rw [h']
  congr 2
  apply Array.ext'
  simp
theorem Row.far (h : Row w g t cs) {p : Addr} (hp : g ≠ p.block) (u : Value) : Row (w.setCell p u) g t cs := (Below.heap_setCell w p u g hp).trans h
theorem Row.below {n : Nat} (h : Row w g t cs) (hb : Below n w w') (hg : g < n) : Row w' g t cs := (hb.block g hg).trans h
theorem Row.kept (h : Row w g t cs) (hb : Below w.heap.size w w') : Row w' g t cs := (hb.block g h.lt).trans h
theorem Row.grown {row : Option Nat} (h : Row w g t cs) (hb : w.grownBy w' row) (hg : some g ≠ row) : Row w' g t cs := (hb.block g h.lt hg).trans h
theorem Row.range (h : Row w g t cs) (o n : Nat) : w.rangeAt g o ((cs.drop o).take n) := fun j v hv => by
  rw [h.cell]
  rw [List.getElem?_take] at hv
  split at hv
  · rw [List.getElem?_drop] at hv
    exact hv
  · cases hv
theorem Row.all (h : Row w g t cs) : w.rangeAt g 0 cs := fun j v hv => by
  rw [h.cell, Nat.zero_add]
  exact hv
theorem Row.is_there (h : Row w g t cs) (o n : Nat) (hn : o + n ≤ cs.length) : w.there g o n := fun j hj => ⟨by rw [h.cell, List.getElem?_eq_getElem (by omega)]; rfl, h.free _⟩
theorem Row.ne_ {g' : Nat} {t' : TypeId} {cs' : List Value} (h : Row w g t cs) (h' : Row w g' t' cs') (hne : t ≠ t') : g ≠ g' := by
  rintro rfl
  unfold Row at h h'
  rw [h] at h'
  injection h' with h'
  injection h' with _ ht
  exact hne ht
end

theorem below_drewN {n : Nat} {w w' : World} (h : Below n w w') (k : Nat) : Below n w (w'.drewN k) := ⟨h.os, h.tape, h.output, h.size, h.block⟩

section
variable {P : Program} {ops : Array Oper} {rest : List Oper} {o : Oper} {a : Act} {w : World} {Q : Exit → Act → World → Prop}
/-- A variable of a row's type, made. -/
theorem step_alloc (hgd : o.guard = none) (d : Tmp) (hd : o.dst = some d) (t : TypeId) (ho : o.op = .alloc t) (cs : List Value) (hz : ∀ w : World, (zeroValue t).run P w = .ok (.agg cs.toArray) w)
    (h : ∀ g w', Row w' g t cs → Hid (g = w.heap.size) → Below w.heap.size w w' → Hid (w'.heap.size = w.heap.size + 1) → wpList P ops Q rest (a.put o.dst (.pointer (some ⟨g, 0, none⟩))) w') : wpList P ops Q (o :: rest) a w := by
  refine wpList_plain hgd fun K hK => ?_
  unfold Oper.wp execOp
  simp only [ho]
  simp [Instr.alloc, hz, newVar, go_sem]
  exact hK _ _ (h _ _ (Row.made w t cs) (show _ = _ from rfl) ((Below.refl _ _).alloc (Nat.le_refl _) _) (show _ = _ by simp))
/-- A row's value, laid into a new variable. -/
theorem step_box (hgd : o.guard = none) (d : Tmp) (hd : o.dst = some d) (t : TypeId) (x : Operand) (ho : o.op = .box t x) (cs : List Value) (hx : a.eval x = .agg cs.toArray)
    (h : ∀ g w', Row w' g t cs → Hid (g = w.heap.size) → Below w.heap.size w w' → Hid (w'.heap.size = w.heap.size + 1) → wpList P ops Q rest (a.put o.dst (.pointer (some ⟨g, 0, none⟩))) w') : wpList P ops Q (o :: rest) a w := by
  refine wpList_plain hgd fun K hK => ?_
  unfold Oper.wp execOp
  simp only [ho, hx]
  simp [Instr.box, newVar, go_sem]
  exact hK _ _ (h _ _ (Row.made w t cs) (show _ = _ from rfl) ((Below.refl _ _).alloc (Nat.le_refl _) _) (show _ = _ by simp))
/-- A whole row, loaded. -/
theorem step_load (hgd : o.guard = none) (d : Tmp) (hd : o.dst = some d) (ty : TypeId) (x : Operand) (ho : o.op = .load ty x) (g : Nat) (hx : a.eval x = .pointer (some ⟨g, 0, none⟩)) (cs : List Value) (dd : TypeDesc)
    (hr : w.rangeAt g 0 cs) (hu : P.underlying ty = some dd) (hdd : dd.isRow = true) (hi : (P.info? ty).map (·.size) = some cs.length)
    (h : wpList P ops Q rest (a.put o.dst (.agg cs.toArray)) w) : wpList P ops Q (o :: rest) a w :=
  wpList_load_mid hgd ty x ho g 0 hx cs dd hr hu hdd hi h
/-- A struct, built out of parts. -/
theorem step_build (hgd : o.guard = none) (t : TypeId) (parts : Array (Nat × Operand)) (ho : o.op = .build t parts) (vs : List (Nat × Value)) (hv : (parts.map fun (i, x) => (i, a.eval x)).toList = vs) (cells : Array Value) (hb : P.built t vs = some cells)
    (h : wpList P ops Q rest (a.put o.dst (.agg cells)) w) : wpList P ops Q (o :: rest) a w := by
  subst hv
  refine wpList_build hgd t parts ho (by rw [hb]; rfl) ?_
  rw [hb]
  exact h
/-- A whole row, stored over one of as many cells. -/
theorem step_store (hgd : o.guard = none) (ty : TypeId) (x y : Operand) (ho : o.op = .store ty x y) (g : Nat) (hx : a.eval x = .pointer (some ⟨g, 0, none⟩)) (t : TypeId) (old cs : List Value) (hy : a.eval y = .agg cs.toArray)
    (hr : Row w g t old) (hl : old.length = cs.length) (hi : (P.info? ty).map (·.size) = some cs.length) (h1 : ∀ v ∈ cs, v.oneCell' = true)
    (h : ∀ w', Row w' g t cs → w.grownBy w' (some g) → Hid (w'.heap.size = w.heap.size) → wpList P ops Q rest (a.put o.dst undef) w') : wpList P ops Q (o :: rest) a w := by
  refine wpList_store_row hgd ty x y ho g cs.toArray hx hy t old.toArray hr (by simpa using hi) (by simpa using hl) (all_oneCell_toArray h1) ?_
  exact h _ (setRow_heap w g _ _ t _ hr) ⟨rfl, rfl, rfl, by simp, fun k hk hne => setRow_other w g k _ (fun e => hne (by rw [e]))⟩ (show _ = _ by simp)
end
section
variable {P : Program} (w : World)
/-- One of a row's bytes, or words, by value. -/
theorem run_index_brr (t e : TypeId) (n : Nat) (f : Nat → UInt8) (k : Nat) (hk : k < n) (ht : P.underlying t = some (.array n e)) (he : P.underlying e = some (.int .u8)) (hs : (P.info? e).map (·.size) = some 1) :
    (Instr.index t (.agg (brr n f).toArray) (.int .i64 k)).run P w = .ok (B (f k)) w := by
  have hg := brr_get f hk
  cases hq : P.info? e with
  | none => simp [hq] at hs
  | some i =>
    have hi : i.size = 1 := by simpa [hq] using hs
    simp [Instr.index, asIntOf, run_underlying ht, run_underlying he, sizeOf, typeInfo, hq, hi, hk, Go.part, isAgg, hg]
theorem run_index_arr (t e : TypeId) (n : Nat) (f : Nat → UInt32) (k : Nat) (hk : k < n) (ht : P.underlying t = some (.array n e)) (he : P.underlying e = some (.int .u32)) (hs : (P.info? e).map (·.size) = some 1) :
    (Instr.index t (.agg (arr n f).toArray) (.int .i64 k)).run P w = .ok (U (f k)) w := by
  have hg := arr_get f hk
  cases hq : P.info? e with
  | none => simp [hq] at hs
  | some i =>
    have hi : i.size = 1 := by simpa [hq] using hs
    simp [Instr.index, asIntOf, run_underlying ht, run_underlying he, sizeOf, typeInfo, hq, hi, hk, Go.part, isAgg, hg]
end
end Go.Proofs.YtijffkklhgnknaaDoor
/- Bytes appended one by one to a row of the call's own, the row told by a function of the place. No conditions but those named. -/
set_option linter.unusedVariables false
namespace Go.Proofs.YtijffkklhgnknaaDoor
open Go.RowKit

theorem info_b8 : (Tryd.prog.info? 5).map (fun i => (i.zero, i.size, i.bytes)) = some (some (.int .u8 0), 1, 1) := by kernel_rfl
theorem u8_tab : ∃ i, U8 Tryd.prog 33 5 i := by
  obtain ⟨i, hi, hz, h1, h2⟩ := info_parts info_b8
  exact ⟨i, Tryd.underlying33, hi, hz, h1, h2⟩
theorem brr_zero (f : Nat → UInt8) : brr 0 f = [] := by unfold brr; rfl
theorem brr_succ (n : Nat) (f : Nat → UInt8) : brr n f ++ bc [f n] = brr (n + 1) f := by
  unfold brr
  rw [List.range_succ, List.map_append]
  rfl
theorem hol_byte {w : World} {g : Nat} {x : UInt8} (h : w.cell? ⟨g, 0, none⟩ = some (B x)) : Hol w (some ⟨g, 0, none⟩) [x] := by
  refine .inr ⟨g, 0, rfl, fun j y hy => ?_⟩
  match j, hy with
  | 0, hy =>
    simp at hy
    subst hy
    exact h
theorem made_byte (w : World) (e : TypeId) (v : Value) : (w.alloc (.cells #[v] e)).cell? ⟨w.heap.size, 0, none⟩ = some v := by simp

section
variable {P : Program} {w : World} {ops : Array Oper} {rest : List Oper} {o : Oper} {a : Act} {Q : Exit → Act → World → Prop} {K : Act → World → Prop} {E : Prop}
/-- One byte appended, in a plain region. -/
theorem wp_one (hgd : o.guard = none) (s x : Operand) (t : TypeId) (ho : o.op = .call { callee := .builtin .append, args := #[s, x], argTypes := #[t, t] })
    (e : TypeId) (i : TypeInfo) (U : U8 P t e i) (base : Nat) (v : Value) (n : Nat) (f : Nat → UInt8) (hs : a.eval s = v) (hown : w.ownsRow base e 1 v n (brr n f))
    (g : Nat) (hx : a.eval x = .slice (some ⟨g, 0, none⟩) 1 1) (hc : w.cell? ⟨g, 0, none⟩ = some (B (f n))) (hn : n ≤ 70368744177664) (hbase : base ≤ w.heap.size)
    (h : ∀ v' w', w'.ownsRow base e 1 v' (n + 1) (brr (n + 1) f) → w.grownBy w' v.ownBlock → (v'.ownBlock = v.ownBlock ∨ v'.ownBlock = some w.heap.size) → wpList P ops Q rest (a.put o.dst v') w') :
    wpList P ops Q (o :: rest) a w :=
  wpList_app w hgd s x t ho e i U base v n _ hs hown (some ⟨g, 0, none⟩) 1 1 [f n] hx rfl (hol_byte hc) (by omega) hbase (fun v' w' h1 h2 h3 => h v' w' (by rw [← brr_succ]; exact h1) h2 h3)
/-- One byte appended, at a step of a region that draws. -/
theorem step_one (hgd : o.guard = none) (s x : Operand) (t : TypeId) (ho : o.op = .call { callee := .builtin .append, args := #[s, x], argTypes := #[t, t] })
    (e : TypeId) (i : TypeInfo) (U : U8 P t e i) (base : Nat) (v : Value) (n : Nat) (f : Nat → UInt8) (hs : a.eval s = v) (hown : w.ownsRow base e 1 v n (brr n f))
    (g : Nat) (hx : a.eval x = .slice (some ⟨g, 0, none⟩) 1 1) (hc : w.cell? ⟨g, 0, none⟩ = some (B (f n))) (hn : n ≤ 70368744177664) (hbase : base ≤ w.heap.size)
    (h : ∀ v' w', w'.ownsRow base e 1 v' (n + 1) (brr (n + 1) f) → w.grownBy w' v.ownBlock → (v'.ownBlock = v.ownBlock ∨ v'.ownBlock = some w.heap.size) → K (a.put o.dst v') w') :
    if Region.wanted o (yielded ops a.tmps) = true then Oper.wp P o a w K Q else E := by
  have hw : Region.wanted o (yielded ops a.tmps) = true := by simp [Region.wanted, hgd]
  rw [if_pos hw]
  obtain ⟨v', w', hr, h2, h3, h4⟩ := run_app (P := P) w t o.type e i U base v n _ hown (some ⟨g, 0, none⟩) 1 1 [f n] rfl (hol_byte hc) (.inr trivial) (by omega) hbase
  unfold Oper.wp execOp
  simp only [ho, resolve, invoke, builtin, Sem.run_bind, Sem.run_pure, Result.andThen_ok, List.map_toArray, List.map_cons, List.map_nil, hs, hx, hr]
  exact h v' w' (by rw [← brr_succ]; exact h2) h3 h4
end
theorem made_brr (n : Nat) : madeCells (Value.int .u8 0).cells (n * 1) = (brr n fun _ => 0).toArray := by
  apply Array.ext'
  apply List.ext_getElem?
  intro j
  have hc : (Value.int IntKind.u8 0).cells = #[Value.int IntKind.u8 0] := rfl
  by_cases h : j < n
  · rw [brr_get _ h]
    simp [madeCells, hc, h, Nat.mod_one, bv]
  · rw [brr_none _ (by omega)]
    simp [madeCells, hc]
    omega
/-- A row of bytes 0, made. -/
theorem step_make {P : Program} {w : World} {ops : Array Oper} {rest : List Oper} {o : Oper} {a : Act} {Q : Exit → Act → World → Prop} (hg : o.guard = none) (l c : Operand) (t e : TypeId) (i : TypeInfo) (U : U8 P t e i) (hop : o.op = Op.makeSlice t l c)
    (n : Nat) (hl : a.eval l = .int .i64 n) (hc : a.eval c = .int .i64 n) (hn : n ≤ 70368744177664)
    (h : ∀ g w', _root_.Go.Proofs.YtijffkklhgnknaaDoor.Row w' g e (brr n fun _ => 0) → Hid (g = w.heap.size) → Below w.heap.size w w' → Hid (w'.heap.size = w.heap.size + 1) → wpList P ops Q rest (a.put o.dst (.slice (some ⟨g, 0, none⟩) n n)) w') :
    wpList P ops Q (o :: rest) a w := by
  refine wpList_plain hg fun K hK' => ?_
  have hr := run_make (P := P) w t e i (.int .u8 0) U.ht U.hi U.hz .i64 .i64 n n (by omega) (Int.le_refl _) (by rw [U.h2]; omega) (by omega)
  simp only [Int.toNat_natCast, U.h1] at hr
  rw [made_brr] at hr
  unfold Oper.wp
  simp [execOp, hop, hl, hc, hr, Result.andThen]
  exact hK' _ _ (h _ _ (Row.made w e _) (show _ = _ from rfl) ((Below.refl _ _).alloc (Nat.le_refl _) _) (show _ = _ by simp))
/-- A row of bytes owned from base on lies where its value says. -/
theorem own_range {w : World} {base : Nat} {e : TypeId} {g off n m cap : Nat} {f : Nat → UInt8} (h : w.ownsRow base e 1 (.slice (some ⟨g, off, none⟩) m cap) n (brr n f)) {j : Nat} (hj : j < n) : off = 0 ∧ w.cell? ⟨g, j, none⟩ = some (B (f j)) := by
  rcases h.2 with ⟨h1, h2⟩ | ⟨g', cap', cur, h1, hb, hg, hn, hc, hs, ht⟩
  · simp at h1
  · simp only [Value.slice.injEq, Option.some.injEq, Addr.mk.injEq] at h1
    obtain ⟨⟨rfl, rfl, _⟩, _, _⟩ := h1
    refine ⟨rfl, ?_⟩
    have := h.cells (g := g) rfl j _ (brr_get f hj)
    rw [show (⟨g, j, none⟩ : Addr) = (⟨g, 0, none⟩ : Addr).add j by unfold Addr.add; split <;> simp_all]
    exact this
end Go.Proofs.YtijffkklhgnknaaDoor
/- Plain facts about numbers as bytes, the least byte first, and about going through bytes. No program is in sight here, and no conditions. -/
set_option linter.unusedVariables false
namespace Go.Proofs.YtijffkklhgnknaaDoor

/-- How many bits a number of a size has. -/
def wid (n : Int) : Nat := if n = 8 then 64 else if n = 4 then 32 else if n = 2 then 16 else if n = 1 then 8 else 0
/-- The first k bytes of a number, the least first. -/
def leb (v : Nat) (k : Nat) : List UInt8 := (List.range k).map fun j => UInt8.ofNat (v / 256 ^ j)
theorem leb_zero (v : Nat) : leb v 0 = [] := rfl
theorem leb_succ (v k : Nat) : leb v (k + 1) = leb v k ++ [UInt8.ofNat (v / 256 ^ k)] := by simp [leb, List.range_succ]
theorem leb_len (v k : Nat) : (leb v k).length = k := by simp [leb]
/-- The number that bytes are. -/
def num : List UInt8 → Nat
  | [] => 0
  | b :: t => b.toNat + 256 * num t
theorem num_nil : num [] = 0 := rfl
theorem num_app (a : List UInt8) (b : UInt8) : num (a ++ [b]) = num a + 256 ^ a.length * b.toNat := by
  induction a with
  | nil => simp [num]
  | cons x t ih =>
    simp only [List.cons_append, num, ih, List.length_cons]
    rw [Nat.pow_succ, Nat.mul_add, ← Nat.mul_assoc, Nat.mul_comm 256 (256 ^ t.length)]
    omega
theorem num_lt (a : List UInt8) : num a < 256 ^ a.length := by
  induction a with
  | nil => simp [num]
  | cons x t ih =>
    have hx : x.toNat < 256 := x.toNat_lt
    simp only [num, List.length_cons, Nat.pow_succ]
    omega
theorem num_leb (v : Nat) : ∀ k, num (leb v k) = v % 256 ^ k
  | 0 => by simp [leb, num, Nat.mod_one]
  | k + 1 => by
    have e : (UInt8.ofNat (v / 256 ^ k)).toNat = v / 256 ^ k % 256 := UInt8.toNat_ofNat' ..
    rw [leb_succ, num_app, num_leb v k, leb_len, e, Nat.pow_succ, Nat.mod_mul]

/-- A byte that is set above a lesser number is added to it. -/
theorem or_join (N x k : Nat) (hN : N < 256 ^ k) (hx : x < 256) (hk : k ≤ 7) : bits .or .u64 (N : Int) (IntKind.u64.wrap ((x : Int) * 2 ^ (8 * k))) = ((N + 256 ^ k * x : Nat) : Int) := by
  have e2 : (256 : Nat) ^ k = 2 ^ (8 * k) := by rw [Nat.pow_mul]
  have hp : (2 : Nat) ^ (8 * k) ≤ 2 ^ 56 := Nat.pow_le_pow_right (by decide) (by omega)
  have h1 : 2 ^ (8 * k) * x ≤ 2 ^ 56 * 255 := Nat.mul_le_mul hp (by omega)
  have hw : IntKind.u64.wrap ((x : Int) * 2 ^ (8 * k)) = ((2 ^ (8 * k) * x : Nat) : Int) := by
    have e3 : (x : Int) * 2 ^ (8 * k) = ((2 ^ (8 * k) * x : Nat) : Int) := by
      rw [Int.natCast_mul, Int.natCast_pow, Int.mul_comm]
      rfl
    rw [e3]
    generalize 2 ^ (8 * k) * x = M at h1
    simp only [IntKind.wrap, IntKind.bits, IntKind.signed]
    simp
    omega
  rw [hw, e2]
  rw [e2] at hN
  rw [u64_or_nat N _ (by omega) (by omega), Nat.or_comm, ← Nat.two_pow_add_eq_or_of_lt hN x, Nat.add_comm]

/-- What is next, what is left, and whether it is bad then. -/
def nxt (n : Int) (l : List UInt8) (bad : Bool) : List UInt8 × List UInt8 × Bool :=
  if n < 0 ∨ (l.length : Int) < n then ([], [], true) else (l.take n.toNat, l.drop n.toNat, bad)
/-- The same for a number of a size: of a size that there isn't nothing is left. -/
def nnx (n : Int) (l : List UInt8) (bad : Bool) : List UInt8 × List UInt8 × Bool :=
  if wid n = 0 then ([], [], true) else nxt n l bad
/-- For a text. -/
def tnx (l : List UInt8) (bad : Bool) : List UInt8 × List UInt8 × Bool :=
  nxt (num (nxt 2 l bad).1 : Nat) (nxt 2 l bad).2.1 (nxt 2 l bad).2.2
theorem nxt_le (n : Int) (l : List UInt8) (bad : Bool) : (nxt n l bad).1.length ≤ l.length ∧ (nxt n l bad).2.1.length ≤ l.length := by
  unfold nxt
  split <;> simp
  omega
theorem nxt_one (n : Int) (l : List UInt8) (bad : Bool) (h0 : 0 ≤ n) : (nxt n l bad).1.length ≤ n.toNat := by
  unfold nxt
  split <;> simp
  omega
theorem wid_pos {n : Int} (h : wid n ≠ 0) : 1 ≤ n ∧ n ≤ 8 := by
  unfold wid at h
  repeat' split at h
  all_goals omega
theorem wid_le (n : Int) : wid n ≤ 64 := by
  unfold wid
  repeat' split
  all_goals omega
theorem wid_eq {n : Int} (h : wid n ≠ 0) : (wid n : Int) = 8 * n := by
  unfold wid at *
  repeat' split
  all_goals simp_all
theorem nnx_len (n : Int) (l : List UInt8) (bad : Bool) : (nnx n l bad).1.length ≤ 8 := by
  unfold nnx
  split
  · simp
  · rename_i h
    have h1 := wid_pos h
    have h2 := nxt_one n l bad (by omega)
    omega
end Go.Proofs.YtijffkklhgnknaaDoor
/- The reference's comparison of bytes: what each call leaves. Conditions: those named. -/
set_option linter.unusedVariables false
namespace Go.Proofs.YtijffkklhgnknaaDoor
open Go.RowKit

theorem hol_drwN {w : World} {A : Option Addr} {l : List UInt8} (h : Hol w A l) : ∀ q, Hol (w.drewN q) A l
  | 0 => h
  | q + 1 => hol_drwN (w := w.drew) h q

set_option maxHeartbeats 400000 in
theorem rbytes_any (A B : Option Addr) (c d : Nat) (a b : List UInt8) (w : World) (hA : Hol w A a) (hB : Hol w B b) (ha : a.length ≤ 9223372036854775807) (hb : b.length ≤ 9223372036854775807) :
    Calls Tryd.prog 28 #[.slice A a.length c, .slice B b.length d] w fun e w' => e = .returned (.bool (decide (a = b))) ∧ Below w.heap.size w w' := by
  by_cases hl : a.length = b.length
  · generalize hR : decide (a = b) = R
    have HR := Lib.hid hR
    clear hR
    have hn : ((a.length : Int) != (b.length : Int)) = false := by rw [bne_eq_false_iff_eq]; omega
    generalize hbn : b.length = n at *
    have HL := Lib.hid hl
    have HB := Lib.hid hbn
    clear hl hbn
    have hn2 : (a.length : Int) ≤ (n : Int) := by have := HL.out; omega
    have hn3 : a.length ≤ n := by have := HL.out; omega
    go_enter Tryd.func28, Tryd.ntmps28
    go_wp2
    go_loopw [5] (fun i wr => ∃ k : Nat, k ≤ a.length ∧ i = .int .i64 k ∧ Hid (a.take k = b.take k) ∧ ∃ q, wr = w.drewN q) (fun i _ => a.length - (intOf i).toNat)
    case atStart => exact ⟨0, Nat.zero_le _, rfl, Lib.hid (by simp), 0, rfl⟩
    case round =>
      obtain ⟨k, hk, rfl, htk, q, rfl⟩ := hrel
      by_cases hlt : k < a.length
      · have hltb : k < b.length := by have := HL.out; have := HB.out; omega
        obtain ⟨g, o, rfl, _, hc1⟩ := hA.at_ hlt
        obtain ⟨g2, o2, rfl, _, hc2⟩ := hB.at_ hltb
        obtain ⟨x, hx⟩ : ∃ x, a[k] = x := ⟨_, rfl⟩
        obtain ⟨y, hy⟩ : ∃ y, b[k] = y := ⟨_, rfl⟩
        rw [hx] at hc1
        rw [hy] at hc2
        have HX := Lib.hid hx
        have HY := Lib.hid hy
        clear hx hy
        have hkz : (k : Int) < (a.length : Int) := by omega
        have hkz2 : (k : Int) < (n : Int) := by omega
        by_cases hxy : x = y
        · subst hxy
          have htk2 : Hid (a.take (k + 1) = b.take (k + 1)) := by
            refine Lib.hid ?_
            rw [List.take_succ_eq_append_getElem hlt, List.take_succ_eq_append_getElem hltb, htk.out, HX.out, HY.out]
          go_wp2_with fail
          go_quiet (fail)
          go_wp2
          go_roundw
          case rel =>
            exact ⟨k + 1, by omega, by go_num, htk2, _, rfl⟩
          case measure => simp [intOf]; omega
        · have hR : R = false := by
            rw [← HR.out]
            apply decide_eq_false
            intro e
            apply hxy
            subst e
            rw [← HX.out, ← HY.out]
          subst hR
          have hne : ((x.toNat : Int) != (y.toNat : Int)) = true := by
            rw [bne_iff_ne]
            intro e
            exact hxy (UInt8.toNat_inj.1 (by omega))
          clear hxy
          go_wp2_with fail
          go_quiet (fail)
          go_wp2
          go_ret
          exact ⟨rfl, below_drewN (below_drewN (Below.refl _ _) _) _⟩
      · have hR : R = true := by
          rw [← HR.out]
          apply decide_eq_true
          have := htk.out
          rw [List.take_of_length_le (by omega), List.take_of_length_le (by have := HL.out; have := HB.out; omega)] at this
          exact this
        subst hR
        go_wp2
        go_ret
        exact ⟨rfl, below_drewN (Below.refl _ _) _⟩
  · have hR : decide (a = b) = false := by
      apply decide_eq_false
      intro e
      exact hl (by rw [e])
    rw [hR]
    have hn : ((a.length : Int) != (b.length : Int)) = true := by rw [bne_iff_ne]; omega
    clear hl hR
    go_enter Tryd.func28, Tryd.ntmps28
    go_wp2
    go_ret
    exact ⟨rfl, Below.refl _ _⟩

end Go.Proofs.YtijffkklhgnknaaDoor
/- Words for memory: a world that has new blocks and is else as it was, with nothing frozen anew. No conditions. -/
set_option linter.unusedVariables false
namespace Go.Proofs.YtijffkklhgnknaaDoor
open Go.RowKit

/-- Behind the call there are new blocks; all else is as it was. -/
structure Calm (w w' : World) : Prop where
  below : Below w.heap.size w w'
  thaw : ∀ a, w'.frozen? a = w.frozen? a
theorem Calm.refl (w : World) : Calm w w := ⟨Below.refl _ _, fun _ => rfl⟩
theorem Calm.size {w w' : World} (h : Calm w w') : w.heap.size ≤ w'.heap.size := h.below.size
theorem Calm.trans {a b c : World} (h : Calm a b) (k : Calm b c) : Calm a c := ⟨h.below.trans (k.below.mono h.size), fun x => (k.thaw x).trans (h.thaw x)⟩
theorem Calm.grown {w w' : World} (h : Calm w w') : Grown w w' := ⟨h.below.frame _, h.thaw, h.size⟩
theorem Calm.drew {a w : World} (h : Calm a w) : Calm a w.drew := ⟨h.below.drew, h.thaw⟩
theorem Calm.drewN {a w : World} (h : Calm a w) (k : Nat) : Calm a (w.drewN k) := ⟨below_drewN h.below k, h.thaw⟩
theorem Calm.setCell {a w : World} (h : Calm a w) {p : Addr} (hp : a.heap.size ≤ p.block) (u : Value) : Calm a (w.setCell p u) := ⟨h.below.setCell hp u, fun x => (World.frozen?_setCell _ _ _ _).trans (h.thaw x)⟩
theorem Calm.alloc {a w : World} (h : Calm a w) (c : Array Value) (t : TypeId) : Calm a (w.alloc (.cells c t)) := ⟨h.below.alloc h.size _, fun x => (frozen?_alloc_cells _ _ _ x).trans (h.thaw x)⟩
theorem Calm.of {a w w' : World} (h : Calm a w) (k : Hid (Calm w w')) : Calm a w' := h.trans k.out
theorem Row.calm {w w' : World} {g : Nat} {t : TypeId} {cs : List Value} (h : Row w g t cs) (k : Calm w w') : Row w' g t cs := h.kept k.below
theorem frozen_setRow (w : World) (g : Nat) (cells : Array Value) (t : TypeId) (old : Array Value) (hg : w.heap[g]? = some (.cells old t (0, 0))) (a : Addr) : (w.setRow g cells).frozen? a = w.frozen? a := by
  by_cases h : a.block = g
  · have h1 := setRow_heap w g old cells t (0, 0) hg
    unfold World.frozen?
    rw [h, h1, hg]
  · have h1 := setRow_other w g a.block cells h
    unfold World.frozen?
    rw [h1]

/-- Behind the call there are new blocks, and block g may have been written; all else is as it was. -/
structure Upon (g : Nat) (w w' : World) : Prop where
  by_ : w.grownBy w' (some g)
  thaw : ∀ a, w'.frozen? a = w.frozen? a
theorem Upon.refl (g : Nat) (w : World) : Upon g w w := ⟨⟨rfl, rfl, rfl, Nat.le_refl _, fun _ _ _ => rfl⟩, fun _ => rfl⟩
theorem Upon.size {g : Nat} {w w' : World} (h : Upon g w w') : w.heap.size ≤ w'.heap.size := h.by_.size
theorem Upon.trans {g : Nat} {a b c : World} (h : Upon g a b) (k : Upon g b c) : Upon g a c :=
  ⟨⟨k.by_.os.trans h.by_.os, k.by_.tape.trans h.by_.tape, k.by_.output.trans h.by_.output, Nat.le_trans h.size k.size, fun i hi hne => (k.by_.block i (Nat.lt_of_lt_of_le hi h.size) hne).trans (h.by_.block i hi hne)⟩, fun x => (k.thaw x).trans (h.thaw x)⟩
theorem Calm.upon {w w' : World} (h : Calm w w') (g : Nat) : Upon g w w' := ⟨⟨h.below.os, h.below.tape, h.below.output, h.below.size, fun k hk _ => h.below.block k hk⟩, h.thaw⟩
theorem Upon.calm {g : Nat} {w0 w w' : World} (h : Upon g w w') (h0 : Calm w0 w) (hg : w0.heap.size ≤ g) : Calm w0 w' :=
  ⟨h0.below.grown h.by_ h0.size (fun k hk => by injection hk with hk; omega), fun x => (h.thaw x).trans (h0.thaw x)⟩
theorem Upon.put {g : Nat} {w w' : World} (h : Upon g w w') {p : Addr} (hp : p.block = g) (u : Value) : Upon g w (w'.setCell p u) :=
  h.trans ⟨⟨rfl, rfl, rfl, by simp [World.setCell], fun k _ hne => Below.heap_setCell _ _ _ _ (fun e => hne (by rw [e, hp]))⟩, fun x => World.frozen?_setCell _ _ _ _⟩
theorem Upon.putAt {g off : Nat} {w w' : World} (h : Upon g w w') (u : Value) : Upon g w (w'.setCell ⟨g, off, none⟩ u) := h.put rfl u
theorem Upon.far {g : Nat} {w w' : World} (h : Upon g w w') {p : Addr} (hp : w.heap.size ≤ p.block) (u : Value) : Upon g w (w'.setCell p u) :=
  ⟨⟨h.by_.os, h.by_.tape, h.by_.output, Nat.le_trans h.size (by simp [World.setCell]), fun k hk hne => (Below.heap_setCell _ _ _ _ (by omega)).trans (h.by_.block k hk hne)⟩, fun x => (World.frozen?_setCell _ _ _ _).trans (h.thaw x)⟩
theorem Upon.drew {g : Nat} {w w' : World} (h : Upon g w w') : Upon g w w'.drew := ⟨⟨h.by_.os, h.by_.tape, h.by_.output, h.by_.size, h.by_.block⟩, h.thaw⟩
theorem Upon.drewN {g : Nat} {w w' : World} (h : Upon g w w') (n : Nat) : Upon g w (w'.drewN n) := ⟨⟨h.by_.os, h.by_.tape, h.by_.output, h.by_.size, h.by_.block⟩, h.thaw⟩
theorem Upon.after {g : Nat} {w w1 w2 : World} (h : Upon g w w1) (k : Calm w1 w2) : Upon g w w2 := h.trans (k.upon g)
theorem Upon.stored {g g8 : Nat} {w w1 w2 : World} (h : Upon g w w1) (k : Upon g8 w1 w2) (h8 : w.heap.size ≤ g8) : Upon g w w2 :=
  ⟨⟨k.by_.os.trans h.by_.os, k.by_.tape.trans h.by_.tape, k.by_.output.trans h.by_.output, Nat.le_trans h.size k.size, fun i hi hne => (k.by_.block i (Nat.lt_of_lt_of_le hi h.size) (fun e => by injection e with e; omega)).trans (h.by_.block i hi hne)⟩, fun x => (k.thaw x).trans (h.thaw x)⟩
theorem Row.upon {w w' : World} {g g' : Nat} {t : TypeId} {cs : List Value} (h : Row w g t cs) (k : Upon g' w w') (hne : g ≠ g') : Row w' g t cs := h.grown k.by_ (fun e => hne (by injection e))

section
variable {P : Program} {ops : Array Oper} {rest : List Oper} {o : Oper} {a : Act} {w : World} {Q : Exit → Act → World → Prop}
/-- A variable of a row's type, made. -/
theorem calm_alloc (hgd : o.guard = none) (d : Tmp) (hd : o.dst = some d) (t : TypeId) (ho : o.op = .alloc t) (cs : List Value) (hz : ∀ w : World, (zeroValue t).run P w = .ok (.agg cs.toArray) w)
    (h : ∀ g w', Row w' g t cs → Hid (g = w.heap.size) → Hid (Calm w w') → Hid (w'.heap.size = w.heap.size + 1) → wpList P ops Q rest (a.put o.dst (.pointer (some ⟨g, 0, none⟩))) w') : wpList P ops Q (o :: rest) a w := by
  refine wpList_plain hgd fun K hK => ?_
  unfold Oper.wp execOp
  simp only [ho]
  simp [Instr.alloc, hz, newVar, go_sem]
  exact hK _ _ (h _ _ (Row.made w t cs) (show _ = _ from rfl) ((Calm.refl w).alloc _ _) (show _ = _ by simp))
/-- A row's value, laid into a new variable. -/
theorem calm_box (hgd : o.guard = none) (d : Tmp) (hd : o.dst = some d) (t : TypeId) (x : Operand) (ho : o.op = .box t x) (cs : List Value) (hx : a.eval x = .agg cs.toArray)
    (h : ∀ g w', Row w' g t cs → Hid (g = w.heap.size) → Hid (Calm w w') → Hid (w'.heap.size = w.heap.size + 1) → wpList P ops Q rest (a.put o.dst (.pointer (some ⟨g, 0, none⟩))) w') : wpList P ops Q (o :: rest) a w := by
  refine wpList_plain hgd fun K hK => ?_
  unfold Oper.wp execOp
  simp only [ho, hx]
  simp [Instr.box, newVar, go_sem]
  exact hK _ _ (h _ _ (Row.made w t cs) (show _ = _ from rfl) ((Calm.refl w).alloc _ _) (show _ = _ by simp))
/-- A whole row, stored over one of as many cells that the call made itself. -/
theorem calm_store (hgd : o.guard = none) (ty : TypeId) (x y : Operand) (ho : o.op = .store ty x y) (g : Nat) (hx : a.eval x = .pointer (some ⟨g, 0, none⟩)) (t : TypeId) (old cs : List Value) (hy : a.eval y = .agg cs.toArray)
    (hr : Row w g t old) (hl : old.length = cs.length) (hi : (P.info? ty).map (·.size) = some cs.length) (h1 : ∀ v ∈ cs, v.oneCell' = true)
    (h : ∀ w', Row w' g t cs → Hid (∀ w0, Calm w0 w → w0.heap.size ≤ g → Calm w0 w') → Hid (w'.heap.size = w.heap.size) → Hid (Upon g w w') → wpList P ops Q rest (a.put o.dst undef) w') : wpList P ops Q (o :: rest) a w := by
  refine wpList_store_row hgd ty x y ho g cs.toArray hx hy t old.toArray hr (by simpa using hi) (by simpa using hl) (all_oneCell_toArray h1) ?_
  have hgb : w.grownBy (w.setRow g cs.toArray) (some g) := ⟨rfl, rfl, rfl, by simp, fun k hk hne => setRow_other w g k _ (fun e => hne (by rw [e]))⟩
  exact h _ (setRow_heap w g _ _ t _ hr) (fun w0 h0 hg => ⟨h0.below.grown hgb h0.size (fun k hk => by injection hk with hk; omega), fun x => (frozen_setRow w g _ t _ hr x).trans (h0.thaw x)⟩) (show _ = _ by simp) ⟨hgb, fun x => frozen_setRow w g _ t _ hr x⟩
end
end Go.Proofs.YtijffkklhgnknaaDoor
/- Rows of the call's own, as they stay. Conditions: those named. -/
set_option linter.unusedVariables false
namespace Go.Proofs.YtijffkklhgnknaaDoor
open Go.RowKit

theorem own_kept {w w' : World} {base : Nat} {e : TypeId} {size n : Nat} {v : Value} {xs : List Value} (h : w.ownsRow base e size v n xs) (hb : Below w.heap.size w w') : w'.ownsRow base e size v n xs := by
  refine h.kept (grown_of_below (row := some w.heap.size) hb) ?_
  cases hv : v.ownBlock with
  | none => exact .inl rfl
  | some k =>
    refine .inr (fun e => ?_)
    injection e with e
    have := (h.lt k hv).2
    omega
theorem own_sl {w : World} {base : Nat} {e : TypeId} {size n : Nat} {v : Value} {xs : List Value} (h : w.ownsRow base e size v n xs) : ∃ A c, v = .slice A n c := by
  rcases h.2 with ⟨rfl, rfl⟩ | ⟨g, cap, cur, rfl, _⟩
  · exact ⟨none, 0, rfl⟩
  · exact ⟨_, _, rfl⟩
theorem own_cp {w : World} {base : Nat} {e : TypeId} {g n cap : Nat} {xs : List Value} (h : w.ownsRow base e 1 (.slice (some ⟨g, 0, none⟩) n cap) n xs) : n ≤ cap := by
  rcases h.2 with ⟨h', _⟩ | ⟨g', cap', cur, h', _, _, hnc, _⟩
  · simp at h'
  · simp only [Value.slice.injEq] at h'
    omega
end Go.Proofs.YtijffkklhgnknaaDoor
/- Bytes copied into a row of the call's own, the row told by a function of the place. No conditions but those named. -/
set_option linter.unusedVariables false
namespace Go.Proofs.YtijffkklhgnknaaDoor
open Go.RowKit

/-- Bytes laid over others from a place on. -/
def ov (o : Nat) (l : List UInt8) (f : Nat → UInt8) : Nat → UInt8 := fun j => if o ≤ j ∧ j < o + l.length then l.getD (j - o) 0 else f j
theorem ov_in {o : Nat} {l : List UInt8} {f : Nat → UInt8} {j : Nat} (h : o ≤ j) (h2 : j < o + l.length) : ov o l f j = l.getD (j - o) 0 := if_pos ⟨h, h2⟩
theorem ov_out {o : Nat} {l : List UInt8} {f : Nat → UInt8} {j : Nat} (h : ¬ (o ≤ j ∧ j < o + l.length)) : ov o l f j = f j := if_neg h
theorem ov_brr (n o : Nat) (l : List UInt8) (f : Nat → UInt8) (h : o + l.length ≤ n) : (brr n f).take o ++ (bc l ++ (brr n f).drop (o + l.length)) = brr n (ov o l f) := by
  apply List.ext_getElem?
  intro j
  by_cases h1 : j < o
  · rw [List.getElem?_append_left (by rw [List.length_take, brr_len]; omega), List.getElem?_take, if_pos h1, brr_get f (by omega), brr_get _ (by omega), ov_out (by omega)]
  · rw [List.getElem?_append_right (by rw [List.length_take, brr_len]; omega), List.length_take, brr_len]
    rw [show j - min o n = j - o by omega]
    by_cases h2 : j < o + l.length
    · rw [List.getElem?_append_left (by rw [bc_len]; omega), get_bc (List.getElem?_eq_getElem (by omega)), brr_get _ (by omega), ov_in (by omega) h2, List.getD_eq_getElem?_getD, List.getElem?_eq_getElem (by omega)]
      rfl
    · rw [List.getElem?_append_right (by rw [bc_len]; omega), bc_len, List.getElem?_drop]
      rw [show o + l.length + (j - o - l.length) = j by omega]
      by_cases h3 : j < n
      · rw [brr_get f h3, brr_get _ h3, ov_out (by omega)]
      · rw [brr_none f (by omega), brr_none _ (by omega)]

section
variable {P : Program} {w : World}
theorem run_copy_brr (dT sT ty e : TypeId) (hu : P.underlying dT = some (.slice e)) (hs : (P.info? e).map (·.size) = some 1) (g o n dLen dCap : Nat) (t : TypeId) (f : Nat → UInt8) (hr : _root_.Go.Proofs.YtijffkklhgnknaaDoor.Row w g t (brr n f))
    (A : Option Addr) (m c : Nat) (l : List UInt8) (hm : m = l.length) (hA : Hol w A l) (hfit : o + Nat.min m dLen ≤ n) :
    ∃ w' k, (Builtin.copy_ #[dT, sT] ty #[.slice (some ⟨g, o, none⟩) dLen dCap, .slice A m c]).run P w = .ok (goInt k) w' ∧ _root_.Go.Proofs.YtijffkklhgnknaaDoor.Row w' g t (brr n (ov o (l.take dLen) f)) ∧ Upon g w w' := by
  subst hm
  by_cases h0 : Nat.min l.length dLen = 0
  · refine ⟨w, _, run_copy_none (P := P) w dT sT ty e (some ⟨g, o, none⟩) A dLen dCap l.length c hu hs h0, ?_, Upon.refl _ _⟩
    have : l.take dLen = [] := by
      apply List.eq_nil_of_length_eq_zero
      rw [List.length_take]
      have : min dLen l.length = Nat.min l.length dLen := Nat.min_comm _ _
      omega
    rw [this]
    have e1 : ov o [] f = f := by funext j; exact ov_out (by simp)
    rw [e1]
    exact hr
  · have hlen : (l.take dLen).length = Nat.min l.length dLen := by rw [List.length_take]; exact Nat.min_comm _ _
    obtain ⟨ga, off, rfl, hga, hc⟩ := hA.some_ (by have : Nat.min l.length dLen ≤ l.length := Nat.min_le_left _ _; omega)
    have hsrc : ∀ j v, (bc (l.take dLen))[j]? = some v → w.cell? ((⟨ga, off, none⟩ : Addr).add j) = some v := fun j v hv => by
      obtain ⟨x, hx, rfl⟩ := bc_get hv
      rw [show (⟨ga, off, none⟩ : Addr).add j = ⟨ga, off + j, none⟩ by unfold Addr.add; split <;> simp_all]
      refine hc j x ?_
      rw [List.getElem?_take] at hx
      split at hx
      · exact hx
      · cases hx
    have hrun := run_copy_row (P := P) w dT sT ty e g o dLen dCap ⟨ga, off, none⟩ l.length c (brr n f).toArray t (bc (l.take dLen)) hu hs hr (by rw [bc_len, hlen]) hsrc (by rw [bc_len, hlen]; simpa [brr_len] using hfit) (bc_one _)
    rw [bc_len, List.append_assoc] at hrun
    have e1 : (brr n f).toArray.toList = brr n f := rfl
    rw [e1, ov_brr n o (l.take dLen) f (by rw [hlen]; exact hfit)] at hrun
    refine ⟨_, _, hrun, setRow_heap w g _ _ t _ hr, ⟨⟨rfl, rfl, rfl, by simp, fun k hk hne => setRow_other w g k _ (fun e => hne (by rw [e]))⟩, fun x => frozen_setRow w g _ t _ hr x⟩⟩
/-- The same, for the walk. -/
theorem wp_copy {ops : Array Oper} {rest : List Oper} {op : Oper} {a : Act} {Q : Exit → Act → World → Prop} (hgd : op.guard = none) (d s : Operand) (dT sT : TypeId) (ho : op.op = .call { callee := .builtin .copy, args := #[d, s], argTypes := #[dT, sT] })
    (e : TypeId) (hu : P.underlying dT = some (.slice e)) (hs : (P.info? e).map (·.size) = some 1) (g o n dLen dCap : Nat) (t : TypeId) (f : Nat → UInt8) (hd : a.eval d = .slice (some ⟨g, o, none⟩) dLen dCap) (hr : _root_.Go.Proofs.YtijffkklhgnknaaDoor.Row w g t (brr n f))
    (A : Option Addr) (m c : Nat) (l : List UInt8) (hx : a.eval s = .slice A m c) (hm : m = l.length) (hA : Hol w A l) (hfit : o + Nat.min m dLen ≤ n)
    (h : ∀ w' k, _root_.Go.Proofs.YtijffkklhgnknaaDoor.Row w' g t (brr n (ov o (l.take dLen) f)) → Hid (Upon g w w') → wpList P ops Q rest (a.put op.dst (goInt k)) w') :
    wpList P ops Q (op :: rest) a w := by
  refine wpList_plain hgd fun K hK => ?_
  obtain ⟨w', k, hr1, h2, h3⟩ := run_copy_brr (P := P) dT sT op.type e hu hs g o n dLen dCap t f hr A m c l hm hA hfit
  unfold Oper.wp execOp
  simp only [ho, resolve, invoke, builtin, Sem.run_bind, Sem.run_pure, Result.andThen_ok, List.map_toArray, List.map_cons, List.map_nil, hd, hx, hr1]
  exact hK _ _ (h w' k h2 h3)
/-- The same, at a step of a region that draws. -/
theorem step_copy {ops : Array Oper} {op : Oper} {a : Act} {Q : Exit → Act → World → Prop} {K : Act → World → Prop} {E : Prop} (hgd : op.guard = none) (d s : Operand) (dT sT : TypeId) (ho : op.op = .call { callee := .builtin .copy, args := #[d, s], argTypes := #[dT, sT] })
    (e : TypeId) (hu : P.underlying dT = some (.slice e)) (hs : (P.info? e).map (·.size) = some 1) (g o n dLen dCap : Nat) (t : TypeId) (f : Nat → UInt8) (hd : a.eval d = .slice (some ⟨g, o, none⟩) dLen dCap) (hr : _root_.Go.Proofs.YtijffkklhgnknaaDoor.Row w g t (brr n f))
    (A : Option Addr) (m c : Nat) (l : List UInt8) (hx : a.eval s = .slice A m c) (hm : m = l.length) (hA : Hol w A l) (hfit : o + Nat.min m dLen ≤ n)
    (h : ∀ w' k, _root_.Go.Proofs.YtijffkklhgnknaaDoor.Row w' g t (brr n (ov o (l.take dLen) f)) → Hid (Upon g w w') → K (a.put op.dst (goInt k)) w') :
    if Region.wanted op (yielded ops a.tmps) = true then Oper.wp P op a w K Q else E := by
  have hw : Region.wanted op (yielded ops a.tmps) = true := by simp [Region.wanted, hgd]
  rw [if_pos hw]
  obtain ⟨w', k, hr1, h2, h3⟩ := run_copy_brr (P := P) dT sT op.type e hu hs g o n dLen dCap t f hr A m c l hm hA hfit
  unfold Oper.wp execOp
  simp only [ho, resolve, invoke, builtin, Sem.run_bind, Sem.run_pure, Result.andThen_ok, List.map_toArray, List.map_cons, List.map_nil, hd, hx, hr1]
  exact h w' k h2 h3
end
/-- A row told by a function of the place, as a list. -/
def lst (n : Nat) (f : Nat → UInt8) : List UInt8 := (List.range n).map f
theorem lst_len (n : Nat) (f : Nat → UInt8) : (lst n f).length = n := by simp [lst]
theorem lst_bc (n : Nat) (f : Nat → UInt8) : brr n f = bc (lst n f) := by
  simp [brr, bc, lst, bv]
theorem lst_get {n j : Nat} (f : Nat → UInt8) (h : j < n) : (lst n f)[j]? = some (f j) := by simp [lst, h]
theorem lst_getD {n j : Nat} (f : Nat → UInt8) (h : j < n) : (lst n f).getD j 0 = f j := by rw [List.getD_eq_getElem?_getD, lst_get f h]; rfl
theorem Row.hol {w : World} {g n : Nat} {t : TypeId} {f : Nat → UInt8} (h : Row w g t (brr n f)) : Hol w (some ⟨g, 0, none⟩) (lst n f) := by
  rw [lst_bc] at h
  refine .inr ⟨g, 0, rfl, fun j x hx => ?_⟩
  rw [Nat.zero_add, h.cell]
  exact get_bc hx
end Go.Proofs.YtijffkklhgnknaaDoor
/- Words for memory: a thing of several blocks that may be written, all else as it was; rows of records; rows of bytes of the call's own. No conditions. -/
set_option linter.unusedVariables false
namespace Go.Proofs.YtijffkklhgnknaaDoor
open Go.RowKit

theorem below_nxt {w u v : World} (hb : Below u.heap.size u v) (ha : Below w.heap.size w u) : Below w.heap.size w v := ha.trans (hb.mono ha.size)
theorem below_drw (w : World) : Below w.heap.size w w.drew := (Below.refl _ _).drew
/-- Behind the call there are new blocks, and the blocks of F may have been written; all else is as it was. -/
structure Chg (F : List Nat) (w w' : World) : Prop where
  os : w'.os = w.os
  tape : w'.tape = w.tape
  output : w'.output = w.output
  size : w.heap.size ≤ w'.heap.size
  block : ∀ j, j < w.heap.size → j ∉ F → w'.heap[j]? = w.heap[j]?
theorem Chg.refl (F : List Nat) (w : World) : Chg F w w := ⟨rfl, rfl, rfl, Nat.le_refl _, fun _ _ _ => rfl⟩
theorem Chg.of {F : List Nat} {w w' : World} (h : Below w.heap.size w w') : Chg F w w' := ⟨h.os, h.tape, h.output, h.size, fun j hj _ => h.block j hj⟩
theorem Chg.wider {F G : List Nat} {w w' : World} (h : Chg F w w') (hs : ∀ x ∈ F, x ∈ G ∨ w.heap.size ≤ x) : Chg G w w' :=
  ⟨h.os, h.tape, h.output, h.size, fun j hj hn => h.block j hj (fun hf => by rcases hs j hf with h | h; exact hn h; omega)⟩
theorem Chg.trans {F G : List Nat} {a b c : World} (h : Chg F a b) (k : Chg G b c) (hs : ∀ x ∈ G, x ∈ F ∨ a.heap.size ≤ x) : Chg F a c :=
  ⟨k.os.trans h.os, k.tape.trans h.tape, k.output.trans h.output, Nat.le_trans h.size k.size, fun j hj hn => (k.block j (Nat.lt_of_lt_of_le hj h.size) (fun hg => by rcases hs j hg with h | h; exact hn h; omega)).trans (h.block j hj hn)⟩
theorem Chg.grown {F : List Nat} {w w1 w2 : World} {row : Option Nat} (h : Chg F w w1) (hg : w1.grownBy w2 row) (hr : ∀ k, row = some k → k ∈ F ∨ w.heap.size ≤ k) : Chg F w w2 :=
  ⟨hg.os.trans h.os, hg.tape.trans h.tape, hg.output.trans h.output, Nat.le_trans h.size hg.size, fun j hj hn => (hg.block j (Nat.lt_of_lt_of_le hj h.size) (fun e => by rcases hr j e.symm with h | h; exact hn h; omega)).trans (h.block j hj hn)⟩
theorem Chg.setCell {F : List Nat} {w w1 : World} (h : Chg F w w1) {p : Addr} (hp : p.block ∈ F ∨ w.heap.size ≤ p.block) (u : Value) : Chg F w (w1.setCell p u) :=
  h.grown (grown_set w1 p u) (fun k hk => by injection hk with hk; rw [← hk]; exact hp)
theorem Chg.drew {F : List Nat} {w w1 : World} (h : Chg F w w1) : Chg F w w1.drew := ⟨h.os, h.tape, h.output, h.size, h.block⟩
theorem Chg.alloc {F : List Nat} {w w1 : World} (h : Chg F w w1) (o : Obj) : Chg F w (w1.alloc o) := h.grown (World.grownBy_alloc w1 o none) (fun k hk => by cases hk)
theorem Chg.below {F : List Nat} {w w' : World} {b : Nat} (h : Chg F w w') (hb : b ≤ w.heap.size) (hF : ∀ x ∈ F, b ≤ x) : Below b w w' :=
  ⟨h.os, h.tape, h.output, h.size, fun j hj => h.block j (by omega) (fun hf => by have := hF j hf; omega)⟩
theorem Chg.cell {F : List Nat} {w w' : World} (h : Chg F w w') {g o : Nat} {v : Value} (hc : w.cell? ⟨g, o, none⟩ = some v) (hn : g ∉ F) : w'.cell? ⟨g, o, none⟩ = some v :=
  (World.cell?_of_block (h.block g (World.block_lt_of_cell? w _ hc) hn)).trans hc
theorem Chg.own {F : List Nat} {w w' : World} {b size n : Nat} {e : TypeId} {v : Value} {xs : List Value} (h : w.ownsRow b e size v n xs) (hc : Chg F w w') (hn : ∀ k, v.ownBlock = some k → k ∉ F) : w'.ownsRow b e size v n xs := by
  refine ⟨h.1, ?_⟩
  rcases h.2 with h0 | ⟨g, cap, cur, rfl, hb, hg, rest⟩
  · exact .inl h0
  · exact .inr ⟨g, cap, cur, rfl, hb, (hc.block g (Array.getElem?_eq_some_iff.1 hg).1 (hn g rfl)).trans hg, rest⟩
theorem Chg.row {F : List Nat} {w w' : World} {g : Nat} {t : TypeId} {cs : List Value} (h : Row w g t cs) (hc : Chg F w w') (hn : g ∉ F) : Row w' g t cs := (hc.block g h.lt hn).trans h
theorem Chg.hol {F : List Nat} {w w' : World} {A : Option Addr} {l : List UInt8} (h : Hol w A l) (hc : Chg F w w') (hn : ∀ g o, A = some ⟨g, o, none⟩ → l ≠ [] → g ∉ F) : Hol w' A l := by
  rcases h with rfl | ⟨g, o, rfl, hcell⟩
  · exact .inl rfl
  · by_cases hl : l = []
    · exact .inl hl
    · exact .inr ⟨g, o, rfl, fun j x hx => hc.cell (hcell j x hx) (hn g o rfl hl)⟩

/-! Records, so many cells each. -/
section
variable {α : Type} {f : α → List Value} {k : Nat}
theorem flat_len (hf : ∀ x, (f x).length = k) : ∀ xs : List α, (xs.flatMap f).length = xs.length * k
  | [] => by simp
  | x :: t => by
    rw [List.flatMap_cons, List.length_append, hf, flat_len hf t, List.length_cons, Nat.add_mul]
    omega
theorem flat_snoc (xs : List α) (x : α) : (xs ++ [x]).flatMap f = xs.flatMap f ++ f x := by simp
theorem flat_get (hf : ∀ x, (f x).length = k) : ∀ {xs : List α} {j : Nat} {x : α}, xs[j]? = some x → ∀ i, i < k → (xs.flatMap f)[j * k + i]? = (f x)[i]?
  | [], j, x, h, _, _ => by simp at h
  | a :: t, 0, x, h, i, hi => by
    simp at h
    subst h
    rw [List.flatMap_cons, Nat.zero_mul, Nat.zero_add, List.getElem?_append_left (by rw [hf]; exact hi)]
  | a :: t, j + 1, x, h, i, hi => by
    have h' : t[j]? = some x := by simpa using h
    rw [List.flatMap_cons, List.getElem?_append_right (by rw [hf, Nat.add_mul]; omega), hf, show (j + 1) * k + i - k = j * k + i by rw [Nat.add_mul]; omega]
    exact flat_get hf h' i hi
end
/-- A record's cells in a row of the call's own. -/
theorem own_rec {α : Type} {f : α → List Value} {k : Nat} (hf : ∀ x, (f x).length = k) {w : World} {b n : Nat} {e : TypeId} {v : Value} {xs : List α} (h : w.ownsRow b e k v n (xs.flatMap f)) {j : Nat} {x : α} (hj : xs[j]? = some x) (hk : 0 < k) :
    ∃ g c, v = .slice (some ⟨g, 0, none⟩) n c ∧ g < w.heap.size ∧ b ≤ g ∧ ∀ i u, (f x)[i]? = some u → w.cell? ⟨g, j * k + i, none⟩ = some u := by
  have hlt := (List.getElem?_eq_some_iff.1 hj).1
  have hl := h.1
  rw [flat_len hf] at hl
  rcases h.2 with ⟨_, h0⟩ | ⟨g, cap, cur, rfl, hb, hg, _⟩
  · rw [h0, Nat.zero_mul] at hl
    have := Nat.mul_pos (Nat.lt_of_le_of_lt (Nat.zero_le _) hlt) hk
    omega
  · refine ⟨g, cap, rfl, (Array.getElem?_eq_some_iff.1 hg).1, hb, fun i u hu => ?_⟩
    have hi : i < k := by rw [← hf x]; exact (List.getElem?_eq_some_iff.1 hu).1
    have := h.cells (g := g) rfl (j * k + i) u (by rw [flat_get hf hj i hi]; exact hu)
    rw [Addr.add_lit, Nat.zero_add] at this
    exact this

/-- Bytes, as a slice says them. -/
structure BV where
  A : Option Addr
  c : Nat
  l : List UInt8
def bvv (b : BV) : Value := .slice b.A b.l.length b.c
def noBV : BV := ⟨none, 0, []⟩
/-- They lie in a row of bytes of the call's own, from block b on. -/
def Own8 (b : Nat) (w : World) (x : BV) : Prop := w.ownsRow b 5 1 (bvv x) x.l.length (bc x.l)
theorem Own8.none_ (b : Nat) (w : World) : Own8 b w noBV := World.ownsRow_nil _ _ _ _
theorem Own8.hol {b : Nat} {w : World} {x : BV} (h : Own8 b w x) : Hol w x.A x.l := Hol.own h
theorem Own8.cap {b : Nat} {w : World} {x : BV} (h : Own8 b w x) : x.l.length ≤ x.c := by
  rcases h.2 with ⟨e0, h0⟩ | ⟨g, cap', cur, e0, _, _, hc, _⟩
  · omega
  · simp only [bvv, Value.slice.injEq] at e0
    omega
theorem Own8.below {b : Nat} {w w' : World} {x : BV} (h : Own8 b w x) (hb : Below w.heap.size w w') : Own8 b w' x := own_kept h hb
theorem Own8.lower {b b' : Nat} {w : World} {x : BV} (h : Own8 b w x) (hb : b' ≤ b) : Own8 b' w x := by
  refine ⟨h.1, ?_⟩
  rcases h.2 with h0 | ⟨g, cap, cur, h1, h2, h3⟩
  · exact .inl h0
  · exact .inr ⟨g, cap, cur, h1, Nat.le_trans hb h2, h3⟩
/-- The blocks of F hold no bytes. -/
def NoBytes (w : World) (F : List Nat) : Prop := ∀ x ∈ F, ∀ cs fr, w.heap[x]? ≠ some (.cells cs 5 fr)
theorem Own8.chg {b : Nat} {F : List Nat} {w w' : World} {x : BV} (h : Own8 b w x) (hc : Chg F w w') (hF : NoBytes w F) : Own8 b w' x := by
  refine Chg.own h hc fun k hk hf => ?_
  rcases h.2 with ⟨e0, _⟩ | ⟨g, cap, cur, e0, _, hg, _⟩
  · rw [e0] at hk
    cases hk
  · rw [e0] at hk
    injection hk with hk
    subst hk
    exact hF _ hf _ _ hg
end Go.Proofs.YtijffkklhgnknaaDoor
/- Words for memory: rows of records of the call's own, as they grow; lists of bytes, of changes, of steps, as they lie. No conditions but those named. -/
set_option linter.unusedVariables false
namespace Go.Proofs.YtijffkklhgnknaaDoor
open Go.RowKit

/-- What the table says of a record's type, and of slices of it. -/
structure Rec (P : Program) (t e : TypeId) (k : Nat) : Prop where
  ht : P.underlying t = some (.slice e)
  inf : ∃ i z, P.info? e = some i ∧ i.zero = some z ∧ i.size = k ∧ i.bytes ≤ 64 ∧ z.cells.size = k
  pos : 0 < k
theorem rec_of {P : Program} {t e : TypeId} {k n : Nat} {z : Value} (ht : P.underlying t = some (.slice e)) (h : (P.info? e).map (fun i => (i.zero, i.size, i.bytes)) = some (some z, k, n)) (hn : n ≤ 64) (hz : z.cells.size = k) (hk : 0 < k) : Rec P t e k := by
  obtain ⟨i, h1, h2, h3, h4⟩ := info_parts h
  exact ⟨ht, ⟨i, z, h1, h2, h3, by omega, hz⟩, hk⟩
theorem rec_sl : Rec Tryd.prog 25 33 1 := rec_of (z := .slice none 0 0) (n := 24) Tryd.underlying25 (by kernel_rfl) (by decide) rfl (by decide)
theorem own_parted {w : World} {b b' : Nat} {e e' : TypeId} {s s' n n' : Nat} {v v' : Value} {xs xs' : List Value} (h : w.ownsRow b e s v n xs) (h' : w.ownsRow b' e' s' v' n' xs') (hne : e ≠ e') : v.ownBlock = none ∨ v.ownBlock ≠ v'.ownBlock := by
  rcases h.2 with ⟨rfl, _⟩ | ⟨g, cap, cur, rfl, _, hg, _⟩
  · exact .inl rfl
  · refine .inr fun he => ?_
    rcases h'.2 with ⟨rfl, _⟩ | ⟨g', cap', cur', rfl, _, hg', _⟩
    · simp [Value.ownBlock] at he
    · simp [Value.ownBlock] at he
      subst he
      rw [hg] at hg'
      injection hg' with hg'
      injection hg' with _ ht
      exact hne ht
theorem row_parted {w : World} {b g : Nat} {t e : TypeId} {s n : Nat} {v : Value} {cs xs : List Value} (h : Row w g t cs) (h' : w.ownsRow b e s v n xs) (hne : t ≠ e) : v.ownBlock ≠ some g := by
  intro he
  rcases h'.2 with ⟨rfl, _⟩ | ⟨g', cap', cur', rfl, _, hg', _⟩
  · simp [Value.ownBlock] at he
  · simp [Value.ownBlock] at he
    subst he
    have h1 := h.heap
    rw [h1] at hg'
    injection hg' with hg'
    injection hg' with _ ht
    exact hne ht
theorem own_lower {w : World} {b b' : Nat} {e : TypeId} {size n : Nat} {v : Value} {xs : List Value} (h : w.ownsRow b e size v n xs) (hb : b' ≤ b) : w.ownsRow b' e size v n xs := by
  refine ⟨h.1, ?_⟩
  rcases h.2 with h0 | ⟨g, cap, cur, h1, h2, h3⟩
  · exact .inl h0
  · exact .inr ⟨g, cap, cur, h1, Nat.le_trans hb h2, h3⟩

section
variable {P : Program} {w : World} {t e : TypeId} {k : Nat}
/-- A row of the call's own, appended to another one. -/
theorem run_join (R : Rec P t e k) (ty : TypeId) (base : Nat) (v : Value) (n : Nat) (xs : List Value) (hown : w.ownsRow base e k v n xs)
    (A : Option Addr) (m c : Nat) (ys : List Value) (hys : ys.length = m * k) (hA : m = 0 ∧ A = none ∨ ∃ ad, A = some ad ∧ ∀ j u, ys[j]? = some u → w.cell? (ad.add j) = some u) (h1 : ∀ u ∈ ys, u.oneCell' = true) (hb : n + m ≤ 1000001) (hbase : base ≤ w.heap.size) :
    ∃ v' w', (Builtin.append_ #[t, t] ty #[v, .slice A m c]).run P w = .ok v' w' ∧ w'.ownsRow base e k v' (n + m) (xs ++ ys) ∧ w.grownBy w' v.ownBlock ∧ (v'.ownBlock = v.ownBlock ∨ v'.ownBlock = some w.heap.size) := by
  obtain ⟨i, z, hi, hz, hs, hby, hzs⟩ := R.inf
  rcases hA with ⟨rfl, rfl⟩ | ⟨ad, rfl, hc⟩
  · have hy : ys = [] := List.eq_nil_of_length_eq_zero (by rw [hys, Nat.zero_mul])
    subst hy
    refine ⟨v, w, ?_, by simpa using hown, ⟨rfl, rfl, rfl, Nat.le_refl _, fun _ _ _ => rfl⟩, .inl rfl⟩
    rcases hown.2 with ⟨rfl, rfl⟩ | ⟨g, cap, cur, rfl, _, _, hnc, _⟩
    · simp [Builtin.append_, run_underlying R.ht, sizeOf, typeInfo, hi, Builtin.lenOf, Builtin.firstCells]
    · simp [Builtin.append_, run_underlying R.ht, sizeOf, typeInfo, hi, Builtin.lenOf, Builtin.firstCells, hnc, storeCells]
  · obtain ⟨v', w', hr, h2, h3, _, h5⟩ := run_append_own_at (P := P) w base t ty e i z k i.bytes R.ht hi hz hs rfl hzs R.pos v n xs hown ad m c ys hys hc h1
      (by unfold maxLen; omega) (Nat.le_trans (Nat.mul_le_mul hb hby) (by omega)) hbase
    exact ⟨v', w', hr, h2, h3, h5⟩
/-- The same, for the walk. -/
theorem wp_join {ops : Array Oper} {rest : List Oper} {o : Oper} {a : Act} {Q : Exit → Act → World → Prop} (hgd : o.guard = none) (s x : Operand)
    (ho : o.op = .call { callee := .builtin .append, args := #[s, x], argTypes := #[t, t] }) (R : Rec P t e k) (base : Nat) (v : Value) (n : Nat) (xs : List Value) (hs : a.eval s = v) (hown : w.ownsRow base e k v n xs)
    (A : Option Addr) (m c : Nat) (ys : List Value) (hx : a.eval x = .slice A m c) (hys : ys.length = m * k) (hA : m = 0 ∧ A = none ∨ ∃ ad, A = some ad ∧ ∀ j u, ys[j]? = some u → w.cell? (ad.add j) = some u) (h1 : ∀ u ∈ ys, u.oneCell' = true) (hb : n + m ≤ 1000001) (hbase : base ≤ w.heap.size)
    (h : ∀ v' w', w'.ownsRow base e k v' (n + m) (xs ++ ys) → w.grownBy w' v.ownBlock → (v'.ownBlock = v.ownBlock ∨ v'.ownBlock = some w.heap.size) → wpList P ops Q rest (a.put o.dst v') w') :
    wpList P ops Q (o :: rest) a w := by
  refine wpList_plain hgd fun K hK => ?_
  obtain ⟨v', w', hr, h2, h3, h4⟩ := run_join (P := P) R o.type base v n xs hown A m c ys hys hA h1 hb hbase
  unfold Oper.wp execOp
  simp only [ho, resolve, invoke, builtin, Sem.run_bind, Sem.run_pure, Result.andThen_ok, List.map_toArray, List.map_cons, List.map_nil, hs, hx, hr]
  exact hK _ _ (h v' w' h2 h3 h4)
end
/-- An own row as the source of an append. -/
theorem own_src {w : World} {b k n : Nat} {e : TypeId} {A : Option Addr} {c : Nat} {xs : List Value} (h : w.ownsRow b e k (.slice A n c) n xs) : n = 0 ∧ A = none ∨ ∃ ad, A = some ad ∧ ∀ j u, xs[j]? = some u → w.cell? (ad.add j) = some u := by
  rcases h.2 with ⟨e0, h0⟩ | ⟨g, cap, cur, e0, _⟩
  · simp only [Value.slice.injEq] at e0
    exact .inl ⟨h0, e0.1⟩
  · simp only [Value.slice.injEq] at e0
    obtain ⟨rfl, _, _⟩ := e0
    exact .inr ⟨_, rfl, fun j u hu => h.cells (g := g) rfl j u hu⟩
theorem flat_one {α : Type} {f : α → List Value} (hf : ∀ x, ∀ u ∈ f x, u.oneCell' = true) (xs : List α) : ∀ u ∈ xs.flatMap f, u.oneCell' = true := by
  intro u hu
  obtain ⟨x, _, hx⟩ := List.mem_flatMap.1 hu
  exact hf x u hx
theorem void_own (w : World) (e : TypeId) (k b : Nat) (hb : b ≤ w.heap.size) : (w.alloc (.cells #[] e)).ownsRow b e k (.slice (some ⟨w.heap.size, 0, none⟩) 0 0) 0 [] :=
  ⟨by simp, .inr ⟨w.heap.size, 0, #[], rfl, hb, heap_alloc_new w _, Nat.le_refl _, by decide, by simp, by simp⟩⟩
theorem made_src (w : World) (cs : List Value) (e : TypeId) {m : Nat} : m = 0 ∧ (some (⟨w.heap.size, 0, none⟩ : Addr)) = none ∨ ∃ ad, some (⟨w.heap.size, 0, none⟩ : Addr) = some ad ∧ ∀ j u, cs[j]? = some u → (w.alloc (.cells cs.toArray e)).cell? (ad.add j) = some u :=
  .inr ⟨_, rfl, fun j u hu => by rw [Addr.add_lit, Nat.zero_add, (Row.made w e cs).cell]; exact hu⟩
theorem made_own (w : World) (e : TypeId) (k b n : Nat) (cs : List Value) (hl : cs.length = n * k) (hb : b ≤ w.heap.size) (hn : n ≤ maxLen) : (w.alloc (.cells cs.toArray e)).ownsRow b e k (.slice (some ⟨w.heap.size, 0, none⟩) n n) n cs :=
  ⟨hl, .inr ⟨w.heap.size, n, _, rfl, hb, heap_alloc_new w _, Nat.le_refl _, hn, by simp [hl], List.take_of_length_le (by rw [hl]; exact Nat.le_refl _)⟩⟩

/-- A slice's cell. -/
def sc (b : BV) : List Value := [bvv b]
theorem sc_len (b : BV) : (sc b).length = 1 := rfl
/-- A change's two cells. -/
def pcs (p : Int × BV) : List Value := [.int .i64 p.1, bvv p.2]
theorem pcs_len (p : Int × BV) : (pcs p).length = 2 := rfl
def bcs (b : Bool) : List Value := [.bool b]
theorem bcs_len (b : Bool) : (bcs b).length = 1 := rfl
theorem sc_one (b : BV) : ∀ u ∈ sc b, u.oneCell' = true := by intro u hu; simp [sc, bvv] at hu; subst hu; rfl
theorem pcs_one (p : Int × BV) : ∀ u ∈ pcs p, u.oneCell' = true := by intro u hu; simp [pcs, bvv] at hu; rcases hu with rfl | rfl <;> rfl
theorem bcs_one (b : Bool) : ∀ u ∈ bcs b, u.oneCell' = true := by intro u hu; simp [bcs] at hu; subst hu; rfl

/-- The records xs lie where the address says (wherever that is, if there are none). -/
def Lies {α : Type} (f : α → List Value) (k : Nat) (w : World) (A : Option Addr) (xs : List α) : Prop :=
  xs = [] ∨ ∃ g o, A = some ⟨g, o, none⟩ ∧ ∀ j x, xs[j]? = some x → ∀ i u, (f x)[i]? = some u → w.cell? ⟨g, o + j * k + i, none⟩ = some u
section
variable {α : Type} {f : α → List Value} {k : Nat} {w w' : World} {A : Option Addr} {xs : List α}
theorem Lies.at_ (h : Lies f k w A xs) {j : Nat} (hj : j < xs.length) : ∃ g o, A = some ⟨g, o, none⟩ ∧ ∀ i u, (f (xs[j]'hj))[i]? = some u → w.cell? ⟨g, o + j * k + i, none⟩ = some u := by
  rcases h with rfl | ⟨g, o, rfl, hc⟩
  · simp at hj
  · exact ⟨g, o, rfl, hc j _ (List.getElem?_eq_getElem hj)⟩
theorem Lies.below (h : Lies f k w A xs) (hb : Below w.heap.size w w') : Lies f k w' A xs := by
  rcases h with rfl | ⟨g, o, rfl, hc⟩
  · exact .inl rfl
  · exact .inr ⟨g, o, rfl, fun j x hx i u hu => (hb.cell (p := ⟨g, o + j * k + i, none⟩) (World.block_lt_of_cell? w _ (hc j x hx i u hu))).trans (hc j x hx i u hu)⟩
theorem Lies.chg {F : List Nat} (h : Lies f k w A xs) (hc : Chg F w w') (hn : ∀ g o, A = some ⟨g, o, none⟩ → g ∉ F) : Lies f k w' A xs := by
  rcases h with rfl | ⟨g, o, rfl, h⟩
  · exact .inl rfl
  · exact .inr ⟨g, o, rfl, fun j x hx i u hu => hc.cell (h j x hx i u hu) (hn g o rfl)⟩
theorem Lies.own {b n c : Nat} {e : TypeId} (hk : k ≠ 0) (hf : ∀ x, (f x).length = k) (h : w.ownsRow b e k (.slice A n c) n (xs.flatMap f)) : Lies f k w A xs := by
  by_cases hl : xs = []
  · exact .inl hl
  · rcases h.2 with ⟨h1, h2⟩ | ⟨g, cap, cur, h1, hb, hg, hn, hc, hs, ht⟩
    · subst h2
      have := h.1
      rw [flat_len hf, Nat.zero_mul] at this
      rcases Nat.mul_eq_zero.1 this with h0 | h0
      · exact absurd (List.eq_nil_of_length_eq_zero h0) hl
      · exact absurd h0 hk
    · simp only [Value.slice.injEq] at h1
      obtain ⟨rfl, _, rfl⟩ := h1
      refine .inr ⟨g, 0, rfl, fun j x hx i u hu => ?_⟩
      have hi : i < k := by rw [← hf x]; exact (List.getElem?_eq_some_iff.1 hu).1
      have := h.cells (g := g) rfl (j * k + i) u (by rw [flat_get hf hx i hi]; exact hu)
      rwa [Addr.add_lit, ← Nat.add_assoc] at this
end
end Go.Proofs.YtijffkklhgnknaaDoor
/- Steps of a walk: a new variable of one cell; a map cleared. No conditions but those named. -/
set_option linter.unusedVariables false
namespace Go.Proofs.YtijffkklhgnknaaDoor
open Go.RowKit

section
variable {P : Program} {ops : Array Oper} {rest : List Oper} {o : Oper} {a : Act} {w : World} {Q : Exit → Act → World → Prop}
/-- A variable of one cell, made. -/
theorem step_new (hgd : o.guard = none) (t : TypeId) (ho : o.op = .alloc t) (z : Value) (hz : ∀ w : World, (zeroValue t).run P w = .ok z w) (hc : z.cells = #[z])
    (h : ∀ g w', Row w' g t [z] → Hid (g = w.heap.size) → Below w.heap.size w w' → wpList P ops Q rest (a.put o.dst (.pointer (some ⟨g, 0, none⟩))) w') : wpList P ops Q (o :: rest) a w := by
  refine wpList_plain hgd fun K hK => ?_
  unfold Oper.wp execOp
  simp only [ho]
  simp [Instr.alloc, hz, newVar, go_sem]
  exact hK _ _ (h _ _ (cast (congrArg (fun c : Array Value => Row (w.alloc (.cells c t)) w.heap.size t [z]) hc.symm) (Row.made w t [z])) (show _ = _ from rfl) ((Below.refl _ _).alloc (Nat.le_refl _) _))
/-- A value of one cell, laid into a new variable. -/
theorem step_box1 (hgd : o.guard = none) (t : TypeId) (x : Operand) (ho : o.op = .box t x) (z : Value) (hx : a.eval x = z) (hc : z.cells = #[z])
    (h : ∀ g w', Row w' g t [z] → Hid (g = w.heap.size) → Below w.heap.size w w' → wpList P ops Q rest (a.put o.dst (.pointer (some ⟨g, 0, none⟩))) w') : wpList P ops Q (o :: rest) a w := by
  refine wpList_plain hgd fun K hK => ?_
  unfold Oper.wp execOp
  simp only [ho, hx]
  simp [Instr.box, newVar, go_sem]
  exact hK _ _ (h _ _ (cast (congrArg (fun c : Array Value => Row (w.alloc (.cells c t)) w.heap.size t [z]) hc.symm) (Row.made w t [z])) (show _ = _ from rfl) ((Below.refl _ _).alloc (Nat.le_refl _) _))
end
section
variable {ops : Array Oper} {rest : List Oper} {o : Oper} {a : Act} {w : World} {Q : Exit → Act → World → Prop}
end
/-- One record more. -/
theorem row_more {α : Type} {f : α → List Value} {k : Nat} {B : Nat} {W w w' : World} {A : Option Addr} {n c : Nat} {e : TypeId} {xs : List α} {x : α} {v' : Value} {o : Obj} (hb : Below B W w) (hB : B ≤ w.heap.size)
    (hown : w.ownsRow B e k (.slice A n c) n (xs.flatMap f)) (h1 : w'.ownsRow B e k v' (n + 1) (xs.flatMap f ++ f x)) (hg : (w.alloc o).grownBy w' (Value.slice A n c).ownBlock) :
    ∃ A' c', v' = .slice A' (n + 1) c' ∧ w'.ownsRow B e k (.slice A' (n + 1) c') (n + 1) ((xs ++ [x]).flatMap f) ∧ Below B W w' := by
  obtain ⟨A', c', rfl⟩ := own_sl h1
  refine ⟨A', c', rfl, by rw [flat_snoc]; exact h1, ?_⟩
  exact (hb.alloc hB o).grown hg (by simp; omega) (fun k hk => (hown.lt k hk).1)
/-- Bytes of the call's own stay when a row of records grows. -/
theorem own8_more {B b : Nat} {w w' : World} {A : Option Addr} {n c k : Nat} {e : TypeId} {xs : List Value} {x : BV} {o : Obj} (he : 5 ≠ e) (hown : w.ownsRow B e k (.slice A n c) n xs) (h : Own8 b w x) (hg : (w.alloc o).grownBy w' (Value.slice A n c).ownBlock) : Own8 b w' x :=
  World.ownsRow.kept (World.ownsRow.kept h (World.grownBy_alloc w o none) (by cases hx : (bvv x).ownBlock with | none => exact .inl rfl | some k => exact .inr (by simp))) hg (own_parted h hown he)
end Go.Proofs.YtijffkklhgnknaaDoor
/- Steps of a region that draws, one by one: a row made, a row stored. No conditions. -/
set_option linter.unusedVariables false
namespace Go.Proofs.YtijffkklhgnknaaDoor
open Go.RowKit

section
variable {P : Program} {ops : Array Oper} {o : Oper} {a : Act} {w : World} {Q : Exit → Act → World → Prop} {K : Act → World → Prop} {E : Prop}
theorem st_alloc (hw : Region.wanted o (yielded ops a.tmps) = true) (t : TypeId) (ho : o.op = .alloc t) (cs : List Value) (hz : ∀ w : World, (zeroValue t).run P w = .ok (.agg cs.toArray) w)
    (h : ∀ g w', Row w' g t cs → Hid (g = w.heap.size) → Below w.heap.size w w' → K (a.put o.dst (.pointer (some ⟨g, 0, none⟩))) w') : if Region.wanted o (yielded ops a.tmps) = true then Oper.wp P o a w K Q else E := by
  rw [if_pos hw]
  unfold Oper.wp execOp
  simp only [ho]
  simp [Instr.alloc, hz, newVar, go_sem]
  exact h _ _ (Row.made w t cs) (show _ = _ from rfl) ((Below.refl _ _).alloc (Nat.le_refl _) _)
theorem st_store (hw : Region.wanted o (yielded ops a.tmps) = true) (ty : TypeId) (x y : Operand) (ho : o.op = .store ty x y) (g : Nat) (hx : a.eval x = .pointer (some ⟨g, 0, none⟩)) (t : TypeId) (old cs : List Value) (hy : a.eval y = .agg cs.toArray)
    (hr : Row w g t old) (hl : old.length = cs.length) (hi : (P.info? ty).map (·.size) = some cs.length) (h1 : ∀ v ∈ cs, v.oneCell' = true)
    (h : ∀ w', Row w' g t cs → w.grownBy w' (some g) → K (a.put o.dst undef) w') : if Region.wanted o (yielded ops a.tmps) = true then Oper.wp P o a w K Q else E := by
  rw [if_pos hw]
  refine wp_store_row ty x y ho g cs.toArray hx hy t old.toArray hr (by simpa using hi) (by simpa using hl) (all_oneCell_toArray h1) ?_
  exact h _ (setRow_heap w g _ _ t _ hr) ⟨rfl, rfl, rfl, by simp, fun k hk hne => setRow_other w g k _ (fun e => hne (by rw [e]))⟩
theorem run_eql_op {P : Program} (w : World) {a : Act} (o : Oper) (t t' : TypeId) (x y : Operand) (ho : o.op = .binOp .eql t x y t') (xs ys : Array Value) (hx : a.eval x = .agg xs) (hy : a.eval y = .agg ys) (hg : P.eqGuardType P.depth t = false) (b : Bool)
    (he : ∀ w, (Op.equalIn 10000 t (.agg xs) (.agg ys)).run P w = .ok b w) : (execOp a.eval o).run P w = .ok (.value (.bool b)) w := by
  unfold execOp
  simp only [ho, hx, hy, Sem.run_bind, run_eqGuard_agg w _ t x y xs ys hg, run_eql_struct, he, Result.andThen_ok]
  rfl
theorem run_build_op {P : Program} (w : World) {a : Act} (o : Oper) (t : TypeId) (parts : Array (Nat × Operand)) (ho : o.op = .build t parts) (vs : List (Nat × Value)) (hv : (parts.map fun (i, x) => (i, a.eval x)).toList = vs) (cells : Array Value) (hb : P.built t vs = some cells) : (execOp a.eval o).run P w = .ok (.value (.agg cells)) w := by
  subst hv
  unfold execOp
  simp only [ho, Sem.run_bind, run_build w t _ cells hb, Result.andThen_ok]
  rfl
end
end Go.Proofs.YtijffkklhgnknaaDoor
/- Entries as they lie in memory; what compares them. Conditions: those named. -/
set_option linter.unusedVariables false
set_option maxRecDepth 20000
namespace Go.Proofs.YtijffkklhgnknaaDoor
open Go.RowKit

/-- An entry: its name, its inode's number and serial, its kind, its cookie. -/
structure Ent where
  nm : ByteArray
  ino : Int
  ser : Nat
  kind : Int
  ck : Nat
def ecs (e : Ent) : List Value := [.string e.nm, .int .i64 e.ino, .int .u64 (e.ser : Int), .int .i64 e.kind, .int .u32 (e.ck : Int)]
def ent0 : Ent := ⟨ByteArray.empty, 0, 0, 0, 0⟩
theorem ecs_len (e : Ent) : (ecs e).length = 5 := rfl
theorem ecs_one (e : Ent) : ∀ v ∈ ecs e, v.oneCell' = true := by
  intro v hv
  simp only [ecs, List.mem_cons, List.mem_nil_iff, or_false] at hv
  rcases hv with rfl | rfl | rfl | rfl | rfl <;> rfl
theorem rec_ent : Rec Tryd.prog 22 42 5 := rec_of (z := .agg (ecs ent0).toArray) (n := 48) Tryd.underlying22 (by kernel_rfl) (by decide) rfl (by decide)
theorem info_ent (e : Ent) : (Tryd.prog.info? 42).map (·.size) = some (ecs e).length := by rw [ecs_len]; kernel_rfl
theorem zero_ent (w : World) : (zeroValue 42).run Tryd.prog w = .ok (.agg (ecs ent0).toArray) w := by kernel_rfl
/-- What a comparison of two numbers answers. -/
def cmpv (x y : Nat) : Int := if x < y then -1 else if y < x then 1 else 0
theorem cmpv_neg (x y : Nat) : cmpv x y < 0 ↔ x < y := by
  unfold cmpv
  split
  · exact ⟨fun _ => by assumption, fun _ => by decide⟩
  · split
    · exact ⟨fun h => absurd h (by decide), fun h => by omega⟩
    · exact ⟨fun h => absurd h (by decide), fun h => by omega⟩
theorem isnan_any (z : Int) (w : World) : Calls Tryd.prog 81 #[.int .u32 z] w fun e w' => e = .returned (.bool false) ∧ w = w' := by
  go_enter Tryd.func81, Tryd.ntmps81
  go_wp2
  go_ret
  exact ⟨rfl, rfl⟩
theorem compare_any (x y : Nat) (w : World) : Calls Tryd.prog 72 #[.int .u32 (x : Int), .int .u32 (y : Int)] w fun e w' => e = .returned (.int .i64 (cmpv x y)) ∧ w = w' := by
  unfold cmpv
  by_cases h1 : x < y
  · have h1i : (x : Int) < (y : Int) := by omega
    rw [if_pos h1]
    clear h1
    go_enter Tryd.func72, Tryd.ntmps72
    go_wp2_with (go_at_call 81; refine (isnan_any _ _).mono ?_; rintro e w1 ⟨rfl, rfl⟩)
    go_ret
    exact ⟨rfl, rfl⟩
  · have h1i : ¬ (x : Int) < (y : Int) := by omega
    rw [if_neg h1]
    clear h1
    by_cases h2 : y < x
    · have h2i : (y : Int) < (x : Int) := by omega
      rw [if_pos h2]
      clear h2
      go_enter Tryd.func72, Tryd.ntmps72
      go_wp2_with (go_at_call 81; refine (isnan_any _ _).mono ?_; rintro e w1 ⟨rfl, rfl⟩)
      go_ret
      exact ⟨rfl, rfl⟩
    · have h2i : ¬ (y : Int) < (x : Int) := by omega
      rw [if_neg h2]
      clear h2
      go_enter Tryd.func72, Tryd.ntmps72
      go_wp2_with (go_at_call 81; refine (isnan_any _ _).mono ?_; rintro e w1 ⟨rfl, rfl⟩)
      go_ret
      exact ⟨rfl, rfl⟩
/-- The cookie of an entry. -/
theorem ckey_any (e : Ent) (w : World) : Calls Tryd.prog 55 #[.agg (ecs e).toArray] w fun x w' => x = .returned (.int .u32 (e.ck : Int)) ∧ Below w.heap.size w w' := by
  go_enter Tryd.func55, Tryd.ntmps55
  go_wp2_with (refine step_box rfl 1 rfl 42 (.tmp 0) rfl (ecs e) rfl ?_; intro g w2 hr2 hg2 hb2 hs2
               have HB := Lib.hid hb2
               have c4 : w2.cell? ⟨g, 4, none⟩ = some (.int .u32 (e.ck : Int)) := (hr2.cell 4).trans rfl
               clear hr2 hg2 hb2 hs2)
  go_ret
  exact ⟨rfl, HB.out⟩
/-- Whether an entry lies behind a cookie. -/
theorem behind_any (e : Ent) (g after : Nat) (w : World) (hc : w.cell? ⟨g, 0, none⟩ = some (.int .u32 (after : Int))) : Calls Tryd.prog 35 #[.agg (ecs e).toArray, .pointer (some ⟨g, 0, none⟩)] w fun x w' => x = .returned (.bool (decide (after < e.ck))) ∧ Below w.heap.size w w' := by
  have HC := Lib.hid hc
  have HL := Lib.hid (World.block_lt_of_cell? w _ hc)
  obtain ⟨z, hz⟩ : ∃ z : Bool, decide (after < e.ck) = z := ⟨_, rfl⟩
  have HZ := Lib.hid hz
  rw [hz]
  clear hc hz
  go_enter Tryd.func35, Tryd.ntmps35
  go_wp2_with (refine step_box rfl 2 rfl 42 (.tmp 0) rfl (ecs e) rfl ?_; intro g2 w2 hr2 hg2 hb2 hs2
               have HB := Lib.hid hb2
               have c4 : w2.cell? ⟨g2, 4, none⟩ = some (.int .u32 (e.ck : Int)) := (hr2.cell 4).trans rfl
               have ca : w2.cell? ⟨g, 0, none⟩ = some (.int .u32 (after : Int)) := (hb2.cell (p := ⟨g, 0, none⟩) HL.out).trans HC.out
               clear hr2 hg2 hb2 hs2)
  go_ret
  exact ⟨by simp [HZ.out], HB.out⟩
end Go.Proofs.YtijffkklhgnknaaDoor
