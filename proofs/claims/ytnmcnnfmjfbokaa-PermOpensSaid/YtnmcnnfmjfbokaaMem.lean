/- Words for memory: the bytes that a slice holds, and what appending bytes to a row of the call's own leaves. No conditions. -/
import Derived.WalkKit
import Derived.Below
import Derived.Laws.OwnMore
import Derived.Maps.AppendAt
import Derived.Lib.AppendStr
import Derived.Laws.IdiomStrings
import Derived.Laws.BytesString
import Derived.Lib.Hide
namespace Go.Proofs.Ytnmcnnfmjfbokaa
open Go.RowKit

/-- Bytes as cells. -/
def bc (l : List UInt8) : List Value := l.map fun b => Value.int .u8 (b.toNat : Int)
theorem bc_len (l : List UInt8) : (bc l).length = l.length := by simp [bc]
theorem bc_app (a b : List UInt8) : bc (a ++ b) = bc a ++ bc b := by simp [bc]
theorem bc_nil : bc [] = [] := rfl
theorem bc_str (s : ByteArray) : Lib.strCells s = bc s.data.toList := rfl
theorem bc_one (l : List UInt8) : ∀ u ∈ bc l, u.oneCell' = true := by
  intro u hu
  obtain ⟨b, _, rfl⟩ := List.mem_map.1 hu
  rfl
theorem bc_get {l : List UInt8} {j : Nat} {u : Value} (h : (bc l)[j]? = some u) : ∃ x, l[j]? = some x ∧ u = .int .u8 (x.toNat : Int) := by
  unfold bc at h
  rw [List.getElem?_map] at h
  obtain ⟨x, hx, rfl⟩ := Option.map_eq_some_iff.1 h
  exact ⟨x, hx, rfl⟩
theorem get_bc {l : List UInt8} {j : Nat} {x : UInt8} (h : l[j]? = some x) : (bc l)[j]? = some (.int .u8 (x.toNat : Int)) := by
  unfold bc
  rw [List.getElem?_map, h]
  rfl
theorem bc_inj {a b : List UInt8} (h : bc a = bc b) : a = b := by
  apply List.ext_getElem?
  intro j
  have hj := congrArg (fun l : List Value => l[j]?) h
  simp only [bc, List.getElem?_map] at hj
  cases ha : a[j]? <;> cases hb : b[j]? <;> simp [ha, hb] at hj
  · rfl
  · rename_i x y
    rw [UInt8.toNat_inj.1 (by omega : x.toNat = y.toNat)]

/-- The address A holds the bytes l (whatever A is, if there are none). -/
def Hol (w : World) (A : Option Addr) (l : List UInt8) : Prop :=
  l = [] ∨ ∃ g off, A = some ⟨g, off, none⟩ ∧ ∀ j x, l[j]? = some x → w.cell? ⟨g, off + j, none⟩ = some (.int .u8 (x.toNat : Int))

section
variable {w w' : World} {A : Option Addr} {l : List UInt8}
theorem Hol.none_ : Hol w A [] := .inl rfl
theorem Hol.some_ (h : Hol w A l) (hl : 0 < l.length) : ∃ g off, A = some ⟨g, off, none⟩ ∧ g < w.heap.size ∧ ∀ j x, l[j]? = some x → w.cell? ⟨g, off + j, none⟩ = some (.int .u8 (x.toNat : Int)) := by
  rcases h with rfl | ⟨g, off, rfl, hc⟩
  · simp at hl
  · exact ⟨g, off, rfl, World.block_lt_of_cell? w _ (hc 0 l[0] (List.getElem?_eq_getElem hl)), hc⟩
theorem Hol.at_ (h : Hol w A l) {j : Nat} (hj : j < l.length) : ∃ g off, A = some ⟨g, off, none⟩ ∧ g < w.heap.size ∧ w.cell? ⟨g, off + j, none⟩ = some (.int .u8 ((l[j]'hj).toNat : Int)) := by
  obtain ⟨g, off, rfl, hg, hc⟩ := h.some_ (by omega)
  exact ⟨g, off, rfl, hg, hc j _ (List.getElem?_eq_getElem hj)⟩
theorem Hol.grown (h : Hol w A l) {row : Option Nat} (hg : w.grownBy w' row) (hr : ∀ g off, A = some ⟨g, off, none⟩ → some g ≠ row) : Hol w' A l := by
  rcases h with rfl | ⟨g, off, rfl, hc⟩
  · exact .inl rfl
  · exact .inr ⟨g, off, rfl, fun j x hx => hg.cell (hc j x hx) (hr g off rfl)⟩
theorem Hol.below (h : Hol w A l) (hb : Below w.heap.size w w') : Hol w' A l := by
  rcases h with rfl | ⟨g, off, rfl, hc⟩
  · exact .inl rfl
  · exact .inr ⟨g, off, rfl, fun j x hx => (hb.cell (p := ⟨g, off + j, none⟩) (World.block_lt_of_cell? w _ (hc j x hx))).trans (hc j x hx)⟩
theorem Hol.take_ (h : Hol w A l) (n : Nat) : Hol w A (l.take n) := by
  rcases h with rfl | ⟨g, off, rfl, hc⟩
  · exact .inl (by simp)
  · refine .inr ⟨g, off, rfl, fun j x hx => hc j x ?_⟩
    rw [List.getElem?_take] at hx
    split at hx
    · exact hx
    · cases hx
theorem Hol.cut {cap : Nat} (h : Hol w A l) (n : Nat) (hc : l.length ≤ cap) : Hol w (if cap = n then A else A.map (·.add n)) (l.drop n) := by
  by_cases hn : l.length ≤ n
  · exact .inl (List.drop_eq_nil_of_le hn)
  · rw [if_neg (by omega)]
    rcases h with rfl | ⟨g, off, rfl, hcell⟩
    · exact .inl (by simp)
    · refine .inr ⟨g, off + n, ?_, fun j x hx => ?_⟩
      · show some ((⟨g, off, none⟩ : Addr).add n) = _
        unfold Addr.add
        split <;> simp_all
      · rw [List.getElem?_drop] at hx
        have := hcell (n + j) x hx
        rw [← Nat.add_assoc] at this
        exact this
theorem Hol.own {base : Nat} {e : TypeId} {n c : Nat} (h : w.ownsRow base e 1 (.slice A n c) n (bc l)) : Hol w A l := by
  by_cases hl : l = []
  · exact .inl hl
  · rcases h.2 with ⟨h1, h2⟩ | ⟨g, cap, cur, h1, hb, hg, hn, hc, hs, ht⟩
    · have := h.1
      rw [bc_len] at this
      exact absurd (List.eq_nil_of_length_eq_zero (by omega)) hl
    · simp only [Value.slice.injEq] at h1
      obtain ⟨rfl, _, rfl⟩ := h1
      refine .inr ⟨g, 0, rfl, fun j x hx => ?_⟩
      have := h.cells (g := g) rfl j _ (get_bc hx)
      rw [show (⟨g, 0 + j, none⟩ : Addr) = (⟨g, 0, none⟩ : Addr).add j by unfold Addr.add; split <;> simp_all]
      exact this
end

theorem below_of_grown {w w' : World} (h : w.grownBy w' none) : Below w.heap.size w w' := ⟨h.os, h.tape, h.output, h.size, fun k hk => h.block k hk (by simp)⟩
theorem grown_of_below {w w' : World} {row : Option Nat} (h : Below w.heap.size w w') : w.grownBy w' row := ⟨h.os, h.tape, h.output, h.size, fun k hk _ => h.block k hk⟩
theorem Below.grown_ {B : Nat} {a w w' : World} {row : Option Nat} (h : Below B a w) (hB : B ≤ w.heap.size) (hg : w.grownBy w' row) (hr : ∀ k, row = some k → B ≤ k) : Below B a w' := h.grown hg hB hr
theorem grown_trans {a b c : World} {row : Option Nat} (h : a.grownBy b row) (k : b.grownBy c row) : a.grownBy c row :=
  ⟨k.os.trans h.os, k.tape.trans h.tape, k.output.trans h.output, Nat.le_trans h.size k.size, fun i hi hr => (k.block i (Nat.lt_of_lt_of_le hi h.size) hr).trans (h.block i hi hr)⟩
theorem grown_set (w : World) (p : Addr) (u : Value) : w.grownBy (w.setCell p u) (some p.block) :=
  ⟨rfl, rfl, rfl, by simp [World.setCell], fun k _ hne => Below.heap_setCell w p u k (fun e => hne (by rw [e]))⟩
theorem heap_set {w : World} {g : Nat} {cs : Array Value} {t : TypeId} {fr : Nat × Nat} (h : w.heap[g]? = some (.cells cs t fr)) (i : Nat) (u : Value) :
    (w.setCell ⟨g, i, none⟩ u).heap[g]? = some (.cells (cs.setIfInBounds i u) t fr) := by simp [World.setCell, Array.getElem?_modify, h]

/-- What the table says of bytes, and of slices of them. -/
structure U8 (P : Program) (t e : TypeId) (i : TypeInfo) : Prop where
  ht : P.underlying t = some (.slice e)
  hi : P.info? e = some i
  hz : i.zero = some (.int .u8 0)
  h1 : i.size = 1
  h2 : i.bytes = 1

section
variable {P : Program} (w : World)

theorem run_app_none (t ty e : TypeId) (i : TypeInfo) (U : U8 P t e i) (base : Nat) (v : Value) (n : Nat) (xs : List Value) (hown : w.ownsRow base e 1 v n xs) (c : Nat) :
    (Builtin.append_ #[t, t] ty #[v, .slice none 0 c]).run P w = .ok v w := by
  rcases hown.2 with ⟨rfl, rfl⟩ | ⟨g, cap, cur, rfl, _, _, hnc, _⟩
  · simp [Builtin.append_, run_underlying U.ht, sizeOf, typeInfo, U.hi, Builtin.lenOf, Builtin.firstCells]
  · simp [Builtin.append_, run_underlying U.ht, sizeOf, typeInfo, U.hi, Builtin.lenOf, Builtin.firstCells, hnc, storeCells]

/-- Bytes appended to a row of the call's own: the source may be nil, empty, or wherever. -/
theorem run_app (t ty e : TypeId) (i : TypeInfo) (U : U8 P t e i) (base : Nat) (v : Value) (n : Nat) (xs : List Value) (hown : w.ownsRow base e 1 v n xs)
    (A : Option Addr) (m c : Nat) (l : List UInt8) (hm : m = l.length) (hA : Hol w A l) (hnil : A = none ∨ True) (hb : n + m ≤ 140737488355328) (hbase : base ≤ w.heap.size) :
    ∃ v' w', (Builtin.append_ #[t, t] ty #[v, .slice A m c]).run P w = .ok v' w' ∧ w'.ownsRow base e 1 v' (n + m) (xs ++ bc l) ∧ w.grownBy w' v.ownBlock ∧
      (v'.ownBlock = v.ownBlock ∨ v'.ownBlock = some w.heap.size) := by
  subst hm
  rcases A with _ | ad
  · have hl : l = [] := by
      rcases hA with h | ⟨g, off, h, _⟩
      · exact h
      · cases h
    subst hl
    exact ⟨v, w, run_app_none w t ty e i U base v n xs hown c, by simpa [bc] using hown, ⟨rfl, rfl, rfl, Nat.le_refl _, fun _ _ _ => rfl⟩, .inl rfl⟩
  · have hcells : ∀ j u, (bc l)[j]? = some u → w.cell? (ad.add j) = some u := by
      intro j u hu
      obtain ⟨x, hx, rfl⟩ := bc_get hu
      rcases hA with rfl | ⟨g, off, h, hc⟩
      · simp at hx
      · injection h with h
        subst h
        have := hc j x hx
        rw [show (⟨g, off, none⟩ : Addr).add j = ⟨g, off + j, none⟩ by unfold Addr.add; split <;> simp_all]
        exact this
    obtain ⟨v', w', hr, h2, h3, _, h5⟩ := run_append_own_at (P := P) w base t ty e i (.int .u8 0) 1 1 U.ht U.hi U.hz U.h1 U.h2 rfl (by decide) v n xs hown ad l.length c (bc l) (by rw [bc_len, Nat.mul_one]) hcells (bc_one l)
      (by unfold maxLen; omega) (by omega) hbase
    exact ⟨v', w', hr, h2, h3, h5⟩

/-- The same, for the walk. -/
theorem wpList_app {ops : Array Oper} {rest : List Oper} {o : Oper} {a : Act} {Q : Exit → Act → World → Prop} (hgd : o.guard = none) (s x : Operand) (t : TypeId)
    (ho : o.op = .call { callee := .builtin .append, args := #[s, x], argTypes := #[t, t] })
    (e : TypeId) (i : TypeInfo) (U : U8 P t e i) (base : Nat) (v : Value) (n : Nat) (xs : List Value) (hs : a.eval s = v) (hown : w.ownsRow base e 1 v n xs)
    (A : Option Addr) (m c : Nat) (l : List UInt8) (hx : a.eval x = .slice A m c) (hm : m = l.length) (hA : Hol w A l) (hb : n + m ≤ 140737488355328) (hbase : base ≤ w.heap.size)
    (h : ∀ v' w', w'.ownsRow base e 1 v' (n + m) (xs ++ bc l) → w.grownBy w' v.ownBlock → (v'.ownBlock = v.ownBlock ∨ v'.ownBlock = some w.heap.size) → wpList P ops Q rest (a.put o.dst v') w') :
    wpList P ops Q (o :: rest) a w := by
  refine wpList_plain hgd fun K hK => ?_
  obtain ⟨v', w', hr, h2, h3, h4⟩ := run_app (P := P) w t o.type e i U base v n xs hown A m c l hm hA (.inr trivial) hb hbase
  unfold Oper.wp execOp
  simp only [ho, resolve, invoke, builtin, Sem.run_bind, Sem.run_pure, Result.andThen_ok, List.map_toArray, List.map_cons, List.map_nil, hs, hx, hr]
  exact hK _ _ (h v' w' h2 h3 h4)
end

/-- A text made of bytes. -/
theorem run_to_string {P : Program} (w : World) (src dst e : TypeId) (A : Option Addr) (c n : Nat) (l : List UInt8) (hn : n = l.length) (hs : P.underlying src = some (.slice e)) (he : P.underlying e = some (.int .u8)) (hd : P.underlying dst = some .string)
    (hA : Hol w A l) : (convert src dst (.slice A n c)).run P w = .ok (.string ⟨l.toArray⟩) w := by
  subst hn
  by_cases hl : l = []
  · subst hl
    rw [run_convert_bytes_string w src dst e A _ c hs he hd]
    cases A <;> simp [Conv.bytesToString, loadCells]
    all_goals rfl
  · rcases hA with h | ⟨g, off, rfl, hc⟩
    · exact absurd h hl
    · refine run_convert_bytes_back w src dst e ⟨g, off, none⟩ c l hs he hd fun j hj => ?_
      rw [show (⟨g, off, none⟩ : Addr).add j = ⟨g, off + j, none⟩ by unfold Addr.add; split <;> simp_all]
      exact hc j _ (List.getElem?_eq_getElem hj)

/-- An owned row of bytes, as a slice value written out. -/
theorem own_form {w : World} {base : Nat} {e : TypeId} {v : Value} {n : Nat} {l : List UInt8} (h : w.ownsRow base e 1 v n (bc l)) :
    n = l.length ∧ ∃ A c, v = .slice A l.length c ∧ l.length ≤ c ∧ c ≤ maxLen ∧ Hol w A l := by
  have hn : n = l.length := by have := h.1; rw [bc_len] at this; omega
  subst hn
  refine ⟨rfl, ?_⟩
  rcases h.2 with ⟨rfl, h0⟩ | ⟨g, cap, cur, rfl, hb, hg, hn, hc, hs, ht⟩
  · rw [h0]
    exact ⟨none, 0, rfl, Nat.le_refl _, by decide, .inl (List.eq_nil_of_length_eq_zero h0)⟩
  · exact ⟨_, cap, rfl, hn, hc, Hol.own h⟩
end Go.Proofs.Ytnmcnnfmjfbokaa
