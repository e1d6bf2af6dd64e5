/- Words for memory: the bytes that a slice holds, and what appending bytes to a row of the call's own leaves. No conditions. -/
import Derived.WalkKit
import Derived.Below
import Derived.Laws.OwnMore
import Derived.Maps.AppendAt
import Derived.Lib.AppendStr
import Derived.Laws.IdiomStrings
import Derived.Laws.BytesString
import Derived.Lib.Hide
import Derived.Laws.BitsAllLaws
import Derived.Deep.MidRow
import Derived.Deep.Draws
import Derived.Test.YtfbfeplegdpemaaGreatChecked
import Derived.WalkMore
import Derived.Deep.RegionLaw
import Derived.Deep.AppendLies
import Derived.ProofKit
import Derived.OpenShut
import Derived.Lib.LaidU8
import Derived.Lib.SmallJoins
import Derived.Deep.SlicePairs
import Derived.Test.YtfbfeplegdpemaaGreatRows
import Derived.Carry
import Derived.SizedLaws
namespace Go.Proofs.YtfbfeplegdpemaaGreat
open Go.RowKit

/-- Bytes as cells. -/
def bc (l : List UInt8) : List Value := l.map fun b => Value.int .u8 (b.toNat : Int)
theorem bc_len (l : List UInt8) : (bc l).length = l.length := by simp [bc]
theorem bc_app (a b : List UInt8) : bc (a ++ b) = bc a ++ bc b := by simp [bc]
theorem bc_one (l : List UInt8) : ∀ u ∈ bc l, u.oneCell' = true := by
  intro u hu
  obtain ⟨b, _, rfl⟩ := List.mem_map.1 hu
  rfl
theorem bc_get {l : List UInt8} {j : Nat} {u : Value} (h : (bc l)[j]? = some u) : ∃ x, l[j]? = some x ∧ u = .int .u8 (x.toNat : Int) := by
  unfold bc at h
  rw [List.getElem?_map] at h
  obtain ⟨x, hx, rfl⟩ := Option.map_eq_some_iff.1 h
  exact ⟨x, hx, rfl⟩
theorem get_bc {l : List UInt8} {j : Nat} {x : UInt8} (h : l[j]? = some x) : (bc l)[j]? = some (.int .u8 (x.toNat : Int)) := by
  unfold bc
  rw [List.getElem?_map, h]
  rfl
/-- The address A holds the bytes l (whatever A is, if there are none). -/
def Hol (w : World) (A : Option Addr) (l : List UInt8) : Prop :=
  l = [] ∨ ∃ g off, A = some ⟨g, off, none⟩ ∧ ∀ j x, l[j]? = some x → w.cell? ⟨g, off + j, none⟩ = some (.int .u8 (x.toNat : Int))

section
variable {w w' : World} {A : Option Addr} {l : List UInt8}
theorem Hol.none_ : Hol w A [] := .inl rfl
theorem Hol.some_ (h : Hol w A l) (hl : 0 < l.length) : ∃ g off, A = some ⟨g, off, none⟩ ∧ g < w.heap.size ∧ ∀ j x, l[j]? = some x → w.cell? ⟨g, off + j, none⟩ = some (.int .u8 (x.toNat : Int)) := by
  rcases h with rfl | ⟨g, off, rfl, hc⟩
  · simp at hl
  · exact ⟨g, off, rfl, World.block_lt_of_cell? w _ (hc 0 l[0] (List.getElem?_eq_getElem hl)), hc⟩
theorem Hol.at_ (h : Hol w A l) {j : Nat} (hj : j < l.length) : ∃ g off, A = some ⟨g, off, none⟩ ∧ g < w.heap.size ∧ w.cell? ⟨g, off + j, none⟩ = some (.int .u8 ((l[j]'hj).toNat : Int)) := by
  obtain ⟨g, off, rfl, hg, hc⟩ := h.some_ (by omega)
  exact ⟨g, off, rfl, hg, hc j _ (List.getElem?_eq_getElem hj)⟩
theorem Hol.grown (h : Hol w A l) {row : Option Nat} (hg : w.grownBy w' row) (hr : ∀ g off, A = some ⟨g, off, none⟩ → some g ≠ row) : Hol w' A l := by
  rcases h with rfl | ⟨g, off, rfl, hc⟩
  · exact .inl rfl
  · exact .inr ⟨g, off, rfl, fun j x hx => hg.cell (hc j x hx) (hr g off rfl)⟩
theorem Hol.below (h : Hol w A l) (hb : Below w.heap.size w w') : Hol w' A l := by
  rcases h with rfl | ⟨g, off, rfl, hc⟩
  · exact .inl rfl
  · exact .inr ⟨g, off, rfl, fun j x hx => (hb.cell (p := ⟨g, off + j, none⟩) (World.block_lt_of_cell? w _ (hc j x hx))).trans (hc j x hx)⟩
theorem Hol.take_ (h : Hol w A l) (n : Nat) : Hol w A (l.take n) := by
  rcases h with rfl | ⟨g, off, rfl, hc⟩
  · exact .inl (by simp)
  · refine .inr ⟨g, off, rfl, fun j x hx => hc j x ?_⟩
    rw [List.getElem?_take] at hx
    split at hx
    · exact hx
    · cases hx
theorem Hol.own {base : Nat} {e : TypeId} {n c : Nat} (h : w.ownsRow base e 1 (.slice A n c) n (bc l)) : Hol w A l := by
  by_cases hl : l = []
  · exact .inl hl
  · rcases h.2 with ⟨h1, h2⟩ | ⟨g, cap, cur, h1, hb, hg, hn, hc, hs, ht⟩
    · have := h.1
      rw [bc_len] at this
      exact absurd (List.eq_nil_of_length_eq_zero (by omega)) hl
    · simp only [Value.slice.injEq] at h1
      obtain ⟨rfl, _, rfl⟩ := h1
      refine .inr ⟨g, 0, rfl, fun j x hx => ?_⟩
      have := h.cells (g := g) rfl j _ (get_bc hx)
      rw [show (⟨g, 0 + j, none⟩ : Addr) = (⟨g, 0, none⟩ : Addr).add j by unfold Addr.add; split <;> simp_all]
      exact this
end

theorem below_of_grown {w w' : World} (h : w.grownBy w' none) : Below w.heap.size w w' := ⟨h.os, h.tape, h.output, h.size, fun k hk => h.block k hk (by simp)⟩
theorem grown_of_below {w w' : World} {row : Option Nat} (h : Below w.heap.size w w') : w.grownBy w' row := ⟨h.os, h.tape, h.output, h.size, fun k hk _ => h.block k hk⟩
theorem grown_trans {a b c : World} {row : Option Nat} (h : a.grownBy b row) (k : b.grownBy c row) : a.grownBy c row :=
  ⟨k.os.trans h.os, k.tape.trans h.tape, k.output.trans h.output, Nat.le_trans h.size k.size, fun i hi hr => (k.block i (Nat.lt_of_lt_of_le hi h.size) hr).trans (h.block i hi hr)⟩
theorem grown_set (w : World) (p : Addr) (u : Value) : w.grownBy (w.setCell p u) (some p.block) :=
  ⟨rfl, rfl, rfl, by simp [World.setCell], fun k _ hne => Below.heap_setCell w p u k (fun e => hne (by rw [e]))⟩
theorem heap_set {w : World} {g : Nat} {cs : Array Value} {t : TypeId} {fr : Nat × Nat} (h : w.heap[g]? = some (.cells cs t fr)) (i : Nat) (u : Value) :
    (w.setCell ⟨g, i, none⟩ u).heap[g]? = some (.cells (cs.setIfInBounds i u) t fr) := by simp [World.setCell, Array.getElem?_modify, h]

/-- What the table says of bytes, and of slices of them. -/
structure U8 (P : Program) (t e : TypeId) (i : TypeInfo) : Prop where
  ht : P.underlying t = some (.slice e)
  hi : P.info? e = some i
  hz : i.zero = some (.int .u8 0)
  h1 : i.size = 1
  h2 : i.bytes = 1

section
variable {P : Program} (w : World)

theorem run_app_none (t ty e : TypeId) (i : TypeInfo) (U : U8 P t e i) (base : Nat) (v : Value) (n : Nat) (xs : List Value) (hown : w.ownsRow base e 1 v n xs) (c : Nat) :
    (Builtin.append_ #[t, t] ty #[v, .slice none 0 c]).run P w = .ok v w := by
  rcases hown.2 with ⟨rfl, rfl⟩ | ⟨g, cap, cur, rfl, _, _, hnc, _⟩
  · simp [Builtin.append_, run_underlying U.ht, sizeOf, typeInfo, U.hi, Builtin.lenOf, Builtin.firstCells]
  · simp [Builtin.append_, run_underlying U.ht, sizeOf, typeInfo, U.hi, Builtin.lenOf, Builtin.firstCells, hnc, storeCells]

/-- Bytes appended to a row of the call's own: the source may be nil, empty, or wherever. -/
theorem run_app (t ty e : TypeId) (i : TypeInfo) (U : U8 P t e i) (base : Nat) (v : Value) (n : Nat) (xs : List Value) (hown : w.ownsRow base e 1 v n xs)
    (A : Option Addr) (m c : Nat) (l : List UInt8) (hm : m = l.length) (hA : Hol w A l) (hnil : A = none ∨ True) (hb : n + m ≤ 140737488355328) (hbase : base ≤ w.heap.size) :
    ∃ v' w', (Builtin.append_ #[t, t] ty #[v, .slice A m c]).run P w = .ok v' w' ∧ w'.ownsRow base e 1 v' (n + m) (xs ++ bc l) ∧ w.grownBy w' v.ownBlock ∧
      (v'.ownBlock = v.ownBlock ∨ v'.ownBlock = some w.heap.size) := by
  subst hm
  rcases A with _ | ad
  · have hl : l = [] := by
      rcases hA with h | ⟨g, off, h, _⟩
      · exact h
      · cases h
    subst hl
    exact ⟨v, w, run_app_none w t ty e i U base v n xs hown c, by simpa [bc] using hown, ⟨rfl, rfl, rfl, Nat.le_refl _, fun _ _ _ => rfl⟩, .inl rfl⟩
  · have hcells : ∀ j u, (bc l)[j]? = some u → w.cell? (ad.add j) = some u := by
      intro j u hu
      obtain ⟨x, hx, rfl⟩ := bc_get hu
      rcases hA with rfl | ⟨g, off, h, hc⟩
      · simp at hx
      · injection h with h
        subst h
        have := hc j x hx
        rw [show (⟨g, off, none⟩ : Addr).add j = ⟨g, off + j, none⟩ by unfold Addr.add; split <;> simp_all]
        exact this
    obtain ⟨v', w', hr, h2, h3, _, h5⟩ := run_append_own_at (P := P) w base t ty e i (.int .u8 0) 1 1 U.ht U.hi U.hz U.h1 U.h2 rfl (by decide) v n xs hown ad l.length c (bc l) (by rw [bc_len, Nat.mul_one]) hcells (bc_one l)
      (by unfold maxLen; omega) (by omega) hbase
    exact ⟨v', w', hr, h2, h3, h5⟩

/-- The same, for the walk. -/
theorem wpList_app {ops : Array Oper} {rest : List Oper} {o : Oper} {a : Act} {Q : Exit → Act → World → Prop} (hgd : o.guard = none) (s x : Operand) (t : TypeId)
    (ho : o.op = .call { callee := .builtin .append, args := #[s, x], argTypes := #[t, t] })
    (e : TypeId) (i : TypeInfo) (U : U8 P t e i) (base : Nat) (v : Value) (n : Nat) (xs : List Value) (hs : a.eval s = v) (hown : w.ownsRow base e 1 v n xs)
    (A : Option Addr) (m c : Nat) (l : List UInt8) (hx : a.eval x = .slice A m c) (hm : m = l.length) (hA : Hol w A l) (hb : n + m ≤ 140737488355328) (hbase : base ≤ w.heap.size)
    (h : ∀ v' w', w'.ownsRow base e 1 v' (n + m) (xs ++ bc l) → w.grownBy w' v.ownBlock → (v'.ownBlock = v.ownBlock ∨ v'.ownBlock = some w.heap.size) → wpList P ops Q rest (a.put o.dst v') w') :
    wpList P ops Q (o :: rest) a w := by
  refine wpList_plain hgd fun K hK => ?_
  obtain ⟨v', w', hr, h2, h3, h4⟩ := run_app (P := P) w t o.type e i U base v n xs hown A m c l hm hA (.inr trivial) hb hbase
  unfold Oper.wp execOp
  simp only [ho, resolve, invoke, builtin, Sem.run_bind, Sem.run_pure, Result.andThen_ok, List.map_toArray, List.map_cons, List.map_nil, hs, hx, hr]
  exact hK _ _ (h v' w' h2 h3 h4)
end

/-- A text made of bytes. -/
theorem run_to_string {P : Program} (w : World) (src dst e : TypeId) (A : Option Addr) (c n : Nat) (l : List UInt8) (hn : n = l.length) (hs : P.underlying src = some (.slice e)) (he : P.underlying e = some (.int .u8)) (hd : P.underlying dst = some .string)
    (hA : Hol w A l) : (convert src dst (.slice A n c)).run P w = .ok (.string ⟨l.toArray⟩) w := by
  subst hn
  by_cases hl : l = []
  · subst hl
    rw [run_convert_bytes_string w src dst e A _ c hs he hd]
    cases A <;> simp [Conv.bytesToString, loadCells]
    all_goals rfl
  · rcases hA with h | ⟨g, off, rfl, hc⟩
    · exact absurd h hl
    · refine run_convert_bytes_back w src dst e ⟨g, off, none⟩ c l hs he hd fun j hj => ?_
      rw [show (⟨g, off, none⟩ : Addr).add j = ⟨g, off + j, none⟩ by unfold Addr.add; split <;> simp_all]
      exact hc j _ (List.getElem?_eq_getElem hj)

/-- An owned row of bytes, as a slice value written out. -/
theorem own_form {w : World} {base : Nat} {e : TypeId} {v : Value} {n : Nat} {l : List UInt8} (h : w.ownsRow base e 1 v n (bc l)) :
    n = l.length ∧ ∃ A c, v = .slice A l.length c ∧ l.length ≤ c ∧ c ≤ maxLen ∧ Hol w A l := by
  have hn : n = l.length := by have := h.1; rw [bc_len] at this; omega
  subst hn
  refine ⟨rfl, ?_⟩
  rcases h.2 with ⟨rfl, h0⟩ | ⟨g, cap, cur, rfl, hb, hg, hn, hc, hs, ht⟩
  · rw [h0]
    exact ⟨none, 0, rfl, Nat.le_refl _, by decide, .inl (List.eq_nil_of_length_eq_zero h0)⟩
  · exact ⟨_, cap, rfl, hn, hc, Hol.own h⟩
end Go.Proofs.YtfbfeplegdpemaaGreat
/- Plain facts: the digest of the document in words of 32 bits, and what one operation makes of words. No program is in sight here, and no conditions. -/
set_option linter.unusedVariables false
namespace Go.Proofs.YtfbfeplegdpemaaGreat

/-- A word, and a byte, as a number (kept shut in walks), and as a cell's value. -/
def uv (x : UInt32) : Int := (x.toNat : Int)
def bv (x : UInt8) : Int := (x.toNat : Int)
abbrev U (x : UInt32) : Value := .int .u32 (uv x)
abbrev B (x : UInt8) : Value := .int .u8 (bv x)

/-- A word moved, and turned. -/
def shr (x : UInt32) (n : Nat) : UInt32 := UInt32.ofNat (x.toNat / 2 ^ n)
def shl (x : UInt32) (n : Nat) : UInt32 := UInt32.ofNat (x.toNat * 2 ^ n)
def rot (x : UInt32) (n : Nat) : UInt32 := shr x n ||| shl x (32 - n)
def t1 (e f g h k w : UInt32) : UInt32 := h + (rot e 6 ^^^ rot e 11 ^^^ rot e 25) + ((e &&& f) ^^^ (~~~e &&& g)) + k + w
def t2 (a b c : UInt32) : UInt32 := (rot a 2 ^^^ rot a 13 ^^^ rot a 22) + ((a &&& b) ^^^ (a &&& c) ^^^ (b &&& c))

theorem u32_toNat (n : Nat) : (UInt32.ofNat n).toNat = n % 4294967296 := UInt32.toNat_ofNat' ..
theorem u32_lt (x : UInt32) : x.toNat < 4294967296 := UInt32.toNat_lt x
theorem u8_lt (x : UInt8) : x.toNat < 256 := UInt8.toNat_lt x
theorem wrap_add (x y : UInt32) : IntKind.u32.wrap ((x.toNat : Int) + y.toNat) = ((x + y).toNat : Int) := by
  have := UInt32.toNat_add x y
  rw [IntKind.wrap_u32']
  omega
theorem wrap_mul (x y : UInt32) : IntKind.u32.wrap ((x.toNat : Int) * y.toNat) = ((x * y).toNat : Int) := by
  have := UInt32.toNat_mul x y
  rw [IntKind.wrap_u32', this]
  simp
theorem xor_u32 (x y : UInt32) : bits .xor .u32 (x.toNat : Int) (y.toNat : Int) = ((x ^^^ y).toNat : Int) := by
  rw [u32_xor_nat _ _ (u32_lt x) (u32_lt y), UInt32.toNat_xor]
theorem and_u32 (x y : UInt32) : bits .and .u32 (x.toNat : Int) (y.toNat : Int) = ((x &&& y).toNat : Int) := by
  rw [u32_and_nat _ _ (u32_lt x) (u32_lt y), UInt32.toNat_and]
theorem or_u32 (x y : UInt32) : bits .or .u32 (x.toNat : Int) (y.toNat : Int) = ((x ||| y).toNat : Int) := by
  rw [u32_or_nat _ _ (u32_lt x) (u32_lt y), UInt32.toNat_or]
theorem not_u32 (x : UInt32) : bits .xor .u32 (4294967295 : Int) (x.toNat : Int) = ((~~~x).toNat : Int) := by
  have h : (4294967295 : Int) = ((4294967295 : UInt32).toNat : Int) := by decide
  rw [h, xor_u32]
  congr 2
section
variable (x y : UInt32) (v : UInt8)
theorem uv_add : IntKind.u32.wrap (uv x + uv y) = uv (x + y) := wrap_add x y
theorem uv_add' : (uv x + uv y) % 4294967296 = uv (x + y) := by rw [← uv_add, IntKind.wrap_u32']
theorem uv_mul : IntKind.u32.wrap (uv x * 256) = uv (x * 256) := wrap_mul x 256
theorem uv_mul' : (uv x * 256) % 4294967296 = uv (x * 256) := by rw [← uv_mul, IntKind.wrap_u32']
theorem uv_xor : bits .xor .u32 (uv x) (uv y) = uv (x ^^^ y) := xor_u32 x y
theorem uv_and : bits .and .u32 (uv x) (uv y) = uv (x &&& y) := and_u32 x y
theorem uv_or : bits .or .u32 (uv x) (uv y) = uv (x ||| y) := or_u32 x y
theorem uv_not : bits .xor .u32 4294967295 (uv x) = uv (~~~x) := not_u32 x
theorem uv_not' : bits .xor .u32 (if IntKind.u32.signed = true then -1 else IntKind.u32.max) (uv x) = uv (~~~x) := not_u32 x
theorem uv_shr (n : Nat) : uv x / 2 ^ n = uv (shr x n) := by
  have hx := u32_lt x
  unfold uv shr
  rw [u32_toNat, Nat.mod_eq_of_lt (Nat.lt_of_le_of_lt (Nat.div_le_self _ _) hx)]
  simp
theorem uv_shr3 : uv x / 8 = uv (shr x 3) := uv_shr x 3
theorem uv_shr10 : uv x / 1024 = uv (shr x 10) := uv_shr x 10
theorem uv_shr8 : uv x / 256 = uv (shr x 8) := uv_shr x 8
theorem uv_shr16 : uv x / 65536 = uv (shr x 16) := uv_shr x 16
theorem uv_shr24 : uv x / 16777216 = uv (shr x 24) := uv_shr x 24
theorem uv_to8 : IntKind.u8.wrap (uv x) = bv x.toUInt8 := by
  unfold uv bv
  rw [UInt32.toNat_toUInt8, IntKind.wrap_u8']
  omega
theorem uv_to8' : uv x % 256 = bv x.toUInt8 := by rw [← uv_to8, IntKind.wrap_u8']
theorem bv_to32 : IntKind.u32.wrap (bv v) = uv v.toUInt32 := by
  have := u8_lt v
  unfold uv bv
  rw [UInt8.toNat_toUInt32, IntKind.wrap_u32']
  omega
theorem bv_to32' : bv v % 4294967296 = uv v.toUInt32 := by rw [← bv_to32, IntKind.wrap_u32']
end

attribute [go_sem] uv_add uv_add' uv_mul uv_mul' uv_xor uv_and uv_or uv_not uv_not' uv_shr3 uv_shr10 uv_shr8 uv_shr16 uv_shr24 uv_to8 uv_to8' bv_to32 bv_to32'

/-- Rows of words and of bytes, told by a function of the place. -/
def arr (n : Nat) (f : Nat → UInt32) : List Value := (List.range n).map fun j => U (f j)
def brr (n : Nat) (f : Nat → UInt8) : List Value := (List.range n).map fun j => B (f j)
def upd {α : Type} (f : Nat → α) (i : Nat) (x : α) : Nat → α := fun j => if j = i then x else f j
theorem brr_len (n : Nat) (f : Nat → UInt8) : (brr n f).length = n := by simp [brr]
theorem brr_get {n j : Nat} (f : Nat → UInt8) (h : j < n) : (brr n f)[j]? = some (B (f j)) := by simp [brr, h]
theorem brr_none {n j : Nat} (f : Nat → UInt8) (h : n ≤ j) : (brr n f)[j]? = none := by simp [brr, h]
theorem brr_one (n : Nat) (f : Nat → UInt8) : ∀ u ∈ brr n f, u.oneCell' = true := by
  intro u hu
  obtain ⟨b, _, rfl⟩ := List.mem_map.1 hu
  rfl
theorem brr_congr {n : Nat} {f g : Nat → UInt8} (h : ∀ j, j < n → f j = g j) : brr n f = brr n g := by
  unfold brr
  refine List.map_congr_left fun j hj => ?_
  rw [h j (by simpa using hj)]
theorem brr_set (n i : Nat) (f : Nat → UInt8) (x : UInt8) : (brr n f).set i (B x) = brr n (upd f i x) := by
  apply List.ext_getElem?
  intro j
  by_cases hj : j < n
  · rw [brr_get _ hj, List.getElem?_set]
    by_cases e : i = j
    · subst e
      rw [if_pos rfl, if_pos (by rw [brr_len]; exact hj)]
      simp [upd]
    · rw [if_neg e, brr_get _ hj]
      simp [upd, Ne.symm e]
  · rw [brr_none _ (by omega), List.getElem?_eq_none (by rw [List.length_set, brr_len]; omega)]

/-- A word out of four bytes; the words that a block's bytes are, and those that follow from them. -/
def ap (x : UInt32) (b : UInt8) : UInt32 := x * 256 + b.toUInt32
def wd (b : Nat → UInt8) (i : Nat) : UInt32 := ap (ap (ap (ap 0 (b (4 * i))) (b (4 * i + 1))) (b (4 * i + 2))) (b (4 * i + 3))
/-- The 64 constants of the document. -/
def ksL : List UInt32 := [
  1116352408, 1899447441, 3049323471, 3921009573, 961987163, 1508970993, 2453635748, 2870763221,
  3624381080, 310598401, 607225278, 1426881987, 1925078388, 2162078206, 2614888103, 3248222580,
  3835390401, 4022224774, 264347078, 604807628, 770255983, 1249150122, 1555081692, 1996064986,
  2554220882, 2821834349, 2952996808, 3210313671, 3336571891, 3584528711, 113926993, 338241895,
  666307205, 773529912, 1294757372, 1396182291, 1695183700, 1986661051, 2177026350, 2456956037,
  2730485921, 2820302411, 3259730800, 3345764771, 3516065817, 3600352804, 4094571909, 275423344,
  430227734, 506948616, 659060556, 883997877, 958139571, 1322822218, 1537002063, 1747873779,
  1955562222, 2024104815, 2227730452, 2361852424, 2428436474, 2756734187, 3204031479, 3329325298]
def kk (j : Nat) : UInt32 := ksL.getD j 0
/-- Eight words; what a step makes of them, and a block. -/
structure S8 where
  (a b c d e f g h : UInt32)
def S8.at (s : S8) : Nat → UInt32
  | 0 => s.a | 1 => s.b | 2 => s.c | 3 => s.d | 4 => s.e | 5 => s.f | 6 => s.g | 7 => s.h | _ => 0
/-- The eight beginnings of the document. -/
def h0 : S8 := ⟨0x6a09e667, 0xbb67ae85, 0x3c6ef372, 0xa54ff53a, 0x510e527f, 0x9b05688c, 0x1f83d9ab, 0x5be0cd19⟩
attribute [irreducible] arr brr
end Go.Proofs.YtfbfeplegdpemaaGreat
/- Words for memory: a block that is known whole, and cells in the midst of one. No conditions. -/
set_option linter.unusedVariables false
namespace Go.Proofs.YtfbfeplegdpemaaGreat
open Go.RowKit

/-- Block g is just these cells, and may be written. -/
def Row (w : World) (g : Nat) (t : TypeId) (cs : List Value) : Prop := w.heap[g]? = some (.cells cs.toArray t (0, 0))

section
variable {w w' : World} {g : Nat} {t : TypeId} {cs : List Value}
theorem Row.heap (h : Row w g t cs) : w.heap[g]? = some (.cells cs.toArray t (0, 0)) := h
theorem Row.lt (h : Row w g t cs) : g < w.heap.size := (Array.getElem?_eq_some_iff.1 h).1
theorem Row.cell (h : Row w g t cs) (i : Nat) : w.cell? ⟨g, i, none⟩ = cs[i]? := by
  have := cell_of_row w g i cs.toArray t (0, 0) h
  simpa using this
theorem Row.free (h : Row w g t cs) (i : Nat) : w.frozen? ⟨g, i, none⟩ = false := by
  have h' := h.heap
  simp [World.frozen?, h']
theorem Row.made (w : World) (t : TypeId) (cs : List Value) : Row (w.alloc (.cells cs.toArray t)) w.heap.size t cs := heap_alloc_new w _
theorem Row.drew (h : Row w g t cs) : Row w.drew g t cs := h
theorem Row.drewN (h : Row w g t cs) (n : Nat) : Row (w.drewN n) g t cs := h
theorem Row.alloc (h : Row w g t cs) (o : Obj) : Row (w.alloc o) g t cs := (Below.heap_alloc w o g h.lt).trans h
theorem Row.put (h : Row w g t cs) (i : Nat) (u : Value) : Row (w.setCell ⟨g, i, none⟩ u) g t (cs.set i u) := by
  have h' := heap_set h i u
  unfold Row
  rw [h']
  congr 2
  apply Array.ext'
  simp
theorem Row.far (h : Row w g t cs) {p : Addr} (hp : g ≠ p.block) (u : Value) : Row (w.setCell p u) g t cs := (Below.heap_setCell w p u g hp).trans h
theorem Row.below {n : Nat} (h : Row w g t cs) (hb : Below n w w') (hg : g < n) : Row w' g t cs := (hb.block g hg).trans h
theorem Row.kept (h : Row w g t cs) (hb : Below w.heap.size w w') : Row w' g t cs := (hb.block g h.lt).trans h
theorem Row.grown {row : Option Nat} (h : Row w g t cs) (hb : w.grownBy w' row) (hg : some g ≠ row) : Row w' g t cs := (hb.block g h.lt hg).trans h
theorem Row.range (h : Row w g t cs) (o n : Nat) : w.rangeAt g o ((cs.drop o).take n) := fun j v hv => by
  rw [h.cell]
  rw [List.getElem?_take] at hv
  split at hv
  · rw [List.getElem?_drop] at hv
    exact hv
  · cases hv
theorem Row.all (h : Row w g t cs) : w.rangeAt g 0 cs := fun j v hv => by
  rw [h.cell, Nat.zero_add]
  exact hv
theorem Row.is_there (h : Row w g t cs) (o n : Nat) (hn : o + n ≤ cs.length) : w.there g o n := fun j hj => ⟨by rw [h.cell, List.getElem?_eq_getElem (by omega)]; rfl, h.free _⟩
theorem Row.ne_ {g' : Nat} {t' : TypeId} {cs' : List Value} (h : Row w g t cs) (h' : Row w g' t' cs') (hne : t ≠ t') : g ≠ g' := by
  rintro rfl
  unfold Row at h h'
  rw [h] at h'
  injection h' with h'
  injection h' with _ ht
  exact hne ht
end

theorem below_drewN {n : Nat} {w w' : World} (h : Below n w w') (k : Nat) : Below n w (w'.drewN k) := ⟨h.os, h.tape, h.output, h.size, h.block⟩

section
variable {P : Program} {ops : Array Oper} {rest : List Oper} {o : Oper} {a : Act} {w : World} {Q : Exit → Act → World → Prop}
/-- A variable of a row's type, made. -/
theorem step_alloc (hgd : o.guard = none) (d : Tmp) (hd : o.dst = some d) (t : TypeId) (ho : o.op = .alloc t) (cs : List Value) (hz : ∀ w : World, (zeroValue t).run P w = .ok (.agg cs.toArray) w)
    (h : ∀ g w', Row w' g t cs → Hid (g = w.heap.size) → Below w.heap.size w w' → Hid (w'.heap.size = w.heap.size + 1) → wpList P ops Q rest (a.put o.dst (.pointer (some ⟨g, 0, none⟩))) w') : wpList P ops Q (o :: rest) a w := by
  refine wpList_plain hgd fun K hK => ?_
  unfold Oper.wp execOp
  simp only [ho]
  simp [Instr.alloc, hz, newVar, go_sem]
  exact hK _ _ (h _ _ (Row.made w t cs) (show _ = _ from rfl) ((Below.refl _ _).alloc (Nat.le_refl _) _) (show _ = _ by simp))
/-- A row's value, laid into a new variable. -/
theorem step_box (hgd : o.guard = none) (d : Tmp) (hd : o.dst = some d) (t : TypeId) (x : Operand) (ho : o.op = .box t x) (cs : List Value) (hx : a.eval x = .agg cs.toArray)
    (h : ∀ g w', Row w' g t cs → Hid (g = w.heap.size) → Below w.heap.size w w' → Hid (w'.heap.size = w.heap.size + 1) → wpList P ops Q rest (a.put o.dst (.pointer (some ⟨g, 0, none⟩))) w') : wpList P ops Q (o :: rest) a w := by
  refine wpList_plain hgd fun K hK => ?_
  unfold Oper.wp execOp
  simp only [ho, hx]
  simp [Instr.box, newVar, go_sem]
  exact hK _ _ (h _ _ (Row.made w t cs) (show _ = _ from rfl) ((Below.refl _ _).alloc (Nat.le_refl _) _) (show _ = _ by simp))
/-- A whole row, loaded. -/
theorem step_load (hgd : o.guard = none) (d : Tmp) (hd : o.dst = some d) (ty : TypeId) (x : Operand) (ho : o.op = .load ty x) (g : Nat) (hx : a.eval x = .pointer (some ⟨g, 0, none⟩)) (cs : List Value) (dd : TypeDesc)
    (hr : w.rangeAt g 0 cs) (hu : P.underlying ty = some dd) (hdd : dd.isRow = true) (hi : (P.info? ty).map (·.size) = some cs.length)
    (h : wpList P ops Q rest (a.put o.dst (.agg cs.toArray)) w) : wpList P ops Q (o :: rest) a w :=
  wpList_load_mid hgd ty x ho g 0 hx cs dd hr hu hdd hi h
/-- A struct, built out of parts. -/
theorem step_build (hgd : o.guard = none) (t : TypeId) (parts : Array (Nat × Operand)) (ho : o.op = .build t parts) (vs : List (Nat × Value)) (hv : (parts.map fun (i, x) => (i, a.eval x)).toList = vs) (cells : Array Value) (hb : P.built t vs = some cells)
    (h : wpList P ops Q rest (a.put o.dst (.agg cells)) w) : wpList P ops Q (o :: rest) a w := by
  subst hv
  refine wpList_build hgd t parts ho (by rw [hb]; rfl) ?_
  rw [hb]
  exact h
/-- A whole row, stored over one of as many cells. -/
theorem step_store (hgd : o.guard = none) (ty : TypeId) (x y : Operand) (ho : o.op = .store ty x y) (g : Nat) (hx : a.eval x = .pointer (some ⟨g, 0, none⟩)) (t : TypeId) (old cs : List Value) (hy : a.eval y = .agg cs.toArray)
    (hr : Row w g t old) (hl : old.length = cs.length) (hi : (P.info? ty).map (·.size) = some cs.length) (h1 : ∀ v ∈ cs, v.oneCell' = true)
    (h : ∀ w', Row w' g t cs → w.grownBy w' (some g) → Hid (w'.heap.size = w.heap.size) → wpList P ops Q rest (a.put o.dst undef) w') : wpList P ops Q (o :: rest) a w := by
  refine wpList_store_row hgd ty x y ho g cs.toArray hx hy t old.toArray hr (by simpa using hi) (by simpa using hl) (all_oneCell_toArray h1) ?_
  exact h _ (setRow_heap w g _ _ t _ hr) ⟨rfl, rfl, rfl, by simp, fun k hk hne => setRow_other w g k _ (fun e => hne (by rw [e]))⟩ (show _ = _ by simp)
end
section
variable {P : Program} (w : World)
end
end Go.Proofs.YtfbfeplegdpemaaGreat
/- Bytes appended one by one to a row of the call's own, the row told by a function of the place. No conditions but those named. -/
set_option linter.unusedVariables false
namespace Go.Proofs.YtfbfeplegdpemaaGreat
open Go.RowKit

theorem info_b8 : (Tryz.prog.info? 5).map (fun i => (i.zero, i.size, i.bytes)) = some (some (.int .u8 0), 1, 1) := by kernel_rfl
theorem u8_tab : ∃ i, U8 Tryz.prog 22 5 i := by
  obtain ⟨i, hi, hz, h1, h2⟩ := info_parts info_b8
  exact ⟨i, Tryz.underlying22, hi, hz, h1, h2⟩
theorem hol_byte {w : World} {g : Nat} {x : UInt8} (h : w.cell? ⟨g, 0, none⟩ = some (B x)) : Hol w (some ⟨g, 0, none⟩) [x] := by
  refine .inr ⟨g, 0, rfl, fun j y hy => ?_⟩
  match j, hy with
  | 0, hy =>
    simp at hy
    subst hy
    exact h
theorem made_byte (w : World) (e : TypeId) (v : Value) : (w.alloc (.cells #[v] e)).cell? ⟨w.heap.size, 0, none⟩ = some v := by simp

section
variable {P : Program} {w : World} {ops : Array Oper} {rest : List Oper} {o : Oper} {a : Act} {Q : Exit → Act → World → Prop} {K : Act → World → Prop} {E : Prop}
end
theorem made_brr (n : Nat) : madeCells (Value.int .u8 0).cells (n * 1) = (brr n fun _ => 0).toArray := by
  apply Array.ext'
  apply List.ext_getElem?
  intro j
  have hc : (Value.int IntKind.u8 0).cells = #[Value.int IntKind.u8 0] := rfl
  by_cases h : j < n
  · rw [brr_get _ h]
    simp [madeCells, hc, h, Nat.mod_one, bv]
  · rw [brr_none _ (by omega)]
    simp [madeCells, hc]
    omega
/-- A row of bytes 0, made. -/
theorem step_make {P : Program} {w : World} {ops : Array Oper} {rest : List Oper} {o : Oper} {a : Act} {Q : Exit → Act → World → Prop} (hg : o.guard = none) (l c : Operand) (t e : TypeId) (i : TypeInfo) (U : U8 P t e i) (hop : o.op = Op.makeSlice t l c)
    (n : Nat) (hl : a.eval l = .int .i64 n) (hc : a.eval c = .int .i64 n) (hn : n ≤ 70368744177664)
    (h : ∀ g w', _root_.Go.Proofs.YtfbfeplegdpemaaGreat.Row w' g e (brr n fun _ => 0) → Hid (g = w.heap.size) → Below w.heap.size w w' → Hid (w'.heap.size = w.heap.size + 1) → wpList P ops Q rest (a.put o.dst (.slice (some ⟨g, 0, none⟩) n n)) w') :
    wpList P ops Q (o :: rest) a w := by
  refine wpList_plain hg fun K hK' => ?_
  have hr := run_make (P := P) w t e i (.int .u8 0) U.ht U.hi U.hz .i64 .i64 n n (by omega) (Int.le_refl _) (by rw [U.h2]; omega) (by omega)
  simp only [Int.toNat_natCast, U.h1] at hr
  rw [made_brr] at hr
  unfold Oper.wp
  simp [execOp, hop, hl, hc, hr, Result.andThen]
  exact hK' _ _ (h _ _ (Row.made w e _) (show _ = _ from rfl) ((Below.refl _ _).alloc (Nat.le_refl _) _) (show _ = _ by simp))
end Go.Proofs.YtfbfeplegdpemaaGreat
/- What bytes that came in read as. No conditions. -/
set_option linter.unusedVariables false
namespace Go.Proofs.YtfbfeplegdpemaaGreat
open Go.ChangeShapes Go.WideShapes Go.ChangeAt Go.RowKit

/-- What a list of bytes that came in reads as. -/
structure InB (w : World) (a : Option Addr) (len cap : Nat) (l : List UInt8) : Prop where
  len_ : len = l.length
  hol : Hol w a l
  cap_ : len ≤ cap
  max_ : cap ≤ maxLen
theorem u8_of {z : Int} (h : (Lit.int .u8 z).wf = true) : z = ((UInt8.ofNat z.toNat).toNat : Int) := by
  have hb := bounds_u8 h
  have e : (UInt8.ofNat z.toNat).toNat = z.toNat % 256 := UInt8.toNat_ofNat' ..
  rw [e]
  omega
section
variable {H : Type} {enc : TypeId × Value → H} {W : World} {sp : Nat → Bool} {held : Bool} {base : Nat}
theorem bytes_cs {fuel : Nat} {cs : List Value} {x : DataW H × List MemPlace} (hf : DataW.trod enc Tryz.prog W base sp held fuel 22 cs = some x) : ∃ a len cap l, cs = [.slice a len cap] ∧ InB W a len cap l := by
  rcases open_ints Tryz.underlying22 Tryz.underlying5 (by kernel_rfl) hf with ⟨hcs, _⟩ | ⟨x, len, c, zs, hcs, _, hl, hm, hz, _, hcell, hwz⟩
  · exact ⟨none, 0, 0, [], hcs, rfl, .inl rfl, Nat.le_refl _, by decide⟩
  · have hzl : len ≤ zs.length := by rw [hz]; split <;> omega
    refine ⟨some x, len, c, (zs.take len).map fun z => UInt8.ofNat z.toNat, hcs, by simp; omega, ?_, hl, hm⟩
    by_cases h0 : len = 0
    · subst h0
      exact .inl rfl
    · have h1 := hcell 0 (by omega)
      obtain ⟨b, off, spot⟩ := x
      have hs : spot = none := by
        have : (Addr.add ⟨b, off, spot⟩ 0) = ⟨b, off, spot⟩ := by simp [Addr.add]
        rw [this] at h1
        exact cell_spot h1
      subst hs
      refine .inr ⟨b, off, rfl, fun j y hy => ?_⟩
      rw [List.getElem?_map] at hy
      obtain ⟨z, hz1, rfl⟩ := Option.map_eq_some_iff.1 hy
      rw [List.getElem?_take] at hz1
      split at hz1
      · have hj := (List.getElem?_eq_some_iff.1 hz1).1
        have h2 := hcell j hj
        rw [Addr.add_lit] at h2
        rw [h2]
        have hg : zs.getD j 0 = z := by simp [List.getD, hz1]
        rw [hg]
        have := u8_of (hwz z (List.mem_of_getElem? hz1))
        rw [← this]
      · cases hz1
theorem bytes_in {a : Option Addr} {len cap : Nat} {d : DataW H} {p : List MemPlace} (h : DataW.Trod enc Tryz.prog W base sp held 22 (.slice a len cap) d p) : ∃ l, InB W a len cap l := by
  obtain ⟨fuel, hf⟩ := h
  obtain ⟨a', len', cap', l, hcs, hI⟩ := bytes_cs hf
  simp [Value.cells] at hcs
  obtain ⟨rfl, rfl, rfl⟩ := hcs
  exact ⟨l, hI⟩
end
end Go.Proofs.YtfbfeplegdpemaaGreat
/- What the thirteenth stage's statements share: numbers that came in. No conditions. -/
set_option linter.unusedVariables false
set_option maxRecDepth 20000
namespace Go.Proofs.YtfbfeplegdpemaaGreat
open Go.ChangeShapes Go.WideShapes Go.ChangeAt Go.RowKit
theorem own : ownKnob Tryz.prog.godebug = none := by kernel_rfl
theorem laidOut : laidOutB Tryz.prog = true := by kernel_rfl
theorem kept_args {H : Type} {enc : TypeId × Value → H} {W : World} {b : Nat} {sp : Nat → Bool} {hd : Bool} {t : TypeId} {v : Value} {d : DataW H} {p : List MemPlace} (h : DataW.Trod enc Tryz.prog W b sp hd t v d p) : ∀ x ∈ p, x.block < W.heap.size := by
  obtain ⟨m, hm⟩ := h
  exact DataW.trod_lt m _ _ _ hm
end Go.Proofs.YtfbfeplegdpemaaGreat
/- Plain facts about numbers as bytes, the least byte first, and about going through bytes. No program is in sight here, and no conditions. -/
set_option linter.unusedVariables false
namespace Go.Proofs.YtfbfeplegdpemaaGreat

/-- How many bits a number of a size has. -/
def wid (n : Int) : Nat := if n = 8 then 64 else if n = 4 then 32 else if n = 2 then 16 else if n = 1 then 8 else 0
/-- The first k bytes of a number, the least first. -/
def leb (v : Nat) (k : Nat) : List UInt8 := (List.range k).map fun j => UInt8.ofNat (v / 256 ^ j)
theorem leb_succ (v k : Nat) : leb v (k + 1) = leb v k ++ [UInt8.ofNat (v / 256 ^ k)] := by simp [leb, List.range_succ]
theorem leb_len (v k : Nat) : (leb v k).length = k := by simp [leb]
/-- The number that bytes are. -/
def num : List UInt8 → Nat
  | [] => 0
  | b :: t => b.toNat + 256 * num t
theorem num_app (a : List UInt8) (b : UInt8) : num (a ++ [b]) = num a + 256 ^ a.length * b.toNat := by
  induction a with
  | nil => simp [num]
  | cons x t ih =>
    simp only [List.cons_append, num, ih, List.length_cons]
    rw [Nat.pow_succ, Nat.mul_add, ← Nat.mul_assoc, Nat.mul_comm 256 (256 ^ t.length)]
    omega
theorem num_lt (a : List UInt8) : num a < 256 ^ a.length := by
  induction a with
  | nil => simp [num]
  | cons x t ih =>
    have hx : x.toNat < 256 := x.toNat_lt
    simp only [num, List.length_cons, Nat.pow_succ]
    omega
theorem num_leb (v : Nat) : ∀ k, num (leb v k) = v % 256 ^ k
  | 0 => by simp [leb, num, Nat.mod_one]
  | k + 1 => by
    have e : (UInt8.ofNat (v / 256 ^ k)).toNat = v / 256 ^ k % 256 := UInt8.toNat_ofNat' ..
    rw [leb_succ, num_app, num_leb v k, leb_len, e, Nat.pow_succ, Nat.mod_mul]

/-- A byte that is set above a lesser number is added to it. -/
theorem or_join (N x k : Nat) (hN : N < 256 ^ k) (hx : x < 256) (hk : k ≤ 7) : bits .or .u64 (N : Int) (IntKind.u64.wrap ((x : Int) * 2 ^ (8 * k))) = ((N + 256 ^ k * x : Nat) : Int) := by
  have e2 : (256 : Nat) ^ k = 2 ^ (8 * k) := by rw [Nat.pow_mul]
  have hp : (2 : Nat) ^ (8 * k) ≤ 2 ^ 56 := Nat.pow_le_pow_right (by decide) (by omega)
  have h1 : 2 ^ (8 * k) * x ≤ 2 ^ 56 * 255 := Nat.mul_le_mul hp (by omega)
  have hw : IntKind.u64.wrap ((x : Int) * 2 ^ (8 * k)) = ((2 ^ (8 * k) * x : Nat) : Int) := by
    have e3 : (x : Int) * 2 ^ (8 * k) = ((2 ^ (8 * k) * x : Nat) : Int) := by
      rw [Int.natCast_mul, Int.natCast_pow, Int.mul_comm]
      rfl
    rw [e3]
    generalize 2 ^ (8 * k) * x = M at h1
    simp only [IntKind.wrap, IntKind.bits, IntKind.signed]
    simp
    omega
  rw [hw, e2]
  rw [e2] at hN
  rw [u64_or_nat N _ (by omega) (by omega), Nat.or_comm, ← Nat.two_pow_add_eq_or_of_lt hN x, Nat.add_comm]

/-- What is next, what is left, and whether it is bad then. -/
def nxt (n : Int) (l : List UInt8) (bad : Bool) : List UInt8 × List UInt8 × Bool :=
  if n < 0 ∨ (l.length : Int) < n then ([], [], true) else (l.take n.toNat, l.drop n.toNat, bad)
/-- The same for a number of a size: of a size that there isn't nothing is left. -/
def nnx (n : Int) (l : List UInt8) (bad : Bool) : List UInt8 × List UInt8 × Bool :=
  if wid n = 0 then ([], [], true) else nxt n l bad
theorem nxt_le (n : Int) (l : List UInt8) (bad : Bool) : (nxt n l bad).1.length ≤ l.length ∧ (nxt n l bad).2.1.length ≤ l.length := by
  unfold nxt
  split <;> simp
  omega
theorem nxt_one (n : Int) (l : List UInt8) (bad : Bool) (h0 : 0 ≤ n) : (nxt n l bad).1.length ≤ n.toNat := by
  unfold nxt
  split <;> simp
  omega
theorem wid_pos {n : Int} (h : wid n ≠ 0) : 1 ≤ n ∧ n ≤ 8 := by
  unfold wid at h
  repeat' split at h
  all_goals omega
theorem wid_le (n : Int) : wid n ≤ 64 := by
  unfold wid
  repeat' split
  all_goals omega
theorem wid_eq {n : Int} (h : wid n ≠ 0) : (wid n : Int) = 8 * n := by
  unfold wid at *
  repeat' split
  all_goals simp_all
end Go.Proofs.YtfbfeplegdpemaaGreat
