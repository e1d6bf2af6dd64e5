/- A map in memory from slots to bytes: what is looked up, laid in, cleared; its keys in order. Conditions: those named. -/
import Derived.Test.YtfbfeplegdpemaaGreatMgRBy
import Derived.Test.YtfbfeplegdpemaaGreatIter
import Derived.Test.YtfbfeplegdpemaaGreatShelf
import Derived.Maps.OwnSet
import Derived.WalkKit
import Derived.WalkMore
import Derived.BigQuiet
import Derived.Deep.QuietTactic
import Derived.RegionTactic
import Derived.ChangeAlike
import Derived.BigRegion
import Derived.StillTailTactics
import Derived.WalkLawsBesides
import Derived.Carry
import Derived.Deep.RegionHeld3
set_option linter.unusedVariables false
namespace Go.Proofs.YtfbfeplegdpemaaGreat
open Go.RowKit Go.Maps Go.Shelf

/-- Every element reads as itself. -/
def itself (v : Value) : Option (DataW Value × List MemPlace) := some (.held v, [])
def nos : Value := .slice none 0 0
/-- A number of 64 bits. -/
def I64 (a : Int) : Prop := -9223372036854775808 ≤ a ∧ a ≤ 9223372036854775807
theorem int_key : Keyed Tryz.prog 3 := Maps.int_keyed Tryz.underlying3
theorem i64_wf {a : Int} (h : I64 a) : (Lit.int .i64 a).wf = true := by
  obtain ⟨h1, h2⟩ := h
  simp [Lit.wf, IntKind.min, IntKind.max, IntKind.bits, IntKind.signed]
  omega
theorem key_of {a : Int} (h : I64 a) : keyOf Tryz.prog 3 (.int .i64 a) = some (.int .i64 a) := Maps.keyOf_int_mk Tryz.underlying3 (i64_wf h)
theorem key_ne {a a' : Int} (h : a ≠ a') : Lit.int .i64 a ≠ Lit.int .i64 a' := by
  intro e
  injection e with _ e
  exact h e
/-- What a key has: bytes, or none. -/
def bvo : Option BV → Value
  | some x => bvv x
  | none => .slice none 0 0
/-- Block b is a map of at most n entries, from numbers to bytes. -/
def MC (w : World) (b n : Nat) (C : Int → Option BV) : Prop :=
  ∃ D : DataW Value, w.ownsMap Tryz.prog 3 itself b n D ∧ (∀ a : Int, I64 a → D.atKey (.int .i64 a) (.held nos) = .held (bvo (C a)) ∧ Maps.has D (.int .i64 a) = (C a).isSome) ∧
    (∀ kl, Maps.has D kl = true → ∃ a : Int, I64 a ∧ kl = .int .i64 a) ∧ ∀ a, (C a).isSome = true → I64 a
/-- One more. -/
def upC (C : Int → Option BV) (a : Int) (x : BV) : Int → Option BV := fun a' => if a' = a then some x else C a'
theorem upC_same (C : Int → Option BV) (a : Int) (x : BV) : upC C a x a = some x := if_pos rfl
theorem upC_other (C : Int → Option BV) {a a' : Int} (x : BV) (h : a' ≠ a) : upC C a x a' = C a' := if_neg h
theorem same_self {k : Lit} (h : WideAt.IsKeyLit k) : k.sameKey k = true := by
  cases hs : k.sameKey k with
  | true => rfl
  | false =>
    have := (Maps.notKey_iff (H := Value) (k := k) (p := (k, .held nos)) h).1 (by simp [ChangeMaps.notKey, hs])
    exact absurd rfl this
theorem same_eq {x y : Int} (h : (Lit.int .i64 x).sameKey (Lit.int .i64 y) = true) : Lit.int .i64 x = Lit.int .i64 y := by
  by_cases e : Lit.int .i64 x = Lit.int .i64 y
  · exact e
  · rw [sameKey_ne e] at h
    cases h
section
variable {w w' : World} {b n : Nat} {C : Int → Option BV}
theorem MC.lt (h : MC w b n C) : b < w.heap.size := by obtain ⟨D, h, _⟩ := h; exact h.lt
theorem MC.grown {row : Option Nat} (h : MC w b n C) (hg : w.grownBy w' row) (hne : some b ≠ row) : MC w' b n C := by
  obtain ⟨D, h, k⟩ := h
  exact ⟨D, h.kept hg hne, k⟩
theorem MC.below (h : MC w b n C) (hb : Below w.heap.size w w') : MC w' b n C := h.grown (row := none) (grown_of_below hb) (by simp)
theorem MC.chg {F : List Nat} (h : MC w b n C) (hc : Chg F w w') (hn : b ∉ F) : MC w' b n C := by
  have hlt := h.lt
  obtain ⟨D, ⟨es, clock, hb, r⟩, k⟩ := h
  exact ⟨D, ⟨es, clock, (hc.block b hlt hn).trans hb, r⟩, k⟩
theorem MC.mono (h : MC w b n C) {n' : Nat} (hn : n ≤ n') : MC w b n' C := by
  obtain ⟨D, h, k⟩ := h
  exact ⟨D, h.mono hn, k⟩
theorem MC.i64 (h : MC w b n C) {a : Int} (ha : (C a).isSome = true) : I64 a := by
  obtain ⟨D, h, _, _, k⟩ := h
  exact k a ha
theorem MC.made (w : World) : MC (w.alloc (.map #[] 0)) w.heap.size 0 fun _ => none :=
  ⟨_, World.ownsMap_made w _ _ _, fun a ha => ⟨rfl, rfl⟩, (fun kl h => by cases h), fun a h => by cases h⟩
theorem MC.no_cells (h : MC w b n C) : ∀ cs t fr, w.heap[b]? ≠ some (.cells cs t fr) := by
  obtain ⟨D, ⟨es, clock, hb, r⟩, k⟩ := h
  intro cs t fr e
  rw [hb] at e
  cases e
theorem bytes_zero (w : World) : (zeroValue 22).run Tryz.prog w = .ok nos w := by kernel_rfl
theorem MC.look (h : MC w b n C) {a : Int} (ha : I64 a) : (Instr.lookup 78 (.map (some b)) (.int .i64 a) false).run Tryz.prog w = .ok (bvo (C a)) w := by
  obtain ⟨D, h, k, _⟩ := h
  obtain ⟨v, ps, hrun, hv⟩ := h.lookup int_key Tryz.underlying78 (bytes_zero w) (zd := .held nos) (zp := []) rfl (key_of ha)
  rw [(k a ha).1] at hv
  simp only [itself, Option.some.injEq, Prod.mk.injEq, DataW.held.injEq] at hv
  rw [hrun, hv.1]
theorem MC.look_ok (h : MC w b n C) {a : Int} (ha : I64 a) : (Instr.lookup 78 (.map (some b)) (.int .i64 a) true).run Tryz.prog w = .ok (.tuple #[bvo (C a), .bool (C a).isSome]) w := by
  obtain ⟨D, h, k, _⟩ := h
  obtain ⟨v, ps, hrun, hv⟩ := h.look_ok int_key Tryz.underlying78 (bytes_zero w) (zd := .held nos) (zp := []) rfl (key_of ha)
  rw [(k a ha).1] at hv
  simp only [itself, Option.some.injEq, Prod.mk.injEq, DataW.held.injEq] at hv
  rw [hrun, hv.1, (k a ha).2]
theorem MC.put (h : MC w b n C) {a : Int} (ha : I64 a) (hn : n < maxLen) (x : BV) :
    ∃ w', (Instr.mapUpdate 78 (.map (some b)) (.int .i64 a) (bvv x)).run Tryz.prog w = .ok () w' ∧ MC w' b (n + 1) (upC C a x) ∧ w.grownBy w' (some b) := by
  obtain ⟨D, h, k, q, r⟩ := h
  obtain ⟨w', hrun, hown, hg⟩ := h.update int_key Tryz.underlying78 hn (key_of ha) (val := bvv x) (d := .held (bvv x)) (ps := []) rfl
  have hm := h.isMap
  have hkey := int_key.key (key_of ha)
  refine ⟨w', hrun, ⟨_, hown, fun a' ha' => ?_, fun kl hkl => ?_, fun a' ha' => ?_⟩, hg⟩
  · by_cases hes : a' = a
    · subst hes
      rw [atKey_put_same hm hkey, has_put_same hm hkey, upC_same]
      exact ⟨rfl, rfl⟩
    · rw [atKey_put_other (key_ne hes), has_put_other (key_ne hes), upC_other _ _ hes]
      exact k a' ha'
  · by_cases e : kl = .int .i64 a
    · exact ⟨a, ha, e⟩
    · rw [has_put_other e] at hkl
      exact q kl hkl
  · by_cases hes : a' = a
    · subst hes
      exact ha
    · rw [upC_other _ _ hes] at ha'
      exact r a' ha'
theorem MC.clear_ (h : MC w b n C) (ty : TypeId) : ∃ w', (Builtin.clear_ #[78] ty #[.map (some b)]).run Tryz.prog w = .ok (.tuple #[]) w' ∧ MC w' b 0 (fun _ => none) ∧ w.grownBy w' (some b) := by
  obtain ⟨D, ⟨es, clock, hb, F, hs, hD⟩, k, q⟩ := h
  have hlt : b < w.heap.size := (Array.getElem?_eq_some_iff.1 hb).1
  refine ⟨ChangeMaps.setBlock w b (.map #[] clock), ?_, ⟨.map [], ⟨#[], clock, (MapKept.heap_set hb).1, ⟨by simp, MapKept.stamped_empty _, by simp⟩, Nat.le_refl _, rfl⟩, fun a ha => ⟨rfl, rfl⟩, (fun kl h => by cases h), fun a h => by cases h⟩, ?_⟩
  · simp [Builtin.clear_, run_underlying Tryz.underlying78, MapKept.run_getObj_map hb, MapKept.run_setObj_map _ hb, Result.andThen]
    rfl
  · exact ⟨rfl, rfl, rfl, by simp [ChangeMaps.setBlock], fun j hj hne => (MapKept.heap_set hb).2 j (fun e => hne (by rw [e]))⟩
/-- The keys, in order. -/
structure Keys (C : Int → Option BV) (n : Nat) (ks : List Int) : Prop where
  lt : ks.Pairwise (· < ·)
  mem : ∀ z, z ∈ ks ↔ (C z).isSome = true
  le : ks.length ≤ n
def kcs (z : Int) : List Value := [.int .i64 z]
theorem kcs_len (z : Int) : (kcs z).length = 1 := rfl
theorem kcs_flat (l : List Int) : l.flatMap kcs = l.map (Value.int .i64) := by
  induction l with
  | nil => rfl
  | cons a t ih => rw [List.flatMap_cons, List.map_cons, ih]; rfl
/-- slices.Sort's two contracts. -/
theorem sorts_in (m : Nat) : AnyZI.SortsIn Tryz.prog Tryz.sortedA_ren Fence.wide m :=
  ⟨fun blk off cap ss W hH hblk hsz => callsIn_wide.2 (Tryz.slices_Sort_int blk off cap ss W hH hblk hsz),
   fun p cap W => callsIn_wide.2 (Tryz.slices_Sort_int_none p cap W)⟩
/-- maps.Keys. -/
theorem keys_call (mb : Option Nat) (W : World) : Calls Tryz.prog 66 #[.map mb] W fun e w' => e = .returned (.func (.func 95) #[] #[.pointer (some ⟨W.heap.size, 0, none⟩)]) ∧ w' = W.alloc (.cells #[.map mb] 78) :=
  callsIn_wide.1 (AnyZI.keys_in Tryz.keysA Fence.wide 5 trivial rfl mb W)
/-- Sorted of what Keys handed back. -/
def SortedKeys (C : Int → Option BV) (n : Nat) (w : World) (e : Ending) (w' : World) : Prop := ∃ ks A c, e = .returned (.slice A ks.length c) ∧ Hid (Keys C n ks) ∧ Hid (w'.ownsRow w.heap.size 3 1 (.slice A ks.length c) ks.length (ks.flatMap kcs)) ∧ Hid (Below w.heap.size w w')
set_option maxHeartbeats 1000000 in
theorem MC.sorted (h : MC w b n C) (hn : n ≤ 1000000) : Calls Tryz.prog 65 #[.func (.func 95) #[] #[.pointer (some ⟨w.heap.size, 0, none⟩)]] (w.alloc (.cells #[.map (some b)] 78)) (SortedKeys C n (w.alloc (.cells #[.map (some b)] 78))) := by
  obtain ⟨D, hown, k, q, r⟩ := h
  have hbl := hown.lt
  have hle := hown.size_le
  obtain ⟨es, hD, hpw, hkk⟩ := hown.entries int_key
  subst hD
  rw [size_eq] at hle
  have hnum : ∀ p ∈ es, ∃ a : Int, I64 a ∧ p.1 = .int .i64 a := fun p hp => q p.1 (by rw [has_eq]; exact List.any_eq_true.2 ⟨p, hp, same_self (hkk p hp)⟩)
  have hnd0 : (es.map fun p => Go.intOf p.1).Nodup := by
    refine List.pairwise_map.2 (hpw.imp_of_mem fun {p q} hp' hq' hne e => hne ?_)
    obtain ⟨a, _, ha⟩ := hnum p hp'
    obtain ⟨c, _, hc⟩ := hnum q hq'
    rw [ha, hc] at e ⊢
    simp only [Go.intOf] at e
    rw [e]
  have hseq : SeqGives Fence.wide 2 Tryz.prog 95 #[.pointer (some ⟨w.heap.size, 0, none⟩)] encZ (fun ss => ss.Perm (intKeys (.map es))) (Maps.size (.map es)) (w.alloc (.cells #[.map (some b)] 78)) :=
    AnyZI.keys_gives (ρ := Tryz.keysA_ren) { Tryz.keysA with } Fence.wide _ trivial rfl (by omega) w.heap.size b n (.map es) _ (by simp) (by simp) (by
      obtain ⟨es', clock, hb, Ft, hs, hD⟩ := hown
      exact ⟨es', clock, (Below.heap_alloc _ _ b hbl).trans hb, Ft, hs, hD⟩)
  have hS := AnyZI.sorted_in Tryz.sortedA Fence.wide 5 trivial trivial trivial trivial rfl (by omega) (sorts_in _) (enters_of Tryz.func94 (by kernel_rfl) rfl) 95 #[.pointer (some ⟨w.heap.size, 0, none⟩)] trivial (enters_of Tryz.func95 (by kernel_rfl) rfl) _ _ (by rw [size_eq]; unfold maxLen; omega) (by rw [size_eq]; omega) _ hseq
  refine (callsIn_wide.1 hS).mono ?_
  rintro e w' ⟨v, ss, rfl, hp, hrow, _, hb⟩
  obtain ⟨ks, hks⟩ : ∃ ks, ss.mergeSort (fun x y => decide (x ≤ y)) = ks := ⟨_, rfl⟩
  have hperm : ks.Perm (es.map fun p => Go.intOf p.1) := by rw [← hks]; exact (List.mergeSort_perm ss _).trans hp
  have hK : Keys C n ks := by
    refine ⟨?_, fun x => ?_, ?_⟩
    · have h1 : ks.Pairwise (fun x y => decide (x ≤ y) = true) := by rw [← hks]; exact List.pairwise_mergeSort (fun a b c h1 h2 => by simp only [decide_eq_true_eq] at *; omega) (fun a b => by simp only [Bool.or_eq_true, decide_eq_true_eq]; omega) ss
      have hnd : ks.Nodup := hperm.nodup_iff.2 hnd0
      refine List.Pairwise.imp ?_ (h1.and hnd)
      rintro a c ⟨h2, h3⟩
      simp only [decide_eq_true_eq] at h2
      omega
    · rw [hperm.mem_iff]
      constructor
      · intro hx
        obtain ⟨p, hp', rfl⟩ := List.mem_map.1 hx
        obtain ⟨a, ha, e⟩ := hnum p hp'
        have e2 : Go.intOf p.1 = a := by rw [e]; rfl
        rw [e2, ← (k a ha).2, has_eq, ← e]
        exact List.any_eq_true.2 ⟨p, hp', same_self (hkk p hp')⟩
      · intro h1
        rw [← (k x (r x h1)).2, has_eq] at h1
        obtain ⟨p, hp', h2⟩ := List.any_eq_true.1 h1
        obtain ⟨c, _, hc⟩ := hnum p hp'
        refine List.mem_map.2 ⟨p, hp', ?_⟩
        rw [hc] at h2 ⊢
        have := same_eq h2
        injection this with _ this
    · rw [hperm.length_eq, List.length_map]
      exact hle
  rw [hks] at hrow
  have hl2 : ss.length = ks.length := by rw [← hks, List.length_mergeSort]
  rw [hl2] at hrow
  have hrow2 : w'.ownsRow (w.alloc (.cells #[.map (some b)] 78)).heap.size 3 1 v ks.length (ks.flatMap kcs) := by rw [kcs_flat]; exact hrow
  obtain ⟨A, c, rfl⟩ := own_sl hrow2
  exact ⟨ks, A, c, rfl, Lib.hid hK, Lib.hid hrow2, Lib.hid hb⟩
end
end Go.Proofs.YtfbfeplegdpemaaGreat
/- A source and a view as they lie; what a source tells; what a view sees. Conditions: those named. -/
set_option linter.unusedVariables false
set_option maxRecDepth 20000
namespace Go.Proofs.YtfbfeplegdpemaaGreat
open Go.RowKit

theorem below_al (w : World) (o : Obj) : Below w.heap.size w (w.alloc o) := (Below.refl _ _).alloc (Nat.le_refl _) _
/-- Records that lie in blocks below b. -/
def LiesB {α : Type} (f : α → List Value) (k b : Nat) (w : World) (A : Option Addr) (xs : List α) : Prop := Lies f k w A xs ∧ (xs = [] ∨ ∀ ad, A = some ad → ad.block < b)
/-- Bytes that lie in a block below b. -/
def HolB (b : Nat) (w : World) (A : Option Addr) (l : List UInt8) : Prop := Hol w A l ∧ (l = [] ∨ ∀ ad, A = some ad → ad.block < b)
section
variable {α : Type} {f : α → List Value} {k b : Nat} {w w' : World} {A : Option Addr} {xs : List α} {l : List UInt8}
theorem LiesB.keep (h : LiesB f k b w A xs) (hb : Below b w w') : LiesB f k b w' A xs := by
  refine ⟨?_, h.2⟩
  rcases h with ⟨rfl | ⟨g, o, rfl, hc⟩, h2⟩
  · exact .inl rfl
  · rcases h2 with rfl | h2
    · exact .inl rfl
    · exact .inr ⟨g, o, rfl, fun j x hx i u hu => (hb.cell (p := ⟨g, o + j * k + i, none⟩) (h2 ⟨g, o, none⟩ rfl)).trans (hc j x hx i u hu)⟩
theorem HolB.keep (h : HolB b w A l) (hb : Below b w w') : HolB b w' A l := by
  refine ⟨?_, h.2⟩
  rcases h with ⟨rfl | ⟨g, o, rfl, hc⟩, h2⟩
  · exact .inl rfl
  · rcases h2 with rfl | h2
    · exact .inl rfl
    · exact .inr ⟨g, o, rfl, fun j x hx => (hb.cell (p := ⟨g, o + j, none⟩) (h2 ⟨g, o, none⟩ rfl)).trans (hc j x hx)⟩
theorem LiesB.mono {b' : Nat} (h : LiesB f k b w A xs) (hb : b ≤ b') : LiesB f k b' w A xs := ⟨h.1, h.2.imp id fun h ad e => Nat.lt_of_lt_of_le (h ad e) hb⟩
theorem HolB.mono {b' : Nat} (h : HolB b w A l) (hb : b ≤ b') : HolB b' w A l := ⟨h.1, h.2.imp id fun h ad e => Nat.lt_of_lt_of_le (h ad e) hb⟩
theorem LiesB.all (hk : ∀ x, 0 < (f x).length) (h : Lies f k w A xs) : LiesB f k w.heap.size w A xs := by
  refine ⟨h, ?_⟩
  rcases h with rfl | ⟨g, o, rfl, hc⟩
  · exact .inl rfl
  · cases xs with
    | nil => exact .inl rfl
    | cons x t =>
      refine .inr fun ad e => ?_
      injection e with e
      subst e
      exact World.block_lt_of_cell? w ⟨g, o + 0 * k + 0, none⟩ (hc 0 x rfl 0 _ (List.getElem?_eq_getElem (hk x)))
theorem HolB.all (h : Hol w A l) : HolB w.heap.size w A l := by
  refine ⟨h, ?_⟩
  rcases h with rfl | ⟨g, o, rfl, hc⟩
  · exact .inl rfl
  · cases l with
    | nil => exact .inl rfl
    | cons x t =>
      refine .inr fun ad e => ?_
      injection e with e
      subst e
      exact World.block_lt_of_cell? w ⟨g, o + 0, none⟩ (hc 0 x rfl)
end
/-- A volume: blocks, all in blocks below b. -/
structure Src (b : Nat) (w : World) (gs : Nat) (Bs : List BV) : Prop where
  lt : gs < b
  c0 : ∃ A c, w.cell? ⟨gs, 0, none⟩ = some (.slice A Bs.length c) ∧ LiesB sc 1 b w A Bs
  hol : ∀ x ∈ Bs, HolB b w x.A x.l
  len : ∀ x ∈ Bs, x.l.length = 256
  lim : Bs.length ≤ 300
/-- What it tells. -/
def srcF (Bs : List BV) (a : Int) : Option BV := if 0 ≤ a then Bs[a.toNat]? else none
theorem Src.keep {b : Nat} {w w' : World} {gs : Nat} {Bs : List BV} (h : Src b w gs Bs) (hb : Below b w w') : Src b w' gs Bs := by
  obtain ⟨A, c, h1, h2⟩ := h.c0
  exact ⟨h.lt, ⟨A, c, (hb.cell (p := ⟨gs, 0, none⟩) h.lt).trans h1, h2.keep hb⟩, fun x hx => (h.hol x hx).keep hb, h.len, h.lim⟩
theorem Src.mono {b b' : Nat} {w : World} {gs : Nat} {Bs : List BV} (h : Src b w gs Bs) (hb : b ≤ b') : Src b' w gs Bs := by
  obtain ⟨A, c, h1, h2⟩ := h.c0
  exact ⟨Nat.lt_of_lt_of_le h.lt hb, ⟨A, c, h1, h2.mono hb⟩, fun x hx => (h.hol x hx).mono hb, h.len, h.lim⟩
theorem src_neg {Bs : List BV} {a : Int} (h : a < 0) : srcF Bs a = none := if_neg (by omega)
theorem src_nat {Bs : List BV} {a : Nat} : srcF Bs (a : Int) = Bs[a]? := by
  unfold srcF
  rw [Int.toNat_natCast, if_pos (by omega)]
theorem src_mem {Bs : List BV} {a : Int} {x : BV} (h : srcF Bs a = some x) : x ∈ Bs := by
  unfold srcF at h
  split at h
  · exact List.mem_of_getElem? h
  · cases h
theorem get_any {b : Nat} {w : World} {gs : Nat} {Bs : List BV} (h : Src b w gs Bs) (a : Int) :
    Calls Tryz.prog 10 #[.pointer (some ⟨gs, 0, none⟩), .int .i64 a] w fun e w' => e = .returned (.tuple #[bvo (srcF Bs a), .bool (srcF Bs a).isSome]) ∧ w = w' := by
  obtain ⟨A, c, h0, hA⟩ := h.c0
  obtain ⟨n, hn⟩ : ∃ n, Bs.length = n := ⟨_, rfl⟩
  have hlim : n ≤ 300 := by rw [← hn]; exact h.lim
  rw [hn] at h0
  by_cases ha : a < 0
  · rw [src_neg ha]
    clear hA h
    go_enter Tryz.func10, Tryz.ntmps10
    go_wp2
    go_ret2
    exact ⟨rfl, rfl⟩
  · obtain ⟨m, rfl⟩ := Int.eq_ofNat_of_zero_le (by omega : 0 ≤ a)
    by_cases hm : m < n
    · have hmi : (m : Int) < (n : Int) := by omega
      have hmi2 : ¬ (n : Int) ≤ (m : Int) := by omega
      obtain ⟨g, o, rfl, hc⟩ := hA.1.at_ (j := m) (by omega)
      have cx := hc 0 _ rfl
      obtain ⟨x, hx⟩ : ∃ x, Bs[m]'(by omega) = x := ⟨_, rfl⟩
      rw [hx] at cx
      have hxs : Bs[m]? = some x := by rw [← hx]; exact List.getElem?_eq_getElem _
      clear hx hc hA h
      simp only [Nat.mul_one, Nat.add_zero] at cx
      unfold bvv at cx
      rw [src_nat, hxs]
      clear hxs ha hm
      go_enter Tryz.func10, Tryz.ntmps10
      go_wp2
      go_ret2
      exact ⟨rfl, rfl⟩
    · have hmi2 : (n : Int) ≤ (m : Int) := by omega
      rw [src_nat, List.getElem?_eq_none (by omega)]
      clear hA h ha hm
      go_enter Tryz.func10, Tryz.ntmps10
      go_wp2
      go_ret2
      exact ⟨rfl, rfl⟩

/-- Bytes cloned. -/
theorem clone8 (x : BV) (w : World) (hx : Hol w x.A x.l) (hl : x.l.length ≤ 131072) :
    Calls Tryz.prog 59 #[.slice x.A x.l.length x.c] w fun e w' => ∃ y : BV, e = .returned (.slice y.A y.l.length y.c) ∧ Hid (y.l = x.l) ∧ Hid (Own8 w.heap.size w' y) ∧ Hid (Below w.heap.size w w') := by
  obtain ⟨i, U⟩ := u8_tab
  have hnil : ∀ (w : World) (a : Option Addr) (n c : Nat), (binOp .eql 22 (.slice a n c) (.slice none 0 0)).run Tryz.prog w = .ok (.bool a.isNone) w := fun w a n c => Lib.run_eql_slice_nil w _ _ a n c 0 0 Tryz.underlying22
  obtain ⟨A, c, l⟩ := x
  have HL := Lib.hid hl
  have HH := Lib.hid hx
  cases A with
  | none =>
    have h0 : l = [] := by
      rcases hx with h | ⟨g, o, h, _⟩
      · exact h
      · cases h
    subst h0
    clear hx hl
    go_enter Tryz.func59, Tryz.ntmps59
    go_wp2
    go_ret
    exact ⟨noBV, rfl, Lib.hid rfl, Lib.hid (Own8.none_ _ _), Lib.hid (Below.refl _ _)⟩
  | some ad =>
    clear hx hl
    go_enter Tryz.func59, Tryz.ntmps59
    go_wp2_with (first
      | (at_builtin; refine wpList_app _ rfl _ _ _ rfl 5 i U w.heap.size (.slice (some ⟨w.heap.size, 0, none⟩) 0 0) 0 [] rfl (void_own w _ 1 _ (Nat.le_refl _)) _ l.length c l rfl rfl (HH.out.below ((Below.refl _ _).alloc (Nat.le_refl _) _)) (by have h9 : l.length ≤ 131072 := HL.out; omega) (by simp) ?_
         intro v2' w2 hown2 hg2 hat2
         rw [List.nil_append, Nat.zero_add] at hown2
         obtain ⟨Ax, cx, rfl⟩ := own_sl hown2
         have hb2 : Below w.heap.size w w2 := ((Below.refl _ _).alloc (Nat.le_refl _) _).grown hg2 (by simp) (fun q hq => by have h0 : some w.heap.size = some q := hq; injection h0 with h0; omega)
         have HX2 := Lib.hid hown2
         have HB2 := Lib.hid hb2
         clear hown2 hg2 hat2 hb2))
    go_ret
    exact ⟨⟨Ax, cx, l⟩, rfl, Lib.hid rfl, HX2, HB2⟩
end Go.Proofs.YtfbfeplegdpemaaGreat
/- A view as it lies: what it sees, wants, and what is put. Conditions: the view lies there, over a source. -/
set_option linter.unusedVariables false
set_option maxRecDepth 20000
namespace Go.Proofs.YtfbfeplegdpemaaGreat
open Go.RowKit

/-- A source's Get, as a value. -/
def getV (gs : Nat) : Value := .func (.func 10) #[.pointer (some ⟨gs, 0, none⟩)] #[]
def vcs (gs gm : Nat) (rp : Option Addr) : List Value := [getV gs, .map (some gm), .pointer rp]
/-- A view, in blocks from b on. -/
structure VV (b : Nat) (w : World) (gv gm gs : Nat) (rp : Option Addr) (n : Nat) (C : Int → Option BV) : Prop where
  row : Row w gv 81 (vcs gs gm rp)
  map : MC w gm n C
  own : ∀ a x, C a = some x → Own8 b w x
  len : ∀ a x, C a = some x → x.l.length ≤ 131072
  lo : b ≤ gv ∧ b ≤ gm
section
variable {b : Nat} {w w' : World} {gv gm gs : Nat} {rp : Option Addr} {n : Nat} {C : Int → Option BV} {Bs : List BV}
theorem VV.c0 (h : VV b w gv gm gs rp n C) : w.cell? ⟨gv, 0, none⟩ = some (getV gs) := (h.row.cell 0).trans rfl
theorem VV.c1 (h : VV b w gv gm gs rp n C) : w.cell? ⟨gv, 1, none⟩ = some (.map (some gm)) := (h.row.cell 1).trans rfl
theorem VV.c2 (h : VV b w gv gm gs rp n C) : w.cell? ⟨gv, 2, none⟩ = some (.pointer rp) := (h.row.cell 2).trans rfl
theorem VV.ne (h : VV b w gv gm gs rp n C) : gv ≠ gm := fun e => h.map.no_cells _ _ _ (e ▸ h.row.heap)
theorem VV.keep {F : List Nat} (h : VV b w gv gm gs rp n C) (hc : Chg F w w') (h1 : gv ∉ F) (h2 : gm ∉ F) (h3 : ∀ a x k, C a = some x → (bvv x).ownBlock = some k → k ∉ F) : VV b w' gv gm gs rp n C :=
  ⟨hc.row h.row h1, h.map.chg hc h2, fun a x hx => Chg.own (h.own a x hx) hc (fun k hk => h3 a x k hx hk), h.len, h.lo⟩
theorem VV.below (h : VV b w gv gm gs rp n C) (hb : Below w.heap.size w w') : VV b w' gv gm gs rp n C := h.keep (Chg.of (F := []) hb) (by simp) (by simp) (by simp)
theorem VV.below' {F : List Nat} (h : VV b w gv gm gs rp n C) (hc : Chg F w w') (hF : ∀ x ∈ F, w.heap.size ≤ x) : VV b w' gv gm gs rp n C :=
  h.keep hc (fun hx => by have := hF _ hx; have := h.row.lt; omega) (fun hx => by have := hF _ hx; have := h.map.lt; omega) (fun a x k hx hk hf => by have := hF _ hf; have := ((h.own a x hx).lt k hk).2; omega)
/-- What a view sees. -/
def seeF (C S : Int → Option BV) (a : Int) : Option BV := match C a with | some x => some x | none => S a
theorem fn_nil (fn : Fn) (a c : Array Value) (w : World) : (binOp .eql 30 (.func fn a c) .nilFunc).run Tryz.prog w = .ok (.bool false) w := by kernel_rfl
theorem vsees (h : VV b w gv gm gs rp n C) (hs : Src b w gs Bs) (a : Int) (ha : I64 a) :
    Calls Tryz.prog 110 #[.pointer (some ⟨gv, 0, none⟩), .int .i64 a] w fun e w' => e = .returned (.tuple #[bvo (seeF C (srcF Bs) a), .bool (seeF C (srcF Bs) a).isSome]) ∧ w = w' := by
  have c0 := h.c0
  have c1 := h.c1
  have hl := h.map.look_ok ha
  have hfn := fn_nil
  unfold getV at c0
  cases hC : C a with
  | some x =>
    have e1 : seeF C (srcF Bs) a = some x := by unfold seeF; rw [hC]
    rw [e1]
    rw [hC] at hl
    clear hC e1 h hs
    go_enter Tryz.func110, Tryz.ntmps110
    go_wp2
    go_ret2
    exact ⟨rfl, rfl⟩
  | none =>
    have e1 : seeF C (srcF Bs) a = srcF Bs a := by unfold seeF; rw [hC]
    rw [e1]
    rw [hC] at hl
    have HG := Lib.hid (get_any hs a)
    clear hC e1 h hs
    go_enter Tryz.func110, Tryz.ntmps110
    go_wp2_with (go_at_call 10; refine HG.out.mono ?_; rintro e w4 ⟨rfl, rfl⟩)
    go_ret2
    exact ⟨rfl, rfl⟩
/-- A run gives up. -/
def runE (r : Nat) : Ending := .panicked [{ v := .iface 79 (.pointer (some ⟨r, 0, none⟩)), recovered := false }]
def rcs (x : Bool) (a : Int) : List Value := [.bool x, .int .i64 a]
/-- A slot that is seen: bytes of the call's own. -/
def SeeP (w : World) (l : List UInt8) (e : Ending) (w' : World) : Prop := ∃ y : BV, e = .returned (.slice y.A y.l.length y.c) ∧ Hid (y.l = l) ∧ Hid (Own8 w.heap.size w' y) ∧ Hid (Below w.heap.size w w')
theorem see_hol (h : VV b w gv gm gs rp n C) (hs : Src b w gs Bs) {a : Int} {x : BV} (hx : seeF C (srcF Bs) a = some x) : Hol w x.A x.l ∧ x.l.length ≤ 131072 := by
  unfold seeF at hx
  split at hx
  · rename_i y hy
    obtain rfl : y = x := by injection hx
    exact ⟨(h.own a y hy).hol, h.len a y hy⟩
  · exact ⟨(hs.hol x (src_mem hx)).1, by rw [hs.len x (src_mem hx)]; decide⟩
theorem vsee (h : VV b w gv gm gs rp n C) (hs : Src b w gs Bs) (a : Int) (ha : I64 a) (x : BV) (hx : seeF C (srcF Bs) a = some x) :
    Calls Tryz.prog 81 #[.pointer (some ⟨gv, 0, none⟩), .int .i64 a] w (SeeP w x.l) := by
  have HS := Lib.hid (vsees h hs a ha)
  obtain ⟨h1, h2⟩ := see_hol h hs hx
  have HC := Lib.hid (clone8 x w h1 h2)
  rw [hx] at HS
  clear h hs hx h1 h2
  go_enter Tryz.func81, Tryz.ntmps81
  go_wp2_with (first
    | (go_at_call 110; refine HS.out.mono ?_; rintro e w4 ⟨rfl, rfl⟩)
    | (go_at_call 59; refine HC.out.mono ?_; rintro e w5 ⟨y, rfl, hy, ho, hb⟩))
  go_ret
  exact ⟨y, rfl, hy, ho, hb⟩
end
end Go.Proofs.YtfbfeplegdpemaaGreat
/- A view: what is put; a new one. Conditions: the view lies there, over a source. -/
set_option linter.unusedVariables false
set_option maxRecDepth 20000
namespace Go.Proofs.YtfbfeplegdpemaaGreat
open Go.RowKit

section
variable {b : Nat} {w w' : World} {gv gm gs : Nat} {rp : Option Addr} {n : Nat} {C : Int → Option BV} {Bs : List BV}
/-- What is put. -/
def PutP (b : Nat) (w : World) (gv gm gs : Nat) (rp : Option Addr) (n : Nat) (C : Int → Option BV) (a : Int) (l : List UInt8) (e : Ending) (w' : World) : Prop :=
  e = .returned (.tuple #[]) ∧ ∃ y : BV, Hid (y.l = l) ∧ Hid (∀ k, (bvv y).ownBlock = some k → w.heap.size ≤ k) ∧ Hid (VV b w' gv gm gs rp (n + 1) (upC C a y)) ∧ Hid (Chg [gm] w w')
theorem own_ge {b : Nat} {w : World} {x : BV} (h : Own8 b w x) : ∀ k, (bvv x).ownBlock = some k → b ≤ k := fun k hk => (h.lt k hk).1
theorem vput (h : VV b w gv gm gs rp n C) (hb : b ≤ w.heap.size) (x : BV) (hx : Hol w x.A x.l) (hl : x.l.length ≤ 131072) (a : Int) (ha : I64 a) (hn : n ≤ 1000000) :
    Calls Tryz.prog 24 #[.pointer (some ⟨gv, 0, none⟩), .int .i64 a, .slice x.A x.l.length x.c] w (PutP b w gv gm gs rp n C a x.l) := by
  have c1 := h.c1
  have HC := Lib.hid (clone8 x w.drew hx hl)
  have fin : ∀ (y : BV) (w4 : World), y.l = x.l → Own8 w.heap.size w4 y → Below w.heap.size w w4 →
      ∃ w5, (Instr.mapUpdate 78 (.map (some gm)) (.int .i64 a) (bvv y)).run Tryz.prog w4 = .ok () w5 ∧ PutP b w gv gm gs rp n C a x.l (.returned (.tuple #[])) w5 := fun y w4 hy ho hb4 => by
    have h4 := h.below hb4
    obtain ⟨w5, r5, m5, g5⟩ := h4.map.put ha (by unfold maxLen; omega) y
    have c5 : Chg [gm] w4 w5 := (Chg.refl _ _).grown g5 (fun k hk => by injection hk with hk; subst hk; exact .inl (List.mem_singleton.2 rfl))
    have n5 : NoBytes w4 [gm] := fun j hj cs fr => by rw [List.mem_singleton] at hj; subst hj; exact h4.map.no_cells _ _ _
    refine ⟨w5, r5, rfl, y, Lib.hid hy, Lib.hid (own_ge ho), Lib.hid ⟨c5.row h4.row (fun hx => h.ne (List.mem_singleton.1 hx)), m5, fun a' x' hx' => ?_, fun a' x' hx' => ?_, h.lo⟩, Lib.hid ((Chg.of (F := [gm]) hb4).trans c5 (fun j hj => .inl hj))⟩
    · by_cases e : a' = a
      · subst e
        rw [upC_same] at hx'
        injection hx' with hx'
        subst hx'
        exact (ho.chg c5 n5).lower hb
      · rw [upC_other _ _ e] at hx'
        exact (h4.own a' x' hx').chg c5 n5
    · by_cases e : a' = a
      · subst e
        rw [upC_same] at hx'
        injection hx' with hx'
        subst hx'
        rw [hy]
        exact hl
      · rw [upC_other _ _ e] at hx'
        exact h.len a' x' hx'
  have FIN := Lib.hid fin
  have HLT := Lib.hid h.row.lt
  clear h fin hx hl ha hn hb
  go_enter Tryz.func24, Tryz.ntmps24
  go_wp2
  refine wp_region_held_drew (S := fun W => W.cell? ⟨gv, 1, none⟩ = some (.map (some gm))) (by kernel_rfl) c1 (fun hHeld => ?_)
  refine wpAnyH_take (i := 0) (oi := ⟨some 6, .move (.tmp 0), _, _, _, _⟩) (v := .pointer (some ⟨gv, 0, none⟩)) rfl (by kernel_rfl) (by kernel_rfl) (by kernel_rfl) (fun _ _ _ h => h) (.inl ⟨by rfl, fun w hSw => by go_simp⟩) (by assumption) ?_
  simp only [Act.put, List.setIfInBounds_toArray, List.set_cons_zero, List.set_cons_succ]
  refine wpAnyH_take (i := 1) (oi := ⟨some 7, .nilCheck (.tmp 6), _, _, _, _⟩) (v := .pointer (some ⟨gv, 0, none⟩)) rfl (by kernel_rfl) (by kernel_rfl) (by kernel_rfl) (fun _ _ _ h => h) (.inl ⟨by rfl, fun w hSw => by go_simp⟩) (by assumption) ?_
  simp only [Act.put, List.setIfInBounds_toArray, List.set_cons_zero, List.set_cons_succ]
  refine wpAnyH_take (i := 2) (oi := ⟨some 8, .fieldAddr 81 (.tmp 7) 1, _, _, _, _⟩) (v := .pointer (some ⟨gv, 1, none⟩)) rfl (by kernel_rfl) (by kernel_rfl) (by kernel_rfl) (fun _ _ _ h => h) (.inl ⟨by rfl, fun w hSw => by go_simp⟩) (by assumption) ?_
  simp only [Act.put, List.setIfInBounds_toArray, List.set_cons_zero, List.set_cons_succ]
  refine wpAnyH_take (i := 3) (oi := ⟨some 9, .load 78 (.tmp 8), _, _, _, _⟩) (v := .map (some gm)) rfl (by kernel_rfl) (by kernel_rfl) (by kernel_rfl) (fun _ _ _ h => h) (.inl ⟨by rfl, fun w hSw => by have z := hSw; go_simp⟩) (by assumption) ?_
  simp only [Act.put, List.setIfInBounds_toArray, List.set_cons_zero, List.set_cons_succ]
  refine wpAnyH_take (i := 4) (oi := ⟨some 10, .move (.tmp 1), _, _, _, _⟩) (v := .int .i64 a) rfl (by kernel_rfl) (by kernel_rfl) (by kernel_rfl) (fun _ _ _ h => h) (.inl ⟨by rfl, fun w hSw => by go_simp⟩) (by assumption) ?_
  simp only [Act.put, List.setIfInBounds_toArray, List.set_cons_zero, List.set_cons_succ]
  refine wpAnyH_take (i := 5) (oi := ⟨some 11, .move (.tmp 2), _, _, _, _⟩) (v := .slice x.A x.l.length x.c) rfl (by kernel_rfl) (by kernel_rfl) (by kernel_rfl) (fun _ _ _ h => h) (.inl ⟨by rfl, fun w hSw => by go_simp⟩) (by assumption) ?_
  simp only [Act.put, List.setIfInBounds_toArray, List.set_cons_zero, List.set_cons_succ]
  refine wpAnyH_ready (rs := [6]) (by kernel_rfl) (by simp) ?_
  refine AllReadyH.cons (o := ⟨some 12, .call ⟨.value (.func 59), #[.tmp 11], _⟩, _, _, _, _⟩) rfl (fun K hK => ?_) AllReadyH.nil
  go_simp
  go_at_call 59
  refine HC.out.mono ?_
  rintro e w4 ⟨y, rfl, hy, ho, hb4⟩
  have hb5 : Below w.heap.size w w4 := (below_drw w).trans hb4.out
  obtain ⟨w5, r5, hp⟩ := FIN.out y w4 hy.out ho.out hb5
  unfold bvv at r5
  have HP := Lib.hid hp
  have c4 : w4.cell? ⟨gv, 1, none⟩ = some (.map (some gm)) := ((hb5.cell (p := ⟨gv, 1, none⟩) HLT.out).trans c1)
  clear hp hy ho hb4 hb5
  refine hK.out _ _ c4 (fun hH4 => ?_)
  clear hK K
  refine wpAnyH_ready (rs := [7]) (by kernel_rfl) (by simp) ?_
  refine AllReadyH.cons (o := ⟨none, .mapUpdate 78 (.tmp 9) (.tmp 10) (.tmp 12), _, _, _, _⟩) rfl (fun K hK => ?_) AllReadyH.nil
  have c5 : w5.cell? ⟨gv, 1, none⟩ = some (.map (some gm)) := by obtain ⟨_, y', _, _, hv, _⟩ := HP.out; exact hv.out.c1
  go_simp
  refine hK.out _ _ c5 (fun hH5 => ?_)
  clear hK K
  refine wpAnyH_done (by kernel_rfl) ?_ _
  go_end0
  exact HP.out
/-- A new view. -/
theorem built_view (gs gm : Nat) : Tryz.prog.built 81 [(0, getV gs), (1, .map (some gm))] = some (vcs gs gm none).toArray := by kernel_rfl
theorem vnew (gs : Nat) (w : World) : Calls Tryz.prog 9 #[getV gs] w fun e w' => ∃ gv gm, e = .returned (.pointer (some ⟨gv, 0, none⟩)) ∧ Hid (VV w.heap.size w' gv gm gs none 0 fun _ => none) ∧ Hid (Below w.heap.size w w') := by
  obtain ⟨gV, hV⟩ : ∃ gV, getV gs = gV := ⟨_, rfl⟩
  have HB := Lib.hid (p := ∀ gm, Tryz.prog.built 81 [(0, gV), (1, .map (some gm))] = some (vcs gs gm none).toArray) (fun gm => by rw [← hV]; exact built_view gs gm)
  rw [hV]
  clear hV
  have hmm := @run_makeMap Tryz.prog
  go_enter Tryz.func9, Tryz.ntmps9
  go_wp2_with (first
    | (refine step_build rfl 81 _ rfl [(0, gV), (1, .map (some w.heap.size))] ?hv _ (HB.out _) ?_; case hv => (simp [Act.eval, Act.put]))
    | (refine step_box rfl 6 rfl 81 _ rfl _ rfl ?_; intro g3 w1 hr1 hg1 hb1 hs1; have HR1 := Lib.hid hr1; have HB1 := Lib.hid hb1; have HG1 := Lib.hid (p := w.heap.size ≤ g3) (by rw [hg1.out]; simp); clear hr1 hb1 hg1 hs1))
  go_ret
  refine ⟨g3, w.heap.size, rfl, Lib.hid ⟨HR1.out, (MC.made w).below HB1.out, (fun a x h => by cases h), (fun a x h => by cases h), HG1.out, Nat.le_refl _⟩, Lib.hid (below_nxt HB1.out (below_al w _))⟩
end
end Go.Proofs.YtfbfeplegdpemaaGreat
