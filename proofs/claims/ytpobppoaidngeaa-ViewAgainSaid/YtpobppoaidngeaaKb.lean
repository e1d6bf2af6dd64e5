/- A map in memory from slots to bytes: what is looked up, laid in, cleared; its keys in order. Conditions: those named. -/
import Derived.Test.YtpobppoaidngeaaKa
import Derived.Test.YtpobppoaidngeaaIter
import Derived.Test.YtpobppoaidngeaaShelf
import Derived.Maps.OwnSet
import Derived.WalkKit
import Derived.WalkMore
set_option linter.unusedVariables false
namespace Go.Proofs.Ytpobppoaidngeaa
open Go.RowKit Go.Maps Go.Shelf

/-- Every element reads as itself. -/
def itself (v : Value) : Option (DataW Value × List MemPlace) := some (.held v, [])
def nos : Value := .slice none 0 0
/-- A number of 64 bits. -/
def I64 (a : Int) : Prop := -9223372036854775808 ≤ a ∧ a ≤ 9223372036854775807
theorem int_key : Keyed Try.prog 3 := Maps.int_keyed Try.underlying3
theorem i64_wf {a : Int} (h : I64 a) : (Lit.int .i64 a).wf = true := by
  obtain ⟨h1, h2⟩ := h
  simp [Lit.wf, IntKind.min, IntKind.max, IntKind.bits, IntKind.signed]
  omega
theorem wf_i64 {a : Int} (h : (Lit.int .i64 a).wf = true) : I64 a := by
  simp [Lit.wf, IntKind.min, IntKind.max, IntKind.bits, IntKind.signed] at h
  unfold I64
  omega
theorem key_of {a : Int} (h : I64 a) : keyOf Try.prog 3 (.int .i64 a) = some (.int .i64 a) := Maps.keyOf_int_mk Try.underlying3 (i64_wf h)
theorem key_ne {a a' : Int} (h : a ≠ a') : Lit.int .i64 a ≠ Lit.int .i64 a' := by
  intro e
  injection e with _ e
  exact h e
/-- What a key has: bytes, or none. -/
def bvo : Option BV → Value
  | some x => bvv x
  | none => .slice none 0 0
/-- Block b is a map of at most n entries, from numbers to bytes. -/
def MC (w : World) (b n : Nat) (C : Int → Option BV) : Prop :=
  ∃ D : DataW Value, w.ownsMap Try.prog 3 itself b n D ∧ (∀ a : Int, I64 a → D.atKey (.int .i64 a) (.held nos) = .held (bvo (C a)) ∧ Maps.has D (.int .i64 a) = (C a).isSome) ∧
    (∀ kl, Maps.has D kl = true → ∃ a : Int, I64 a ∧ kl = .int .i64 a) ∧ ∀ a, (C a).isSome = true → I64 a
/-- One more. -/
def upC (C : Int → Option BV) (a : Int) (x : BV) : Int → Option BV := fun a' => if a' = a then some x else C a'
theorem upC_same (C : Int → Option BV) (a : Int) (x : BV) : upC C a x a = some x := if_pos rfl
theorem upC_other (C : Int → Option BV) {a a' : Int} (x : BV) (h : a' ≠ a) : upC C a x a' = C a' := if_neg h
theorem same_self {k : Lit} (h : WideAt.IsKeyLit k) : k.sameKey k = true := by
  cases hs : k.sameKey k with
  | true => rfl
  | false =>
    have := (Maps.notKey_iff (H := Value) (k := k) (p := (k, .held nos)) h).1 (by simp [ChangeMaps.notKey, hs])
    exact absurd rfl this
theorem same_eq {x y : Int} (h : (Lit.int .i64 x).sameKey (Lit.int .i64 y) = true) : Lit.int .i64 x = Lit.int .i64 y := by
  by_cases e : Lit.int .i64 x = Lit.int .i64 y
  · exact e
  · rw [sameKey_ne e] at h
    cases h
/-- Two rows in order with the same members are one. -/
theorem lt_ext : ∀ {a b : List Int}, a.Pairwise (· < ·) → b.Pairwise (· < ·) → (∀ x, x ∈ a ↔ x ∈ b) → a = b
  | [], [], _, _, _ => rfl
  | [], y :: b, _, _, h => by have := (h y).2 (by simp); simp at this
  | x :: a, [], _, _, h => by have := (h x).1 (by simp); simp at this
  | x :: a, y :: b, ha, hb, h => by
    obtain ⟨ha1, ha2⟩ := List.pairwise_cons.1 ha
    obtain ⟨hb1, hb2⟩ := List.pairwise_cons.1 hb
    have hxy : x = y := by
      have h1 := (h x).1 (by simp)
      have h2 := (h y).2 (by simp)
      rcases List.mem_cons.1 h1 with e | h1
      · exact e
      · rcases List.mem_cons.1 h2 with e | h2
        · exact e.symm
        · have := hb1 x h1
          have := ha1 y h2
          omega
    subst hxy
    rw [lt_ext ha2 hb2]
    intro z
    constructor
    · intro hz
      have := ha1 z hz
      rcases List.mem_cons.1 ((h z).1 (by simp [hz])) with e | e
      · omega
      · exact e
    · intro hz
      have := hb1 z hz
      rcases List.mem_cons.1 ((h z).2 (by simp [hz])) with e | e
      · omega
      · exact e
section
variable {w w' : World} {b n : Nat} {C : Int → Option BV}
theorem MC.lt (h : MC w b n C) : b < w.heap.size := by obtain ⟨D, h, _⟩ := h; exact h.lt
theorem MC.grown {row : Option Nat} (h : MC w b n C) (hg : w.grownBy w' row) (hne : some b ≠ row) : MC w' b n C := by
  obtain ⟨D, h, k⟩ := h
  exact ⟨D, h.kept hg hne, k⟩
theorem MC.below (h : MC w b n C) (hb : Below w.heap.size w w') : MC w' b n C := h.grown (row := none) (grown_of_below hb) (by simp)
theorem MC.chg {F : List Nat} (h : MC w b n C) (hc : Chg F w w') (hn : b ∉ F) : MC w' b n C := by
  have hlt := h.lt
  obtain ⟨D, ⟨es, clock, hb, r⟩, k⟩ := h
  exact ⟨D, ⟨es, clock, (hc.block b hlt hn).trans hb, r⟩, k⟩
theorem MC.mono (h : MC w b n C) {n' : Nat} (hn : n ≤ n') : MC w b n' C := by
  obtain ⟨D, h, k⟩ := h
  exact ⟨D, h.mono hn, k⟩
theorem MC.i64 (h : MC w b n C) {a : Int} (ha : (C a).isSome = true) : I64 a := by
  obtain ⟨D, h, _, _, k⟩ := h
  exact k a ha
theorem MC.made (w : World) : MC (w.alloc (.map #[] 0)) w.heap.size 0 fun _ => none :=
  ⟨_, World.ownsMap_made w _ _ _, fun a ha => ⟨rfl, rfl⟩, (fun kl h => by cases h), fun a h => by cases h⟩
theorem MC.no_cells (h : MC w b n C) : ∀ cs t fr, w.heap[b]? ≠ some (.cells cs t fr) := by
  obtain ⟨D, ⟨es, clock, hb, r⟩, k⟩ := h
  intro cs t fr e
  rw [hb] at e
  cases e
theorem bytes_zero (w : World) : (zeroValue 44).run Try.prog w = .ok nos w := by kernel_rfl
theorem MC.look (h : MC w b n C) {a : Int} (ha : I64 a) : (Instr.lookup 53 (.map (some b)) (.int .i64 a) false).run Try.prog w = .ok (bvo (C a)) w := by
  obtain ⟨D, h, k, _⟩ := h
  obtain ⟨v, ps, hrun, hv⟩ := h.lookup int_key Try.underlying53 (bytes_zero w) (zd := .held nos) (zp := []) rfl (key_of ha)
  rw [(k a ha).1] at hv
  simp only [itself, Option.some.injEq, Prod.mk.injEq, DataW.held.injEq] at hv
  rw [hrun, hv.1]
theorem MC.look_ok (h : MC w b n C) {a : Int} (ha : I64 a) : (Instr.lookup 53 (.map (some b)) (.int .i64 a) true).run Try.prog w = .ok (.tuple #[bvo (C a), .bool (C a).isSome]) w := by
  obtain ⟨D, h, k, _⟩ := h
  obtain ⟨v, ps, hrun, hv⟩ := h.look_ok int_key Try.underlying53 (bytes_zero w) (zd := .held nos) (zp := []) rfl (key_of ha)
  rw [(k a ha).1] at hv
  simp only [itself, Option.some.injEq, Prod.mk.injEq, DataW.held.injEq] at hv
  rw [hrun, hv.1, (k a ha).2]
theorem MC.put (h : MC w b n C) {a : Int} (ha : I64 a) (hn : n < maxLen) (x : BV) :
    ∃ w', (Instr.mapUpdate 53 (.map (some b)) (.int .i64 a) (bvv x)).run Try.prog w = .ok () w' ∧ MC w' b (n + 1) (upC C a x) ∧ w.grownBy w' (some b) := by
  obtain ⟨D, h, k, q, r⟩ := h
  obtain ⟨w', hrun, hown, hg⟩ := h.update int_key Try.underlying53 hn (key_of ha) (val := bvv x) (d := .held (bvv x)) (ps := []) rfl
  have hm := h.isMap
  have hkey := int_key.key (key_of ha)
  refine ⟨w', hrun, ⟨_, hown, fun a' ha' => ?_, fun kl hkl => ?_, fun a' ha' => ?_⟩, hg⟩
  · by_cases hes : a' = a
    · subst hes
      rw [atKey_put_same hm hkey, has_put_same hm hkey, upC_same]
      exact ⟨rfl, rfl⟩
    · rw [atKey_put_other (key_ne hes), has_put_other (key_ne hes), upC_other _ _ hes]
      exact k a' ha'
  · by_cases e : kl = .int .i64 a
    · exact ⟨a, ha, e⟩
    · rw [has_put_other e] at hkl
      exact q kl hkl
  · by_cases hes : a' = a
    · subst hes
      exact ha
    · rw [upC_other _ _ hes] at ha'
      exact r a' ha'
theorem MC.clear_ (h : MC w b n C) (ty : TypeId) : ∃ w', (Builtin.clear_ #[53] ty #[.map (some b)]).run Try.prog w = .ok (.tuple #[]) w' ∧ MC w' b 0 (fun _ => none) ∧ w.grownBy w' (some b) := by
  obtain ⟨D, ⟨es, clock, hb, F, hs, hD⟩, k, q⟩ := h
  have hlt : b < w.heap.size := (Array.getElem?_eq_some_iff.1 hb).1
  refine ⟨ChangeMaps.setBlock w b (.map #[] clock), ?_, ⟨.map [], ⟨#[], clock, (MapKept.heap_set hb).1, ⟨by simp, MapKept.stamped_empty _, by simp⟩, Nat.le_refl _, rfl⟩, fun a ha => ⟨rfl, rfl⟩, (fun kl h => by cases h), fun a h => by cases h⟩, ?_⟩
  · simp [Builtin.clear_, run_underlying Try.underlying53, MapKept.run_getObj_map hb, MapKept.run_setObj_map _ hb, Result.andThen]
    rfl
  · exact ⟨rfl, rfl, rfl, by simp [ChangeMaps.setBlock], fun j hj hne => (MapKept.heap_set hb).2 j (fun e => hne (by rw [e]))⟩
/-- The keys, in order. -/
structure Keys (C : Int → Option BV) (n : Nat) (ks : List Int) : Prop where
  lt : ks.Pairwise (· < ·)
  mem : ∀ z, z ∈ ks ↔ (C z).isSome = true
  le : ks.length ≤ n
def kcs (z : Int) : List Value := [.int .i64 z]
theorem kcs_len (z : Int) : (kcs z).length = 1 := rfl
theorem kcs_flat (l : List Int) : l.flatMap kcs = l.map (Value.int .i64) := by
  induction l with
  | nil => rfl
  | cons a t ih => rw [List.flatMap_cons, List.map_cons, ih]; rfl
/-- slices.Sort's two contracts. -/
theorem sorts_in (m : Nat) : AnyZI.SortsIn Try.prog Try.sorted30_ren Fence.wide m :=
  ⟨fun blk off cap ss W hH hblk hsz => callsIn_wide.2 (Try.slices_Sort_int blk off cap ss W hH hblk hsz),
   fun p cap W => callsIn_wide.2 (Try.slices_Sort_int_none p cap W)⟩
/-- maps.Keys. -/
theorem keys_call (mb : Option Nat) (W : World) : Calls Try.prog 31 #[.map mb] W fun e w' => e = .returned (.func (.func 37) #[] #[.pointer (some ⟨W.heap.size, 0, none⟩)]) ∧ w' = W.alloc (.cells #[.map mb] 53) :=
  callsIn_wide.1 (AnyZI.keys_in Try.keys31 Fence.wide 5 trivial rfl mb W)
/-- Sorted of what Keys handed back. -/
def SortedKeys (C : Int → Option BV) (n : Nat) (w : World) (e : Ending) (w' : World) : Prop := ∃ ks A c, e = .returned (.slice A ks.length c) ∧ Hid (Keys C n ks) ∧ Hid (w'.ownsRow w.heap.size 3 1 (.slice A ks.length c) ks.length (ks.flatMap kcs)) ∧ Hid (Below w.heap.size w w')
set_option maxHeartbeats 1000000 in
theorem MC.sorted (h : MC w b n C) (hn : n ≤ 1000000) : Calls Try.prog 30 #[.func (.func 37) #[] #[.pointer (some ⟨w.heap.size, 0, none⟩)]] (w.alloc (.cells #[.map (some b)] 53)) (SortedKeys C n (w.alloc (.cells #[.map (some b)] 53))) := by
  obtain ⟨D, hown, k, q, r⟩ := h
  have hbl := hown.lt
  have hle := hown.size_le
  obtain ⟨es, hD, hpw, hkk⟩ := hown.entries int_key
  subst hD
  rw [size_eq] at hle
  have hnum : ∀ p ∈ es, ∃ a : Int, I64 a ∧ p.1 = .int .i64 a := fun p hp => q p.1 (by rw [has_eq]; exact List.any_eq_true.2 ⟨p, hp, same_self (hkk p hp)⟩)
  have hnd0 : (es.map fun p => Go.intOf p.1).Nodup := by
    refine List.pairwise_map.2 (hpw.imp_of_mem fun {p q} hp' hq' hne e => hne ?_)
    obtain ⟨a, _, ha⟩ := hnum p hp'
    obtain ⟨c, _, hc⟩ := hnum q hq'
    rw [ha, hc] at e ⊢
    simp only [Go.intOf] at e
    rw [e]
  have hseq : SeqGives Fence.wide 2 Try.prog 37 #[.pointer (some ⟨w.heap.size, 0, none⟩)] encZ (fun ss => ss.Perm (intKeys (.map es))) (Maps.size (.map es)) (w.alloc (.cells #[.map (some b)] 53)) :=
    AnyZI.keys_gives (ρ := Try.keys31_ren) { Try.keys31 with } Fence.wide _ trivial rfl (by omega) w.heap.size b n (.map es) _ (by simp) (by simp) (by
      obtain ⟨es', clock, hb, Ft, hs, hD⟩ := hown
      exact ⟨es', clock, (Below.heap_alloc _ _ b hbl).trans hb, Ft, hs, hD⟩)
  have hS := AnyZI.sorted_in Try.sorted30 Fence.wide 5 trivial trivial trivial trivial rfl (by omega) (sorts_in _) (enters_of Try.func36 (by kernel_rfl) rfl) 37 #[.pointer (some ⟨w.heap.size, 0, none⟩)] trivial (enters_of Try.func37 (by kernel_rfl) rfl) _ _ (by rw [size_eq]; unfold maxLen; omega) (by rw [size_eq]; omega) _ hseq
  refine (callsIn_wide.1 hS).mono ?_
  rintro e w' ⟨v, ss, rfl, hp, hrow, _, hb⟩
  obtain ⟨ks, hks⟩ : ∃ ks, ss.mergeSort (fun x y => decide (x ≤ y)) = ks := ⟨_, rfl⟩
  have hperm : ks.Perm (es.map fun p => Go.intOf p.1) := by rw [← hks]; exact (List.mergeSort_perm ss _).trans hp
  have hK : Keys C n ks := by
    refine ⟨?_, fun x => ?_, ?_⟩
    · have h1 : ks.Pairwise (fun x y => decide (x ≤ y) = true) := by rw [← hks]; exact List.pairwise_mergeSort (fun a b c h1 h2 => by simp only [decide_eq_true_eq] at *; omega) (fun a b => by simp only [Bool.or_eq_true, decide_eq_true_eq]; omega) ss
      have hnd : ks.Nodup := hperm.nodup_iff.2 hnd0
      refine List.Pairwise.imp ?_ (h1.and hnd)
      rintro a c ⟨h2, h3⟩
      simp only [decide_eq_true_eq] at h2
      omega
    · rw [hperm.mem_iff]
      constructor
      · intro hx
        obtain ⟨p, hp', rfl⟩ := List.mem_map.1 hx
        obtain ⟨a, ha, e⟩ := hnum p hp'
        have e2 : Go.intOf p.1 = a := by rw [e]; rfl
        rw [e2, ← (k a ha).2, has_eq, ← e]
        exact List.any_eq_true.2 ⟨p, hp', same_self (hkk p hp')⟩
      · intro h1
        rw [← (k x (r x h1)).2, has_eq] at h1
        obtain ⟨p, hp', h2⟩ := List.any_eq_true.1 h1
        obtain ⟨c, _, hc⟩ := hnum p hp'
        refine List.mem_map.2 ⟨p, hp', ?_⟩
        rw [hc] at h2 ⊢
        have := same_eq h2
        injection this with _ this
    · rw [hperm.length_eq, List.length_map]
      exact hle
  rw [hks] at hrow
  have hl2 : ss.length = ks.length := by rw [← hks, List.length_mergeSort]
  rw [hl2] at hrow
  have hrow2 : w'.ownsRow (w.alloc (.cells #[.map (some b)] 53)).heap.size 3 1 v ks.length (ks.flatMap kcs) := by rw [kcs_flat]; exact hrow
  obtain ⟨A, c, rfl⟩ := own_sl hrow2
  exact ⟨ks, A, c, rfl, Lib.hid hK, Lib.hid hrow2, Lib.hid hb⟩
end
end Go.Proofs.Ytpobppoaidngeaa
