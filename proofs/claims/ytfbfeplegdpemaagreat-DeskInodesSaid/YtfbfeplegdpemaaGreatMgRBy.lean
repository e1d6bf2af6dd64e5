/- The reference's comparison of bytes: what each call leaves. Conditions: those named. -/
import Derived.Test.YtfbfeplegdpemaaGreatMgMem
import Derived.BigQuiet
import Derived.Deep.QuietTactic
import Derived.Laws.CopyOwn
import Derived.Deep.RegionLaw
import Derived.Deep.AppendLies
import Derived.Lib.SliceRun
set_option linter.unusedVariables false
namespace Go.Proofs.YtfbfeplegdpemaaGreat
open Go.RowKit

set_option maxHeartbeats 400000 in
theorem rbytes_any (A B : Option Addr) (c d : Nat) (a b : List UInt8) (w : World) (hA : Hol w A a) (hB : Hol w B b) (ha : a.length ≤ 9223372036854775807) (hb : b.length ≤ 9223372036854775807) :
    Calls Tryz.prog 63 #[.slice A a.length c, .slice B b.length d] w fun e w' => e = .returned (.bool (decide (a = b))) ∧ Below w.heap.size w w' := by
  by_cases hl : a.length = b.length
  · generalize hR : decide (a = b) = R
    have HR := Lib.hid hR
    clear hR
    have hn : ((a.length : Int) != (b.length : Int)) = false := by rw [bne_eq_false_iff_eq]; omega
    generalize hbn : b.length = n at *
    have HL := Lib.hid hl
    have HB := Lib.hid hbn
    clear hl hbn
    have hn2 : (a.length : Int) ≤ (n : Int) := by have := HL.out; omega
    have hn3 : a.length ≤ n := by have := HL.out; omega
    go_enter Tryz.func63, Tryz.ntmps63
    go_wp2
    go_loopw [5] (fun i wr => ∃ k : Nat, k ≤ a.length ∧ i = .int .i64 k ∧ Hid (a.take k = b.take k) ∧ ∃ q, wr = w.drewN q) (fun i _ => a.length - (intOf i).toNat)
    case atStart => exact ⟨0, Nat.zero_le _, rfl, Lib.hid (by simp), 0, rfl⟩
    case round =>
      obtain ⟨k, hk, rfl, htk, q, rfl⟩ := hrel
      by_cases hlt : k < a.length
      · have hltb : k < b.length := by have := HL.out; have := HB.out; omega
        obtain ⟨g, o, rfl, _, hc1⟩ := hA.at_ hlt
        obtain ⟨g2, o2, rfl, _, hc2⟩ := hB.at_ hltb
        obtain ⟨x, hx⟩ : ∃ x, a[k] = x := ⟨_, rfl⟩
        obtain ⟨y, hy⟩ : ∃ y, b[k] = y := ⟨_, rfl⟩
        rw [hx] at hc1
        rw [hy] at hc2
        have HX := Lib.hid hx
        have HY := Lib.hid hy
        clear hx hy
        have hkz : (k : Int) < (a.length : Int) := by omega
        have hkz2 : (k : Int) < (n : Int) := by omega
        by_cases hxy : x = y
        · subst hxy
          have htk2 : Hid (a.take (k + 1) = b.take (k + 1)) := by
            refine Lib.hid ?_
            rw [List.take_succ_eq_append_getElem hlt, List.take_succ_eq_append_getElem hltb, htk.out, HX.out, HY.out]
          go_wp2_with fail
          go_quiet (fail)
          go_wp2
          go_roundw
          case rel =>
            exact ⟨k + 1, by omega, by go_num, htk2, _, rfl⟩
          case measure => simp [intOf]; omega
        · have hR : R = false := by
            rw [← HR.out]
            apply decide_eq_false
            intro e
            apply hxy
            subst e
            rw [← HX.out, ← HY.out]
          subst hR
          have hne : ((x.toNat : Int) != (y.toNat : Int)) = true := by
            rw [bne_iff_ne]
            intro e
            exact hxy (UInt8.toNat_inj.1 (by omega))
          clear hxy
          go_wp2_with fail
          go_quiet (fail)
          go_wp2
          go_ret
          exact ⟨rfl, below_drewN (below_drewN (Below.refl _ _) _) _⟩
      · have hR : R = true := by
          rw [← HR.out]
          apply decide_eq_true
          have := htk.out
          rw [List.take_of_length_le (by omega), List.take_of_length_le (by have := HL.out; have := HB.out; omega)] at this
          exact this
        subst hR
        go_wp2
        go_ret
        exact ⟨rfl, below_drewN (Below.refl _ _) _⟩
  · have hR : decide (a = b) = false := by
      apply decide_eq_false
      intro e
      exact hl (by rw [e])
    rw [hR]
    have hn : ((a.length : Int) != (b.length : Int)) = true := by rw [bne_iff_ne]; omega
    clear hl hR
    go_enter Tryz.func63, Tryz.ntmps63
    go_wp2
    go_ret
    exact ⟨rfl, Below.refl _ _⟩

end Go.Proofs.YtfbfeplegdpemaaGreat
/- Words for memory: a world that has new blocks and is else as it was, with nothing frozen anew. No conditions. -/
set_option linter.unusedVariables false
namespace Go.Proofs.YtfbfeplegdpemaaGreat
open Go.RowKit

/-- Behind the call there are new blocks; all else is as it was. -/
structure Calm (w w' : World) : Prop where
  below : Below w.heap.size w w'
  thaw : ∀ a, w'.frozen? a = w.frozen? a
theorem Calm.refl (w : World) : Calm w w := ⟨Below.refl _ _, fun _ => rfl⟩
theorem Calm.size {w w' : World} (h : Calm w w') : w.heap.size ≤ w'.heap.size := h.below.size
theorem Calm.trans {a b c : World} (h : Calm a b) (k : Calm b c) : Calm a c := ⟨h.below.trans (k.below.mono h.size), fun x => (k.thaw x).trans (h.thaw x)⟩
theorem Calm.grown {w w' : World} (h : Calm w w') : Grown w w' := ⟨h.below.frame _, h.thaw, h.size⟩
theorem Calm.drew {a w : World} (h : Calm a w) : Calm a w.drew := ⟨h.below.drew, h.thaw⟩
theorem Calm.drewN {a w : World} (h : Calm a w) (k : Nat) : Calm a (w.drewN k) := ⟨below_drewN h.below k, h.thaw⟩
theorem Calm.setCell {a w : World} (h : Calm a w) {p : Addr} (hp : a.heap.size ≤ p.block) (u : Value) : Calm a (w.setCell p u) := ⟨h.below.setCell hp u, fun x => (World.frozen?_setCell _ _ _ _).trans (h.thaw x)⟩
theorem Calm.alloc {a w : World} (h : Calm a w) (c : Array Value) (t : TypeId) : Calm a (w.alloc (.cells c t)) := ⟨h.below.alloc h.size _, fun x => (frozen?_alloc_cells _ _ _ x).trans (h.thaw x)⟩
theorem Calm.of {a w w' : World} (h : Calm a w) (k : Hid (Calm w w')) : Calm a w' := h.trans k.out
theorem frozen_setRow (w : World) (g : Nat) (cells : Array Value) (t : TypeId) (old : Array Value) (hg : w.heap[g]? = some (.cells old t (0, 0))) (a : Addr) : (w.setRow g cells).frozen? a = w.frozen? a := by
  by_cases h : a.block = g
  · have h1 := setRow_heap w g old cells t (0, 0) hg
    unfold World.frozen?
    rw [h, h1, hg]
  · have h1 := setRow_other w g a.block cells h
    unfold World.frozen?
    rw [h1]

/-- Behind the call there are new blocks, and block g may have been written; all else is as it was. -/
structure Upon (g : Nat) (w w' : World) : Prop where
  by_ : w.grownBy w' (some g)
  thaw : ∀ a, w'.frozen? a = w.frozen? a
theorem Upon.refl (g : Nat) (w : World) : Upon g w w := ⟨⟨rfl, rfl, rfl, Nat.le_refl _, fun _ _ _ => rfl⟩, fun _ => rfl⟩
theorem Upon.size {g : Nat} {w w' : World} (h : Upon g w w') : w.heap.size ≤ w'.heap.size := h.by_.size
theorem Upon.trans {g : Nat} {a b c : World} (h : Upon g a b) (k : Upon g b c) : Upon g a c :=
  ⟨⟨k.by_.os.trans h.by_.os, k.by_.tape.trans h.by_.tape, k.by_.output.trans h.by_.output, Nat.le_trans h.size k.size, fun i hi hne => (k.by_.block i (Nat.lt_of_lt_of_le hi h.size) hne).trans (h.by_.block i hi hne)⟩, fun x => (k.thaw x).trans (h.thaw x)⟩
theorem Upon.put {g : Nat} {w w' : World} (h : Upon g w w') {p : Addr} (hp : p.block = g) (u : Value) : Upon g w (w'.setCell p u) :=
  h.trans ⟨⟨rfl, rfl, rfl, by simp [World.setCell], fun k _ hne => Below.heap_setCell _ _ _ _ (fun e => hne (by rw [e, hp]))⟩, fun x => World.frozen?_setCell _ _ _ _⟩
theorem Upon.far {g : Nat} {w w' : World} (h : Upon g w w') {p : Addr} (hp : w.heap.size ≤ p.block) (u : Value) : Upon g w (w'.setCell p u) :=
  ⟨⟨h.by_.os, h.by_.tape, h.by_.output, Nat.le_trans h.size (by simp [World.setCell]), fun k hk hne => (Below.heap_setCell _ _ _ _ (by omega)).trans (h.by_.block k hk hne)⟩, fun x => (World.frozen?_setCell _ _ _ _).trans (h.thaw x)⟩
theorem Upon.drew {g : Nat} {w w' : World} (h : Upon g w w') : Upon g w w'.drew := ⟨⟨h.by_.os, h.by_.tape, h.by_.output, h.by_.size, h.by_.block⟩, h.thaw⟩
theorem Upon.drewN {g : Nat} {w w' : World} (h : Upon g w w') (n : Nat) : Upon g w (w'.drewN n) := ⟨⟨h.by_.os, h.by_.tape, h.by_.output, h.by_.size, h.by_.block⟩, h.thaw⟩
section
variable {P : Program} {ops : Array Oper} {rest : List Oper} {o : Oper} {a : Act} {w : World} {Q : Exit → Act → World → Prop}
end
end Go.Proofs.YtfbfeplegdpemaaGreat
/- Rows of the call's own, as they stay. Conditions: those named. -/
set_option linter.unusedVariables false
namespace Go.Proofs.YtfbfeplegdpemaaGreat
open Go.RowKit

theorem own_kept {w w' : World} {base : Nat} {e : TypeId} {size n : Nat} {v : Value} {xs : List Value} (h : w.ownsRow base e size v n xs) (hb : Below w.heap.size w w') : w'.ownsRow base e size v n xs := by
  refine h.kept (grown_of_below (row := some w.heap.size) hb) ?_
  cases hv : v.ownBlock with
  | none => exact .inl rfl
  | some k =>
    refine .inr (fun e => ?_)
    injection e with e
    have := (h.lt k hv).2
    omega
theorem own_sl {w : World} {base : Nat} {e : TypeId} {size n : Nat} {v : Value} {xs : List Value} (h : w.ownsRow base e size v n xs) : ∃ A c, v = .slice A n c := by
  rcases h.2 with ⟨rfl, rfl⟩ | ⟨g, cap, cur, rfl, _⟩
  · exact ⟨none, 0, rfl⟩
  · exact ⟨_, _, rfl⟩
end Go.Proofs.YtfbfeplegdpemaaGreat
/- Bytes copied into a row of the call's own, the row told by a function of the place. No conditions but those named. -/
set_option linter.unusedVariables false
namespace Go.Proofs.YtfbfeplegdpemaaGreat
open Go.RowKit

/-- Bytes laid over others from a place on. -/
def ov (o : Nat) (l : List UInt8) (f : Nat → UInt8) : Nat → UInt8 := fun j => if o ≤ j ∧ j < o + l.length then l.getD (j - o) 0 else f j
theorem ov_in {o : Nat} {l : List UInt8} {f : Nat → UInt8} {j : Nat} (h : o ≤ j) (h2 : j < o + l.length) : ov o l f j = l.getD (j - o) 0 := if_pos ⟨h, h2⟩
theorem ov_out {o : Nat} {l : List UInt8} {f : Nat → UInt8} {j : Nat} (h : ¬ (o ≤ j ∧ j < o + l.length)) : ov o l f j = f j := if_neg h
theorem ov_brr (n o : Nat) (l : List UInt8) (f : Nat → UInt8) (h : o + l.length ≤ n) : (brr n f).take o ++ (bc l ++ (brr n f).drop (o + l.length)) = brr n (ov o l f) := by
  apply List.ext_getElem?
  intro j
  by_cases h1 : j < o
  · rw [List.getElem?_append_left (by rw [List.length_take, brr_len]; omega), List.getElem?_take, if_pos h1, brr_get f (by omega), brr_get _ (by omega), ov_out (by omega)]
  · rw [List.getElem?_append_right (by rw [List.length_take, brr_len]; omega), List.length_take, brr_len]
    rw [show j - min o n = j - o by omega]
    by_cases h2 : j < o + l.length
    · rw [List.getElem?_append_left (by rw [bc_len]; omega), get_bc (List.getElem?_eq_getElem (by omega)), brr_get _ (by omega), ov_in (by omega) h2, List.getD_eq_getElem?_getD, List.getElem?_eq_getElem (by omega)]
      rfl
    · rw [List.getElem?_append_right (by rw [bc_len]; omega), bc_len, List.getElem?_drop]
      rw [show o + l.length + (j - o - l.length) = j by omega]
      by_cases h3 : j < n
      · rw [brr_get f h3, brr_get _ h3, ov_out (by omega)]
      · rw [brr_none f (by omega), brr_none _ (by omega)]

section
variable {P : Program} {w : World}
theorem run_copy_brr (dT sT ty e : TypeId) (hu : P.underlying dT = some (.slice e)) (hs : (P.info? e).map (·.size) = some 1) (g o n dLen dCap : Nat) (t : TypeId) (f : Nat → UInt8) (hr : _root_.Go.Proofs.YtfbfeplegdpemaaGreat.Row w g t (brr n f))
    (A : Option Addr) (m c : Nat) (l : List UInt8) (hm : m = l.length) (hA : Hol w A l) (hfit : o + Nat.min m dLen ≤ n) :
    ∃ w' k, (Builtin.copy_ #[dT, sT] ty #[.slice (some ⟨g, o, none⟩) dLen dCap, .slice A m c]).run P w = .ok (goInt k) w' ∧ _root_.Go.Proofs.YtfbfeplegdpemaaGreat.Row w' g t (brr n (ov o (l.take dLen) f)) ∧ Upon g w w' := by
  subst hm
  by_cases h0 : Nat.min l.length dLen = 0
  · refine ⟨w, _, run_copy_none (P := P) w dT sT ty e (some ⟨g, o, none⟩) A dLen dCap l.length c hu hs h0, ?_, Upon.refl _ _⟩
    have : l.take dLen = [] := by
      apply List.eq_nil_of_length_eq_zero
      rw [List.length_take]
      have : min dLen l.length = Nat.min l.length dLen := Nat.min_comm _ _
      omega
    rw [this]
    have e1 : ov o [] f = f := by funext j; exact ov_out (by simp)
    rw [e1]
    exact hr
  · have hlen : (l.take dLen).length = Nat.min l.length dLen := by rw [List.length_take]; exact Nat.min_comm _ _
    obtain ⟨ga, off, rfl, hga, hc⟩ := hA.some_ (by have : Nat.min l.length dLen ≤ l.length := Nat.min_le_left _ _; omega)
    have hsrc : ∀ j v, (bc (l.take dLen))[j]? = some v → w.cell? ((⟨ga, off, none⟩ : Addr).add j) = some v := fun j v hv => by
      obtain ⟨x, hx, rfl⟩ := bc_get hv
      rw [show (⟨ga, off, none⟩ : Addr).add j = ⟨ga, off + j, none⟩ by unfold Addr.add; split <;> simp_all]
      refine hc j x ?_
      rw [List.getElem?_take] at hx
      split at hx
      · exact hx
      · cases hx
    have hrun := run_copy_row (P := P) w dT sT ty e g o dLen dCap ⟨ga, off, none⟩ l.length c (brr n f).toArray t (bc (l.take dLen)) hu hs hr (by rw [bc_len, hlen]) hsrc (by rw [bc_len, hlen]; simpa [brr_len] using hfit) (bc_one _)
    rw [bc_len, List.append_assoc] at hrun
    have e1 : (brr n f).toArray.toList = brr n f := rfl
    rw [e1, ov_brr n o (l.take dLen) f (by rw [hlen]; exact hfit)] at hrun
    refine ⟨_, _, hrun, setRow_heap w g _ _ t _ hr, ⟨⟨rfl, rfl, rfl, by simp, fun k hk hne => setRow_other w g k _ (fun e => hne (by rw [e]))⟩, fun x => frozen_setRow w g _ t _ hr x⟩⟩
end
/-- A row told by a function of the place, as a list. -/
def lst (n : Nat) (f : Nat → UInt8) : List UInt8 := (List.range n).map f
theorem lst_len (n : Nat) (f : Nat → UInt8) : (lst n f).length = n := by simp [lst]
theorem lst_bc (n : Nat) (f : Nat → UInt8) : brr n f = bc (lst n f) := by
  simp [brr, bc, lst, bv]
theorem lst_get {n j : Nat} (f : Nat → UInt8) (h : j < n) : (lst n f)[j]? = some (f j) := by simp [lst, h]
theorem Row.hol {w : World} {g n : Nat} {t : TypeId} {f : Nat → UInt8} (h : Row w g t (brr n f)) : Hol w (some ⟨g, 0, none⟩) (lst n f) := by
  rw [lst_bc] at h
  refine .inr ⟨g, 0, rfl, fun j x hx => ?_⟩
  rw [Nat.zero_add, h.cell]
  exact get_bc hx
end Go.Proofs.YtfbfeplegdpemaaGreat
/- Words for memory: a thing of several blocks that may be written, all else as it was; rows of records; rows of bytes of the call's own. No conditions. -/
set_option linter.unusedVariables false
namespace Go.Proofs.YtfbfeplegdpemaaGreat
open Go.RowKit

theorem below_nxt {w u v : World} (hb : Below u.heap.size u v) (ha : Below w.heap.size w u) : Below w.heap.size w v := ha.trans (hb.mono ha.size)
theorem below_drw (w : World) : Below w.heap.size w w.drew := (Below.refl _ _).drew
/-- Behind the call there are new blocks, and the blocks of F may have been written; all else is as it was. -/
structure Chg (F : List Nat) (w w' : World) : Prop where
  os : w'.os = w.os
  tape : w'.tape = w.tape
  output : w'.output = w.output
  size : w.heap.size ≤ w'.heap.size
  block : ∀ j, j < w.heap.size → j ∉ F → w'.heap[j]? = w.heap[j]?
theorem Chg.refl (F : List Nat) (w : World) : Chg F w w := ⟨rfl, rfl, rfl, Nat.le_refl _, fun _ _ _ => rfl⟩
theorem Chg.of {F : List Nat} {w w' : World} (h : Below w.heap.size w w') : Chg F w w' := ⟨h.os, h.tape, h.output, h.size, fun j hj _ => h.block j hj⟩
theorem Chg.wider {F G : List Nat} {w w' : World} (h : Chg F w w') (hs : ∀ x ∈ F, x ∈ G ∨ w.heap.size ≤ x) : Chg G w w' :=
  ⟨h.os, h.tape, h.output, h.size, fun j hj hn => h.block j hj (fun hf => by rcases hs j hf with h | h; exact hn h; omega)⟩
theorem Chg.trans {F G : List Nat} {a b c : World} (h : Chg F a b) (k : Chg G b c) (hs : ∀ x ∈ G, x ∈ F ∨ a.heap.size ≤ x) : Chg F a c :=
  ⟨k.os.trans h.os, k.tape.trans h.tape, k.output.trans h.output, Nat.le_trans h.size k.size, fun j hj hn => (k.block j (Nat.lt_of_lt_of_le hj h.size) (fun hg => by rcases hs j hg with h | h; exact hn h; omega)).trans (h.block j hj hn)⟩
theorem Chg.grown {F : List Nat} {w w1 w2 : World} {row : Option Nat} (h : Chg F w w1) (hg : w1.grownBy w2 row) (hr : ∀ k, row = some k → k ∈ F ∨ w.heap.size ≤ k) : Chg F w w2 :=
  ⟨hg.os.trans h.os, hg.tape.trans h.tape, hg.output.trans h.output, Nat.le_trans h.size hg.size, fun j hj hn => (hg.block j (Nat.lt_of_lt_of_le hj h.size) (fun e => by rcases hr j e.symm with h | h; exact hn h; omega)).trans (h.block j hj hn)⟩
theorem Chg.setCell {F : List Nat} {w w1 : World} (h : Chg F w w1) {p : Addr} (hp : p.block ∈ F ∨ w.heap.size ≤ p.block) (u : Value) : Chg F w (w1.setCell p u) :=
  h.grown (grown_set w1 p u) (fun k hk => by injection hk with hk; rw [← hk]; exact hp)
theorem Chg.drew {F : List Nat} {w w1 : World} (h : Chg F w w1) : Chg F w w1.drew := ⟨h.os, h.tape, h.output, h.size, h.block⟩
theorem Chg.alloc {F : List Nat} {w w1 : World} (h : Chg F w w1) (o : Obj) : Chg F w (w1.alloc o) := h.grown (World.grownBy_alloc w1 o none) (fun k hk => by cases hk)
theorem Chg.below {F : List Nat} {w w' : World} {b : Nat} (h : Chg F w w') (hb : b ≤ w.heap.size) (hF : ∀ x ∈ F, b ≤ x) : Below b w w' :=
  ⟨h.os, h.tape, h.output, h.size, fun j hj => h.block j (by omega) (fun hf => by have := hF j hf; omega)⟩
theorem Chg.cell {F : List Nat} {w w' : World} (h : Chg F w w') {g o : Nat} {v : Value} (hc : w.cell? ⟨g, o, none⟩ = some v) (hn : g ∉ F) : w'.cell? ⟨g, o, none⟩ = some v :=
  (World.cell?_of_block (h.block g (World.block_lt_of_cell? w _ hc) hn)).trans hc
theorem Chg.own {F : List Nat} {w w' : World} {b size n : Nat} {e : TypeId} {v : Value} {xs : List Value} (h : w.ownsRow b e size v n xs) (hc : Chg F w w') (hn : ∀ k, v.ownBlock = some k → k ∉ F) : w'.ownsRow b e size v n xs := by
  refine ⟨h.1, ?_⟩
  rcases h.2 with h0 | ⟨g, cap, cur, rfl, hb, hg, rest⟩
  · exact .inl h0
  · exact .inr ⟨g, cap, cur, rfl, hb, (hc.block g (Array.getElem?_eq_some_iff.1 hg).1 (hn g rfl)).trans hg, rest⟩
theorem Chg.row {F : List Nat} {w w' : World} {g : Nat} {t : TypeId} {cs : List Value} (h : Row w g t cs) (hc : Chg F w w') (hn : g ∉ F) : Row w' g t cs := (hc.block g h.lt hn).trans h
theorem Chg.hol {F : List Nat} {w w' : World} {A : Option Addr} {l : List UInt8} (h : Hol w A l) (hc : Chg F w w') (hn : ∀ g o, A = some ⟨g, o, none⟩ → l ≠ [] → g ∉ F) : Hol w' A l := by
  rcases h with rfl | ⟨g, o, rfl, hcell⟩
  · exact .inl rfl
  · by_cases hl : l = []
    · exact .inl hl
    · exact .inr ⟨g, o, rfl, fun j x hx => hc.cell (hcell j x hx) (hn g o rfl hl)⟩

/-! Records, so many cells each. -/
section
variable {α : Type} {f : α → List Value} {k : Nat}
theorem flat_len (hf : ∀ x, (f x).length = k) : ∀ xs : List α, (xs.flatMap f).length = xs.length * k
  | [] => by simp
  | x :: t => by
    rw [List.flatMap_cons, List.length_append, hf, flat_len hf t, List.length_cons, Nat.add_mul]
    omega
theorem flat_snoc (xs : List α) (x : α) : (xs ++ [x]).flatMap f = xs.flatMap f ++ f x := by simp
theorem flat_get (hf : ∀ x, (f x).length = k) : ∀ {xs : List α} {j : Nat} {x : α}, xs[j]? = some x → ∀ i, i < k → (xs.flatMap f)[j * k + i]? = (f x)[i]?
  | [], j, x, h, _, _ => by simp at h
  | a :: t, 0, x, h, i, hi => by
    simp at h
    subst h
    rw [List.flatMap_cons, Nat.zero_mul, Nat.zero_add, List.getElem?_append_left (by rw [hf]; exact hi)]
  | a :: t, j + 1, x, h, i, hi => by
    have h' : t[j]? = some x := by simpa using h
    rw [List.flatMap_cons, List.getElem?_append_right (by rw [hf, Nat.add_mul]; omega), hf, show (j + 1) * k + i - k = j * k + i by rw [Nat.add_mul]; omega]
    exact flat_get hf h' i hi
end
/-- Bytes, as a slice says them. -/
structure BV where
  A : Option Addr
  c : Nat
  l : List UInt8
def bvv (b : BV) : Value := .slice b.A b.l.length b.c
def noBV : BV := ⟨none, 0, []⟩
/-- They lie in a row of bytes of the call's own, from block b on. -/
def Own8 (b : Nat) (w : World) (x : BV) : Prop := w.ownsRow b 5 1 (bvv x) x.l.length (bc x.l)
theorem Own8.none_ (b : Nat) (w : World) : Own8 b w noBV := World.ownsRow_nil _ _ _ _
theorem Own8.hol {b : Nat} {w : World} {x : BV} (h : Own8 b w x) : Hol w x.A x.l := Hol.own h
theorem Own8.cap {b : Nat} {w : World} {x : BV} (h : Own8 b w x) : x.l.length ≤ x.c := by
  rcases h.2 with ⟨e0, h0⟩ | ⟨g, cap', cur, e0, _, _, hc, _⟩
  · omega
  · simp only [bvv, Value.slice.injEq] at e0
    omega
theorem Own8.below {b : Nat} {w w' : World} {x : BV} (h : Own8 b w x) (hb : Below w.heap.size w w') : Own8 b w' x := own_kept h hb
theorem Own8.lower {b b' : Nat} {w : World} {x : BV} (h : Own8 b w x) (hb : b' ≤ b) : Own8 b' w x := by
  refine ⟨h.1, ?_⟩
  rcases h.2 with h0 | ⟨g, cap, cur, h1, h2, h3⟩
  · exact .inl h0
  · exact .inr ⟨g, cap, cur, h1, Nat.le_trans hb h2, h3⟩
/-- The blocks of F hold no bytes. -/
def NoBytes (w : World) (F : List Nat) : Prop := ∀ x ∈ F, ∀ cs fr, w.heap[x]? ≠ some (.cells cs 5 fr)
theorem Own8.chg {b : Nat} {F : List Nat} {w w' : World} {x : BV} (h : Own8 b w x) (hc : Chg F w w') (hF : NoBytes w F) : Own8 b w' x := by
  refine Chg.own h hc fun k hk hf => ?_
  rcases h.2 with ⟨e0, _⟩ | ⟨g, cap, cur, e0, _, hg, _⟩
  · rw [e0] at hk
    cases hk
  · rw [e0] at hk
    injection hk with hk
    subst hk
    exact hF _ hf _ _ hg
end Go.Proofs.YtfbfeplegdpemaaGreat
/- Words for memory: rows of records of the call's own, as they grow; lists of bytes, of changes, of steps, as they lie. No conditions but those named. -/
set_option linter.unusedVariables false
namespace Go.Proofs.YtfbfeplegdpemaaGreat
open Go.RowKit

/-- What the table says of a record's type, and of slices of it. -/
structure Rec (P : Program) (t e : TypeId) (k : Nat) : Prop where
  ht : P.underlying t = some (.slice e)
  inf : ∃ i z, P.info? e = some i ∧ i.zero = some z ∧ i.size = k ∧ i.bytes ≤ 64 ∧ z.cells.size = k
  pos : 0 < k
theorem rec_of {P : Program} {t e : TypeId} {k n : Nat} {z : Value} (ht : P.underlying t = some (.slice e)) (h : (P.info? e).map (fun i => (i.zero, i.size, i.bytes)) = some (some z, k, n)) (hn : n ≤ 64) (hz : z.cells.size = k) (hk : 0 < k) : Rec P t e k := by
  obtain ⟨i, h1, h2, h3, h4⟩ := info_parts h
  exact ⟨ht, ⟨i, z, h1, h2, h3, by omega, hz⟩, hk⟩
theorem rec_sl : Rec Tryz.prog 74 22 1 := rec_of (z := .slice none 0 0) (n := 24) Tryz.underlying74 (by kernel_rfl) (by decide) rfl (by decide)
theorem rec_put : Rec Tryz.prog 67 70 2 := rec_of (z := .agg #[.int .i64 0, .slice none 0 0]) (n := 32) Tryz.underlying67 (by kernel_rfl) (by decide) rfl (by decide)
theorem own_parted {w : World} {b b' : Nat} {e e' : TypeId} {s s' n n' : Nat} {v v' : Value} {xs xs' : List Value} (h : w.ownsRow b e s v n xs) (h' : w.ownsRow b' e' s' v' n' xs') (hne : e ≠ e') : v.ownBlock = none ∨ v.ownBlock ≠ v'.ownBlock := by
  rcases h.2 with ⟨rfl, _⟩ | ⟨g, cap, cur, rfl, _, hg, _⟩
  · exact .inl rfl
  · refine .inr fun he => ?_
    rcases h'.2 with ⟨rfl, _⟩ | ⟨g', cap', cur', rfl, _, hg', _⟩
    · simp [Value.ownBlock] at he
    · simp [Value.ownBlock] at he
      subst he
      rw [hg] at hg'
      injection hg' with hg'
      injection hg' with _ ht
      exact hne ht
theorem row_parted {w : World} {b g : Nat} {t e : TypeId} {s n : Nat} {v : Value} {cs xs : List Value} (h : Row w g t cs) (h' : w.ownsRow b e s v n xs) (hne : t ≠ e) : v.ownBlock ≠ some g := by
  intro he
  rcases h'.2 with ⟨rfl, _⟩ | ⟨g', cap', cur', rfl, _, hg', _⟩
  · simp [Value.ownBlock] at he
  · simp [Value.ownBlock] at he
    subst he
    have h1 := h.heap
    rw [h1] at hg'
    injection hg' with hg'
    injection hg' with _ ht
    exact hne ht
theorem own_lower {w : World} {b b' : Nat} {e : TypeId} {size n : Nat} {v : Value} {xs : List Value} (h : w.ownsRow b e size v n xs) (hb : b' ≤ b) : w.ownsRow b' e size v n xs := by
  refine ⟨h.1, ?_⟩
  rcases h.2 with h0 | ⟨g, cap, cur, h1, h2, h3⟩
  · exact .inl h0
  · exact .inr ⟨g, cap, cur, h1, Nat.le_trans hb h2, h3⟩

section
variable {P : Program} {w : World} {t e : TypeId} {k : Nat}
/-- A row of the call's own, appended to another one. -/
theorem run_join (R : Rec P t e k) (ty : TypeId) (base : Nat) (v : Value) (n : Nat) (xs : List Value) (hown : w.ownsRow base e k v n xs)
    (A : Option Addr) (m c : Nat) (ys : List Value) (hys : ys.length = m * k) (hA : m = 0 ∧ A = none ∨ ∃ ad, A = some ad ∧ ∀ j u, ys[j]? = some u → w.cell? (ad.add j) = some u) (h1 : ∀ u ∈ ys, u.oneCell' = true) (hb : n + m ≤ 1000001) (hbase : base ≤ w.heap.size) :
    ∃ v' w', (Builtin.append_ #[t, t] ty #[v, .slice A m c]).run P w = .ok v' w' ∧ w'.ownsRow base e k v' (n + m) (xs ++ ys) ∧ w.grownBy w' v.ownBlock ∧ (v'.ownBlock = v.ownBlock ∨ v'.ownBlock = some w.heap.size) := by
  obtain ⟨i, z, hi, hz, hs, hby, hzs⟩ := R.inf
  rcases hA with ⟨rfl, rfl⟩ | ⟨ad, rfl, hc⟩
  · have hy : ys = [] := List.eq_nil_of_length_eq_zero (by rw [hys, Nat.zero_mul])
    subst hy
    refine ⟨v, w, ?_, by simpa using hown, ⟨rfl, rfl, rfl, Nat.le_refl _, fun _ _ _ => rfl⟩, .inl rfl⟩
    rcases hown.2 with ⟨rfl, rfl⟩ | ⟨g, cap, cur, rfl, _, _, hnc, _⟩
    · simp [Builtin.append_, run_underlying R.ht, sizeOf, typeInfo, hi, Builtin.lenOf, Builtin.firstCells]
    · simp [Builtin.append_, run_underlying R.ht, sizeOf, typeInfo, hi, Builtin.lenOf, Builtin.firstCells, hnc, storeCells]
  · obtain ⟨v', w', hr, h2, h3, _, h5⟩ := run_append_own_at (P := P) w base t ty e i z k i.bytes R.ht hi hz hs rfl hzs R.pos v n xs hown ad m c ys hys hc h1
      (by unfold maxLen; omega) (Nat.le_trans (Nat.mul_le_mul hb hby) (by omega)) hbase
    exact ⟨v', w', hr, h2, h3, h5⟩
/-- The same, for the walk. -/
theorem wp_join {ops : Array Oper} {rest : List Oper} {o : Oper} {a : Act} {Q : Exit → Act → World → Prop} (hgd : o.guard = none) (s x : Operand)
    (ho : o.op = .call { callee := .builtin .append, args := #[s, x], argTypes := #[t, t] }) (R : Rec P t e k) (base : Nat) (v : Value) (n : Nat) (xs : List Value) (hs : a.eval s = v) (hown : w.ownsRow base e k v n xs)
    (A : Option Addr) (m c : Nat) (ys : List Value) (hx : a.eval x = .slice A m c) (hys : ys.length = m * k) (hA : m = 0 ∧ A = none ∨ ∃ ad, A = some ad ∧ ∀ j u, ys[j]? = some u → w.cell? (ad.add j) = some u) (h1 : ∀ u ∈ ys, u.oneCell' = true) (hb : n + m ≤ 1000001) (hbase : base ≤ w.heap.size)
    (h : ∀ v' w', w'.ownsRow base e k v' (n + m) (xs ++ ys) → w.grownBy w' v.ownBlock → (v'.ownBlock = v.ownBlock ∨ v'.ownBlock = some w.heap.size) → wpList P ops Q rest (a.put o.dst v') w') :
    wpList P ops Q (o :: rest) a w := by
  refine wpList_plain hgd fun K hK => ?_
  obtain ⟨v', w', hr, h2, h3, h4⟩ := run_join (P := P) R o.type base v n xs hown A m c ys hys hA h1 hb hbase
  unfold Oper.wp execOp
  simp only [ho, resolve, invoke, builtin, Sem.run_bind, Sem.run_pure, Result.andThen_ok, List.map_toArray, List.map_cons, List.map_nil, hs, hx, hr]
  exact hK _ _ (h v' w' h2 h3 h4)
end
/-- An own row as the source of an append. -/
theorem own_src {w : World} {b k n : Nat} {e : TypeId} {A : Option Addr} {c : Nat} {xs : List Value} (h : w.ownsRow b e k (.slice A n c) n xs) : n = 0 ∧ A = none ∨ ∃ ad, A = some ad ∧ ∀ j u, xs[j]? = some u → w.cell? (ad.add j) = some u := by
  rcases h.2 with ⟨e0, h0⟩ | ⟨g, cap, cur, e0, _⟩
  · simp only [Value.slice.injEq] at e0
    exact .inl ⟨h0, e0.1⟩
  · simp only [Value.slice.injEq] at e0
    obtain ⟨rfl, _, _⟩ := e0
    exact .inr ⟨_, rfl, fun j u hu => h.cells (g := g) rfl j u hu⟩
theorem flat_one {α : Type} {f : α → List Value} (hf : ∀ x, ∀ u ∈ f x, u.oneCell' = true) (xs : List α) : ∀ u ∈ xs.flatMap f, u.oneCell' = true := by
  intro u hu
  obtain ⟨x, _, hx⟩ := List.mem_flatMap.1 hu
  exact hf x u hx
theorem void_own (w : World) (e : TypeId) (k b : Nat) (hb : b ≤ w.heap.size) : (w.alloc (.cells #[] e)).ownsRow b e k (.slice (some ⟨w.heap.size, 0, none⟩) 0 0) 0 [] :=
  ⟨by simp, .inr ⟨w.heap.size, 0, #[], rfl, hb, heap_alloc_new w _, Nat.le_refl _, by decide, by simp, by simp⟩⟩
theorem made_src (w : World) (cs : List Value) (e : TypeId) {m : Nat} : m = 0 ∧ (some (⟨w.heap.size, 0, none⟩ : Addr)) = none ∨ ∃ ad, some (⟨w.heap.size, 0, none⟩ : Addr) = some ad ∧ ∀ j u, cs[j]? = some u → (w.alloc (.cells cs.toArray e)).cell? (ad.add j) = some u :=
  .inr ⟨_, rfl, fun j u hu => by rw [Addr.add_lit, Nat.zero_add, (Row.made w e cs).cell]; exact hu⟩
/-- A slice's cell. -/
def sc (b : BV) : List Value := [bvv b]
theorem sc_len (b : BV) : (sc b).length = 1 := rfl
/-- A change's two cells. -/
def pcs (p : Int × BV) : List Value := [.int .i64 p.1, bvv p.2]
theorem pcs_len (p : Int × BV) : (pcs p).length = 2 := rfl
theorem pcs_one (p : Int × BV) : ∀ u ∈ pcs p, u.oneCell' = true := by intro u hu; simp [pcs, bvv] at hu; rcases hu with rfl | rfl <;> rfl
/-- The records xs lie where the address says (wherever that is, if there are none). -/
def Lies {α : Type} (f : α → List Value) (k : Nat) (w : World) (A : Option Addr) (xs : List α) : Prop :=
  xs = [] ∨ ∃ g o, A = some ⟨g, o, none⟩ ∧ ∀ j x, xs[j]? = some x → ∀ i u, (f x)[i]? = some u → w.cell? ⟨g, o + j * k + i, none⟩ = some u
section
variable {α : Type} {f : α → List Value} {k : Nat} {w w' : World} {A : Option Addr} {xs : List α}
theorem Lies.at_ (h : Lies f k w A xs) {j : Nat} (hj : j < xs.length) : ∃ g o, A = some ⟨g, o, none⟩ ∧ ∀ i u, (f (xs[j]'hj))[i]? = some u → w.cell? ⟨g, o + j * k + i, none⟩ = some u := by
  rcases h with rfl | ⟨g, o, rfl, hc⟩
  · simp at hj
  · exact ⟨g, o, rfl, hc j _ (List.getElem?_eq_getElem hj)⟩
theorem Lies.below (h : Lies f k w A xs) (hb : Below w.heap.size w w') : Lies f k w' A xs := by
  rcases h with rfl | ⟨g, o, rfl, hc⟩
  · exact .inl rfl
  · exact .inr ⟨g, o, rfl, fun j x hx i u hu => (hb.cell (p := ⟨g, o + j * k + i, none⟩) (World.block_lt_of_cell? w _ (hc j x hx i u hu))).trans (hc j x hx i u hu)⟩
theorem Lies.chg {F : List Nat} (h : Lies f k w A xs) (hc : Chg F w w') (hn : ∀ g o, A = some ⟨g, o, none⟩ → g ∉ F) : Lies f k w' A xs := by
  rcases h with rfl | ⟨g, o, rfl, h⟩
  · exact .inl rfl
  · exact .inr ⟨g, o, rfl, fun j x hx i u hu => hc.cell (h j x hx i u hu) (hn g o rfl)⟩
theorem Lies.own {b n c : Nat} {e : TypeId} (hk : k ≠ 0) (hf : ∀ x, (f x).length = k) (h : w.ownsRow b e k (.slice A n c) n (xs.flatMap f)) : Lies f k w A xs := by
  by_cases hl : xs = []
  · exact .inl hl
  · rcases h.2 with ⟨h1, h2⟩ | ⟨g, cap, cur, h1, hb, hg, hn, hc, hs, ht⟩
    · subst h2
      have := h.1
      rw [flat_len hf, Nat.zero_mul] at this
      rcases Nat.mul_eq_zero.1 this with h0 | h0
      · exact absurd (List.eq_nil_of_length_eq_zero h0) hl
      · exact absurd h0 hk
    · simp only [Value.slice.injEq] at h1
      obtain ⟨rfl, _, rfl⟩ := h1
      refine .inr ⟨g, 0, rfl, fun j x hx i u hu => ?_⟩
      have hi : i < k := by rw [← hf x]; exact (List.getElem?_eq_some_iff.1 hu).1
      have := h.cells (g := g) rfl (j * k + i) u (by rw [flat_get hf hx i hi]; exact hu)
      rwa [Addr.add_lit, ← Nat.add_assoc] at this
end
end Go.Proofs.YtfbfeplegdpemaaGreat
