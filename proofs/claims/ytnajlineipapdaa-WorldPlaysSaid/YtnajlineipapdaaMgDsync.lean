/- The reference's disk: Barrier and Crash. Conditions: the disk lies there. -/
import Derived.Test.YtnajlineipapdaaMgDisk
import Derived.Test.YtnajlineipapdaaMgBin
import Derived.StillTailTactics
import Derived.Maps.OwnSet
import Derived.WalkKit
import Derived.WalkMore
import Derived.Test.YtnajlineipapdaaSha
import Derived.Test.YtnajlineipapdaaMgPlain
import Derived.BigQuiet
set_option linter.unusedVariables false
namespace Go.Proofs.Ytnajlineipapdaa
open Go.RowKit

theorem flat_sc (ss : List BV) : ss.flatMap sc = ss.map bvv := by
  induction ss with
  | nil => rfl
  | cons x t ih => rw [List.flatMap_cons, ih]; rfl
/-- What is synced behind the first k waiting writes, of which those are kept that keep says. -/
def syncK (keep : Nat → Bool) (rs : List (Nat × BV)) (ss : List BV) : Nat → List BV
  | 0 => ss
  | k + 1 => match rs[k]? with
    | some p => if keep k = true then (syncK keep rs ss k).set p.1 p.2 else syncK keep rs ss k
    | none => syncK keep rs ss k
theorem syncK_step {keep : Nat → Bool} {rs : List (Nat × BV)} {ss : List BV} {k : Nat} {p : Nat × BV} (hp : rs[k]? = some p) : syncK keep rs ss (k + 1) = if keep k = true then (syncK keep rs ss k).set p.1 p.2 else syncK keep rs ss k := by
  rw [syncK, hp]
theorem syncK_len (keep : Nat → Bool) (rs : List (Nat × BV)) (ss : List BV) : ∀ k, (syncK keep rs ss k).length = ss.length
  | 0 => rfl
  | k + 1 => by
    rw [syncK]
    split
    · split
      · rw [List.length_set, syncK_len keep rs ss k]
      · exact syncK_len keep rs ss k
    · exact syncK_len keep rs ss k
section
variable {b : Nat} {w : World} {g g1 n1 k1 : Nat} {v2 v3 v4 : Value} {ss : List BV} {rs al : List (Nat × BV)} {ts : List (Int × Int × BV)}
theorem RDisk.sync (h : RDisk b w g (.slice (some ⟨g1, 0, none⟩) ss.length k1) v2 v3 v4 ss rs al ts) (a : Nat) (x : BV) (ha : a < ss.length) (hx : Own8 b w x ∧ x.l.length = 256) :
    RDisk b (w.setCell ⟨g1, a, none⟩ (bvv x)) g (.slice (some ⟨g1, 0, none⟩) ss.length k1) v2 v3 v4 (ss.set a x) rs al ts ∧ Chg (foot g (.slice (some ⟨g1, 0, none⟩) ss.length k1) v2 v3 v4) w (w.setCell ⟨g1, a, none⟩ (bvv x)) := by
  have hgr := grown_set w ⟨g1, a, none⟩ (bvv x)
  have k8 : ∀ {y : BV}, Own8 b w y → Own8 b (w.setCell ⟨g1, a, none⟩ (bvv x)) y := fun hy => World.ownsRow.kept hy hgr (own_parted hy h.o1 (by decide))
  refine ⟨⟨h.cells.far (p := ⟨g1, a, none⟩) (fun e => h.ne.1 (by rw [e]; rfl)) _, ?_, World.ownsRow.kept h.o2 hgr (own_parted h.o2 h.o1 (by decide)), World.ownsRow.kept h.o3 hgr (own_parted h.o3 h.o1 (by decide)), World.ownsRow.kept h.o4 hgr (own_parted h.o4 h.o1 (by decide)), h.sep, h.lo, ?_, ?_, ?_, ?_⟩, (Chg.refl (foot g (.slice (some ⟨g1, 0, none⟩) ss.length k1) v2 v3 v4) w).setCell (p := ⟨g1, a, none⟩) (.inl (foot_v1 rfl)) _⟩
  · have h1 := (h.o1.stored a (bvv x)).1
    rw [flat_sc] at h1 ⊢
    rw [List.length_set, List.map_set]
    exact h1
  · intro y hy
    rcases List.mem_or_eq_of_mem_set hy with hy | rfl
    · exact ⟨k8 (h.m1 y hy).1, (h.m1 y hy).2⟩
    · exact ⟨k8 hx.1, hx.2⟩
  · exact fun p hp => ⟨k8 (h.m2 p hp).1, (h.m2 p hp).2.1, by rw [List.length_set]; exact (h.m2 p hp).2.2⟩
  · exact fun p hp => ⟨k8 (h.m3 p hp).1, (h.m3 p hp).2.1, by rw [List.length_set]; exact (h.m3 p hp).2.2⟩
  · exact fun t ht => k8 (h.m4 t ht)
end
end Go.Proofs.Ytnajlineipapdaa
/- The reference's disk: Barrier. Conditions: the disk lies there. -/
set_option linter.unusedVariables false
namespace Go.Proofs.Ytnajlineipapdaa
open Go.RowKit

section
variable {b : Nat} {w : World} {g : Nat} {v1 v2 v3 v4 : Value} {ss : List BV} {rs al : List (Nat × BV)} {ts : List (Int × Int × BV)}
set_option maxRecDepth 20000 in
set_option maxHeartbeats 300000 in
theorem dbarrier_any (h : RDisk b w g v1 v2 v3 v4 ss rs al ts) (hr : rs.length ≤ 1000000) (ht : ts.length ≤ 1000000) :
    Calls Try.prog 21 #[.pointer (some ⟨g, 0, none⟩)] w fun e w' => ∃ v, e = .returned (.tuple #[]) ∧
      RDisk b w' g v1 (.slice none 0 0) v3 v (syncK (fun _ => true) rs ss rs.length) [] al (ts ++ [(3, 0, noBV)]) ∧ Chg (foot g v1 v2 v3 v4) w w' ∧ (v.ownBlock = v4.ownBlock ∨ ∃ k, v.ownBlock = some k ∧ w.heap.size ≤ k) := by
  obtain ⟨A2, k2, rfl⟩ := own_sl h.o2
  have H := Lib.hid h
  have HRL := Lib.hid hr
  have HTL := Lib.hid ht
  have HM := Lib.hid (p := ∀ p ∈ rs, p.1 < ss.length) fun p hp => (h.m2 p hp).2.2
  clear h hr ht
  go_enter Try.func21, Try.ntmps21
  go_wp2
  go_loopw [2] (fun x wr => ∃ k : Nat, k ≤ rs.length ∧ x = .int .i64 (k : Int) ∧ RDisk b wr g v1 (.slice A2 rs.length k2) v3 v4 (syncK (fun _ => true) rs ss k) rs al ts ∧ Chg (foot g v1 (.slice A2 rs.length k2) v3 v4) w wr) (fun x _ => rs.length - (intOf x).toNat)
  case atStart => exact ⟨0, by omega, rfl, H.out, Chg.refl _ _⟩
  case round =>
    obtain ⟨k, hk, rfl, hD, hC⟩ := hrel
    have hkw : IntKind.i64.wrap ((k : Int) + 1) = (k : Int) + 1 := by rw [IntKind.wrap_i64]; have := HRL.out; omega
    have c0 := hD.c0
    have c1 := hD.c1
    have HD := Lib.hid hD
    have HC := Lib.hid hC
    clear hD hC
    by_cases hlt : k < rs.length
    · have hki : (k : Int) < (rs.length : Int) := by omega
      have hk0 : (0 : Int) ≤ (k : Int) := by omega
      obtain ⟨p, hp⟩ : ∃ p, rs[k]? = some p := ⟨_, List.getElem?_eq_getElem hlt⟩
      obtain ⟨g2, k2', e2, _, _, hc2⟩ := own_rec wcs_len HD.out.o2 hp (by omega)
      simp only [Value.slice.injEq] at e2
      obtain ⟨rfl, _, _⟩ := e2
      have p0 := hc2 0 _ rfl
      have p1 := hc2 1 _ rfl
      rw [Nat.add_zero] at p0
      unfold bvv at p1
      have hpl : p.1 < (syncK (fun _ => true) rs ss k).length := by rw [syncK_len]; exact HM.out p (List.mem_of_getElem? hp)
      obtain ⟨y, hy⟩ : ∃ y, (syncK (fun _ => true) rs ss k)[p.1]? = some y := ⟨_, List.getElem?_eq_getElem hpl⟩
      obtain ⟨g1, k1, rfl, _, _, hc1⟩ := own_rec sc_len HD.out.o1 hy (by omega)
      have d0 := hc1 0 _ rfl
      rw [Nat.mul_one, Nat.add_zero] at d0
      unfold bvv at d0
      have f0 : wr.frozen? ⟨g1, p.1, none⟩ = false := HD.out.o1.frozenAt p.1
      obtain ⟨S, hS⟩ : ∃ S, S = syncK (fun _ => true) rs ss k := ⟨_, rfl⟩
      have hi1 : (0 : Int) ≤ (p.1 : Int) := by omega
      have hi2 : (p.1 : Int) < (S.length : Int) := by rw [hS]; omega
      rw [← hS] at c0 HD
      have HS := Lib.hid hS
      have HPK := Lib.hid hp
      have HPL := Lib.hid (p := p.1 < S.length) (by omega)
      clear hp hc2 hc1 hpl hy hS
      go_wp2
      go_still_tail 21, (by kernel_rfl)
      change wpList _ _ _ _ _ wr.drew
      have d0z : wr.drew.cell? ⟨g1, p.1, none⟩ = some (.slice y.A y.l.length y.c) := d0
      have f0z : wr.drew.frozen? ⟨g1, p.1, none⟩ = false := f0
      have hx := HD.out.m2 p (List.mem_of_getElem? HPK.out)
      obtain ⟨hs1, hs2⟩ := (HD.out.kept (below_drw wr)).sync p.1 p.2 HPL.out ⟨hx.1.below (below_drw wr), hx.2.1⟩
      have HS1 := Lib.hid hs1
      have HS2 := Lib.hid (HC.out.drew.trans hs2 (fun x hx => .inl hx))
      clear hs1 hs2 hx c0 c1 p0 p1 d0 f0 HD HC
      unfold bvv at HS1 HS2
      generalize wr.drew = wz at *
      go_wp2
      go_roundw
      case rel => exact ⟨k + 1, by omega, by go_num, by rw [syncK_step HPK.out, if_pos rfl, ← HS.out]; exact HS1.out, HS2.out⟩
      case measure => simp [intOf]; omega
    · obtain rfl : k = rs.length := by omega
      have f1 : wr.frozen? ⟨g, 1, none⟩ = false := HD.out.cells.free 1
      have f3 : wr.frozen? ⟨g, 3, none⟩ = false := HD.out.cells.free 3
      have c3 := HD.out.c3
      obtain ⟨hw1, hw2⟩ := HD.out.waits (v := .slice none 0 0) (rs' := []) (World.ownsRow_nil _ _ _ _) (.inl rfl) (by simp)
      have HW1 := Lib.hid hw1
      have HW2 := Lib.hid (HC.out.trans hw2 (fun x hx => .inl hx))
      have HSZ := Lib.hid HC.out.size
      clear hw1 hw2 HD HC H
      have hts := touch_src (wr.setCell ⟨g, 1, none⟩ (.slice none 0 0)) (3, 0, noBV)
      rw [show (wr.setCell ⟨g, 1, none⟩ (.slice none 0 0)).heap.size = wr.heap.size by simp] at hts
      have HTS := Lib.hid hts
      clear hts
      go_wp2_with (first
        | (at_builtin; go_loud (refine wp_join rfl _ _ rfl rec_touch b v4 ts.length (ts.flatMap tc) rfl (HW1.out.o4.alloc _) (some ⟨wr.heap.size, 0, none⟩) 1 1 (tc (3, 0, noBV)) rfl rfl HTS.out (tc_one _) (by have := HTL.out; omega) (by have := HW1.out.lo; have := HW1.out.cells.lt; simp at this ⊢; omega) ?_)
           intro v5 w2 hr2 hg2 hat2
           obtain ⟨A5, c5, rfl⟩ := own_sl hr2
           have hBA : Below (wr.setCell ⟨g, 1, none⟩ (.slice none 0 0)).heap.size (wr.setCell ⟨g, 1, none⟩ (.slice none 0 0)) ((wr.setCell ⟨g, 1, none⟩ (.slice none 0 0)).alloc (.cells (tc (3, 0, noBV)).toArray 77)) := (Below.refl _ _).alloc (Nat.le_refl _) _
           have hR2 : Row w2 g 49 [v1, .slice none 0 0, v3, v4] := (HW1.out.cells.alloc _).grown hg2 (fun e0 => HW1.out.ne.2.2.2 e0.symm)
           have c32 := hR2.cell 3
           have f32 := hR2.free 3
           simp at c32))
      have hsw : (wr.setCell ⟨g, 1, none⟩ (.slice none 0 0)).heap.size = wr.heap.size := by simp
      obtain ⟨hD3, hC3⟩ := RDisk.touch (HW1.out.kept hBA) (3, 0, noBV) (Own8.none_ _ _) hr2 hg2
      have HD3 := Lib.hid hD3
      have HC3 := Lib.hid ((HW2.out.trans (Chg.of (F := foot g v1 (.slice A2 rs.length k2) v3 v4) hBA) (fun x hx => .inl hx)).trans hC3 (fun x hx => by
        refine foot_all (F := foot g v1 (.slice A2 rs.length k2) v3 v4) (.inl (foot_g _ _ _ _ _)) (fun q hq => .inl (foot_v1 hq)) (fun q hq => by cases hq) (fun q hq => .inl (foot_v3 hq)) (fun q hq => .inl (foot_v4 hq)) x hx))
      clear hD3 hC3 hBA hr2 hg2 hR2 c32 f32
      go_end0
      refine ⟨_, rfl, HD3.out, HC3.out, ?_⟩
      rcases hat2 with e0 | e0
      · exact .inl e0
      · refine .inr ⟨_, e0, ?_⟩
        have := HSZ.out
        simp
        omega
end
end Go.Proofs.Ytnajlineipapdaa
/- Elder bytes: a map in memory from blocks' numbers to slices of slices: what is looked up, what is laid in. No conditions but those named. -/
set_option linter.unusedVariables false
namespace Go.Proofs.Ytnajlineipapdaa
open Go.RowKit Go.Maps

/-- Every element reads as itself. -/
def itself (v : Value) : Option (DataW Value × List MemPlace) := some (.held v, [])
/-- No slices, nil. -/
def nos : Value := .slice none 0 0
theorem int_key : Keyed Try.prog 3 := Maps.int_keyed Try.underlying3
theorem nat_wf {a : Nat} (h : a ≤ 1024) : (Lit.int .i64 (a : Int)).wf = true := by
  simp [Lit.wf, IntKind.min, IntKind.max, IntKind.bits, IntKind.signed]
  omega
theorem key_of {a : Nat} (h : a ≤ 1024) : keyOf Try.prog 3 (.int .i64 (a : Int)) = some (.int .i64 (a : Int)) := Maps.keyOf_int_mk Try.underlying3 (nat_wf h)
theorem key_ne {a a' : Nat} (h : a ≠ a') : Lit.int .i64 (a : Int) ≠ Lit.int .i64 (a' : Int) := by
  intro e
  injection e with _ e
  omega
/-- Block b is a map of at most n entries, which tells ev of each number up to 1024. -/
def ElAt (w : World) (b n : Nat) (ev : Nat → Value) : Prop :=
  ∃ D : DataW Value, w.ownsMap Try.prog 3 itself b n D ∧ ∀ a : Nat, a ≤ 1024 → D.atKey (.int .i64 (a : Int)) (.held nos) = .held (ev a)
section
variable {w w' : World} {b n : Nat} {ev : Nat → Value}
theorem ElAt.lt (h : ElAt w b n ev) : b < w.heap.size := by obtain ⟨D, h, _⟩ := h; exact h.lt
theorem ElAt.grown {row : Option Nat} (h : ElAt w b n ev) (hg : w.grownBy w' row) (hne : some b ≠ row) : ElAt w' b n ev := by
  obtain ⟨D, h, k⟩ := h
  exact ⟨D, h.kept hg hne, k⟩
theorem ElAt.below (h : ElAt w b n ev) (hb : Below w.heap.size w w') : ElAt w' b n ev := h.grown (row := none) (grown_of_below hb) (by simp)
theorem ElAt.mono (h : ElAt w b n ev) {n' : Nat} (hn : n ≤ n') : ElAt w b n' ev := by
  obtain ⟨D, h, k⟩ := h
  exact ⟨D, h.mono hn, k⟩
theorem ElAt.made (w : World) : ElAt (w.alloc (.map #[] 0)) w.heap.size 0 fun _ => nos :=
  ⟨_, World.ownsMap_made w _ _ _, fun a ha => rfl⟩
theorem nos_zero (w : World) : (zeroValue 45).run Try.prog w = .ok nos w := by kernel_rfl
theorem ElAt.look (h : ElAt w b n ev) {a : Nat} (ha : a ≤ 1024) : (Instr.lookup 70 (.map (some b)) (.int .i64 (a : Int)) false).run Try.prog w = .ok (ev a) w := by
  obtain ⟨D, h, k⟩ := h
  obtain ⟨v, ps, hrun, hv⟩ := h.lookup int_key Try.underlying70 (nos_zero w) (zd := .held nos) (zp := []) rfl (key_of ha)
  rw [k a ha] at hv
  simp only [itself, Option.some.injEq, Prod.mk.injEq, DataW.held.injEq] at hv
  rw [hrun, hv.1]
/-- One more. -/
def evs (ev : Nat → Value) (a : Nat) (v : Value) : Nat → Value := fun a' => if a' = a then v else ev a'
theorem evs_same (ev : Nat → Value) (a : Nat) (v : Value) : evs ev a v a = v := if_pos rfl
theorem evs_other (ev : Nat → Value) {a a' : Nat} (v : Value) (h : a' ≠ a) : evs ev a v a' = ev a' := if_neg h
theorem ElAt.put (h : ElAt w b n ev) {a : Nat} (ha : a ≤ 1024) (hn : n < maxLen) (v : Value) :
    ∃ w', (Instr.mapUpdate 70 (.map (some b)) (.int .i64 (a : Int)) v).run Try.prog w = .ok () w' ∧ ElAt w' b (n + 1) (evs ev a v) ∧ w.grownBy w' (some b) := by
  obtain ⟨D, h, k⟩ := h
  obtain ⟨w', hrun, hown, hg⟩ := h.update int_key Try.underlying70 hn (key_of ha) (val := v) (d := .held v) (ps := []) rfl
  have hm := h.isMap
  have hkey := int_key.key (key_of ha)
  refine ⟨w', hrun, ⟨_, hown, fun a' ha' => ?_⟩, hg⟩
  by_cases hes : a' = a
  · subst hes
    rw [atKey_put_same hm hkey, evs_same]
  · rw [atKey_put_other (key_ne hes), evs_other _ _ hes]
    exact k a' ha'
/-- It is no row of cells. -/
theorem ElAt.no_cells (h : ElAt w b n ev) : ∀ cs t fr, w.heap[b]? ≠ some (.cells cs t fr) := by
  obtain ⟨D, ⟨es, clock, hb, r⟩, k⟩ := h
  intro cs t fr e
  rw [hb] at e
  cases e
end
end Go.Proofs.Ytnajlineipapdaa
/- Plain facts: bytes' products, inverses and boxes, and what one operation makes of bytes. No program is in sight here, and no conditions. -/
set_option linter.unusedVariables false
namespace Go.Proofs.Ytnajlineipapdaa

/-- A byte, or none. -/
def sel (b : Bool) (x : UInt8) : UInt8 := if b then x else 0
theorem sel_xor (b c : Bool) (x : UInt8) : sel (b ^^ c) x = sel b x ^^^ sel c x := by cases b <;> cases c <;> simp [sel]
theorem sel_dist (b : Bool) (x y : UInt8) : sel b (x ^^^ y) = sel b x ^^^ sel b y := by cases b <;> simp [sel]
theorem xor_cancel (x y : UInt8) : x ^^^ (x ^^^ y) = y := by rw [← UInt8.xor_assoc]; simp
theorem xor_mid (a b c d : UInt8) : (a ^^^ b) ^^^ (c ^^^ d) = (a ^^^ c) ^^^ (b ^^^ d) := by
  simp only [UInt8.xor_assoc]
  rw [← UInt8.xor_assoc b c d, UInt8.xor_comm b c, UInt8.xor_assoc]

/-- A fact of each byte, tried at each number. -/
theorem each_byte {p : UInt8 → Prop} (h : ∀ n, n < 256 → p (UInt8.ofNat n)) (x : UInt8) : p x := by
  have := h x.toNat (UInt8.toNat_lt x)
  rwa [UInt8.ofNat_toNat] at this

/-- A byte's product with 2. -/
def dbl (x : UInt8) : UInt8 := (x <<< 1) ^^^ sel (x.toNat.testBit 7) 27
theorem dbl_zero : dbl 0 = 0 := by decide
theorem dbl_xor (x y : UInt8) : dbl (x ^^^ y) = dbl x ^^^ dbl y := by
  unfold dbl
  rw [UInt8.shiftLeft_xor, UInt8.toNat_xor, Nat.testBit_xor, sel_xor, xor_mid]
theorem dbl_sel (b : Bool) (x : UInt8) : dbl (sel b x) = sel b (dbl x) := by cases b <;> simp [sel, dbl_zero]

/-- A byte's product with 2 so many times; the product, bit by bit. -/
def dpow (x : UInt8) : Nat → UInt8
  | 0 => x
  | i + 1 => dbl (dpow x i)
def tm (x b : UInt8) : Nat → UInt8
  | 0 => 0
  | i + 1 => tm x b i ^^^ sel (b.toNat.testBit i) (dpow x i)
def times (x b : UInt8) : UInt8 := tm x b 8
theorem tm_xor (x b c : UInt8) : ∀ k, tm x (b ^^^ c) k = tm x b k ^^^ tm x c k
  | 0 => by simp [tm]
  | k + 1 => by
    simp only [tm]
    rw [tm_xor x b c k, UInt8.toNat_xor, Nat.testBit_xor, sel_xor, xor_mid]
theorem times_xor (x b c : UInt8) : times x (b ^^^ c) = times x b ^^^ times x c := tm_xor x b c 8
theorem times_zero (x : UInt8) : times x 0 = 0 := by simp [times, tm, sel]
theorem times_one (x : UInt8) : times x 1 = x := by
  have h : ∀ i, i < 7 → Nat.testBit 1 (i + 1) = false := by decide
  simp [times, tm, sel, dpow, h 0 (by decide), h 1 (by decide), h 2 (by decide), h 3 (by decide), h 4 (by decide), h 5 (by decide), h 6 (by decide)]
theorem dpow_8 (x : UInt8) : dpow x 8 = ((x ^^^ dpow x 1) ^^^ dpow x 3) ^^^ dpow x 4 := by
  revert x
  exact each_byte (by decide +kernel)
theorem dbl_bits (b : UInt8) : (dbl b).toNat.testBit 0 = b.toNat.testBit 7 ∧ (dbl b).toNat.testBit 1 = (b.toNat.testBit 0 ^^ b.toNat.testBit 7) ∧ (dbl b).toNat.testBit 2 = b.toNat.testBit 1 ∧
    (dbl b).toNat.testBit 3 = (b.toNat.testBit 2 ^^ b.toNat.testBit 7) ∧ (dbl b).toNat.testBit 4 = (b.toNat.testBit 3 ^^ b.toNat.testBit 7) ∧ (dbl b).toNat.testBit 5 = b.toNat.testBit 4 ∧
    (dbl b).toNat.testBit 6 = b.toNat.testBit 5 ∧ (dbl b).toNat.testBit 7 = b.toNat.testBit 6 := by
  revert b
  exact each_byte (by decide +kernel)
theorem times_dbl (x b : UInt8) : times x (dbl b) = dbl (times x b) := by
  obtain ⟨h0, h1, h2, h3, h4, h5, h6, h7⟩ := dbl_bits b
  have e : ∀ i, dbl (dpow x i) = dpow x (i + 1) := fun _ => rfl
  unfold times
  simp only [tm, h0, h1, h2, h3, h4, h5, h6, h7, sel_xor, dbl_xor, dbl_sel, e, Nat.reduceAdd, dpow_8, sel_dist, UInt8.zero_xor]
  rw [show dpow x 0 = x from rfl]
  generalize dpow x 1 = d1
  generalize dpow x 2 = d2
  generalize dpow x 3 = d3
  generalize dpow x 4 = d4
  generalize dpow x 5 = d5
  generalize dpow x 6 = d6
  generalize dpow x 7 = d7
  have : Std.Associative (α := UInt8) (· ^^^ ·) := ⟨UInt8.xor_assoc⟩
  have : Std.Commutative (α := UInt8) (· ^^^ ·) := ⟨UInt8.xor_comm⟩
  ac_rfl

/-- The powers of 3. -/
def pw : Nat → UInt8
  | 0 => 1
  | n + 1 => pw n ^^^ dbl (pw n)
theorem times_pw (a : Nat) : ∀ b, times (pw a) (pw b) = pw (a + b)
  | 0 => times_one _
  | b + 1 => by
    show times (pw a) (pw b ^^^ dbl (pw b)) = pw (a + b) ^^^ dbl (pw (a + b))
    rw [times_xor, times_dbl, times_pw a b]
theorem pw_255 : pw 255 = 1 := by decide +kernel
theorem pw_round : ∀ n, pw (n + 255) = pw n
  | 0 => pw_255
  | n + 1 => by
    rw [show n + 1 + 255 = (n + 255) + 1 by omega]
    show pw (n + 255) ^^^ dbl (pw (n + 255)) = pw n ^^^ dbl (pw n)
    rw [pw_round n]
theorem pw_rounds (n : Nat) : ∀ k, pw (n + 255 * k) = pw n
  | 0 => rfl
  | k + 1 => by rw [show n + 255 * (k + 1) = (n + 255 * k) + 255 by omega, pw_round, pw_rounds n k]

/-- A byte's powers; its inverse. -/
def it (x : UInt8) : Nat → UInt8
  | 0 => 1
  | k + 1 => times (it x k) x
def inverse (x : UInt8) : UInt8 := it x 254
theorem it_pw (i : Nat) : ∀ k, it (pw i) k = pw (i * k)
  | 0 => rfl
  | k + 1 => by
    show times (it (pw i) k) (pw i) = _
    rw [it_pw i k, times_pw, Nat.mul_succ]
theorem inverse_pw (i : Nat) (h : i ≤ 255) : inverse (pw i) = pw (255 - i) := by
  unfold inverse
  rw [it_pw]
  cases i with
  | zero => exact pw_255.symm
  | succ i => rw [show (i + 1) * 254 = (255 - (i + 1)) + 255 * i by omega, pw_rounds]
theorem inverse_zero : inverse 0 = 0 := times_zero _

/-- Every byte but 0 is a power of 3. -/
def pl : Nat → UInt8 → List Nat
  | 0, _ => []
  | n + 1, x => x.toNat :: pl n (x ^^^ dbl x)
theorem pl_mem : ∀ n k v, v ∈ pl n (pw k) → ∃ i, i < k + n ∧ (pw i).toNat = v
  | 0, k, v, h => by cases h
  | n + 1, k, v, h => by
    rcases List.mem_cons.1 h with h | h
    · exact ⟨k, by omega, h.symm⟩
    · obtain ⟨i, hi, e⟩ := pl_mem n (k + 1) v h
      exact ⟨i, by omega, e⟩
theorem pl_lit : pl 255 1 = [1, 3, 5, 15, 17, 51, 85, 255, 26, 46, 114, 150, 161, 248, 19, 53, 95, 225, 56, 72, 216, 115, 149, 164, 247, 2, 6, 10, 30, 34, 102, 170, 229, 52, 92, 228, 55, 89, 235, 38, 106, 190, 217, 112, 144, 171, 230, 49, 83, 245, 4, 12, 20, 60, 68, 204, 79, 209, 104, 184, 211, 110, 178, 205, 76, 212, 103, 169, 224, 59, 77, 215, 98, 166, 241, 8, 24, 40, 120, 136, 131, 158, 185, 208, 107, 189, 220, 127, 129, 152, 179, 206, 73, 219, 118, 154, 181, 196, 87, 249, 16, 48, 80, 240, 11, 29, 39, 105, 187, 214, 97, 163, 254, 25, 43, 125, 135, 146, 173, 236, 47, 113, 147, 174, 233, 32, 96, 160, 251, 22, 58, 78, 210, 109, 183, 194, 93, 231, 50, 86, 250, 21, 63, 65, 195, 94, 226, 61, 71, 201, 64, 192, 91, 237, 44, 116, 156, 191, 218, 117, 159, 186, 213, 100, 172, 239, 42, 126, 130, 157, 188, 223, 122, 142, 137, 128, 155, 182, 193, 88, 232, 35, 101, 175, 234, 37, 111, 177, 200, 67, 197, 84, 252, 31, 33, 99, 165, 244, 7, 9, 27, 45, 119, 153, 176, 203, 70, 202, 69, 207, 74, 222, 121, 139, 134, 145, 168, 227, 62, 66, 198, 81, 243, 14, 18, 54, 90, 238, 41, 123, 141, 140, 143, 138, 133, 148, 167, 242, 13, 23, 57, 75, 221, 124, 132, 151, 162, 253, 28, 36, 108, 180, 199, 82, 246] := by decide +kernel
theorem lit_all : ∀ v, v < 256 → v = 0 ∨ ([1, 3, 5, 15, 17, 51, 85, 255, 26, 46, 114, 150, 161, 248, 19, 53, 95, 225, 56, 72, 216, 115, 149, 164, 247, 2, 6, 10, 30, 34, 102, 170, 229, 52, 92, 228, 55, 89, 235, 38, 106, 190, 217, 112, 144, 171, 230, 49, 83, 245, 4, 12, 20, 60, 68, 204, 79, 209, 104, 184, 211, 110, 178, 205, 76, 212, 103, 169, 224, 59, 77, 215, 98, 166, 241, 8, 24, 40, 120, 136, 131, 158, 185, 208, 107, 189, 220, 127, 129, 152, 179, 206, 73, 219, 118, 154, 181, 196, 87, 249, 16, 48, 80, 240, 11, 29, 39, 105, 187, 214, 97, 163, 254, 25, 43, 125, 135, 146, 173, 236, 47, 113, 147, 174, 233, 32, 96, 160, 251, 22, 58, 78, 210, 109, 183, 194, 93, 231, 50, 86, 250, 21, 63, 65, 195, 94, 226, 61, 71, 201, 64, 192, 91, 237, 44, 116, 156, 191, 218, 117, 159, 186, 213, 100, 172, 239, 42, 126, 130, 157, 188, 223, 122, 142, 137, 128, 155, 182, 193, 88, 232, 35, 101, 175, 234, 37, 111, 177, 200, 67, 197, 84, 252, 31, 33, 99, 165, 244, 7, 9, 27, 45, 119, 153, 176, 203, 70, 202, 69, 207, 74, 222, 121, 139, 134, 145, 168, 227, 62, 66, 198, 81, 243, 14, 18, 54, 90, 238, 41, 123, 141, 140, 143, 138, 133, 148, 167, 242, 13, 23, 57, 75, 221, 124, 132, 151, 162, 253, 28, 36, 108, 180, 199, 82, 246] : List Nat).contains v = true := by decide +kernel
theorem is_pw (x : UInt8) : x = 0 ∨ ∃ i, i < 255 ∧ pw i = x := by
  rcases lit_all x.toNat (UInt8.toNat_lt x) with h | h
  · exact .inl (UInt8.toNat_inj.1 h)
  · rw [← pl_lit] at h
    obtain ⟨i, hi, e⟩ := pl_mem 255 0 x.toNat (List.contains_iff_mem.1 h)
    exact .inr ⟨i, by omega, UInt8.toNat_inj.1 e⟩
theorem inverse_inverse (x : UInt8) : inverse (inverse x) = x := by
  rcases is_pw x with rfl | ⟨i, hi, rfl⟩
  · rw [inverse_zero, inverse_zero]
  · rw [inverse_pw i (by omega), inverse_pw (255 - i) (by omega)]
    congr 1
    omega

/-- A byte moved, turned; the box. -/
def shl8 (x : UInt8) (n : Nat) : UInt8 := UInt8.ofNat (x.toNat * 2 ^ n)
def shr8 (x : UInt8) (n : Nat) : UInt8 := UInt8.ofNat (x.toNat / 2 ^ n)
def rl (x : UInt8) (n : Nat) : UInt8 := shl8 x n ||| shr8 x (8 - n)
def sb (y : UInt8) : UInt8 := y ^^^ rl y 1 ^^^ rl y 2 ^^^ rl y 3 ^^^ rl y 4 ^^^ 99
def sbox (x : UInt8) : UInt8 := sb (inverse x)
theorem sb_back (y : UInt8) : rl (sb y) 1 ^^^ rl (sb y) 3 ^^^ rl (sb y) 6 ^^^ 5 = y := by
  revert y
  exact each_byte (by decide +kernel)
theorem sbox_inj (x y : UInt8) : sbox x = sbox y ↔ x = y := by
  constructor
  · intro h
    have h1 : inverse x = inverse y := by
      rw [← sb_back (inverse x), ← sb_back (inverse y)]
      unfold sbox at h
      rw [h]
    rw [← inverse_inverse x, ← inverse_inverse y, h1]
  · rintro rfl
    rfl
theorem sbox_zero : sbox 0 = 99 := by
  unfold sbox
  rw [inverse_zero]
  decide
theorem sbox_53 : sbox 83 = 237 := by
  have e : pw 48 = 83 := by decide +kernel
  have e' : pw 207 = 202 := by decide +kernel
  unfold sbox
  rw [← e, inverse_pw 48 (by omega), show 255 - 48 = 207 from rfl, e']
  decide
theorem dbl_code (x : UInt8) : shl8 x 1 ^^^ (shr8 x 7 * 27) = dbl x := by
  revert x
  exact each_byte (by decide +kernel)
theorem it_zero (x : UInt8) : it x 0 = 1 := rfl
theorem it_succ (x : UInt8) (n : Nat) : it x (n + 1) = times (it x n) x := rfl
theorem inverse_def (x : UInt8) : inverse x = it x 254 := rfl
theorem sbox_def (x : UInt8) : sbox x = sb (inverse x) := rfl
attribute [irreducible] it inverse sbox
end Go.Proofs.Ytnajlineipapdaa
/- Plain facts: the rounds' keys and a block behind all rounds, by bytes. No program is in sight here, and no conditions. -/
set_option linter.unusedVariables false
namespace Go.Proofs.Ytnajlineipapdaa

/-- The rounds' keys, byte by byte. -/
def kx (key : Nat → UInt8) (m : Nat) : UInt8 :=
  if h : m < 32 then key m
  else kx key (m - 32) ^^^ (if m / 4 % 8 = 0 then sbox (kx key (4 * (m / 4) - 4 + (m % 4 + 1) % 4)) ^^^ (if m % 4 = 0 then dpow 1 (m / 4 / 8 - 1) else 0) else if m / 4 % 8 = 4 then sbox (kx key (m - 4)) else kx key (m - 4))
termination_by m
decreasing_by all_goals omega
theorem kx_lo (key : Nat → UInt8) {m : Nat} (h : m < 32) : kx key m = key m := by rw [kx, dif_pos h]
theorem kx_hi (key : Nat → UInt8) {m : Nat} (h : 32 ≤ m) : kx key m = kx key (m - 32) ^^^ (if m / 4 % 8 = 0 then sbox (kx key (4 * (m / 4) - 4 + (m % 4 + 1) % 4)) ^^^ (if m % 4 = 0 then dpow 1 (m / 4 / 8 - 1) else 0) else if m / 4 % 8 = 4 then sbox (kx key (m - 4)) else kx key (m - 4)) := by rw [kx, dif_neg (by omega)]
/-- What a word is xored with. -/
def kt (key : Nat → UInt8) (i j : Nat) : UInt8 :=
  if i % 8 = 0 then sbox (kx key (4 * i - 4 + (j + 1) % 4)) ^^^ (if j = 0 then dpow 1 (i / 8 - 1) else 0) else if i % 8 = 4 then sbox (kx key (4 * i - 4 + j)) else kx key (4 * i - 4 + j)
theorem kx_kt (key : Nat → UInt8) {i j : Nat} (hi : 8 ≤ i) (hj : j < 4) : kx key (4 * i + j) = kx key (4 * i - 32 + j) ^^^ kt key i j := by
  have e1 : (4 * i + j) / 4 = i := by omega
  have e2 : (4 * i + j) % 4 = j := by omega
  have e3 : 4 * i + j - 32 = 4 * i - 32 + j := by omega
  have e4 : 4 * i + j - 4 = 4 * i - 4 + j := by omega
  rw [kx_hi key (by omega), e1, e2, e3, e4]
  rfl
/-- The first n bytes. -/
def pre (key : Nat → UInt8) (n m : Nat) : UInt8 := if m < n then kx key m else 0
theorem pre_zero (key : Nat → UInt8) : pre key 0 = fun _ => 0 := by funext m; simp [pre]
theorem pre_lt (key : Nat → UInt8) {n m : Nat} (h : m < n) : pre key n m = kx key m := if_pos h
theorem pre_step (key : Nat → UInt8) (n : Nat) : upd (pre key n) n (kx key n) = pre key (n + 1) := by
  funext m
  unfold upd pre
  by_cases h : m = n
  · subst h
    simp
  · rw [if_neg h]
    by_cases h2 : m < n
    · rw [if_pos h2, if_pos (by omega)]
    · rw [if_neg h2, if_neg (by omega)]
theorem kx_congr {k k' : Nat → UInt8} (h : ∀ j, j < 32 → k j = k' j) (m : Nat) : kx k m = kx k' m := by
  induction m using Nat.strongRecOn with
  | _ m ih =>
    by_cases hm : m < 32
    · rw [kx_lo k hm, kx_lo k' hm, h m hm]
    · rw [kx_hi k (by omega), kx_hi k' (by omega), ih _ (by omega), ih _ (by omega), ih _ (by omega)]

/-- A block xored with a round's key; with its bytes by the box and its rows turned; with its columns mixed. -/
def ak (K : Nat → UInt8) (r : Nat) (s : Nat → UInt8) : Nat → UInt8 := fun i => s i ^^^ K (16 * r + i)
def sr (s : Nat → UInt8) : Nat → UInt8 := fun i => sbox (s ((i + 4 * (i % 4)) % 16))
def al (s : Nat → UInt8) (f : Nat) : UInt8 := s f ^^^ s (f + 1) ^^^ s (f + 2) ^^^ s (f + 3)
def mx (s : Nat → UInt8) : Nat → UInt8 := fun i => (s i ^^^ al s (i - i % 4)) ^^^ dbl (s i ^^^ s (i - i % 4 + (i + 1) % 4))
def st (K : Nat → UInt8) (s : Nat → UInt8) : Nat → Nat → UInt8
  | 0 => ak K 0 s
  | r + 1 => ak K (r + 1) (mx (sr (st K s r)))
def enc (K : Nat → UInt8) (s : Nat → UInt8) : Nat → UInt8 := ak K 14 (sr (st K s 13))
/-- A place gone over in order. -/
def upto (n : Nat) (f h : Nat → UInt8) : Nat → UInt8 := fun j => if j < n then f j else h j
theorem upto_zero (f h : Nat → UInt8) : upto 0 f h = h := by funext j; simp [upto]
theorem upto_step (n : Nat) (f h : Nat → UInt8) : upd (upto n f h) n (f n) = upto (n + 1) f h := by
  funext j
  unfold upd upto
  by_cases e : j = n
  · subst e
    simp
  · rw [if_neg e]
    by_cases h2 : j < n
    · rw [if_pos h2, if_pos (by omega)]
    · rw [if_neg h2, if_neg (by omega)]
theorem upto_self (n : Nat) (f h : Nat → UInt8) : upto n f h n = h n := by simp [upto]
theorem upto_far {n j : Nat} (f h : Nat → UInt8) (hj : n ≤ j) : upto n f h j = h j := by unfold upto; rw [if_neg (by omega)]
theorem upto_near {n j : Nat} (f h : Nat → UInt8) (hj : j < n) : upto n f h j = f j := if_pos hj
theorem upto_all (n : Nat) (f h : Nat → UInt8) : brr n (upto n f h) = brr n f := brr_congr fun j hj => if_pos hj
end Go.Proofs.Ytnajlineipapdaa
/- Bytes as a block, by the law's own function: what the call leaves, for all bytes. No conditions but those named. -/
set_option linter.unusedVariables false
namespace Go.Proofs.Ytnajlineipapdaa
open Go.RowKit

/-- A new row of bytes. -/
def Fresh (w : World) (n : Nat) (f : Nat → UInt8) (x : Ending) (w' : World) : Prop :=
  ∃ g, x = .returned (.slice (some ⟨g, 0, none⟩) n n) ∧ Row w' g 5 (brr n f) ∧ w.heap.size ≤ g ∧ Below w.heap.size w w'
/-- A block's bytes. -/
def wh (l : List UInt8) : Nat → UInt8 := fun j => l.getD j 0
set_option maxHeartbeats 1000000 in
theorem whole_any (A : Option Addr) (c : Nat) (l : List UInt8) (hl : l.length ≤ 9223372036854775807) (w : World) (hA : Hol w A l) :
    Calls Try.prog 31 #[.slice A l.length c] w (Fresh w 256 (wh l)) := by
  obtain ⟨i, U⟩ := u8_tab
  have HA := Lib.hid hA
  have HL := Lib.hid hl
  clear hA hl
  go_enter Try.func31, Try.ntmps31
  go_wp2_with (refine step_make rfl _ _ 32 5 i U rfl 256 rfl rfl (by omega) ?_; intro g w1 hr1 hg1 hb1 hs1)
  have q1 : w.heap.size ≤ g := by rw [hg1.out]; exact Nat.le_refl _
  have HB1 := Lib.hid hb1
  clear hb1 hg1 hs1
  go_loopw [4] (fun x wr => ∃ k : Nat, k ≤ l.length ∧ k ≤ 256 ∧ x = .int .i64 (k : Int) ∧ Row wr g 5 (brr 256 (upto k (wh l) fun _ => 0)) ∧ Below w.heap.size w wr) (fun x _ => 256 - (intOf x).toNat)
  case atStart => exact ⟨0, by omega, by omega, rfl, by rw [upto_zero]; exact hr1, HB1.out⟩
  case round =>
    clear hr1
    obtain ⟨k, hk, hk2, rfl, hR, hB⟩ := hrel
    by_cases h1 : k < l.length
    · have h1i : (k : Int) < (l.length : Int) := by omega
      by_cases h2 : k < 256
      · have h2i : (k : Int) < 256 := by omega
        obtain ⟨ga, oa, rfl, _, hc2⟩ := (HA.out.below hB).at_ h1
        obtain ⟨y, hy⟩ : ∃ y, l[k] = y := ⟨_, rfl⟩
        rw [hy] at hc2
        replace hc2 : wr.cell? ⟨ga, oa + k, none⟩ = some (B y) := hc2
        have HY : Hid (wh l k = y) := Lib.hid (by unfold wh; rw [List.getD_eq_getElem?_getD, List.getElem?_eq_getElem h1, hy]; rfl)
        have c1 : wr.cell? ⟨g, k, none⟩ = some (B 0) := by rw [hR.cell, brr_get _ h2, upto_self]
        have f1 := hR.free k
        have HR := Lib.hid hR
        have HB := Lib.hid hB
        clear hR hB hy
        go_wp2
        go_roundw
        case rel => exact ⟨k + 1, by omega, by omega, by go_num, by rw [← upto_step, ← brr_set, HY.out]; exact HR.out.put _ _, HB.out.setCell q1 _⟩
        case measure => simp [intOf]; omega
      · have h2i : ¬ (k : Int) < 256 := by omega
        have hfin : brr 256 (upto k (wh l) fun _ => 0) = brr 256 (wh l) := brr_congr fun j hj => upto_near _ _ (by omega)
        rw [hfin] at hR
        have HR := Lib.hid hR
        have HB := Lib.hid hB
        clear hR hB hfin
        go_wp2
        go_ret
        exact ⟨g, rfl, HR.out, q1, HB.out⟩
    · have h1i : ¬ (k : Int) < (l.length : Int) := by omega
      have hfin : brr 256 (upto k (wh l) fun _ => 0) = brr 256 (wh l) := brr_congr fun j hj => by
        by_cases h : j < k
        · exact upto_near _ _ h
        · rw [upto_far _ _ (by omega)]
          unfold wh
          rw [List.getD_eq_getElem?_getD, List.getElem?_eq_none (by omega)]
          rfl
      rw [hfin] at hR
      have HR := Lib.hid hR
      have HB := Lib.hid hB
      clear hR hB hfin
      go_wp2
      go_ret
      exact ⟨g, rfl, HR.out, q1, HB.out⟩
end Go.Proofs.Ytnajlineipapdaa
/- The program's own block of bytes, and what asks whether a write is one of a block: what each call leaves. No conditions but those named. -/
set_option linter.unusedVariables false
namespace Go.Proofs.Ytnajlineipapdaa
open Go.RowKit

theorem info8 : (Try.prog.info? 5).map (·.size) = some 1 := by kernel_rfl
theorem block_any (A : Option Addr) (n c : Nat) (l : List UInt8) (hn : n = l.length) (w : World) (hA : Hol w A l) :
    Calls Try.prog 38 #[.slice A n c] w (Fresh w 256 (wh l)) := by
  obtain ⟨i, U⟩ := u8_tab
  have HA := Lib.hid hA
  have HN := Lib.hid hn
  clear hA hn
  go_enter Try.func38, Try.ntmps38
  go_wp2_with (first
    | (refine step_make rfl _ _ 32 5 i U rfl 256 rfl rfl (by omega) ?_; intro g w1 hr1 hg1 hb1 hs1)
    | (refine wp_copy rfl _ _ 32 32 rfl 5 U.ht info8 g 0 256 256 256 5 (fun _ => 0) rfl hr1 A n c l rfl HN.out (HA.out.below hb1) (by rw [Nat.zero_add]; exact Nat.min_le_right _ _) ?_; intro w2 k hr2 hu2))
  go_ret
  refine ⟨g, rfl, ?_, by rw [hg1.out]; exact Nat.le_refl _, hb1.grown hu2.out.by_ hb1.size (fun k hk => by injection hk with hk; rw [← hk, hg1.out]; exact Nat.le_refl _)⟩
  have e1 : brr 256 (ov 0 (l.take 256) fun _ => 0) = brr 256 (wh l) := brr_congr fun j hj => by
    unfold wh
    by_cases h : j < l.length
    · rw [ov_in (by omega) (by rw [List.length_take]; omega)]
      simp [List.getElem?_take, hj]
    · rw [ov_out (by rw [List.length_take]; omega), List.getD_eq_getElem?_getD, List.getElem?_eq_none (by omega)]
      rfl
  rw [← e1]
  exact hr2

theorem of_any (z : Int) (w : World) :
    Calls Try.prog 53 #[.int .i64 z] w fun e w' => e = .returned (.func (.func 62) #[] #[.pointer (some ⟨w.heap.size, 0, none⟩)]) ∧ w' = w.alloc (.cells #[.int .i64 z] 3) := by
  go_enter Try.func53, Try.ntmps53
  go_wp2
  go_ret
  exact ⟨rfl, rfl⟩
theorem of1_any (x z : Int) (v : Value) (gc : Nat) (w : World) (hc : w.cell? ⟨gc, 0, none⟩ = some (.int .i64 z)) :
    Calls Try.prog 62 #[.agg #[.int .i64 x, v], .pointer (some ⟨gc, 0, none⟩)] w fun e w' => e = .returned (.bool (x == z)) ∧ w' = w.alloc (.cells #[.int .i64 x, v] 79) := by
  have hlt := World.block_lt_of_cell? w _ hc
  have hc2 : (w.alloc (.cells #[.int .i64 x, v] 79)).cell? ⟨gc, 0, none⟩ = some (.int .i64 z) := by rw [World.cell?_alloc_past _ _ _ hlt]; exact hc
  clear hc
  go_enter Try.func62, Try.ntmps62
  go_wp2
  go_ret
  exact ⟨rfl, rfl⟩
end Go.Proofs.Ytnajlineipapdaa
