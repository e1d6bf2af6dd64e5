/- Package inode: a list's block; slots that a cursor tells. Conditions: those named. -/
import Derived.Test.YtpmldaoligmkaaaIb
import Derived.Test.YtpmldaoligmkaaaCurN
set_option linter.unusedVariables false
set_option maxRecDepth 20000
namespace Go.Proofs.Ytpmldaoligmkaaa
open Go.RowKit

theorem packlist_not (f : Nat → Int) (h : slotB f 112 = false) (w : World) : Calls Try.prog 15 #[.agg (inl 112 f).toArray] w fun e w' => e = .returned (.tuple #[.slice none 0 0, .int .i64 201]) ∧ Below w.heap.size w w' := by
  have HA := Lib.hid (fun (w : World) (g : Nat) (hr : Row w g 37 (inl 112 f)) => areslots_any _ 112 112 f (by omega) w (hol_112 hr))
  rw [h] at HA
  clear h
  go_enter Try.func15, Try.ntmps15
  go_wp2_with (first
    | (refine step_box rfl 1 rfl 37 (.tmp 0) rfl (inl 112 f) rfl ?_; intro g2 w2 hr2 hg2 hb2 hs2
       have R2 := Lib.hid hr2
       have HB2 := Lib.hid hb2
       clear hr2 hb2 hg2 hs2)
    | (go_at_call 33; refine (HA.out _ _ R2.out).mono ?_; rintro e w3 ⟨rfl, rfl⟩))
  go_ret2
  exact ⟨rfl, HB2.out⟩
theorem packlist_ok (f : Nat → Int) (h : slotB f 112 = true) (w : World) : Calls Try.prog 15 #[.agg (inl 112 f).toArray] w fun e w' => ∃ A c, e = .returned (.tuple #[.slice A 256 c, .int .i64 0]) ∧ Hid (w'.ownsRow w.heap.size 5 1 (.slice A 256 c) 256 (bc (blk s2 f 112))) ∧ Hid (Below w.heap.size w w') := by
  have HA := Lib.hid (fun (w : World) (g : Nat) (hr : Row w g 37 (inl 112 f)) => areslots_any _ 112 112 f (by omega) w (hol_112 hr))
  have HF := Lib.hid ((slotB_iff f 112).1 h)
  rw [h] at HA
  clear h
  go_enter Try.func15, Try.ntmps15
  go_wp2_with (first
    | (refine step_box rfl 1 rfl 37 (.tmp 0) rfl (inl 112 f) rfl ?_; intro g2 w2 hr2 hg2 hb2 hs2
       have R2 := Lib.hid hr2
       have HB2 := Lib.hid hb2
       clear hr2 hb2 hg2 hs2)
    | (go_at_call 33; refine (HA.out _ _ R2.out).mono ?_; rintro e w3 ⟨rfl, rfl⟩)
    | (go_at_call 23
       refine (putslots_any w.heap.size none 0 0 [] (some ⟨g2, 0, none⟩) 112 112 f 224 rfl rfl (by omega) HF.out _ HB2.out.size (World.ownsRow_nil _ _ _ _) (hol_112 R2.out)).mono ?_
       rintro e w4 ⟨A4, c4, rfl, ho4, hb4⟩
       have HO4 := Lib.hid (p := w4.ownsRow w.heap.size 5 1 (.slice A4 224 c4) 224 (bc (nb s2 f 112))) (by have := ho4.out; rwa [List.nil_append] at this)
       have HB4 := Lib.hid (below_nxt hb4.out HB2.out)
       clear ho4 hb4)
    | (go_at_call 24
       refine (whole_any w.heap.size A4 224 c4 (nb s2 f 112) (by omega) (by omega) _ HB4.out.size HO4.out).mono ?_
       rintro e w5 ⟨A5, c5, rfl, HO5, hb5⟩
       have HB5 := Lib.hid (HB4.out.trans hb5.out)
       clear hb5))
  go_ret2
  exact ⟨A5, c5, rfl, HO5, HB5⟩
/-! What a cursor tells. -/
theorem num_take_lt (l : List UInt8) (k : Nat) : num (l.take k) < 256 ^ k := by
  have h := num_lt (l.take k)
  have h2 : (l.take k).length ≤ k := by simp; omega
  exact Nat.lt_of_lt_of_le h (Nat.pow_le_pow_right (by decide) h2)
theorem nnx_in {n : Nat} {l : List UInt8} (bad : Bool) (hw : wid (n : Int) ≠ 0) (h : n ≤ l.length) : nnx (n : Int) l bad = (l.take n, l.drop n, bad) := by
  unfold nnx nxt
  rw [if_neg hw, if_neg (by omega), Int.toNat_natCast]
theorem cnum_at (g : Nat) (l : List UInt8) (k : Nat) (hk : k = 1 ∨ k = 2 ∨ k = 4 ∨ k = 8) (w : World) (hc : Cur w g l false) (h2 : k ≤ l.length) (hl : l.length ≤ 256) :
    Calls Try.prog 30 #[.pointer (some ⟨g, 0, none⟩), .int .i64 (k : Int)] w fun e w' => e = .returned (.int .u64 (num (l.take k) : Nat)) ∧ Hid (Cur w' g (l.drop k) false) ∧ Hid (w.grownBy w' (some g)) := by
  refine (num_any g l false (k : Int) w hc (by omega)).mono ?_
  rintro e w' ⟨h1, h2', h3⟩
  rw [nnx_in false (by rcases hk with rfl | rfl | rfl | rfl <;> decide) h2] at h1 h2'
  exact ⟨h1, h2', h3⟩
/-- Only two blocks have changed. -/
structure Two (a b : Nat) (w w' : World) : Prop where
  os : w'.os = w.os
  tape : w'.tape = w.tape
  output : w'.output = w.output
  size : w.heap.size ≤ w'.heap.size
  block : ∀ k, k < w.heap.size → k ≠ a → k ≠ b → w'.heap[k]? = w.heap[k]?
theorem Two.refl (a b : Nat) (w : World) : Two a b w w := ⟨rfl, rfl, rfl, Nat.le_refl _, fun _ _ _ _ => rfl⟩
theorem Two.one {a b : Nat} {w u v : World} (h : Two a b w u) {r : Option Nat} (hg : u.grownBy v r) (hr : r = some a ∨ r = some b ∨ r = none) : Two a b w v := by
  refine ⟨hg.os.trans h.os, hg.tape.trans h.tape, hg.output.trans h.output, Nat.le_trans h.size hg.size, fun k hk ha hb => (hg.block k (Nat.lt_of_lt_of_le hk h.size) ?_).trans (h.block k hk ha hb)⟩
  rcases hr with rfl | rfl | rfl
  · intro e; injection e with e; exact ha e
  · intro e; injection e with e; exact hb e
  · simp
theorem Two.row {a b g : Nat} {w w' : World} {t : TypeId} {cs : List Value} (h : Two a b w w') (hr : Row w g t cs) (ha : g ≠ a) (hb : g ≠ b) : Row w' g t cs := (h.block g hr.lt ha hb).trans hr
theorem Two.below {n a b : Nat} {W w w' : World} (h : Two a b w w') (hb : Below n W w) (hn : n ≤ w.heap.size) (h1 : n ≤ a) (h2 : n ≤ b) : Below n W w' :=
  ⟨h.os.trans hb.os, h.tape.trans hb.tape, h.output.trans hb.output, Nat.le_trans hb.size h.size, fun k hk => (h.block k (Nat.lt_of_lt_of_le hk hn) (by omega) (by omega)).trans (hb.block k hk)⟩
theorem Row.no8 {w : World} {g : Nat} {t : TypeId} {cs : List Value} (h : Row w g t cs) (ht : t ≠ 5) : ∀ q, some g = some q → ∀ xs, w.heap[q]? ≠ some (.cells xs 5 (0, 0)) := by
  intro q e xs e2
  injection e with e
  subst e
  unfold Row at h
  rw [h] at e2
  injection e2 with e2
  injection e2 with _ e2
  exact ht e2
set_option maxHeartbeats 1000000 in
theorem readslots_any (gc g : Nat) (hgc : gc ≠ g) (l : List UInt8) (o m d : Nat) (t : TypeId) (ht : t ≠ 5) (C : Nat → List Value) (hC : ∀ k, k < m → (C k).set (o + k) (.int .i64 ((num ((l.drop (2 * k)).take 2) : Nat) : Int)) = C (k + 1)) (hz : ∀ k, k < m → ∃ z, (C k)[o + k]? = some (.int .i64 z))
    (hm : m ≤ 112) (h2m : 2 * m ≤ l.length) (hl : l.length ≤ 256) (w : World) (hc : Cur w gc l false) (hr : Row w g t (C 0)) :
    Calls Try.prog 35 #[.func (.func 30) #[.pointer (some ⟨gc, 0, none⟩)] #[], .slice (some ⟨g, o, none⟩) m d] w fun e w' => e = .returned (.tuple #[]) ∧ Hid (Cur w' gc (l.drop (2 * m)) false) ∧ Hid (Row w' g t (C m)) ∧ Hid (Two gc g w w') := by
  have HC := Lib.hid (p := Cur w gc (l.drop (2 * 0)) false) (by rw [Nat.mul_zero, List.drop_zero]; exact hc)
  have HR := Lib.hid hr
  have HS := Lib.hid hC
  have HZ := Lib.hid hz
  have HM := Lib.hid hm
  have HL := Lib.hid (p := 2 * m ≤ l.length ∧ l.length ≤ 256) ⟨h2m, hl⟩
  have HG := Lib.hid hgc
  have HT := Lib.hid ht
  clear hc hr hC hz hm h2m hl hgc ht
  go_enter Try.func35, Try.ntmps35
  go_wp2
  go_loopw [7] (fun y wr => ∃ k : Nat, Hid (k ≤ m) ∧ y = .int .i64 (k : Int) ∧ Hid (Cur wr gc (l.drop (2 * k)) false) ∧ Hid (Row wr g t (C k)) ∧ Hid (Two gc g w wr)) (fun y _ => 112 - (intOf y).toNat)
  case atStart => exact ⟨0, Lib.hid (by omega), rfl, HC, HR, Lib.hid (Two.refl _ _ _)⟩
  case round =>
    clear HC HR
    obtain ⟨k, HK, rfl, HC, HR, HW⟩ := hrel
    have hkw : IntKind.i64.wrap ((k : Int) + 1) = (k : Int) + 1 := by rw [IntKind.wrap_i64]; have := HK.out; have := HM.out; omega
    by_cases hkm : k < m
    · have hki : (k : Int) < (m : Int) := by omega
      have hk0 : (0 : Int) ≤ (k : Int) := by omega
      have HKM := Lib.hid hkm
      have HNM := Lib.hid (cnum_at gc (l.drop (2 * k)) 2 (by omega) wr HC.out (by rw [List.length_drop]; have := HL.out; omega) (by rw [List.length_drop]; have := HL.out; omega))
      obtain ⟨x, hx⟩ : ∃ x, num ((l.drop (2 * k)).take 2) = x := ⟨_, rfl⟩
      have hx2 : x < 65536 := by rw [← hx]; exact num_take_lt _ 2
      have hxw : IntKind.i64.wrap (x : Int) = (x : Int) := by rw [IntKind.wrap_i64]; omega
      have HX := Lib.hid hx
      rw [hx] at HNM
      clear hkm hx hx2
      go_wp2_with (go_at_call 30; refine HNM.out.mono ?_; rintro e w2 ⟨rfl, hc2, hg2⟩
                   obtain ⟨z, hz⟩ := HZ.out k HKM.out
                   have HR2 := Lib.hid (HR.out.grown hg2.out (fun e => by injection e with e; have := HG.out; omega))
                   have c2 : w2.cell? ⟨g, o + k, none⟩ = some (.int .i64 z) := by rw [HR2.out.cell, hz]
                   have f2 := HR2.out.free (o + k)
                   have HC2 := Lib.hid (p := Cur w2 gc (l.drop (2 * (k + 1))) false) (by have h9 := hc2.out; rw [List.drop_drop] at h9; exact h9)
                   have HW2 := Lib.hid (HW.out.one hg2.out (.inl rfl))
                   clear hc2 hg2 hz)
      have HR3 := Lib.hid (p := Row (w2.setCell ⟨g, o + k, none⟩ (.int .i64 (x : Int))) g t (C (k + 1))) (by rw [← HS.out k HKM.out, HX.out]; exact HR2.out.put _ _)
      have HC3 := Lib.hid (p := Cur (w2.setCell ⟨g, o + k, none⟩ (.int .i64 (x : Int))) gc (l.drop (2 * (k + 1))) false) (HC2.out.grown (grown_set w2 ⟨g, o + k, none⟩ _) (fun e => by injection e with e; replace e : gc = g := e; have := HG.out; omega) (fun q hq => HR2.out.no8 HT.out q hq))
      have HW3 := Lib.hid (p := Two gc g w (w2.setCell ⟨g, o + k, none⟩ (.int .i64 (x : Int)))) (HW2.out.one (grown_set w2 ⟨g, o + k, none⟩ _) (.inr (.inl rfl)))
      go_roundw
      case rel => exact ⟨k + 1, Lib.hid HKM.out, by go_num, HC3, HR3, HW3⟩
      case measure => have := HKM.out; have := HM.out; simp [intOf]; omega
    · obtain rfl : k = m := by have := HK.out; omega
      have hki : ¬ (k : Int) < (k : Int) := by omega
      clear hkm
      go_wp2
      go_end0
      exact ⟨rfl, HC, HR, HW⟩
end Go.Proofs.Ytpmldaoligmkaaa
