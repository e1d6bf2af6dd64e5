/- A block behind all rounds, by the reference: what each call leaves. Conditions: those named. -/
import Derived.Test.YtecojmafnonkiaaApp
import Derived.Test.YtecojmafnonkiaaBlend
import Derived.Test.YtecojmafnonkiaaRBoxes
import Derived.Test.YtecojmafnonkiaaAesK
import Derived.BigRegion
import Derived.BigQuiet
import Derived.Deep.DeepCutAuto
import Derived.StillTailTactics
import Derived.Deep.Onto
set_option linter.unusedVariables false
namespace Go.Proofs.Ytecojmafnonkiaa
open Go.RowKit

/-- n bytes lie there. -/
def Byt (w : World) (g o n : Nat) (f : Nat → UInt8) : Prop := ∀ j, j < n → w.cell? ⟨g, o + j, none⟩ = some (B (f j))
theorem Byt.lt {w : World} {g o n : Nat} {f : Nat → UInt8} (h : Byt w g o n f) (hn : 0 < n) : g < w.heap.size := World.block_lt_of_cell? w _ (h 0 hn)
theorem Byt.below {w w' : World} {m g o n : Nat} {f : Nat → UInt8} (h : Byt w g o n f) (hb : Below m w w') (hg : g < m) : Byt w' g o n f := fun j hj => (hb.cell (p := ⟨g, o + j, none⟩) hg).trans (h j hj)
theorem Byt.kept {w w' : World} {g o n : Nat} {f : Nat → UInt8} (h : Byt w g o n f) (hb : Below w.heap.size w w') : Byt w' g o n f := fun j hj => (hb.cell (p := ⟨g, o + j, none⟩) (World.block_lt_of_cell? w _ (h j hj))).trans (h j hj)
theorem Byt.drew {w : World} {g o n : Nat} {f : Nat → UInt8} (h : Byt w g o n f) : Byt w.drew g o n f := h
theorem Byt.far {w : World} {g o n : Nat} {f : Nat → UInt8} (h : Byt w g o n f) {p : Addr} (hp : g ≠ p.block) (u : Value) : Byt (w.setCell p u) g o n f := fun j hj => (World.cell?_of_block (w := w) (Below.heap_setCell w p u g hp)).trans (h j hj)
theorem Byt.congr {w : World} {g o n : Nat} {f f' : Nat → UInt8} (h : Byt w g o n f) (e : ∀ j, j < n → f j = f' j) : Byt w g o n f' := fun j hj => by rw [← e j hj]; exact h j hj
theorem own_byt {w : World} {base : Nat} {e : TypeId} {g m cap n : Nat} {f : Nat → UInt8} (h : w.ownsRow base e 1 (.slice (some ⟨g, 0, none⟩) m cap) n (brr n f)) : Byt w g 0 n f := fun j hj => by
  rw [Nat.zero_add]
  exact (own_range h hj).2

set_option maxRecDepth 20000 in
theorem rxor_any (ga oa na ca gb ob nb cb : Nat) (f h : Nat → UInt8) (hna : na = 16) (hnb : nb = 16) (w : World) (hA : Byt w ga oa 16 f) (hB : Byt w gb ob 16 h) :
    Calls Try.prog 35 #[.slice (some ⟨ga, oa, none⟩) na ca, .slice (some ⟨gb, ob, none⟩) nb cb] w fun e w' => ∃ g c, e = .returned (.slice (some ⟨g, 0, none⟩) 16 c) ∧ w'.ownsRow w.heap.size 5 1 (.slice (some ⟨g, 0, none⟩) 16 c) 16 (brr 16 fun j => f j ^^^ h j) ∧ Below w.heap.size w w' := by
  subst hna
  subst hnb
  obtain ⟨i, U⟩ := u8_tab
  have HA := Lib.hid hA
  have HB := Lib.hid hB
  clear hA hB
  go_enter Try.func35, Try.ntmps35
  go_wp2
  go_loopw [6, 5] (fun x v wr => ∃ n : Nat, n ≤ 16 ∧ x = .int .i64 n ∧ wr.ownsRow w.heap.size 5 1 v n (brr n fun j => f j ^^^ h j) ∧ Below w.heap.size w wr) (fun x _ _ => 16 - (intOf x).toNat)
  case atStart => exact ⟨0, by omega, rfl, by rw [brr_zero]; exact World.ownsRow_nil _ _ _ _, Below.refl _ _⟩
  case round =>
    obtain ⟨n, hn, rfl, hown, hbel⟩ := hrel
    by_cases hlt : n < 16
    · have cA := (HA.out.below hbel (HA.out.lt (by omega))) n hlt
      have cB := (HB.out.below hbel (HB.out.lt (by omega))) n hlt
      have hw0 : IntKind.i64.wrap (n : Int) = n := by rw [IntKind.wrap_i64]; omega
      have HOWNJ := Lib.hid hown
      have HBELJ := Lib.hid hbel
      clear hown hbel
      go_wp2
      have hown' : wr.drew.ownsRow w.heap.size 5 1 u5 n (brr n fun j => f j ^^^ h j) := HOWNJ.out.drew
      have hbel' : Below w.heap.size w wr.drew := HBELJ.out.drew
      have hsz : w.heap.size ≤ wr.heap.size := HBELJ.out.size
      go_region_law (refine step_one rfl (.tmp 11) (.tmp 21) 22 rfl 5 i U w.heap.size u5 n (fun j => f j ^^^ h j) (by rfl) (hown'.alloc _) wr.heap.size (by rfl) (by exact made_byte wr.drew _ _) (by omega) (by simp; omega) ?_; intro v2 w2 hown2 hg2 hat2)
      all_goals
        have hb2 : Below w.heap.size w w2 := (hbel'.alloc hbel'.size _).grown hg2 (by simp; omega) (fun k hk => (hown'.lt k hk).1)
        clear hg2 hat2 hown' hbel'
        go_wp2
        go_roundw
        case rel => exact ⟨n + 1, by omega, by go_num, hown2, hb2⟩
        case measure => simp [intOf]; omega
    · obtain rfl : n = 16 := by omega
      obtain ⟨g, c, rfl, _, _⟩ := hown.form (by omega)
      go_wp2
      go_ret
      exact ⟨g, c, rfl, hown, hbel⟩

theorem xor_left (x y z : UInt8) : x ^^^ (y ^^^ z) = y ^^^ (x ^^^ z) := by rw [← UInt8.xor_assoc, UInt8.xor_comm x y, UInt8.xor_assoc]
theorem mx_ref (t : Nat → UInt8) (p q : Nat) (hq : q < 4) : times 2 (t (4 * p + q)) ^^^ times 3 (t (4 * p + (q + 1) % 4)) ^^^ t (4 * p + (q + 2) % 4) ^^^ t (4 * p + (q + 3) % 4) = mx t (4 * p + q) := by
  have e1 : 4 * p + q - (4 * p + q) % 4 = 4 * p := by omega
  have e2 : (4 * p + q + 1) % 4 = (q + 1) % 4 := by omega
  unfold mx al
  rw [e1, e2, times_2l, times_three, dbl_xor]
  have h4 : q = 0 ∨ q = 1 ∨ q = 2 ∨ q = 3 := by omega
  rcases h4 with rfl | rfl | rfl | rfl
  all_goals
    simp only [Nat.zero_add, Nat.add_zero, Nat.reduceAdd, Nat.reduceMod]
    generalize t (4 * p) = a
    generalize t (4 * p + 1) = b
    generalize t (4 * p + 2) = c
    generalize t (4 * p + 3) = d
    generalize dbl _ = x
    generalize dbl _ = y
    simp [UInt8.xor_assoc, UInt8.xor_comm, xor_left, xor_cancel]
theorem cut_any (W : World) (g N cap a b n : Nat) (h1 : a + n = b) (h2 : b ≤ cap) (hn : 0 < n) : (Instr.slice 22 (.slice (some ⟨g, 0, none⟩) N cap) (some (.int .i64 a)) (some (.int .i64 b)) none).run Try.prog W = .ok (.slice (some ⟨g, a, none⟩) n (cap - a)) W := by
  have hs : (sizeOf (Try.prog.elem 22)).run Try.prog W = .ok 1 W := by kernel_rfl
  have hne : ¬ (cap = a) := by omega
  rw [run_slice_lh (P := Try.prog) W 22 (some ⟨g, 0, none⟩) N cap (by kernel_rfl) .i64 .i64 (a : Int) (b : Int) (by omega) (by omega) (by omega), hs]
  simp [Result.andThen, sliced, hne, Addr.add_mid]
  omega
/-- A block behind r rounds. -/
def sx (K s : Nat → UInt8) (r : Nat) : Nat → UInt8 := if r ≤ 13 then st K s r else enc K s
set_option maxRecDepth 20000 in
set_option maxHeartbeats 4000000 in
theorem renc_any (gk ck nk : Nat) (K s : Nat → UInt8) (hnk : nk = 240) (hck : 240 ≤ ck) (gb ob nb cb : Nat) (hnb : nb = 256) (w : World) (hK : Byt w gk 0 240 K) (hB : BoxAt w gb ob) :
    Calls Try.prog 25 #[.slice (some ⟨gk, 0, none⟩) nk ck, .slice (some ⟨gb, ob, none⟩) nb cb, .agg (brr 16 s).toArray] w fun e w' => e = .returned (.agg (brr 16 (enc K s)).toArray) ∧ Below w.heap.size w w' := by
  subst hnk
  subst hnb
  obtain ⟨i, U⟩ := u8_tab
  have hz := Lib.hid (p := ∀ w : World, (zeroValue 57).run Try.prog w = .ok (.agg (brr 16 (fun _ => 0)).toArray) w) fun w => by kernel_rfl
  have i16 := Lib.hid (p := (Try.prog.info? 57).map (·.size) = some 16) (by kernel_rfl)
  have HK := Lib.hid hK
  have HBX := Lib.hid hB
  clear hK hB
  go_enter Try.func25, Try.ntmps25
  go_wp2_with (first
    | (refine step_box rfl 5 rfl 57 _ rfl (brr 16 s) rfl ?_; intro g1 w1 hr1 hg1 hb1 hs1)
    | (refine step_alloc rfl 6 rfl 57 rfl _ hz ?_; intro g2 w2 hr2 hg2 hb2 hs2))
  have hck16 : (16 : Int) ≤ ck := by omega
  go_still_tail 3, (by kernel_rfl)
  change wpList _ _ _ _ _ w2.drew
  have hr1' := (hr1.kept hb2).drew
  have hr2' := hr2.drew
  have hBY1 : Byt w2.drew g1 0 16 s := fun j hj => by rw [Nat.zero_add, hr1'.cell, brr_get _ hj]
  have hbb : Below w.heap.size w w2.drew := ((hb1.trans (hb2.mono hb1.size))).drew
  have q1 : w.heap.size ≤ g1 := by rw [hg1.out]; exact Nat.le_refl _
  have q2 : w.heap.size ≤ g2 := by rw [hg2.out]; exact hb1.size
  have hBY2 : Byt w2.drew gk 0 240 K := HK.out.below hbb (HK.out.lt (by omega))
  have HY1 := Lib.hid hBY1
  have HY2 := Lib.hid hBY2
  have HBB := Lib.hid hbb
  have HR2 := Lib.hid hr2'
  clear hr1 hr2 hb1 hb2 hg1 hg2 hs1 hs2 hr1' hBY1 hBY2 hbb hr2'
  generalize w2.drew = wa at *
  go_wp2_with (go_at_call 35; refine (rxor_any g1 0 16 16 gk 0 16 ck s K rfl rfl _ HY1.out (fun j hj => HY2.out j (by omega))).mono ?_; rintro e w3 ⟨g3, c3, rfl, hown3, hb3⟩)
  have hst0 : w3.ownsRow w.heap.size 5 1 (.slice (some ⟨g3, 0, none⟩) 16 c3) 16 (brr 16 (sx K s 0)) := by
    rw [show brr 16 (sx K s 0) = brr 16 fun j => s j ^^^ K j from brr_congr fun j hj => by unfold sx; rw [if_pos (by omega)]; show s j ^^^ K (16 * 0 + j) = _; rw [show 16 * 0 + j = j by omega]]
    exact hown3.mono HBB.out.size
  have hbel3 := HBB.out.trans (hb3.mono HBB.out.size)
  have hr23 : Row w3 g2 57 (brr 16 fun _ => 0) := HR2.out.kept hb3
  clear hown3 hb3 HY1 HY2 HBB HR2
  go_loopw [8, 7] (fun x v wr => ∃ r g c : Nat, r ≤ 14 ∧ x = .int .i64 (r + 1 : Nat) ∧ v = .slice (some ⟨g, 0, none⟩) 16 c ∧ wr.ownsRow w.heap.size 5 1 (.slice (some ⟨g, 0, none⟩) 16 c) 16 (brr 16 (sx K s r)) ∧ Row wr g2 57 (brr 16 fun _ => 0) ∧ Below w.heap.size w wr) (fun x _ _ => 20 - (intOf x).toNat)
  case atStart => exact ⟨0, g3, c3, by omega, rfl, rfl, hst0, hr23, hbel3⟩
  case round =>
    clear hst0 hr23 hbel3
    obtain ⟨wb, rfl⟩ : ∃ wb : World, wb = wr := ⟨_, rfl⟩
    obtain ⟨r, gs, cs, hr, rfl, rfl, hown, hr2, hbel⟩ := hrel
    by_cases hlt : r < 14
    · have hS : Byt wb gs 0 16 (sx K s r) := own_byt hown
      obtain ⟨cur, hcur⟩ : ∃ cur, cur = sx K s r := ⟨_, rfl⟩
      rw [← hcur] at hS
      have HCUR := Lib.hid hcur
      have HS := Lib.hid hS
      have HR2 := Lib.hid hr2
      have HBEL := Lib.hid hbel
      clear hcur hS hown hr2 hbel
      go_wp2_with (refine step_make rfl _ _ 22 5 i U rfl 16 rfl rfl (by omega) ?_; intro gt w4 hr4 hg4 hb4 hs4)
      have qt : w.heap.size ≤ gt := by rw [hg4.out]; exact HBEL.out.size
      have qst : gs ≠ gt := by have := HS.out.lt (by omega); have := hg4.out; omega
      have q2t : g2 ≠ gt := by have := HR2.out.lt; have := hg4.out; omega
      have hS4 := HS.out.kept hb4
      have hR24 := HR2.out.kept hb4
      have hB4 := HBEL.out.trans (hb4.mono HBEL.out.size)
      rw [show brr 16 (fun _ => (0 : UInt8)) = brr 16 (upto (4 * 0) (sr cur) fun _ => 0) from by rw [Nat.mul_zero, upto_zero]] at hr4
      clear HS HR2 HBEL hg4 hb4 hs4
      go_loopw [10] (fun x wr => ∃ p : Nat, p ≤ 4 ∧ x = .int .i64 p ∧ Row wr gt 5 (brr 16 (upto (4 * p) (sr cur) fun _ => 0)) ∧ Byt wr gs 0 16 cur ∧ Row wr g2 57 (brr 16 fun _ => 0) ∧ Below w.heap.size w wr) (fun x _ => 4 - (intOf x).toNat)
      case atStart => exact ⟨0, by omega, rfl, hr4, hS4, hR24, hB4⟩
      case round =>
        clear hr4 hS4 hR24 hB4
        obtain ⟨wd, rfl⟩ : ∃ wd : World, wd = wr := ⟨_, rfl⟩
        obtain ⟨p, hp, rfl, hT, hS, hR, hB⟩ := hrel
        by_cases hp4 : p < 4
        · have HT := Lib.hid hT
          have HS := Lib.hid hS
          have HR := Lib.hid hR
          have HB := Lib.hid hB
          clear hT hS hR hB
          go_wp2
          go_loopw [11] (fun x wr => ∃ q : Nat, q ≤ 4 ∧ x = .int .i64 q ∧ Row wr gt 5 (brr 16 (upto (4 * p + q) (sr cur) fun _ => 0)) ∧ Byt wr gs 0 16 cur ∧ Row wr g2 57 (brr 16 fun _ => 0) ∧ Below w.heap.size w wr) (fun x _ => 4 - (intOf x).toNat)
          case atStart => exact ⟨0, by omega, rfl, HT.out, HS.out, HR.out, HB.out⟩
          case round =>
            clear HT HS HR HB
            obtain ⟨q, hq, rfl, hT, hS, hR, hB⟩ := hrel
            by_cases hq4 : q < 4
            · have e1 : 4 * ((p + q) % 4) + q = (4 * p + q + 4 * ((4 * p + q) % 4)) % 16 := by omega
              have hsr : sr cur (4 * p + q) = sbox (cur (4 * ((p + q) % 4) + q)) := by rw [e1]; rfl
              have cA : wr.cell? ⟨gs, 4 * ((p + q) % 4) + q, none⟩ = some (B (cur (4 * ((p + q) % 4) + q))) := by have := hS (4 * ((p + q) % 4) + q) (by omega); rwa [Nat.zero_add] at this
              have cB := (HBX.out.below hB HBX.out.1).2 (cur (4 * ((p + q) % 4) + q))
              have cT : wr.cell? ⟨gt, 4 * p + q, none⟩ = some (B 0) := by rw [hT.cell, brr_get _ (by omega), upto_self]
              have fT := hT.free (4 * p + q)
              have HSR := Lib.hid hsr
              have HT := Lib.hid hT
              have HS := Lib.hid hS
              have HR := Lib.hid hR
              have HB := Lib.hid hB
              clear e1 hsr hT hS hR hB
              go_wp2
              go_roundw
              case rel => exact ⟨q + 1, by omega, by go_num, by rw [show 4 * p + (q + 1) = (4 * p + q) + 1 by omega, ← upto_step, ← brr_set, HSR.out]; exact HT.out.put _ _, HS.out.far qst _, HR.out.far q2t _, HB.out.setCell qt _⟩
              case measure => simp [intOf]; omega
            · obtain rfl : q = 4 := by omega
              go_wp2
              go_roundw
              case rel => exact ⟨p + 1, by omega, by go_num, hT, hS, hR, hB⟩
              case measure => simp [intOf]; omega
        · obtain rfl : p = 4 := by omega
          rw [show 4 * 4 = 16 from rfl, upto_all] at hT
          obtain ⟨tn, htn⟩ : ∃ tn, tn = sr cur := ⟨_, rfl⟩
          rw [← htn] at hT
          obtain ⟨nx, hnx⟩ : ∃ nx, nx = if r + 1 < 14 then mx tn else tn := ⟨_, rfl⟩
          have HTN := Lib.hid htn
          have HNX := Lib.hid hnx
          have HT := Lib.hid hT
          have HR := Lib.hid hR
          have HB := Lib.hid hB
          clear htn hnx hT hS hR hB
          go_upto_if 54 with fail
          generalize hbb : decide ((r : Int) + 1 < 14) = bb
          have HBB := Lib.hid hbb
          clear hbb
          go_cut [9, 12, 13, 14] (fun s9 s12 s13 s14 wx => ∃ gn, s9 = .slice (some ⟨gn, 0, none⟩) 16 16 ∧ Byt wx gn 0 16 nx ∧ Row wx g2 57 (brr 16 fun _ => 0) ∧ Below w.heap.size w wx)
          case first =>
            cases bb with
            | true =>
              have hl : r + 1 < 14 := by have := of_decide_eq_true HBB.out; omega
              have HL := Lib.hid hl
              clear hl HBB
              go_wp2_with (refine step_make rfl _ _ 22 5 i U rfl 16 rfl rfl (by omega) ?_; intro gu w5 hr5 hg5 hb5 hs5)
              have qu : w.heap.size ≤ gu := by rw [hg5.out]; exact HB.out.size
              have qtu : gt ≠ gu := by have := HT.out.lt; have := hg5.out; omega
              have q2u : g2 ≠ gu := by have := HR.out.lt; have := hg5.out; omega
              have hT5 := HT.out.kept hb5
              have hR5 := HR.out.kept hb5
              have hB5 := HB.out.trans (hb5.mono HB.out.size)
              rw [show brr 16 (fun _ => (0 : UInt8)) = brr 16 (upto (4 * 0) (mx tn) fun _ => 0) from by rw [Nat.mul_zero, upto_zero]] at hr5
              clear HT HR HB hg5 hb5 hs5
              go_loopw [13] (fun x wr => ∃ p : Nat, p ≤ 4 ∧ x = .int .i64 p ∧ Row wr gu 5 (brr 16 (upto (4 * p) (mx tn) fun _ => 0)) ∧ Row wr gt 5 (brr 16 tn) ∧ Row wr g2 57 (brr 16 fun _ => 0) ∧ Below w.heap.size w wr) (fun x _ => 4 - (intOf x).toNat)
              case atStart => exact ⟨0, by omega, rfl, hr5, hT5, hR5, hB5⟩
              case round =>
                clear hr5 hT5 hR5 hB5
                obtain ⟨wd', rfl⟩ : ∃ wd' : World, wd' = wr := ⟨_, rfl⟩
                obtain ⟨p, hp, rfl, hU, hT, hR, hB⟩ := hrel
                by_cases hp4 : p < 4
                · have HU := Lib.hid hU
                  have HT := Lib.hid hT
                  have HR := Lib.hid hR
                  have HB := Lib.hid hB
                  clear hU hT hR hB
                  go_wp2
                  generalize hpb : decide ((p : Int) < 4) = pb
                  clear hpb
                  go_loopw [14] (fun x wr => ∃ q : Nat, q ≤ 4 ∧ x = .int .i64 q ∧ Row wr gu 5 (brr 16 (upto (4 * p + q) (mx tn) fun _ => 0)) ∧ Row wr gt 5 (brr 16 tn) ∧ Row wr g2 57 (brr 16 fun _ => 0) ∧ Below w.heap.size w wr) (fun x _ => 4 - (intOf x).toNat)
                  case atStart => exact ⟨0, by omega, rfl, HU.out, HT.out, HR.out, HB.out⟩
                  case round =>
                    clear HU HT HR HB
                    obtain ⟨q, hq, rfl, hU, hT, hR, hB⟩ := hrel
                    by_cases hq4 : q < 4
                    · obtain ⟨P, hP⟩ : ∃ P : Nat, P = 4 * p := ⟨_, rfl⟩
                      obtain ⟨i0, hi0⟩ : ∃ i0 : Nat, i0 = P + q := ⟨_, rfl⟩
                      have wP : IntKind.i64.wrap (4 * (p : Int)) = P := by rw [IntKind.wrap_i64]; omega
                      have wPP : IntKind.i64.wrap (P : Int) = P := by rw [IntKind.wrap_i64]; omega
                      have w0 : IntKind.i64.wrap ((P : Int) + q) = i0 := by rw [IntKind.wrap_i64]; omega
                      have l0 : i0 < 16 := by omega
                      have li0 : (i0 : Int) < 16 := by omega
                      obtain ⟨q1, hq1⟩ : ∃ q1 : Nat, q1 = q + 1 := ⟨_, rfl⟩
                      obtain ⟨m1, hm1⟩ : ∃ m1 : Nat, m1 = q1 % 4 := ⟨_, rfl⟩
                      obtain ⟨i1, hi1⟩ : ∃ i1 : Nat, i1 = P + m1 := ⟨_, rfl⟩
                      have wq1 : IntKind.i64.wrap ((q : Int) + 1) = q1 := by rw [IntKind.wrap_i64]; omega
                      have tq1 : (q1 : Int).tmod 4 = m1 := by rw [Int.tmod_eq_emod_of_nonneg (by omega)]; omega
                      have eq1 : (q1 : Int) % 4 = m1 := by omega
                      have wm1 : IntKind.i64.wrap (m1 : Int) = m1 := by rw [IntKind.wrap_i64]; omega
                      have ws1 : IntKind.i64.wrap ((P : Int) + m1) = i1 := by rw [IntKind.wrap_i64]; omega
                      have l1 : i1 < 16 := by omega
                      have li1 : (i1 : Int) < 16 := by omega
                      obtain ⟨q2, hq2⟩ : ∃ q2 : Nat, q2 = q + 2 := ⟨_, rfl⟩
                      obtain ⟨m2, hm2⟩ : ∃ m2 : Nat, m2 = q2 % 4 := ⟨_, rfl⟩
                      obtain ⟨i2, hi2⟩ : ∃ i2 : Nat, i2 = P + m2 := ⟨_, rfl⟩
                      have wq2 : IntKind.i64.wrap ((q : Int) + 2) = q2 := by rw [IntKind.wrap_i64]; omega
                      have tq2 : (q2 : Int).tmod 4 = m2 := by rw [Int.tmod_eq_emod_of_nonneg (by omega)]; omega
                      have eq2 : (q2 : Int) % 4 = m2 := by omega
                      have wm2 : IntKind.i64.wrap (m2 : Int) = m2 := by rw [IntKind.wrap_i64]; omega
                      have ws2 : IntKind.i64.wrap ((P : Int) + m2) = i2 := by rw [IntKind.wrap_i64]; omega
                      have l2 : i2 < 16 := by omega
                      have li2 : (i2 : Int) < 16 := by omega
                      obtain ⟨q3, hq3⟩ : ∃ q3 : Nat, q3 = q + 3 := ⟨_, rfl⟩
                      obtain ⟨m3, hm3⟩ : ∃ m3 : Nat, m3 = q3 % 4 := ⟨_, rfl⟩
                      obtain ⟨i3, hi3⟩ : ∃ i3 : Nat, i3 = P + m3 := ⟨_, rfl⟩
                      have wq3 : IntKind.i64.wrap ((q : Int) + 3) = q3 := by rw [IntKind.wrap_i64]; omega
                      have tq3 : (q3 : Int).tmod 4 = m3 := by rw [Int.tmod_eq_emod_of_nonneg (by omega)]; omega
                      have eq3 : (q3 : Int) % 4 = m3 := by omega
                      have wm3 : IntKind.i64.wrap (m3 : Int) = m3 := by rw [IntKind.wrap_i64]; omega
                      have ws3 : IntKind.i64.wrap ((P : Int) + m3) = i3 := by rw [IntKind.wrap_i64]; omega
                      have l3 : i3 < 16 := by omega
                      have li3 : (i3 : Int) < 16 := by omega
                      have k0 := hT.cell i0
                      have k1 := hT.cell i1
                      have k2 := hT.cell i2
                      have k3 := hT.cell i3
                      rw [brr_get _ l0] at k0
                      rw [brr_get _ l1] at k1
                      rw [brr_get _ l2] at k2
                      rw [brr_get _ l3] at k3
                      have cU : wr.cell? ⟨gu, i0, none⟩ = some (B 0) := by rw [hU.cell, brr_get _ l0, hi0, hP, upto_self]
                      have fU := hU.free i0
                      have HI := Lib.hid (p := i0 = 4 * p + q ∧ i1 = 4 * p + (q + 1) % 4 ∧ i2 = 4 * p + (q + 2) % 4 ∧ i3 = 4 * p + (q + 3) % 4) (by omega)
                      clear hP hi0 hi1 hi2 hi3 hq1 hq2 hq3 hm1 hm2 hm3
                      have HU := Lib.hid hU
                      have HT := Lib.hid hT
                      have HR := Lib.hid hR
                      have HB := Lib.hid hB
                      clear hU hT hR hB
                      go_wp2
                      go_still_tail 45, (by kernel_rfl)
                      still_call (times_any 2 _ _)
                      repeat still_step
                      still_call (times_any 3 _ _)
                      repeat still_step
                      refine wpStill_nil ?_
                      change wpList _ _ _ _ _ wr.drew
                      have HUz := Lib.hid HU.out.drew
                      have HTz := Lib.hid HT.out.drew
                      have HRz := Lib.hid HR.out.drew
                      have HBz := Lib.hid HB.out.drew
                      have cUz : wr.drew.cell? ⟨gu, i0, none⟩ = some (B 0) := cU
                      have fUz : wr.drew.frozen? ⟨gu, i0, none⟩ = false := fU
                      clear HU HT HR HB cU fU k0 k1 k2 k3
                      generalize wr.drew = wz at *
                      clear wq1 wq2 wq3 tq1 tq2 tq3 eq1 eq2 eq3 wm1 wm2 wm3 ws1 ws2 ws3 w0 wP wPP
                      go_wp2
                      go_roundw
                      case rel =>
                        obtain ⟨e0, e1, e2, e3⟩ := HI.out
                        have hv := mx_ref tn p q hq4
                        rw [← e0, ← e1, ← e2, ← e3] at hv
                        all_goals
                          refine ⟨q + 1, by omega, by go_num, ?_, HTz.out.far qtu _, HRz.out.far q2u _, HBz.out.setCell qu _⟩
                          rw [show 4 * p + (q + 1) = i0 + 1 by omega, ← upto_step, ← brr_set, ← hv]
                          have hh := HUz.out
                          rw [← e0] at hh
                          exact hh.put _ _
                      case measure => simp [intOf]; omega
                    · obtain rfl : q = 4 := by omega
                      go_wp2
                      go_roundw
                      case rel => exact ⟨p + 1, by omega, by go_num, hU, hT, hR, hB⟩
                      case measure => simp [intOf]; omega
                · obtain rfl : p = 4 := by omega
                  rw [show 4 * 4 = 16 from rfl, upto_all] at hU
                  have HU := Lib.hid hU
                  have HR := Lib.hid hR
                  have HB := Lib.hid hB
                  clear hU hT hR hB
                  go_wp2
                  go_meet
                  exact ⟨gu, rfl, fun j hj => by rw [Nat.zero_add, HU.out.cell, brr_get _ hj, HNX.out, if_pos HL.out], HR.out, HB.out⟩
            | false =>
              have hl : ¬ r + 1 < 14 := by have := of_decide_eq_false HBB.out; omega
              have HL := Lib.hid hl
              clear hl HBB
              go_wp2
              go_meet
              exact ⟨gt, rfl, fun j hj => by rw [Nat.zero_add, HT.out.cell, brr_get _ hj, HNX.out, if_neg HL.out], HR.out, HB.out⟩
          case rest =>
            obtain ⟨gn, rfl, hN, hR, hB⟩ := hcut
            obtain ⟨a, ha⟩ : ∃ a : Nat, a = 16 * (r + 1) := ⟨_, rfl⟩
            obtain ⟨b, hb⟩ : ∃ b : Nat, b = a + 16 := ⟨_, rfl⟩
            have hai : (16 : Int) * ((r : Int) + 1) = a := by omega
            have hbi : (a : Int) + 16 = b := by omega
            have hcutk := fun W => cut_any W gk 240 ck a b 16 hb.symm (by omega) (by omega)
            have hKa : Byt wc gk a 16 (fun j => K (a + j)) := fun j hj => by
              have := (HK.out.below hB (HK.out.lt (by omega))) (a + j) (by omega)
              rwa [Nat.zero_add] at this
            have HA := Lib.hid ha
            have HKA := Lib.hid hKa
            have HN := Lib.hid hN
            have HR := Lib.hid hR
            have HB := Lib.hid hB
            clear ha hb hKa hN hR hB
            go_wp2_with (go_at_call 35; refine (rxor_any gn 0 16 16 gk a 16 (ck - a) nx (fun j => K (a + j)) rfl rfl _ HN.out HKA.out).mono ?_; rintro e w6 ⟨g6, c6, rfl, hown6, hb6⟩)
            have hsx : brr 16 (fun j => nx j ^^^ K (a + j)) = brr 16 (sx K s (r + 1)) := brr_congr fun j hj => by
              rw [HNX.out, HTN.out, HCUR.out, HA.out]
              unfold sx
              rw [if_pos (show r ≤ 13 by omega)]
              by_cases h13 : r + 1 ≤ 13
              · rw [if_pos (show r + 1 < 14 by omega), if_pos h13]
                rfl
              · obtain rfl : r = 13 := by omega
                rw [if_neg (by omega), if_neg (by omega)]
                rfl
            have hown7 : w6.ownsRow w.heap.size 5 1 (.slice (some ⟨g6, 0, none⟩) 16 c6) 16 (brr 16 (sx K s (r + 1))) := by
              rw [← hsx]
              exact hown6.mono HB.out.size
            have hb7 := HB.out.trans (hb6.mono HB.out.size)
            have hr7 := HR.out.kept hb6
            clear hown6 hb6 hsx
            go_roundw
            case rel =>
              first
                | exact ⟨r + 1, g6, c6, by omega, by go_num, rfl, hown7, hr7, hb7⟩
                | (repeat apply Exists.intro
                   apply And.intro ?ra ?rb
                   case rb => exact rfl
                   case ra => exact ⟨r + 1, g6, c6, by omega, by go_num, rfl, hown7, hr7, hb7⟩)
            case measure => simp [intOf]; omega
    · obtain rfl : r = 14 := by omega
      go_wp2_with (refine step_alloc rfl 15 rfl 57 rfl _ hz ?_; intro g5 w5 hr5 hg5 hb5 hs5)
      have hS5 : Byt w5 gs 0 16 (enc K s) := (own_byt hown).kept hb5
      have hR5 := hr2.kept hb5
      have hB5 := hbel.trans (hb5.mono hbel.size)
      have q5 : w.heap.size ≤ g5 := by rw [hg5.out]; exact hbel.size
      have q25 : g2 ≠ g5 := by have := hr2.lt; have := hg5.out; omega
      have qs5 : gs ≠ g5 := by have := (own_byt hown).lt (by omega); have := hg5.out; omega
      rw [show brr 16 (fun _ => (0 : UInt8)) = brr 16 (upto 0 (enc K s) fun _ => 0) from by rw [upto_zero]] at hr5
      clear hown hr2 hbel hg5 hb5 hs5
      go_loopw [16] (fun x wr => ∃ n : Nat, n ≤ 16 ∧ x = .int .i64 n ∧ Row wr g5 57 (brr 16 (upto n (enc K s) fun _ => 0)) ∧ Byt wr gs 0 16 (enc K s) ∧ Row wr g2 57 (brr 16 fun _ => 0) ∧ Below w.heap.size w wr) (fun x _ => 16 - (intOf x).toNat)
      case atStart => exact ⟨0, by omega, rfl, hr5, hS5, hR5, hB5⟩
      case round =>
        clear hr5 hS5 hR5 hB5
        obtain ⟨n, hn, rfl, hO, hS, hR, hB⟩ := hrel
        by_cases hlt : n < 16
        · have cS : wr.cell? ⟨gs, n, none⟩ = some (B (enc K s n)) := by have := hS n hlt; rwa [Nat.zero_add] at this
          have cO : wr.cell? ⟨g5, n, none⟩ = some (B 0) := by rw [hO.cell, brr_get _ hlt, upto_self]
          have fO := hO.free n
          have HO := Lib.hid hO
          have HS := Lib.hid hS
          have HR := Lib.hid hR
          have HB := Lib.hid hB
          clear hO hS hR hB
          go_wp2
          go_roundw
          case rel => exact ⟨n + 1, by omega, by go_num, by rw [← upto_step, ← brr_set]; exact HO.out.put _ _, HS.out.far qs5 _, HR.out.far q25 _, HB.out.setCell q5 _⟩
          case measure => simp [intOf]; omega
        · obtain rfl : n = 16 := by omega
          rw [upto_all] at hO
          go_wp2_with (first
            | (refine step_load rfl 129 rfl 57 _ rfl _ rfl (brr 16 (enc K s)) _ hO.all Try.underlying57 rfl (by rw [brr_len]; exact i16) ?_)
            | (refine step_store rfl 57 _ _ rfl g2 rfl _ (brr 16 (fun _ => 0)) (brr 16 (enc K s)) rfl hR (by rw [brr_len, brr_len]) (by rw [brr_len]; exact i16) (brr_one _ _) ?_; intro w9 hr9 hg9 hs9))
          refine bodyPost_ret (results_cell_row rfl _ _ g2 _ _ _ _ rfl hr9 Try.underlying57 rfl (by simpa [brr_len] using i16.out)) rfl ?_
          exact ⟨rfl, hB.grown hg9 hB.size (fun k hk => by injection hk with hk; omega)⟩
end Go.Proofs.Ytecojmafnonkiaa
