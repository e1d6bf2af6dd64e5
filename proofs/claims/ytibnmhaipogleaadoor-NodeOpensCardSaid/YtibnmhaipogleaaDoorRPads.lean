/- A table's mask, by the reference: what the call leaves, for every table in memory and every length up to 2^40. Conditions: those named. -/
import Derived.Test.YtibnmhaipogleaaDoorApp
import Derived.Test.YtibnmhaipogleaaDoorAesK
import Derived.Test.YtibnmhaipogleaaDoorBytes
import Derived.BigQuiet
set_option linter.unusedVariables false
namespace Go.Proofs.YtibnmhaipogleaaDoor
open Go.RowKit

/-- A pad as it lies: its epoch, its sequence, its bytes. -/
structure PadV where
  e : Nat
  s : Nat
  A : Option Addr
  c : Nat
  l : List UInt8
/-- A table lies there. -/
def PadsAt (w : World) (A : Option Addr) (ps : List PadV) : Prop :=
  ∀ j p, ps[j]? = some p → ∃ g o, A = some ⟨g, o, none⟩ ∧ w.cell? ⟨g, o + j * 3, none⟩ = some (.int .u32 (p.e : Nat)) ∧ w.cell? ⟨g, o + j * 3 + 1, none⟩ = some (.int .u32 (p.s : Nat)) ∧
    w.cell? ⟨g, o + j * 3 + 2, none⟩ = some (.slice p.A p.l.length p.c) ∧ Hol w p.A p.l ∧ p.l.length ≤ 1099511627776
theorem PadsAt.below {w w' : World} {A : Option Addr} {ps : List PadV} (h : PadsAt w A ps) (hb : Below w.heap.size w w') : PadsAt w' A ps := fun j p hp => by
  obtain ⟨g, o, rfl, h1, h2, h3, h4, h5⟩ := h j p hp
  have hg := World.block_lt_of_cell? w _ h1
  exact ⟨g, o, rfl, (hb.cell (p := ⟨g, o + j * 3, none⟩) hg).trans h1, (hb.cell (p := ⟨g, o + j * 3 + 1, none⟩) hg).trans h2, (hb.cell (p := ⟨g, o + j * 3 + 2, none⟩) hg).trans h3, h4.below hb, h5⟩
/-- The bytes of the first pad with that epoch and sequence, bytes 0 behind them. -/
def pm (ps : List PadV) (e s : Nat) (j : Nat) : UInt8 := match ps.find? (fun p => p.e == e && p.s == s) with
  | some p => p.l.getD j 0
  | none => 0
theorem find_at {α : Type} {q : α → Bool} : ∀ {ps : List α} {k : Nat} {p : α}, (∀ j x, j < k → ps[j]? = some x → q x = false) → ps[k]? = some p → q p = true → ps.find? q = some p
  | [], k, p, _, h, _ => by simp at h
  | a :: t, 0, p, _, h, hq => by
    simp at h
    subst h
    simp [hq]
  | a :: t, k + 1, p, hn, h, hq => by
    have ha := hn 0 a (by omega) rfl
    rw [List.find?_cons_of_neg (by simp [ha])]
    exact find_at (fun j x hj hx => hn (j + 1) x (by omega) hx) h hq
theorem find_none {α : Type} {q : α → Bool} {ps : List α} (h : ∀ j x, j < ps.length → ps[j]? = some x → q x = false) : ps.find? q = none := by
  rw [List.find?_eq_none]
  intro x hx
  obtain ⟨j, hj, e⟩ := List.getElem_of_mem hx
  rw [h j x hj (by rw [List.getElem?_eq_getElem hj, e])]
  decide

theorem rpads_any (A : Option Addr) (c : Nat) (ps : List PadV) (e s n : Nat) (hn : n ≤ 1099511627776) (hps : ps.length ≤ 1099511627776) (w : World) (hP : PadsAt w A ps) :
    Calls Tryd.prog 19 #[.slice A ps.length c, .int .u32 e, .int .u32 s, .int .i64 n] w fun x w' => ∃ g, x = .returned (.slice (some ⟨g, 0, none⟩) n n) ∧ Row w' g 5 (brr n (pm ps e s)) ∧ w.heap.size ≤ g ∧ Below w.heap.size w w' := by
  obtain ⟨i, U⟩ := u8_tab
  have HP := Lib.hid hP
  have HN := Lib.hid hn
  have HPS := Lib.hid hps
  clear hP hn hps
  go_enter Tryd.func19, Tryd.ntmps19
  go_wp2_with (refine step_make rfl _ _ 29 5 i U rfl n rfl rfl (by have := HN.out; omega) ?_; intro g w1 hr1 hg1 hb1 hs1)
  have q1 : w.heap.size ≤ g := by rw [hg1.out]; exact Nat.le_refl _
  have HR1 := Lib.hid hr1
  have HB1 := Lib.hid hb1
  have HP1 := Lib.hid (HP.out.below hb1)
  clear hr1 hg1 hb1 hs1
  go_loopw [10] (fun x wr => ∃ k : Nat, k ≤ ps.length ∧ x = .int .i64 k ∧ Hid (∀ j p, j < k → ps[j]? = some p → (p.e == e && p.s == s) = false) ∧ wr = w1) (fun x _ => ps.length - (intOf x).toNat)
  case atStart => exact ⟨0, by omega, rfl, Lib.hid (fun j p hj => by omega), rfl⟩
  case round =>
    obtain ⟨k, hk, rfl, hno, rfl⟩ := hrel
    by_cases hlt : k < ps.length
    · obtain ⟨p, hp⟩ : ∃ p, ps[k]? = some p := ⟨_, List.getElem?_eq_getElem hlt⟩
      obtain ⟨gp, op, rfl, h1, h2, h3, h4, h5⟩ := HP1.out k p hp
      have HPK := Lib.hid hp
      have H4 := Lib.hid h4
      have H5 := Lib.hid h5
      have hki : (k : Int) < (ps.length : Int) := by omega
      have hkw : IntKind.i64.wrap ((k : Int) + 1) = (k : Int) + 1 := by rw [IntKind.wrap_i64]; have := HPS.out; omega
      clear hp h4 h5
      by_cases hm : p.e = e ∧ p.s = s
      · obtain ⟨hme, hms⟩ := hm
        have hfind : ps.find? (fun p => p.e == e && p.s == s) = some p := find_at hno.out HPK.out (by simp [hme, hms])
        have hpm : pm ps e s = fun j => p.l.getD j 0 := by funext j; unfold pm; rw [hfind]
        have he' : ((p.e : Int) == (e : Int)) = true := by rw [hme]; simp
        have hs' : ((p.s : Int) == (s : Int)) = true := by rw [hms]; simp
        obtain ⟨lb, hlb⟩ : ∃ lb : Nat → UInt8, lb = fun j => p.l.getD j 0 := ⟨_, rfl⟩
        have HPM : Hid (pm ps e s = lb) := Lib.hid (by rw [hpm, hlb])
        have HLB := Lib.hid hlb
        clear hfind hpm hlb hme hms hno
        go_wp2
        obtain ⟨wo, rfl⟩ : ∃ wo : World, wo = wr := ⟨_, rfl⟩
        go_loopw [11] (fun x wr => ∃ m : Nat, m ≤ n ∧ m ≤ p.l.length ∧ x = .int .i64 m ∧ Row wr g 5 (brr n (upto m lb fun _ => 0)) ∧ Below w.heap.size w wr) (fun x _ => n - (intOf x).toNat)
        case atStart => exact ⟨0, by omega, by omega, rfl, by rw [upto_zero]; exact HR1.out, HB1.out⟩
        case round =>
          obtain ⟨m, hmn, hml, rfl, hR, hB⟩ := hrel
          obtain ⟨gp', op', hA', h1', h2', h3', h4', h5'⟩ := (HP.out.below hB) k p HPK.out
          injection hA' with hA'
          injection hA' with hgp hop
          subst hgp
          subst hop
          have H5' := Lib.hid h5'
          have HNW : Hid (IntKind.i64.wrap ((m : Int) + 1) = (m : Int) + 1) := Lib.hid (by rw [IntKind.wrap_i64]; have := HN.out; omega)
          by_cases hm1 : m < n
          · by_cases hm2 : m < p.l.length
            · obtain ⟨gy, oy, hAy, _, hcy⟩ := h4'.at_ hm2
              obtain ⟨y, hy⟩ : ∃ y, p.l[m] = y := ⟨_, rfl⟩
              rw [hy] at hcy
              replace hcy : wr.cell? ⟨gy, oy + m, none⟩ = some (B y) := hcy
              have HY : Hid (lb m = y) := Lib.hid (by rw [HLB.out]; show p.l.getD m 0 = y; rw [List.getD_eq_getElem?_getD, List.getElem?_eq_getElem hm2, hy]; rfl)
              rw [hAy] at h3'
              have hm1i : (m : Int) < (n : Int) := by omega
              have hm2i : (m : Int) < (p.l.length : Int) := by omega
              have cO : wr.cell? ⟨g, m, none⟩ = some (B 0) := by rw [hR.cell, brr_get _ hm1, upto_self]
              have fO := hR.free m
              have HR := Lib.hid hR
              have HB := Lib.hid hB
              have hkw2 := HNW.out
              clear hR hB hy h4' h5' hAy
              go_wp2
              go_roundw
              case rel => exact ⟨m + 1, by omega, by omega, by go_num, by rw [← upto_step, ← brr_set, HY.out]; exact HR.out.put _ _, HB.out.setCell q1 _⟩
              case measure => simp [intOf]; omega
            · have hm1i : (m : Int) < (n : Int) := by omega
              have hm2i : ¬ (m : Int) < (p.l.length : Int) := by omega
              have hfin : brr n (upto m lb fun _ => 0) = brr n (pm ps e s) := brr_congr fun j hj => by
                rw [HPM.out]
                by_cases h : j < m
                · exact upto_near _ _ h
                · rw [upto_far _ _ (by omega), HLB.out]
                  show 0 = p.l.getD j 0
                  rw [List.getD_eq_getElem?_getD, List.getElem?_eq_none (by omega)]
                  rfl
              rw [hfin] at hR
              have HR := Lib.hid hR
              have HB := Lib.hid hB
              clear hR hB h4' h5' hfin
              go_wp2
              go_ret
              exact ⟨g, rfl, HR.out, q1, HB.out⟩
          · have hm1i : ¬ (m : Int) < (n : Int) := by omega
            have hfin : brr n (upto m lb fun _ => 0) = brr n (pm ps e s) := brr_congr fun j hj => by
              rw [HPM.out]
              exact upto_near _ _ (by omega)
            rw [hfin] at hR
            have HR := Lib.hid hR
            have HB := Lib.hid hB
            clear hR hB h4' h5' hfin
            go_wp2
            go_ret
            exact ⟨g, rfl, HR.out, q1, HB.out⟩
      · by_cases he : p.e = e
        · have hs' : ((p.s : Int) == (s : Int)) = false := beq_false_of_ne (by intro h; exact hm ⟨he, by omega⟩)
          have he' : ((p.e : Int) == (e : Int)) = true := by rw [he]; simp
          clear hm
          go_wp2
          go_roundw
          case rel => exact ⟨k + 1, by omega, by go_num, Lib.hid (fun j q hj hq => by
            rcases Nat.lt_or_ge j k with h | h
            · exact hno.out j q h hq
            · obtain rfl : j = k := by omega
              have := HPK.out
              rw [hq] at this
              injection this with this
              subst this
              simp
              intro _ h
              simp [h] at hs'), trivial⟩
          case measure => simp [intOf]; omega
        · have he' : ((p.e : Int) == (e : Int)) = false := beq_false_of_ne (by omega)
          clear hm
          go_wp2
          go_roundw
          case rel => exact ⟨k + 1, by omega, by go_num, Lib.hid (fun j q hj hq => by
            rcases Nat.lt_or_ge j k with h | h
            · exact hno.out j q h hq
            · obtain rfl : j = k := by omega
              have := HPK.out
              rw [hq] at this
              injection this with this
              subst this
              simp [he]), trivial⟩
          case measure => simp [intOf]; omega
    · obtain rfl : k = ps.length := by omega
      go_wp2
      go_ret
      refine ⟨g, rfl, ?_, q1, HB1.out⟩
      have : brr n (pm ps e s) = brr n fun _ => 0 := brr_congr fun j hj => by unfold pm; rw [find_none hno.out]
      rw [this]
      exact HR1.out
end Go.Proofs.YtibnmhaipogleaaDoor
