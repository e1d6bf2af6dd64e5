/- The reference's disk: the last waiting write of a block dropped. Conditions: the disk lies there. -/
import Derived.Test.YtnajlineipapdaaMgPDropE
import Derived.Test.YtnajlineipapdaaSafe
import Derived.Test.YtnajlineipapdaaDnewW
import Derived.BigRegion
set_option linter.unusedVariables false
namespace Go.Proofs.Ytnajlineipapdaa
open Go.RowKit

section
variable {b : Nat} {w : World} {g : Nat} {v1 v2 v3 v4 : Value} {ss : List BV} {rs al : List (Nat × BV)} {ts : List (Int × Int × BV)}
/-- A new row of waiting writes, behind the call. -/
def DWaits (b : Nat) (w w' : World) (g : Nat) (v1 v2 v3 v4 : Value) (ss : List BV) (rs al : List (Nat × BV)) (ts : List (Int × Int × BV)) : Prop :=
  ∃ u2, Hid (RDisk b w' g v1 u2 v3 v4 ss rs al ts) ∧ Hid (Chg (foot g v1 v2 v3 v4) w w') ∧ Hid (∀ q, u2.ownBlock = some q → w.heap.size ≤ q)
set_option maxRecDepth 20000 in
set_option maxHeartbeats 4000000 in
theorem dtamper_drop (h : RDisk b w g v1 v2 v3 v4 ss rs al ts) (hr : rs.length ≤ 1000000) (a : Nat) (ha : a < ss.length) (m : Nat) (A : Option Addr) (len c : Nat) :
    Calls Try.prog 25 #[.pointer (some ⟨g, 0, none⟩), .agg (tampC 4 (a : Int) (m : Int) A len c).toArray] w fun e w' => e = .returned (.int .i64 0) ∧ DWaits b w w' g v1 v2 v3 v4 ss (dropL rs a) al ts := by
  obtain ⟨A2, k2, rfl⟩ := own_sl h.o2
  have H := Lib.hid h
  have HRL := Lib.hid hr
  have HA := Lib.hid ha
  have hm0 : ¬ (m : Int) < 0 := by omega
  have i2 := Lib.hid (p := (Try.prog.info? 81).map (·.size) = some 2) (by kernel_rfl)
  clear h hr ha
  go_enter Try.func25, Try.ntmps25
  go_wp2_with (first
    | (refine step_box rfl 3 rfl 35 _ rfl (tampC 4 (a : Int) (m : Int) A len c) rfl ?_; intro g5 w5 hr5 hg5 hb5 hs5
       have q0 := hr5.cell 0
       have q1 := hr5.cell 1
       have q2 := hr5.cell 2
       simp [tampC] at q0 q1 q2
       have HB5 := Lib.hid hb5
       have HR5 := Lib.hid hr5
       have H5 := Lib.hid (H.out.kept hb5)
       clear hr5 hg5 hb5 hs5)
    | (go_at_call 42; refine (has_in H5.out a HA.out).mono ?_; rintro e1 w1 ⟨rfl, hw1⟩; obtain rfl := hw1.symm))
  clear q0 q2
  go_loopw [6, 7] (fun z x wr => ∃ k : Nat, k ≤ rs.length ∧ x = .int .i64 (k : Int) ∧ z = .int .i64 (lastI rs a k) ∧ Hid (Below w5.heap.size w5 wr)) (fun _ x _ => rs.length - (intOf x).toNat)
  case atStart => exact ⟨0, by omega, rfl, rfl, Lib.hid (Below.refl _ _)⟩
  case round =>
    obtain ⟨k, hk, rfl, rfl, HB⟩ := hrel
    have hkw : IntKind.i64.wrap ((k : Int) + 1) = (k : Int) + 1 := by rw [IntKind.wrap_i64]; have := HRL.out; omega
    have HD := Lib.hid (H5.out.kept HB.out)
    have c1 := HD.out.c1
    have r1 : wr.cell? ⟨g5, 1, none⟩ = some (.int .i64 (a : Int)) := (HB.out.cell (p := ⟨g5, 1, none⟩) HR5.out.lt).trans q1
    by_cases hlt : k < rs.length
    · have hki : (k : Int) < (rs.length : Int) := by omega
      have hk0 : (0 : Int) ≤ (k : Int) := by omega
      obtain ⟨p, hp⟩ : ∃ p, rs[k]? = some p := ⟨_, List.getElem?_eq_getElem hlt⟩
      obtain ⟨g2, k2', e2, _, _, hc2⟩ := own_rec wcs_len HD.out.o2 hp (by omega)
      simp only [Value.slice.injEq] at e2
      obtain ⟨rfl, _, rfl⟩ := e2
      have p0 := hc2 0 _ rfl
      rw [Nat.add_zero] at p0
      have HPK := Lib.hid (p := rs.getD k (0, noBV) = p) (by rw [List.getD_eq_getElem?_getD, hp]; rfl)
      have HKL := Lib.hid hlt
      clear hp hc2 hk hlt
      by_cases hpa : p.1 = a
      · have hpe : ((p.1 : Int) == (a : Int)) = true := by rw [hpa]; simp
        go_wp2
        go_region
        go_wp2
        go_roundw
        case rel => exact ⟨k + 1, HKL.out, by go_num, by rw [lastI, HPK.out, if_pos hpa], Lib.hid (below_nxt (below_drw wr) HB.out)⟩
        case measure => have := HKL.out; simp [intOf]; omega
      · have hpe : ((p.1 : Int) == (a : Int)) = false := beq_false_of_ne (by omega)
        go_wp2
        go_region
        go_wp2
        go_roundw
        case rel => exact ⟨k + 1, HKL.out, by go_num, by rw [lastI, HPK.out, if_neg hpa], Lib.hid (below_nxt (below_drw wr) HB.out)⟩
        case measure => have := HKL.out; simp [intOf]; omega
    · obtain rfl : k = rs.length := by omega
      clear hk hlt
      go_wp2
      obtain ⟨z, hz⟩ : ∃ z, z = lastI rs a rs.length := ⟨_, rfl⟩
      have HZ := Lib.hid hz
      rw [← hz]
      clear hz c1 r1 hkw
      go_loopw [5, 8] (fun v x wz => ∃ k : Nat, k ≤ rs.length ∧ x = .int .i64 (k : Int) ∧ Hid (wz.ownsRow w5.heap.size 81 2 v (skipK rs z k).length ((skipK rs z k).flatMap wcs)) ∧ Hid (Below w5.heap.size w5 wz)) (fun _ x _ => rs.length - (intOf x).toNat)
      case atStart => exact ⟨0, by omega, rfl, Lib.hid (World.ownsRow_nil _ _ _ _), HB⟩
      case round =>
        clear HB HD
        obtain ⟨k, hk, rfl, HO, HB⟩ := hrel
        obtain ⟨Av, kv, rfl⟩ := own_sl HO.out
        have hkw : IntKind.i64.wrap ((k : Int) + 1) = (k : Int) + 1 := by rw [IntKind.wrap_i64]; have := HRL.out; omega
        have HD := Lib.hid (H5.out.kept HB.out)
        have c1 := HD.out.c1
        have f1 : wr.frozen? ⟨g, 1, none⟩ = false := HD.out.cells.free 1
        by_cases hlt : k < rs.length
        · have hki : (k : Int) < (rs.length : Int) := by omega
          have hk0 : (0 : Int) ≤ (k : Int) := by omega
          obtain ⟨p, hp⟩ : ∃ p, rs[k]? = some p := ⟨_, List.getElem?_eq_getElem hlt⟩
          have HPK := Lib.hid (p := rs.getD k (0, noBV) = p) (by rw [List.getD_eq_getElem?_getD, hp]; rfl)
          have HKL := Lib.hid hlt
          by_cases hkz : (k : Int) = z
          · have hpe : ((k : Int) != z) = false := by simpa using hkz
            have HKZ := Lib.hid hkz
            clear hp hk hlt hkz
            go_wp2
            go_roundw
            case rel => exact ⟨k + 1, HKL.out, by go_num, by rw [skipK, if_pos HKZ.out]; exact HO, HB⟩
            case measure => have := HKL.out; simp [intOf]; omega
          · have hpe : ((k : Int) != z) = true := by simpa using hkz
            have HKZ := Lib.hid hkz
            obtain ⟨g2, k2', e2, _, _, _⟩ := own_rec wcs_len HD.out.o2 hp (by omega)
            simp only [Value.slice.injEq] at e2
            obtain ⟨rfl, _, rfl⟩ := e2
            have HRG := Lib.hid (p := wr.rangeAt g2 (k * 2) [Value.int .i64 (p.1 : Int), Value.slice p.2.A p.2.l.length p.2.c]) (rec_range HD.out.o2 hp rfl)
            obtain ⟨S, hS⟩ : ∃ S, S = skipK rs z k := ⟨_, rfl⟩
            rw [← hS] at HO ⊢
            have HSS := Lib.hid hS
            have HSL := Lib.hid (p := S.length ≤ 1000000) (by rw [hS]; exact Nat.le_trans (skipK_len k) (Nat.le_trans hk HRL.out))
            clear hp hk hlt hkz hS
            go_wp2_with (first
              | (refine wpList_load_mid rfl 81 (.tmp 89) rfl g2 (k * 2) (by rfl) [Value.int .i64 (p.1 : Int), Value.slice p.2.A p.2.l.length p.2.c] _ HRG.out Try.underlying81 rfl i2.out ?_)
              | (at_builtin; go_loud (refine wp_join rfl _ _ rfl rec_wait w5.heap.size (.slice Av S.length kv) S.length (S.flatMap wcs) rfl (HO.out.alloc _) (some ⟨wr.heap.size, 0, none⟩) 1 1 (wcs p) rfl rfl (wait_src wr p) (wcs_one _) (by have := HSL.out; omega) (Nat.le_trans HB.out.size (below_al wr _).size) ?_)
                 intro v6 w6 hr6 hg6 hat6
                 have HR6 := Lib.hid hr6
                 have HB6 := Lib.hid (p := Below w5.heap.size w5 w6) ((below_nxt (below_al wr _) HB.out).grown hg6 (Nat.le_trans HB.out.size (below_al wr _).size) (fun q hq => (HO.out.lt q hq).1))
                 clear hr6 hg6 hat6))
            go_roundw
            case rel => exact ⟨k + 1, HKL.out, by go_num, by rw [skipK, if_neg HKZ.out, HPK.out, ← HSS.out, List.length_append, List.flatMap_append]; exact Lib.hid (by simpa using HR6.out), HB6⟩
            case measure => have := HKL.out; simp [intOf]; omega
        · obtain rfl : k = rs.length := by omega
          have hsk : skipK rs z rs.length = dropL rs a := by rw [HZ.out]; exact skipK_drop rs a
          rw [hsk] at HO ⊢
          obtain ⟨N, hN⟩ : ∃ N, N = (dropL rs a).length := ⟨_, rfl⟩
          rw [← hN] at HO ⊢
          obtain ⟨V, hV⟩ : ∃ V, V = Value.slice Av N kv := ⟨_, rfl⟩
          have HVV := Lib.hid hV
          rw [← hV] at HO
          have HG := Lib.hid (p := ∀ q, V.ownBlock = some q → w5.heap.size ≤ q) (fun q hq => (HO.out.lt q hq).1)
          have HBS := Lib.hid (p := b ≤ w5.heap.size) (by have := H5.out.lo; have := H5.out.cells.lt; omega)
          obtain ⟨hw1, hw2⟩ := HD.out.waits (v := V) (rs' := dropL rs a) (by rw [← hN]; exact own_lower HO.out HBS.out) (by
            cases hv : V.ownBlock with
            | none => exact .inl rfl
            | some q =>
              refine .inr (fun e => ?_)
              have h1 := HG.out q hv
              have h2 := (H5.out.o3.lt q (by rw [← e])).2
              omega) (fun p hp => HD.out.m2 p (dropL_mem hp))
          have HW1 := Lib.hid hw1
          have HW2 := Lib.hid hw2
          clear hw1 hw2 hk hlt HO hsk hN
          subst hV
          clear HVV
          go_wp2
          go_ret
          exact ⟨rfl, _, HW1, Lib.hid ((Chg.of (below_nxt HB.out HB5.out)).trans HW2.out (fun x hx => .inl hx)), Lib.hid (fun q hq => Nat.le_trans HB5.out.size (HG.out q hq))⟩
end
end Go.Proofs.Ytnajlineipapdaa
