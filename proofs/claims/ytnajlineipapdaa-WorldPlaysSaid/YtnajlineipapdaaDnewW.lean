/- The reference's disk: New, walked. No conditions but those named. -/
import Derived.Test.YtnajlineipapdaaDnew
set_option linter.unusedVariables false
namespace Go.Proofs.Ytnajlineipapdaa
open Go.RowKit

theorem src256 (w : World) (gx : Nat) : (1 : Nat) = 0 ∧ (some (⟨w.heap.size, 0, none⟩ : Addr)) = none ∨ ∃ ad, (some (⟨w.heap.size, 0, none⟩ : Addr)) = some ad ∧ ∀ (j : Nat) (u : Value), [Value.slice (some ⟨gx, 0, none⟩) 256 256][j]? = some u → (w.alloc (.cells #[Value.slice (some ⟨gx, 0, none⟩) 256 256] 32)).cell? (ad.add j) = some u := by
  refine .inr ⟨_, rfl, fun j u hu => ?_⟩
  cases j with
  | zero =>
    simp at hu
    subst hu
    simp [Addr.add]
  | succ j => simp at hu
theorem sc256 (gx : Nat) : [Value.slice (some ⟨gx, 0, none⟩) 256 256] = sc ⟨some ⟨gx, 0, none⟩, 256, pad []⟩ := by simp [sc, bvv, pad_len]
theorem below_al (w : World) (o : Obj) : Below w.heap.size w (w.alloc o) := (Below.refl _ _).alloc (Nat.le_refl _) o
theorem make256 (w : World) : ∃ g w', (Instr.makeSlice 32 (.int .i64 256) (.int .i64 256)).run Try.prog w = .ok (.slice (some ⟨g, 0, none⟩) 256 256) w' ∧ Row w' g 5 (brr 256 fun _ => 0) ∧ Hid (g = w.heap.size) ∧ Below w.heap.size w w' := by
  obtain ⟨i, U⟩ := u8_tab
  have hr := run_make (P := Try.prog) w 32 5 i (.int .u8 0) U.ht U.hi U.hz .i64 .i64 (256 : Nat) (256 : Nat) (by omega) (Int.le_refl _) (by rw [U.h2]; omega) (by omega)
  simp only [Int.toNat_natCast, U.h1] at hr
  rw [made_brr] at hr
  exact ⟨_, _, hr, Row.made w _ _, (show _ = _ from rfl), (Below.refl _ _).alloc (Nat.le_refl _) _⟩
def DnewP (w : World) (m : Nat) (e : Ending) (w' : World) : Prop :=
  ∃ g v1 ss, e = .returned (.pointer (some ⟨g, 0, none⟩)) ∧ Hid (ss.length = m ∧ ∀ x ∈ ss, x.l = pad []) ∧ Hid (RDisk w.heap.size w' g v1 (.slice none 0 0) (.slice none 0 0) (.slice none 0 0) ss [] [] []) ∧ Hid (Below w.heap.size w w')
set_option maxRecDepth 20000 in
set_option maxHeartbeats 2000000 in
theorem dnew_any (m : Nat) (hm : m ≤ 1024) (w : World) : Calls Try.prog 11 #[.int .i64 (m : Int)] w (DnewP w m) := by
  obtain ⟨i, U⟩ := u8_tab
  have HU := Lib.hid U
  have HM := Lib.hid hm
  clear hm U
  go_enter Try.func11, Try.ntmps11
  go_wp2_with (first
    | (refine step_build rfl 49 _ rfl [] rfl #[.slice none 0 0, .slice none 0 0, .slice none 0 0, .slice none 0 0] (by kernel_rfl) ?_)
    | (refine step_box rfl 6 rfl 49 _ rfl [.slice none 0 0, .slice none 0 0, .slice none 0 0, .slice none 0 0] rfl ?_; intro g w1 hr1 hg1 hb1 hs1
       have HD1 := Lib.hid (p := RDisk w.heap.size w1 g (.slice none 0 0) (.slice none 0 0) (.slice none 0 0) (.slice none 0 0) [] [] [] []) ⟨hr1, World.ownsRow_nil _ _ _ _, World.ownsRow_nil _ _ _ _, World.ownsRow_nil _ _ _ _, World.ownsRow_nil _ _ _ _, .inl rfl, by rw [hg1.out]; exact Nat.le_refl _, fun x hx => (by cases hx), fun x hx => (by cases hx), fun x hx => (by cases hx), fun x hx => (by cases hx)⟩
       have HB1 := Lib.hid hb1
       clear hr1 hg1 hb1 hs1))
  go_loopw [4] (fun x wr => ∃ (k : Nat) (v1 : Value) (ss : List BV), k ≤ m ∧ x = .int .i64 (k : Int) ∧ Hid (ss.length = k ∧ ∀ x ∈ ss, x.l = pad []) ∧ Hid (RDisk w.heap.size wr g v1 (.slice none 0 0) (.slice none 0 0) (.slice none 0 0) ss [] [] []) ∧ Hid (Below w.heap.size w wr)) (fun x _ => m - (intOf x).toNat)
  case atStart => exact ⟨0, _, [], by omega, rfl, Lib.hid ⟨rfl, fun x hx => (by cases hx)⟩, HD1, HB1⟩
  case round =>
    clear HD1 HB1
    obtain ⟨k, v1, ss, hk, rfl, HS, HD, HB⟩ := hrel
    have hkw : IntKind.i64.wrap ((k : Int) + 1) = (k : Int) + 1 := by rw [IntKind.wrap_i64]; have := HM.out; omega
    by_cases hlt : k < m
    · have h1i : (k : Int) < (m : Int) := by omega
      have HLT := Lib.hid hlt
      have c0 := (HD.out.kept (below_drw wr)).cells.cell 0
      have c0b := HD.out.cells.cell 0
      simp at c0 c0b
      clear hlt hk
      obtain ⟨gx, w5, hmk, hr5, hg5, hb5⟩ := make256 wr.drew
      have HB5 := Lib.hid (below_nxt hb5 (below_drw wr))
      have HD5 := Lib.hid (HD.out.kept HB5.out)
      have HX5 := Lib.hid (p := Own8 w.heap.size w5 ⟨some ⟨gx, 0, none⟩, 256, pad []⟩) (own_fresh (l := []) hr5 (by rw [hg5.out]; exact HB.out.size))
      have c05 := HD5.out.cells.cell 0
      simp at c05
      have c05a : ∀ o : Obj, (w5.alloc o).cell? ⟨g, 0, none⟩ = some v1 := fun o => (World.cell?_alloc_past _ _ _ HD5.out.cells.lt).trans c05
      clear hr5 hg5 hb5
      go_wp2_with fail
      go_region_law (first
        | (refine step_join rfl _ _ rfl rec_sl w.heap.size v1 ss.length (ss.flatMap sc) rfl (own_kept HD5.out.o1 (below_al w5 _)) (some ⟨w5.heap.size, 0, none⟩) 1 1 [Value.slice (some ⟨gx, 0, none⟩) 256 256] rfl rfl (src256 w5 gx) (by intro u hu; simp at hu; subst hu; rfl) (by have := HS.out.1; have := HM.out; have := HLT.out; omega) (Nat.le_trans (Nat.le_trans HB.out.size HB5.out.size) (below_al w5 (.cells #[Value.slice (some ⟨gx, 0, none⟩) 256 256] 32)).size) ?_
           intro v6 w6 hr6 hg6 hat6
           obtain ⟨A6, k6, rfl⟩ := own_sl hr6
           have hD0 := HD5.out.kept (below_al w5 (.cells #[Value.slice (some ⟨gx, 0, none⟩) 256 256] 32))
           have hR6 := Row.grown hD0.cells hg6 (fun e0 => hD0.ne.1 e0.symm)
           have d0 := hR6.cell 0
           have f0 := hR6.free 0
           simp at d0))
      all_goals
        have hx6 : Own8 w.heap.size (w5.alloc (.cells #[Value.slice (some ⟨gx, 0, none⟩) 256 256] 32)) ⟨some ⟨gx, 0, none⟩, 256, pad []⟩ := HX5.out.below (below_al w5 _)
        rw [sc256] at hr6
        have HE := Lib.hid (hD0.block1 _ ⟨hx6, pad_len []⟩ hr6 hg6)
        have hbb : Below w.heap.size w (w5.alloc (.cells #[Value.slice (some ⟨gx, 0, none⟩) 256 256] 32)) := below_nxt (below_nxt (below_al w5 _) HB5.out) HB.out
        have HBE := Lib.hid ((hbb.grown hg6 hbb.size (fun q hq => (hD0.o1.lt q hq).1)).setCell (p := ⟨g, 0, none⟩) HD.out.lo (.slice A6 (ss.length + 1) k6))
        have HSE := Lib.hid (p := (ss ++ [(⟨some ⟨gx, 0, none⟩, 256, pad []⟩ : BV)]).length = k + 1 ∧ ∀ x ∈ ss ++ [(⟨some ⟨gx, 0, none⟩, 256, pad []⟩ : BV)], x.l = pad []) ⟨by rw [List.length_append, HS.out.1]; rfl, fun x hx => by
          rcases List.mem_append.1 hx with hx | hx
          · exact HS.out.2 x hx
          · simp at hx
            subst hx
            rfl⟩
        clear hx6 hr6 hg6 hat6 hD0 hR6 d0 f0 hbb c05 c05a hmk c0 c0b
        go_wp2
        go_roundw
        case rel => exact ⟨k + 1, _, _, HLT.out, by go_num, HSE, HE, HBE⟩
        case measure => have := HLT.out; simp [intOf]; omega
    · have h1i : ¬ (k : Int) < (m : Int) := by omega
      obtain rfl : k = m := by omega
      clear hlt hk
      go_wp2
      go_ret
      exact ⟨g, v1, ss, rfl, HS, HD, HB⟩
end Go.Proofs.Ytnajlineipapdaa
