/- A veil's table: what its closure tells of a nonce. Conditions: the table lies there; the length is at most 4096. -/
import Derived.Test.YtecojmafnonkiaaMaps
import Derived.Test.YtecojmafnonkiaaCopy
import Derived.Test.YtecojmafnonkiaaRPads
import Derived.BigQuiet
import Derived.StillTailTactics
set_option linter.unusedVariables false
namespace Go.Proofs.Ytecojmafnonkiaa
open Go.RowKit

theorem info8 : (Try.prog.info? 5).map (·.size) = some 1 := by kernel_rfl
theorem built_nonce (e s : Nat) : Try.prog.built 67 [(0, .int .u32 (e : Int)), (1, .int .u32 (s : Int))] = some #[.int .u32 (e : Int), .int .u32 (s : Int)] := by
  kernel_rfl
/-- What a table holds at a nonce: a row of bytes, or nothing. -/
def Told (w : World) (v : Value) (l : List UInt8) : Prop := ∃ A c, v = .slice A l.length c ∧ Hol w A l
theorem Told.nob (w : World) : Told w nob [] := ⟨none, 0, rfl, .inl rfl⟩
theorem Told.below {w w' : World} {v : Value} {l : List UInt8} (h : Told w v l) (hb : Below w.heap.size w w') : Told w' v l := by
  obtain ⟨A, c, h1, h2⟩ := h
  exact ⟨A, c, h1, h2.below hb⟩
/-- A table as the closure has it: at each nonce the bytes that L says. -/
def TabAt (w : World) (gv : Nat) (L : Nat → Nat → List UInt8) : Prop :=
  ∃ gm n f, w.cell? ⟨gv, 0, none⟩ = some (.map (some gm)) ∧ MapAt w gm n f ∧ ∀ e s, e < 4294967296 → s < 4294967296 → Told w ((f e s).getD nob) (L e s)
theorem TabAt.lt {w : World} {gv : Nat} {L : Nat → Nat → List UInt8} (h : TabAt w gv L) : gv < w.heap.size := by
  obtain ⟨_, _, _, h, _⟩ := h
  exact World.block_lt_of_cell? w _ h
theorem TabAt.below {w w' : World} {gv : Nat} {L : Nat → Nat → List UInt8} (h : TabAt w gv L) (hb : Below w.heap.size w w') : TabAt w' gv L := by
  have hlt := h.lt
  obtain ⟨gm, n, f, h1, h2, h3⟩ := h
  exact ⟨gm, n, f, (hb.cell (p := ⟨gv, 0, none⟩) hlt).trans h1, h2.below hb, fun e s he hs => (h3 e s he hs).below hb⟩

theorem tab_any (gv : Nat) (L : Nat → Nat → List UInt8) (e s n : Nat) (he : e < 4294967296) (hs : s < 4294967296) (hn : n ≤ 4096) (w : World) (hT : TabAt w gv L) :
    Calls Try.prog 26 #[.int .u32 e, .int .u32 s, .int .i64 n, .pointer (some ⟨gv, 0, none⟩)] w fun x w' => ∃ g, x = .returned (.slice (some ⟨g, 0, none⟩) n n) ∧ Row w' g 5 (brr n fun j => (L e s).getD j 0) ∧ w.heap.size ≤ g ∧ Below w.heap.size w w' := by
  obtain ⟨i, U⟩ := u8_tab
  have HT := Lib.hid hT
  have HN := Lib.hid hn
  have HE := Lib.hid he
  have HS := Lib.hid hs
  clear hT hn he hs
  go_enter Try.func26, Try.ntmps26
  go_wp2_with (first
    | (refine step_make rfl _ _ 22 5 i U rfl n rfl rfl (by have := HN.out; omega) ?_; intro g w1 hr1 hg1 hb1 hs1
       have hT1 := HT.out.below hb1
       obtain ⟨gm, m, f, cM, hM, hL⟩ := hT1
       obtain ⟨A, c, hv, hA⟩ := hL e s HE.out HS.out
       have hlook : (Instr.lookup 65 (.map (some gm)) (.agg #[.int .u32 (e : Int), .int .u32 (s : Int)]) false).run Try.prog w1 = .ok (.slice A (L e s).length c) w1 := by rw [← hv]; exact hM.look HE.out HS.out
       clear hv hL hM)
    | (refine step_build rfl 67 _ rfl [(0, .int .u32 (e : Int)), (1, .int .u32 (s : Int))] ?hv _ (built_nonce e s) ?_; case hv => (simp [Act.eval, Act.put]))
    | (refine wp_copy rfl _ _ 22 22 rfl 5 U.ht info8 g 0 n n n 5 (fun _ => 0) rfl hr1 A _ c (L e s) rfl rfl hA (by rw [Nat.zero_add]; exact Nat.min_le_right _ _) ?_; intro w2 k hr2 hu2))
  go_ret
  refine ⟨g, rfl, ?_, by rw [hg1.out]; exact Nat.le_refl _, ?_⟩
  · have : brr n (ov 0 ((L e s).take n) fun _ => 0) = brr n fun j => (L e s).getD j 0 := brr_congr fun j hj => by
      by_cases h : j < (L e s).length
      · rw [ov_in (by omega) (by rw [List.length_take]; omega)]
        simp [List.getElem?_take, hj]
      · rw [ov_out (by rw [List.length_take]; omega), List.getD_eq_getElem?_getD, List.getElem?_eq_none (by omega)]
        rfl
    rw [← this]
    exact hr2
  · exact hb1.grown hu2.out.by_ hb1.size (fun k hk => by injection hk with hk; rw [← hk, hg1.out]; exact Nat.le_refl _)
end Go.Proofs.Ytecojmafnonkiaa
