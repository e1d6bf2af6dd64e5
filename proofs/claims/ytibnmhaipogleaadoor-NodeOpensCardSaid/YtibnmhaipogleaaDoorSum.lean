/- A hash's digest, and that of bytes: for all bytes up to 2^49. Condition: the listed tables. -/
import Derived.Test.YtibnmhaipogleaaDoorAdd
import Derived.Test.YtibnmhaipogleaaDoorTogether
set_option linter.unusedVariables false
namespace Go.Proofs.YtibnmhaipogleaaDoor
open Go.RowKit

/-- The digest of bytes, place by place. -/
def shaF (l : List UInt8) : Nat → UInt8 := dig (eat h0 (l ++ padB l.length) ((l ++ padB l.length).length / 64))
def z8 : S8 := ⟨0, 0, 0, 0, 0, 0, 0, 0⟩
theorem zero_hash (w : World) : (zeroValue 100).run Tryd.prog w = .ok (.agg (hcs z8 (fun _ => 0) 0).toArray) w := by kernel_rfl
theorem Tabs.ne0 {w : World} (h : Tabs w) {g : Nat} (hg : w.heap.size ≤ g) : g ≠ 0 ∧ g ≠ 1 := by
  have h1 := World.block_lt_of_cell? w _ (h.h 0 _ (arr_get h0.at (by omega)))
  have h2 := World.block_lt_of_cell? w _ (h.k 0 _ (arr_get kk (by omega)))
  exact ⟨fun e => by subst e; simp at h1; omega, fun e => by subst e; simp at h2; omega⟩

set_option maxRecDepth 20000 in
set_option maxHeartbeats 1000000 in
theorem sum_any (g : Nat) (l : List UInt8) (w : World) (hH : Holds w g l) (hlen : l.length ≤ 562949953421312) (hT : Tabs w) :
    Calls Tryd.prog 42 #[.pointer (some ⟨g, 0, none⟩)] w fun e w' => e = .returned (.agg (brr 32 (shaF l)).toArray) ∧ Below w.heap.size w w' := by
  obtain ⟨f, hrow, hrest⟩ := hH
  have i27 := Lib.hid (p := (Tryd.prog.info? 24).map (·.size) = some 32) (by kernel_rfl)
  have i42 := Lib.hid (p := (Tryd.prog.info? 97).map (·.size) = some 8) (by kernel_rfl)
  have i45 := Lib.hid (p := (Tryd.prog.info? 100).map (·.size) = some 73) (by kernel_rfl)
  have hz := Lib.hid zero_sum
  have hz5 := Lib.hid zero_hash
  obtain ⟨s, hs⟩ : ∃ s, s = eat h0 l (l.length / 64) := ⟨_, rfl⟩
  rw [← hs] at hrow
  have HS := Lib.hid hs
  clear hs
  have HT := Lib.hid hT
  clear hT
  go_enter Tryd.func42, Tryd.ntmps42
  go_wp2_with (first
    | (refine step_alloc rfl 2 rfl 24 rfl _ hz ?_; intro g2 w2 hr2 hg2 hb2 hs2)
    | (refine step_load rfl 10 rfl 100 (.tmp 9) rfl g (by rfl) (hcs s f l.length) _ (Row.kept hrow hb2).all Tryd.underlying100 rfl (by rw [hcs_len]; exact i45) ?_)
    | (refine step_alloc rfl 3 rfl 100 rfl _ hz5 ?_; intro g3 w3 hr3 hg3 hb3 hs3)
    | (refine step_store rfl 100 (.tmp 3) (.tmp 10) rfl g3 (by rfl) _ (hcs z8 (fun _ => 0) 0) (hcs s f l.length) (by rfl) hr3 (by rw [hcs_len, hcs_len]) (by rw [hcs_len]; exact i45) (hcs_one _ _ _) ?_; intro w4 hr4 hg4 hs4; have hrg := HashAt.count (Row.grown ((Row.kept hrow hb2).kept hb3) hg4 (by have := Row.lt (Row.kept hrow hb2); have := hg3.out; intro e; injection e with e; omega)))
    | (go_at_call 58; refine (padding_any l.length (by omega) _).mono ?_; rintro e w5 ⟨v, rfl, hown, hb5⟩; have hlt := Lib.hid hown.lt; obtain ⟨hn, A, c, rfl, hc1, hc2, hHol⟩ := own_form hown; clear hn hc2; have hHol' := Lib.hid hHol; clear hHol))
  have hg34 : g3 < w4.heap.size := Row.lt hr4
  have hFar : Far A g3 := by
    intro ad e
    have := (hlt.out ad.block (by rw [e]; rfl)).1
    omega
  have hq2 : g2 = w.heap.size := hg2.out
  have hq3 : g3 = w2.heap.size := hg3.out
  have hs2' := hs2.out
  have hb3' : Below w.heap.size w w3 := hb2.trans (hb3.mono hb2.size)
  have hb4' : Below w.heap.size w w4 := hb3'.grown hg4 hb3'.size (fun k hk => by injection hk with hk; omega)
  have hb5' : Below w.heap.size w w5 := hb4'.trans (hb5.mono hb4'.size)
  have r2 : Row w5 g2 24 (brr 32 (fun _ => 0)) := ((Row.kept hr2 hb3).grown hg4 (fun e => by injection e with e; omega)).kept hb5
  have r3 : Holds w5 g3 l := ⟨f, by rw [HS.out] at hr4; exact Row.kept hr4 hb5, hrest⟩
  have hT5 : Tabs w5 := HT.out.below hb5'
  have hne := HT.out.ne0 (show w.heap.size ≤ g3 by omega)
  have hpl := padB_len l.length
  have hz64 := zer_lt l.length
  have hb5l : w4.heap.size ≤ w5.heap.size := hb5.size
  have q2 : w.heap.size ≤ g2 := by omega
  have q3 : w.heap.size ≤ g3 := by omega
  have n23 : g2 ≠ g3 := by omega
  have hown' := Lib.hid hown
  clear hown hr2 hg2 hb2 hs2 hr3 hg3 hb3 hs3 hr4 hg4 hs4 hb3' hb4' hb5 hlt hq2 hq3 hs2'
  refine (add_any g3 A c l (padB l.length) w5 r3 hHol'.out hFar hc1 (by omega) hT5 hne.1 hne.2).mono ?_
  rintro e w6 ⟨rfl, ⟨f6, hr6, hrest6⟩, hg6⟩
  have hb6 : Below w.heap.size w w6 := hb5'.grown hg6 hb5'.size (fun k hk => by injection hk with hk; omega)
  have r2' : Row w6 g2 24 (brr 32 (fun _ => 0)) := r2.grown hg6 (fun e => by injection e with e; omega)
  obtain ⟨s6, hs6⟩ : ∃ s6, s6 = eat h0 (l ++ padB l.length) ((l ++ padB l.length).length / 64) := ⟨_, rfl⟩
  rw [← hs6] at hr6
  have HS6 := Lib.hid hs6
  clear hs6 r2 r3 hT5 hg6 hpl hz64 hrest6 hown' hb5'
  go_wp2_with (first
    | (refine wpList_load_mid rfl 97 (.tmp 17) rfl g3 0 (by rfl) (arr 8 s6.at) _ (HashAt.words hr6) Tryd.underlying97 rfl (by rw [arr_len]; exact i42) ?_)
    | (go_at_call 59; refine (together_any s6 _).mono ?_; rintro e w7 ⟨rfl, hb7⟩)
    | (refine step_store rfl 24 (.tmp 2) (.tmp 19) rfl g2 (by rfl) _ (brr 32 (fun _ => 0)) (brr 32 (dig s6)) (by rfl) (Row.kept r2' hb7) (by rw [brr_len, brr_len]) (by rw [brr_len]; exact i27) (brr_one _ _) ?_; intro w8 hr8 hg8 hs8))
  refine bodyPost_ret (results_cell_row rfl _ _ g2 _ _ _ _ rfl hr8 Tryd.underlying24 rfl (by simpa [brr_len] using i27.out)) rfl ?_
  have hb7' : Below w.heap.size w w7 := hb6.trans (hb7.mono hb6.size)
  exact ⟨by rw [HS6.out]; rfl, hb7'.grown hg8 hb7'.size (fun k hk => by injection hk with hk; omega)⟩

theorem holds_new {w : World} {g : Nat} (h : HashAt w g h0 (fun _ => 0) 0) : Holds w g [] := ⟨_, h, rest_nil _⟩
end Go.Proofs.YtibnmhaipogleaaDoor
