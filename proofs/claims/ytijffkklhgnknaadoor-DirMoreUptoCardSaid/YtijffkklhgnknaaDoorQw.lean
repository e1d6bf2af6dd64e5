/- The reference's entries of other names. Conditions: the row is no longer than a million. -/
import Derived.Test.YtijffkklhgnknaaDoorQv
set_option linter.unusedVariables false
set_option maxRecDepth 20000
namespace Go.Proofs.YtijffkklhgnknaaDoor
open Go.RowKit

set_option maxHeartbeats 2000000 in
theorem rwithout_any (nm : ByteArray) (A : Option Addr) (n c : Nat) (X : List Ent) (hmax : n ≤ 1000000) (w : World) (h : Lies ecs 5 w A X) (hn : X.length = n) :
    Calls Tryd.prog 24 #[.slice A n c, .string nm] w fun e w' => ∃ A' m c', e = .returned (.slice A' m c') ∧ w'.ownsRow w.heap.size 42 5 (.slice A' m c') m ((X.filter (fun e : Ent => !(e.nm.toList == nm.toList))).flatMap ecs) ∧ m ≤ n ∧ Below w.heap.size w w' := by
  obtain ⟨p, hp⟩ : ∃ p : Ent → Bool, (fun e : Ent => !(e.nm.toList == nm.toList)) = p := ⟨_, rfl⟩
  have HPP := Lib.hid (p := ∀ x : Ent, p x = !(x.nm.toList == nm.toList)) (fun x => by rw [← hp])
  rw [hp]
  have H := Lib.hid h
  have HN := Lib.hid (And.intro hmax hn)
  clear h hmax hn hp
  go_enter Tryd.func24, Tryd.ntmps24
  go_wp2
  go_loopw [5, 6] (fun x y wr => ∃ (k : Nat) (A' : Option Addr) (m c' : Nat), Hid (k ≤ n) ∧ y = .int .i64 (k : Int) ∧ x = .slice A' m c' ∧ Hid (m ≤ k) ∧ Hid (wr.ownsRow w.heap.size 42 5 (.slice A' m c') m (((X.take k).filter p).flatMap ecs)) ∧ Hid (Below w.heap.size w wr)) (fun _ y _ => n - (intOf y).toNat)
  case atStart => exact ⟨0, none, 0, 0, Lib.hid (Nat.zero_le _), rfl, rfl, Lib.hid (Nat.zero_le _), Lib.hid (World.ownsRow_nil _ _ _ _), Lib.hid (Below.refl _ _)⟩
  case round =>
    obtain ⟨k, A', m, c', HKL, rfl, rfl, HM, HO, HB⟩ := hrel
    rename World => wr
    by_cases hk : k < n
    · have hki : (k : Int) < (n : Int) := by omega
      have hkw : IntKind.i64.wrap ((k : Int) + 1) = (k : Int) + 1 := by rw [IntKind.wrap_i64]; have := HN.out; omega
      have hkx : k < X.length := by have := HN.out; omega
      obtain ⟨g0, o0, rfl, hc⟩ := (H.out.below HB.out).at_ hkx
      obtain ⟨x, hx⟩ : ∃ x, X[k] = x := ⟨_, rfl⟩
      rw [hx] at hc
      have HX := Lib.hid (p := X[k]? = some x) (by rw [List.getElem?_eq_getElem hkx, hx])
      have HR := Lib.hid (p := wr.rangeAt g0 (o0 + k * 5) (ecs x)) (fun i u hu => hc i u hu)
      have c0 : wr.cell? ⟨g0, o0 + k * 5, none⟩ = some (.string x.nm) := hc 0 _ rfl
      have HK := Lib.hid hk
      clear hc hx hkx hk
      obtain ⟨z, hz⟩ : ∃ z, (x.nm.toList == nm.toList) = z := ⟨_, rfl⟩
      have HZ := Lib.hid (p := p x = !z) (by rw [HPP.out, hz])
      cases z
      · go_wp2_with (first
          | (refine wpList_load_mid rfl 42 (.tmp 23) rfl g0 (o0 + k * 5) rfl (ecs x) _ HR.out Tryd.underlying42 rfl (info_ent x) ?_)
          | (refine step_bs1 rfl 22 42 _ rfl Tryd.underlying22 5 (info_ent x) (by decide) _ zero_ent (ecs x) rfl rfl ?_; intro g8 w8 hr8 hg8 hb8
             have HR8 := Lib.hid hr8
             have HB8 := Lib.hid hb8
             clear hr8 hg8 hb8)
          | (at_builtin
             have HOW := Lib.hid (own_kept HO.out HB8.out)
             refine wp_join rfl _ _ rfl rec_ent w.heap.size (.slice A' m c') m (((X.take k).filter p).flatMap ecs) rfl HOW.out (some ⟨g8, 0, none⟩) 1 1 (ecs x) rfl rfl (.inr ⟨_, rfl, fun j u hu => by rw [Addr.add_lit]; exact HR8.out.all j u hu⟩) (ecs_one x) (by have := HM.out; have := HN.out; have := HK.out; omega) (by have := HB.out.size; have := HB8.out.size; omega) ?_
             intro v1 w5 ho1 hg1 hat1
             obtain ⟨A1, c1', rfl⟩ := own_sl ho1
             have HO2 := Lib.hid ho1
             have HB5 := Lib.hid ((below_nxt HB8.out HB.out).grown hg1 (by have := HB.out.size; have := HB8.out.size; omega) (fun k hk => (HOW.out.lt k hk).1))
             clear ho1 hg1 hat1))
        go_roundw
        case rel => exact ⟨k + 1, A1, m + 1, c1', Lib.hid HK.out, by go_num, rfl, Lib.hid (by have := HM.out; omega), Lib.hid (by rw [filter_snoc HX.out, HZ.out, if_pos (show (!false) = true from rfl), flat_snoc]; exact HO2.out), HB5⟩
        case measure => have := HK.out; simp [intOf]; omega
      · go_wp2
        go_roundw
        case rel => exact ⟨k + 1, A', m, c', Lib.hid HK.out, by go_num, rfl, Lib.hid (by have := HM.out; omega), Lib.hid (by rw [filter_snoc HX.out, HZ.out, if_neg (by decide), List.append_nil]; exact HO.out), HB⟩
        case measure => have := HK.out; simp [intOf]; omega
    · have hke : k = n := by have := HKL.out; omega
      have hki : ¬ (k : Int) < (n : Int) := by omega
      have HKE := Lib.hid hke
      clear hk hke
      go_wp2
      go_ret
      refine ⟨A', m, c', rfl, ?_, by have := HM.out; have := HKE.out; omega, HB.out⟩
      have h1 := HO.out
      rw [List.take_of_length_le (by rw [HN.out.2, HKE.out]; exact Nat.le_refl _)] at h1
      exact h1
end Go.Proofs.YtijffkklhgnknaaDoor
