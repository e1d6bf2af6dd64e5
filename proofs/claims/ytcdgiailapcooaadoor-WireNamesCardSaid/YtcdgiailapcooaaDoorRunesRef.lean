/- Runes, names and order by the reference's functions, for every text of at most 2^40 bytes. No other conditions. -/
import Derived.Test.YtcdgiailapcooaaDoorFirst
import Derived.Test.YtcdgiailapcooaaDoorGoF
set_option linter.unusedVariables false
namespace Go.Proofs.YtcdgiailapcooaaDoor
open Go.RowKit

theorem gd (s : ByteArray) (k : Nat) (h : k < s.size) : s.data.toList.getD k 0 = s[k] := by
  have hl : k < s.data.toList.length := by rw [← Lib.size_eq]; exact h
  rw [List.getD, List.getElem?_eq_getElem hl, Option.getD_some, Array.getElem_toList]
  rfl

theorem first_res {s : ByteArray} {w : World} {r : Int × Nat} (x y : Int) (hx : r.1 = x) (hy : (r.2 : Int) = y)
    (h : Calls Tryd.prog 39 #[.string s] w fun e w' => e = .returned (.tuple #[.int .i64 x, .int .i64 y]) ∧ w = w') :
    Calls Tryd.prog 39 #[.string s] w fun e w' => e = .returned (.tuple #[.int .i64 r.1, .int .i64 r.2]) ∧ w = w' := by
  rw [hx, hy]
  exact h

theorem first_any (s : ByteArray) (w : World) (h0 : 0 < s.size) (hs : s.size ≤ 9223372036854775807) :
    Calls Tryd.prog 39 #[.string s] w fun e w' => e = .returned (.tuple #[.int .i64 (fst s.data.toList).1, .int .i64 (fst s.data.toList).2]) ∧ w = w' := by
  have g0 := gd s 0 h0
  rw [fst_goF, ← Lib.size_eq, g0]
  generalize hr : goF s.size s[0].toNat (s.data.toList.getD 1 0).toNat (s.data.toList.getD 2 0).toNat (s.data.toList.getD 3 0).toNat = r
  obtain ⟨c0, hc0⟩ : ∃ c, s[0] = c := ⟨_, rfl⟩
  rw [hc0] at hr
  have hu0 := c0.toNat_lt
  by_cases k0 : c0.toNat < 128
  · unfold goF at hr
    rw [if_pos k0] at hr
    exact first_res _ _ (by rw [← hr]) (by rw [← hr]; rfl) (first_low s w h0 hs c0 hc0 k0)
  by_cases k1 : c0.toNat < 192
  · unfold goF at hr
    rw [if_neg k0, if_pos (.inl k1)] at hr
    exact first_res _ _ (by rw [← hr]) (by rw [← hr]; rfl) (first_none1 s w h0 hs c0 hc0 (by omega) k1)
  by_cases k2 : 248 ≤ c0.toNat
  · unfold goF at hr
    rw [if_neg k0, if_pos (.inr k2)] at hr
    exact first_res _ _ (by rw [← hr]) (by rw [← hr]; rfl) (first_none2 s w h0 hs c0 hc0 k2)
  by_cases k3 : c0.toNat < 224
  · by_cases n : s.size < 2
    · unfold goF at hr
      rw [if_neg k0, if_neg (by omega), if_pos k3, if_pos (.inl n)] at hr
      exact first_res _ _ (by rw [← hr]) (by rw [← hr]; rfl) (first_short2 s w h0 hs c0 hc0 (by omega) k3 n)
    rw [gd s 1 (by omega)] at hr
    obtain ⟨c1, hc1⟩ : ∃ c, s[1] = c := ⟨_, rfl⟩
    rw [hc1] at hr
    unfold goF at hr
    rw [if_neg k0, if_neg (by omega), if_pos k3] at hr
    by_cases p1 : c1.toNat < 128
    · rw [if_pos (by omega)] at hr
      exact first_res _ _ (by rw [← hr]) (by rw [← hr]; rfl) (first_low21 s w (by omega) hs c0 c1 hc0 hc1 (by omega) k3 (by omega) p1)
    by_cases p2 : 191 < c1.toNat
    · rw [if_pos (by omega)] at hr
      exact first_res _ _ (by rw [← hr]) (by rw [← hr]; rfl) (first_high21 s w (by omega) hs c0 c1 hc0 hc1 (by omega) k3 (by omega) p2)
    by_cases v : (c0.toNat - 192) * 64 + c1.toNat - 128 < 128
    · rw [if_pos (by omega)] at hr
      exact first_res _ _ (by rw [← hr]) (by rw [← hr]; rfl) (first_less2 s w (by omega) hs c0 c1 hc0 hc1 (by omega) k3 (by omega) (by omega) (by omega))
    · rw [if_neg (by omega)] at hr
      exact first_res _ _ (by rw [← hr]; simp only; omega) (by rw [← hr]; rfl) (first_is2 s w (by omega) hs c0 c1 hc0 hc1 (by omega) k3 (by omega) (by omega) (by omega))
  by_cases k4 : c0.toNat < 240
  · by_cases n : s.size < 3
    · unfold goF at hr
      rw [if_neg k0, if_neg (by omega), if_neg k3, if_pos k4, if_pos (.inl n)] at hr
      exact first_res _ _ (by rw [← hr]) (by rw [← hr]; rfl) (first_short3 s w h0 hs c0 hc0 (by omega) k4 n)
    rw [gd s 1 (by omega), gd s 2 (by omega)] at hr
    obtain ⟨c1, hc1⟩ : ∃ c, s[1] = c := ⟨_, rfl⟩
    obtain ⟨c2, hc2⟩ : ∃ c, s[2] = c := ⟨_, rfl⟩
    rw [hc1, hc2] at hr
    unfold goF at hr
    rw [if_neg k0, if_neg (by omega), if_neg k3, if_pos k4] at hr
    by_cases p1 : c1.toNat < 128
    · rw [if_pos (by omega)] at hr
      exact first_res _ _ (by rw [← hr]) (by rw [← hr]; rfl) (first_low31 s w (by omega) hs c0 c1 hc0 hc1 (by omega) k4 (by omega) p1)
    by_cases p2 : 191 < c1.toNat
    · rw [if_pos (by omega)] at hr
      exact first_res _ _ (by rw [← hr]) (by rw [← hr]; rfl) (first_high31 s w (by omega) hs c0 c1 hc0 hc1 (by omega) k4 (by omega) p2)
    by_cases q1 : c2.toNat < 128
    · rw [if_pos (by omega)] at hr
      exact first_res _ _ (by rw [← hr]) (by rw [← hr]; rfl) (first_low32 s w (by omega) hs c0 c1 c2 hc0 hc1 hc2 (by omega) k4 (by omega) (by omega) (by omega) q1)
    by_cases q2 : 191 < c2.toNat
    · rw [if_pos (by omega)] at hr
      exact first_res _ _ (by rw [← hr]) (by rw [← hr]; rfl) (first_high32 s w (by omega) hs c0 c1 c2 hc0 hc1 hc2 (by omega) k4 (by omega) (by omega) (by omega) q2)
    by_cases v : ((c0.toNat - 224) * 64 + c1.toNat - 128) * 64 + c2.toNat - 128 < 2048
    · rw [if_pos (by omega)] at hr
      exact first_res _ _ (by rw [← hr]) (by rw [← hr]; rfl) (first_less3 s w (by omega) hs c0 c1 c2 hc0 hc1 hc2 (by omega) k4 (by omega) (by omega) (by omega) (by omega) (by omega))
    by_cases v2 : ((c0.toNat - 224) * 64 + c1.toNat - 128) * 64 + c2.toNat - 128 < 55296
    · rw [if_neg (by omega)] at hr
      exact first_res _ _ (by rw [← hr]; simp only; omega) (by rw [← hr]; rfl) (first_is3a s w (by omega) hs c0 c1 c2 hc0 hc1 hc2 (by omega) k4 (by omega) (by omega) (by omega) (by omega) (by omega) (by omega))
    by_cases v3 : ((c0.toNat - 224) * 64 + c1.toNat - 128) * 64 + c2.toNat - 128 < 57344
    · rw [if_pos (by omega)] at hr
      exact first_res _ _ (by rw [← hr]) (by rw [← hr]; rfl) (first_sur3 s w (by omega) hs c0 c1 c2 hc0 hc1 hc2 (by omega) k4 (by omega) (by omega) (by omega) (by omega) (by omega) (by omega))
    · rw [if_neg (by omega)] at hr
      exact first_res _ _ (by rw [← hr]; simp only; omega) (by rw [← hr]; rfl) (first_is3b s w (by omega) hs c0 c1 c2 hc0 hc1 hc2 (by omega) k4 (by omega) (by omega) (by omega) (by omega) (by omega))
  · by_cases n : s.size < 4
    · unfold goF at hr
      rw [if_neg k0, if_neg (by omega), if_neg k3, if_neg k4, if_pos (.inl n)] at hr
      exact first_res _ _ (by rw [← hr]) (by rw [← hr]; rfl) (first_short4 s w h0 hs c0 hc0 (by omega) (by omega) n)
    rw [gd s 1 (by omega), gd s 2 (by omega), gd s 3 (by omega)] at hr
    obtain ⟨c1, hc1⟩ : ∃ c, s[1] = c := ⟨_, rfl⟩
    obtain ⟨c2, hc2⟩ : ∃ c, s[2] = c := ⟨_, rfl⟩
    obtain ⟨c3, hc3⟩ : ∃ c, s[3] = c := ⟨_, rfl⟩
    rw [hc1, hc2, hc3] at hr
    unfold goF at hr
    rw [if_neg k0, if_neg (by omega), if_neg k3, if_neg k4] at hr
    by_cases p1 : c1.toNat < 128
    · rw [if_pos (by omega)] at hr
      exact first_res _ _ (by rw [← hr]) (by rw [← hr]; rfl) (first_low41 s w (by omega) hs c0 c1 hc0 hc1 (by omega) (by omega) (by omega) p1)
    by_cases p2 : 191 < c1.toNat
    · rw [if_pos (by omega)] at hr
      exact first_res _ _ (by rw [← hr]) (by rw [← hr]; rfl) (first_high41 s w (by omega) hs c0 c1 hc0 hc1 (by omega) (by omega) (by omega) p2)
    by_cases q1 : c2.toNat < 128
    · rw [if_pos (by omega)] at hr
      exact first_res _ _ (by rw [← hr]) (by rw [← hr]; rfl) (first_low42 s w (by omega) hs c0 c1 c2 hc0 hc1 hc2 (by omega) (by omega) (by omega) (by omega) (by omega) q1)
    by_cases q2 : 191 < c2.toNat
    · rw [if_pos (by omega)] at hr
      exact first_res _ _ (by rw [← hr]) (by rw [← hr]; rfl) (first_high42 s w (by omega) hs c0 c1 c2 hc0 hc1 hc2 (by omega) (by omega) (by omega) (by omega) (by omega) q2)
    by_cases t1 : c3.toNat < 128
    · rw [if_pos (by omega)] at hr
      exact first_res _ _ (by rw [← hr]) (by rw [← hr]; rfl) (first_low43 s w (by omega) hs c0 c1 c2 c3 hc0 hc1 hc2 hc3 (by omega) (by omega) (by omega) (by omega) (by omega) (by omega) (by omega) t1)
    by_cases t2 : 191 < c3.toNat
    · rw [if_pos (by omega)] at hr
      exact first_res _ _ (by rw [← hr]) (by rw [← hr]; rfl) (first_high43 s w (by omega) hs c0 c1 c2 c3 hc0 hc1 hc2 hc3 (by omega) (by omega) (by omega) (by omega) (by omega) (by omega) (by omega) t2)
    by_cases v : (((c0.toNat - 240) * 64 + c1.toNat - 128) * 64 + c2.toNat - 128) * 64 + c3.toNat - 128 < 65536
    · rw [if_pos (by omega)] at hr
      exact first_res _ _ (by rw [← hr]) (by rw [← hr]; rfl) (first_less4 s w (by omega) hs c0 c1 c2 c3 hc0 hc1 hc2 hc3 (by omega) (by omega) (by omega) (by omega) (by omega) (by omega) (by omega) (by omega) (by omega))
    by_cases v2 : 1114111 < (((c0.toNat - 240) * 64 + c1.toNat - 128) * 64 + c2.toNat - 128) * 64 + c3.toNat - 128
    · rw [if_pos (by omega)] at hr
      exact first_res _ _ (by rw [← hr]) (by rw [← hr]; rfl) (first_more4 s w (by omega) hs c0 c1 c2 c3 hc0 hc1 hc2 hc3 (by omega) (by omega) (by omega) (by omega) (by omega) (by omega) (by omega) (by omega) (by omega))
    · rw [if_neg (by omega)] at hr
      exact first_res _ _ (by rw [← hr]; simp only; omega) (by rw [← hr]; rfl) (first_is4 s w (by omega) hs c0 c1 c2 c3 hc0 hc1 hc2 hc3 (by omega) (by omega) (by omega) (by omega) (by omega) (by omega) (by omega) (by omega) (by omega) (by omega))
end Go.Proofs.YtcdgiailapcooaaDoor
