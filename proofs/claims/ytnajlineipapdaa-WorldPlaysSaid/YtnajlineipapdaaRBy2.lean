/- The reference's disk by its bytes: what each call makes of them. Conditions: the disk lies there. -/
import Derived.Test.YtnajlineipapdaaMgAbsd
import Derived.Test.YtnajlineipapdaaDcrash
import Derived.Test.YtnajlineipapdaaMgDisk
import Derived.Test.YtnajlineipapdaaDwrite
import Derived.Test.YtnajlineipapdaaDTam2
import Derived.Test.YtnajlineipapdaaDTam3
set_option linter.unusedVariables false
namespace Go.Proofs.Ytnajlineipapdaa
open Go.RowKit

/-- The reference's disk by its bytes; so many writes at most. -/
def RB (b : Nat) (w : World) (g : Nat) (G : List Nat) (S : List (List UInt8)) (R : List (Nat × List UInt8)) (EE : Nat → List (List UInt8)) (T : List (Int × Int × List UInt8)) (m : Nat) : Prop :=
  ∃ v1 v2 v3 v4 ss rs al ts, RDisk b w g v1 v2 v3 v4 ss rs al ts ∧ foot g v1 v2 v3 v4 = G ∧ ss.map BV.l = S ∧ rs.map wpl = R ∧ (∀ a, a < 1024 → (eld al a).map BV.l = EE a) ∧ ts.map tv = T ∧ al.length ≤ m
/-- .. behind a call. -/
def RTo (b : Nat) (w w' : World) (g : Nat) (G : List Nat) (S : List (List UInt8)) (R : List (Nat × List UInt8)) (EE : Nat → List (List UInt8)) (T : List (Int × Int × List UInt8)) (m : Nat) : Prop :=
  ∃ G', Hid (RB b w' g G' S R EE T m) ∧ Hid (Chg G w w') ∧ Hid (Wider w G G')
theorem wide_v2 {w : World} {g : Nat} {v1 v2 u2 v3 v4 : Value} (h : ∀ q, u2.ownBlock = some q → w.heap.size ≤ q) : Wider w (foot g v1 v2 v3 v4) (foot g v1 u2 v3 v4) :=
  foot_all (F := foot g v1 v2 v3 v4) (.inl (foot_g _ _ _ _ _)) (fun q hq => .inl (foot_v1 hq)) (fun q hq => .inr (h q hq)) (fun q hq => .inl (foot_v3 hq)) (fun q hq => .inl (foot_v4 hq))
theorem wide_v24 {w : World} {g : Nat} {v1 v2 u2 v3 v4 v : Value} (h2 : u2.ownBlock = v2.ownBlock ∨ u2.ownBlock = none) (h : v.ownBlock = v4.ownBlock ∨ ∃ k, v.ownBlock = some k ∧ w.heap.size ≤ k) : Wider w (foot g v1 v2 v3 v4) (foot g v1 u2 v3 v) :=
  foot_all (F := foot g v1 v2 v3 v4) (.inl (foot_g _ _ _ _ _)) (fun q hq => .inl (foot_v1 hq)) (fun q hq => by
    rcases h2 with h2 | h2
    · exact .inl (by rw [h2] at hq; simp [foot, List.mem_filterMap]; exact .inr (.inr (.inl hq)))
    · rw [h2] at hq
      cases hq) (fun q hq => .inl (foot_v3 hq)) (fun q hq => by
    rcases h with h | ⟨k, h, hk⟩
    · exact .inl (foot_v4 (by rw [← h]; exact hq))
    · rw [h] at hq
      injection hq with hq
      exact .inr (by omega))
section
variable {b : Nat} {w : World} {g : Nat} {G : List Nat} {S : List (List UInt8)} {R : List (Nat × List UInt8)} {EE : Nat → List (List UInt8)} {T : List (Int × Int × List UInt8)} {m : Nat}
theorem RB.kept {w' : World} (h : RB b w g G S R EE T m) (hb : Below w.heap.size w w') : RB b w' g G S R EE T m := by
  obtain ⟨v1, v2, v3, v4, ss, rs, al, ts, h, rest⟩ := h
  exact ⟨v1, v2, v3, v4, ss, rs, al, ts, h.kept hb, rest⟩
theorem RB.chg {K : List Nat} {w' : World} (h : RB b w g G S R EE T m) (hc : Chg K w w') (hK : ∀ k ∈ K, k ∉ G) (h8 : NoBytes w K) : RB b w' g G S R EE T m := by
  obtain ⟨v1, v2, v3, v4, ss, rs, al, ts, h, rfl, rest⟩ := h
  exact ⟨v1, v2, v3, v4, ss, rs, al, ts, h.chg hc hK h8, rfl, rest⟩
theorem RB.lt (h : RB b w g G S R EE T m) : ∀ k ∈ G, b ≤ k ∧ k < w.heap.size := by
  obtain ⟨v1, v2, v3, v4, ss, rs, al, ts, h, rfl, rest⟩ := h
  exact h.fl
theorem RB.noBytes (h : RB b w g G S R EE T m) : NoBytes w G := by
  obtain ⟨v1, v2, v3, v4, ss, rs, al, ts, h, rfl, rest⟩ := h
  exact h.noBytes
theorem RB.row (h : RB b w g G S R EE T m) : ∃ v, w.cell? ⟨g, 1, none⟩ = some v ∧ ∃ A c, v = .slice A R.length c := by
  obtain ⟨v1, v2, v3, v4, ss, rs, al, ts, h, rfl, rfl, rfl, h3, rfl, h5⟩ := h
  obtain ⟨A, c, rfl⟩ := own_sl h.o2
  exact ⟨_, h.c1, A, c, by rw [List.length_map]⟩
theorem RB.trc (h : RB b w g G S R EE T m) (hs : ∀ t ∈ T, t.2.2.length ≤ 256) : ∃ A c xs, w.cell? ⟨g, 3, none⟩ = some (.slice A xs.length c) ∧ xs.map tv = T ∧ TrAt w A xs := by
  obtain ⟨v1, v2, v3, v4, ss, rs, al, ts, h, rfl, rfl, rfl, h3, rfl, h5⟩ := h
  obtain ⟨A, c, rfl⟩ := own_sl h.o4
  refine ⟨A, c, ts, h.c3, rfl, ⟨?_, fun t ht => ⟨(h.m4 t ht).hol, Nat.le_trans (hs (tv t) (List.mem_map_of_mem ht)) (by decide)⟩⟩⟩
  by_cases hts : ts = []
  · exact .inl hts
  · refine .inr ?_
    obtain ⟨t0, ht0⟩ : ∃ t, ts[0]? = some t := ⟨_, List.getElem?_eq_getElem (List.length_pos_iff.2 hts)⟩
    obtain ⟨g0, d0, e0, _, _, _⟩ := own_rec tc_len h.o4 ht0 (by omega)
    simp only [Value.slice.injEq] at e0
    refine ⟨g0, 0, e0.1, fun j t hj i u hu => ?_⟩
    obtain ⟨g1, d1, e1, _, _, hc⟩ := own_rec tc_len h.o4 hj (by omega)
    simp only [Value.slice.injEq] at e1
    have h9 := e0.1.symm.trans e1.1
    simp only [Option.some.injEq, Addr.mk.injEq] at h9
    rw [Nat.zero_add, h9.1]
    exact hc i u hu
theorem RB.now (h : RB b w g G S R EE T m) (a : Nat) (ha : a < S.length) (hr : R.length ≤ 1000000) :
    Calls Try.prog 30 #[.pointer (some ⟨g, 0, none⟩), .int .i64 (a : Int)] w fun e w' => (∃ x : BV, e = .returned (bvv x) ∧ Hid (x.l = nowB S R a) ∧ Hid (Hol w x.A x.l)) ∧ w' = w := by
  obtain ⟨v1, v2, v3, v4, ss, rs, al, ts, h, rfl, rfl, rfl, h3, rfl, h5⟩ := h
  rw [List.length_map] at ha hr
  refine (now_any h a ha hr).mono ?_
  rintro e w' ⟨rfl, rfl⟩
  exact ⟨⟨_, rfl, Lib.hid (now_bytes _ _ _), Lib.hid (nowK_mem ss rs a ha (Own8 b w') (fun x hx => (h.m1 x hx).1) (fun p hp => (h.m2 p hp).1) _).hol⟩, rfl⟩
theorem RB.read_out (h : RB b w g G S R EE T m) (z : Int) (hz : z < 0 ∨ (S.length : Int) ≤ z) :
    Calls Try.prog 14 #[.pointer (some ⟨g, 0, none⟩), .int .i64 z] w fun e w' => e = .returned (.tuple #[.slice none 0 0, .int .i64 201]) ∧ w' = w := by
  obtain ⟨v1, v2, v3, v4, ss, rs, al, ts, h, rfl, rfl, rfl, h3, rfl, h5⟩ := h
  rw [List.length_map] at hz
  exact dread_out h z hz
theorem RB.write_out (h : RB b w g G S R EE T m) (z : Int) (A : Option Addr) (n c : Nat) (hz : (z < 0 ∨ (S.length : Int) ≤ z) ∨ n ≠ 256) :
    Calls Try.prog 19 #[.pointer (some ⟨g, 0, none⟩), .int .i64 z, .slice A n c] w fun e w' => e = .returned (.int .i64 201) ∧ w' = w := by
  obtain ⟨v1, v2, v3, v4, ss, rs, al, ts, h, rfl, rfl, rfl, h3, rfl, h5⟩ := h
  rw [List.length_map] at hz
  exact dwrite_out h z A n c hz
theorem RB.barrier (h : RB b w g G S R EE T m) (hr : R.length ≤ 1000000) (ht : T.length ≤ 1000000) :
    Calls Try.prog 21 #[.pointer (some ⟨g, 0, none⟩)] w fun e w' => e = .returned (.tuple #[]) ∧ RTo b w w' g G (syncB (fun _ => true) R S R.length) [] EE (T ++ [(3, 0, [])]) m := by
  obtain ⟨v1, v2, v3, v4, ss, rs, al, ts, h, rfl, rfl, rfl, h3, rfl, h5⟩ := h
  rw [List.length_map] at hr ht ⊢
  refine (dbarrier_any h hr ht).mono ?_
  rintro e w' ⟨v, rfl, h1, h2, h4⟩
  exact ⟨rfl, _, Lib.hid ⟨_, _, _, _, _, _, _, _, h1, rfl, sync_bytes _ _ _ _, rfl, h3, map_snoc _ _ _, h5⟩, Lib.hid h2, Lib.hid (wide_v24 (.inr rfl) h4)⟩
theorem RB.crash (h : RB b w g G S R EE T m) (hr : R.length ≤ 1000000) (K : Option Addr) (n kc : Nat) (kl : List Bool) (hn : n = kl.length) (hK : HolV w K (kl.map Value.bool)) (hKn : ∀ g0 o, K = some ⟨g0, o, none⟩ → kl.map Value.bool ≠ [] → g0 ∉ G) :
    Calls Try.prog 23 #[.pointer (some ⟨g, 0, none⟩), .slice K n kc] w fun e w' => e = .returned (.tuple #[]) ∧ RTo b w w' g G (syncB (fun i => kl.getD i false) R S R.length) [] EE T m := by
  obtain ⟨v1, v2, v3, v4, ss, rs, al, ts, h, rfl, rfl, rfl, h3, rfl, h5⟩ := h
  subst hn
  rw [List.length_map] at hr ⊢
  refine (dcrash_any h hr K kc kl hK hKn).mono ?_
  rintro e w' ⟨rfl, h1, h2⟩
  exact ⟨rfl, _, Lib.hid ⟨_, _, _, _, _, _, _, _, h1, rfl, sync_bytes _ _ _ _, rfl, h3, rfl, h5⟩, Lib.hid h2, Lib.hid (wide_v24 (.inr rfl) (.inl rfl))⟩
theorem RB.tamper_in (h : RB b w g G S R EE T m) (hr : R.length ≤ 1000000) (hm' : m ≤ 1000000) (hS : S.length ≤ 1024) (k z q : Int) (A : Option Addr) (len c : Nat) (l : List UInt8) (hlen : len = l.length) (hA : Hol w A l) (hz : ¬ TampRef S.length k z q) :
    Calls Try.prog 25 #[.pointer (some ⟨g, 0, none⟩), .agg (tampC k z q A len c).toArray] w fun e w' => e = .returned (.int .i64 0) ∧ RTo b w w' g G (tampS S R EE k z q l) (tampR R k z) EE T m := by
  obtain ⟨v1, v2, v3, v4, ss, rs, al, ts, h, rfl, rfl, rfl, h3, rfl, h5⟩ := h
  unfold TampRef at hz
  rw [List.length_map] at hr hz hS
  obtain ⟨a, rfl⟩ := Int.eq_ofNat_of_zero_le (by omega : 0 ≤ z)
  obtain ⟨q, rfl⟩ := Int.eq_ofNat_of_zero_le (by omega : 0 ≤ q)
  have ha : a < ss.length := by omega
  have hk : k = 1 ∨ k = 2 ∨ k = 3 ∨ k = 4 := by omega
  rcases hk with rfl | rfl | rfl | rfl
  · refine (dtamper_set h hr a ha q A len c l hlen hA).mono ?_
    rintro e w' ⟨rfl, x, u2, hx, _, h1, h2, h4⟩
    refine ⟨rfl, _, Lib.hid ⟨_, _, _, _, _, _, _, _, h1.out, rfl, ?_, gone_bytes _ _, h3, rfl, h5⟩, h2, Lib.hid (wide_v2 h4.out)⟩
    rw [List.map_set, hx.out]
    rfl
  · refine (dtamper_copy h hr a ha q (by omega) A len c).mono ?_
    rintro e w' ⟨rfl, x, u2, hx, _, h1, h2, h4⟩
    refine ⟨rfl, _, Lib.hid ⟨_, _, _, _, _, _, _, _, h1.out, rfl, ?_, gone_bytes _ _, h3, rfl, h5⟩, h2, Lib.hid (wide_v2 h4.out)⟩
    rw [List.map_set, hx.out, now_bytes]
    rfl
  · refine (dtamper_old h hr (by omega) a ha q A len c).mono ?_
    rintro e w' ⟨rfl, x, u2, hx, _, h1, h2, h4⟩
    refine ⟨rfl, _, Lib.hid ⟨_, _, _, _, _, _, _, _, h1.out, rfl, ?_, gone_bytes _ _, h3, rfl, h5⟩, h2, Lib.hid (wide_v2 h4.out)⟩
    rw [List.map_set, hx.out, old_bytes (h3 a (by omega))]
    rfl
  · refine (dtamper_drop h hr a ha q A len c).mono ?_
    rintro e w' ⟨rfl, u2, h1, h2, h4⟩
    exact ⟨rfl, _, Lib.hid ⟨_, _, _, _, _, _, _, _, h1.out, rfl, rfl, drop_bytes _ _, h3, rfl, h5⟩, h2, Lib.hid (wide_v2 h4.out)⟩
end
end Go.Proofs.Ytnajlineipapdaa
