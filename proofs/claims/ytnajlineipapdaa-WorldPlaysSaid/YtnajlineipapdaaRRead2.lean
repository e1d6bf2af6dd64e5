/- The reference's disk: Read and Write, told with what is new. Conditions: the disk lies there. -/
import Derived.Test.YtnajlineipapdaaRBy2
import Derived.Test.YtnajlineipapdaaPRead2
set_option linter.unusedVariables false
namespace Go.Proofs.Ytnajlineipapdaa
open Go.RowKit

/-- None of the disk's bytes lie in the blocks K. -/
def RBK (b : Nat) (w : World) (g : Nat) (G : List Nat) (S : List (List UInt8)) (R : List (Nat × List UInt8)) (EE : Nat → List (List UInt8)) (T : List (Int × Int × List UInt8)) (m : Nat) (K : List Nat) : Prop :=
  ∃ v1 v2 v3 v4 ss rs al ts, RDisk b w g v1 v2 v3 v4 ss rs al ts ∧ foot g v1 v2 v3 v4 = G ∧ ss.map BV.l = S ∧ rs.map wpl = R ∧ (∀ a, a < 1024 → (eld al a).map BV.l = EE a) ∧ ts.map tv = T ∧ al.length ≤ m ∧ (∀ x ∈ ss, Off K x) ∧ (∀ p ∈ rs, Off K p.2) ∧ (∀ p ∈ al, Off K p.2) ∧ ∀ t ∈ ts, Off K t.2.2
section
variable {b : Nat} {w : World} {g : Nat} {G : List Nat} {S : List (List UInt8)} {R : List (Nat × List UInt8)} {EE : Nat → List (List UInt8)} {T : List (Int × Int × List UInt8)} {m : Nat} {K : List Nat}
theorem RB.newer (h : RB b w g G S R EE T m) (hK : ∀ k ∈ K, w.heap.size ≤ k) : RBK b w g G S R EE T m K := by
  obtain ⟨v1, v2, v3, v4, ss, rs, al, ts, h, h0, h1, h2, h3, h4, h5⟩ := h
  exact ⟨v1, v2, v3, v4, ss, rs, al, ts, h, h0, h1, h2, h3, h4, h5, fun x hx => .new (h.m1 x hx).1 hK, fun p hp => .new (h.m2 p hp).1 hK, fun p hp => .new (h.m3 p hp).1 hK, fun t ht => .new (h.m4 t ht) hK⟩
theorem RBK.rb (h : RBK b w g G S R EE T m K) : RB b w g G S R EE T m := by
  obtain ⟨v1, v2, v3, v4, ss, rs, al, ts, h, h0, h1, h2, h3, h4, h5, _⟩ := h
  exact ⟨v1, v2, v3, v4, ss, rs, al, ts, h, h0, h1, h2, h3, h4, h5⟩
theorem RBK.kept {w' : World} (h : RBK b w g G S R EE T m K) (hb : Below w.heap.size w w') : RBK b w' g G S R EE T m K := by
  obtain ⟨v1, v2, v3, v4, ss, rs, al, ts, h, rest⟩ := h
  exact ⟨v1, v2, v3, v4, ss, rs, al, ts, h.kept hb, rest⟩
theorem RBK.chg {F : List Nat} {w' : World} (h : RBK b w g G S R EE T m K) (hc : Chg F w w') (hF : ∀ k ∈ F, k ∉ G) (h8 : NoBytes w F) : RBK b w' g G S R EE T m K := by
  obtain ⟨v1, v2, v3, v4, ss, rs, al, ts, h, rfl, rest⟩ := h
  exact ⟨v1, v2, v3, v4, ss, rs, al, ts, h.chg hc hF h8, rfl, rest⟩
theorem RBK.off {w' : World} (h : RBK b w g G S R EE T m K) (hc : Chg K w w') (hK : ∀ k ∈ K, k ∉ G) : RB b w' g G S R EE T m := by
  obtain ⟨v1, v2, v3, v4, ss, rs, al, ts, h, rfl, h1, h2, h3, h4, h5, o1, o2, o3, o4⟩ := h
  exact ⟨v1, v2, v3, v4, ss, rs, al, ts, h.off hc hK o1 o2 o3 o4, rfl, h1, h2, h3, h4, h5⟩
theorem RBK.read (h : RBK b w g G S R EE T m K) (a : Nat) (ha : a < S.length) (hr : R.length ≤ 1000000) (ht : T.length ≤ 1000000) :
    Calls Try.prog 14 #[.pointer (some ⟨g, 0, none⟩), .int .i64 (a : Int)] w fun e w' => ∃ (x : BV) (G' : List Nat), e = .returned (.tuple #[.slice x.A x.l.length x.c, .int .i64 0]) ∧ Hid (x.l = nowB S R a) ∧ Hid (Hol w' x.A x.l) ∧ Hid (RBK b w' g G' S R EE (T ++ [(1, (a : Int), nowB S R a)]) m K) ∧ Hid (Chg G w w') ∧ Hid (Wider w G G') := by
  obtain ⟨v1, v2, v3, v4, ss, rs, al, ts, h, rfl, rfl, rfl, h3, rfl, h5, o1, o2, o3, o4⟩ := h
  rw [List.length_map] at ha hr ht
  have ho : Off K (nowV ss rs a) := nowK_mem ss rs a ha (Off K) o1 o2 _
  refine (dread_in h a ha hr ht).mono ?_
  rintro e w' ⟨v, rfl, h1, h2, h4⟩
  refine ⟨_, _, rfl, Lib.hid (now_bytes _ _ _), Lib.hid (h1.m4 (1, (a : Int), nowV ss rs a) (List.mem_append.2 (.inr (by simp)))).hol, Lib.hid ⟨_, _, _, _, _, _, _, _, h1, rfl, rfl, rfl, h3, by rw [map_snoc, ← now_bytes]; rfl, h5, o1, o2, o3, fun t ht => ?_⟩, Lib.hid h2, Lib.hid (wide_v24 (.inl rfl) h4)⟩
  rcases List.mem_append.1 ht with ht | ht
  · exact o4 t ht
  · simp at ht
    subst ht
    exact ho
theorem RBK.write (h : RBK b w g G S R EE T m K) (hK : ∀ k ∈ K, k < w.heap.size) (a : Nat) (ha : a < S.length) (A : Option Addr) (n c : Nat) (l : List UInt8) (hn : n = l.length) (hl : l.length = 256) (hA : Hol w A l) (hr : R.length ≤ 1000000) (hm : m ≤ 1000000) (ht : T.length ≤ 1000000) :
    Calls Try.prog 19 #[.pointer (some ⟨g, 0, none⟩), .int .i64 (a : Int), .slice A n c] w fun e w' => e = .returned (.int .i64 0) ∧ ∃ G', Hid (RBK b w' g G' S (R ++ [(a, l)]) (moreB EE a l) (T ++ [(2, (a : Int), l)]) (m + 1) K) ∧ Hid (Chg G w w') ∧ Hid (Wider w G G') := by
  subst hn
  obtain ⟨v1, v2, v3, v4, ss, rs, al, ts, h, rfl, rfl, rfl, h3, rfl, h5, o1, o2, o3, o4⟩ := h
  rw [List.length_map] at ha hr ht
  refine (dwrite_in h a ha A c l hl hA hr (by omega) ht).mono ?_
  rintro e w' ⟨x, u2, u3, u4, rfl, rfl, h1, h2, h4, h6⟩
  have ho : Off K x := fun q hq hf => by
    have h7 := h6 q hq
    have h8 := hK q hf
    omega
  refine ⟨rfl, _, Lib.hid ⟨_, _, _, _, _, _, _, _, h1, rfl, rfl, map_snoc _ _ _, eld_bytes a x h3, map_snoc _ _ _, by rw [List.length_append]; simpa using h5, o1, fun p hp => ?_, fun p hp => ?_, fun t ht => ?_⟩, Lib.hid h2, Lib.hid h4⟩
  · rcases List.mem_append.1 hp with hp | hp
    · exact o2 p hp
    · simp at hp
      subst hp
      exact ho
  · rcases List.mem_append.1 hp with hp | hp
    · exact o3 p hp
    · simp at hp
      subst hp
      exact ho
  · rcases List.mem_append.1 ht with ht | ht
    · exact o4 t ht
    · simp at ht
      subst ht
      exact ho
end
end Go.Proofs.Ytnajlineipapdaa
