/- The program's disk: Read and Write, told with what is new. Conditions: the disk lies there. -/
import Derived.Test.YtnajlineipapdaaMgAbsd
set_option linter.unusedVariables false
namespace Go.Proofs.Ytnajlineipapdaa
open Go.RowKit

/-- Bytes told, in memory that is newer than the disk. -/
def ReadX (b : Nat) (w w' : World) (g : Nat) (F : List Nat) (ss : List BV) (rs : List (Nat × BV)) (E : Nat → List BV) (ts : List (Int × Int × BV)) (l : List UInt8) (e : Ending) : Prop :=
  ∃ (x : BV) (wm : World) (F' : List Nat), e = .returned (.tuple #[.slice x.A x.l.length x.c, .int .i64 0]) ∧ Hid (x.l = l) ∧ Hid (Own8 wm.heap.size w' x) ∧ Hid (PD b wm g F' ss rs E ts) ∧ Hid (Chg F w wm) ∧ Hid (Wider w F F') ∧ Hid (Below wm.heap.size wm w')
section
variable {b : Nat} {w : World} {g : Nat} {F : List Nat} {v1 v2 : Value} {gm : Nat} {v4 : Value} {ev : Nat → Value} {n : Nat} {ss : List BV} {rs : List (Nat × BV)} {E : Nat → List BV} {ts : List (Int × Int × BV)}
set_option maxHeartbeats 1000000 in
theorem pread_new (h : PDisk b w g F v1 v2 gm v4 ev n ss rs E ts) (hn : n ≤ ts.length) (a : Nat) (ha : a < ss.length) (hr : rs.length ≤ 1000000) (ht : ts.length ≤ 1000000) :
    Calls Try.prog 13 #[.pointer (some ⟨g, 0, none⟩), .int .i64 (a : Int)] w fun e w' => ReadX b w w' g F ss rs E (ts ++ [(1, (a : Int), nowV ss rs a)]) (nowV ss rs a).l e := by
  have H := Lib.hid h
  have HA := Lib.hid ha
  have HR := Lib.hid hr
  have HT := Lib.hid ht
  have HNN := Lib.hid hn
  have HN := Lib.hid (h.now8 a ha)
  obtain ⟨nv, hnv⟩ : ∃ nv, nowV ss rs a = nv := ⟨_, rfl⟩
  have HNV := Lib.hid hnv
  rw [hnv] at HN ⊢
  clear h ha hr ht hnv hn
  go_enter Try.func13, Try.ntmps13
  go_wp2_with (first
    | (go_at_call 39; refine (phas_in H.out a HA.out).mono ?_; rintro x w1 ⟨rfl, hw1⟩; obtain rfl := hw1.symm)
    | (go_at_call 40; refine (pnow H.out a HA.out HR.out).mono ?_; rintro x w2 ⟨rfl, hb2⟩; rw [HNV.out]; unfold bvv; have HB2 := Lib.hid hb2; clear hb2)
    | (go_at_call 41; refine (ptouch (H.out.kept HB2.out) 1 (a : Int) nv (HN.out.1.below HB2.out) HT.out).mono ?_; rintro x w3 ⟨rfl, v', F', hD, hC, hW⟩
       have HD := Lib.hid hD
       have HC := Lib.hid hC
       have HW := Lib.hid hW
       clear hD hC hW)
    | (go_at_call 38; refine (block_any nv.A _ nv.c nv.l rfl _ ((HD.out.m4 (1, (a : Int), nv) (List.mem_append.2 (.inr (by simp)))).hol)).mono ?_; rintro x w4 ⟨g4, rfl, hr4, hg4, hb4⟩))
  go_ret2
  have hC := ((Chg.of (F := F) HB2.out).trans HC.out (fun x hx => .inl hx))
  refine ⟨⟨some ⟨g4, 0, none⟩, 256, pad nv.l⟩, w3, F', by simp [pad_len], Lib.hid (pad_of HN.out.2), Lib.hid (own_fresh hr4 hg4), Lib.hid ⟨_, _, _, _, _, n, by rw [List.length_append]; have := HNN.out; omega, HD.out⟩, Lib.hid hC, Lib.hid (fun q hq => (HW.out q hq).imp id (fun e => Nat.le_trans HB2.out.size e)), Lib.hid hb4⟩
end
section
variable {b : Nat} {w : World} {g : Nat} {F : List Nat} {S : List (List UInt8)} {R : List (Nat × List UInt8)} {EE : Nat → List (List UInt8)} {T : List (Int × Int × List UInt8)}
/-- .. by the disk's bytes. -/
def ReadB (b : Nat) (w w' : World) (g : Nat) (F : List Nat) (S : List (List UInt8)) (R : List (Nat × List UInt8)) (EE : Nat → List (List UInt8)) (T : List (Int × Int × List UInt8)) (l : List UInt8) (e : Ending) : Prop :=
  ∃ (x : BV) (wm : World) (F' : List Nat), e = .returned (.tuple #[.slice x.A x.l.length x.c, .int .i64 0]) ∧ Hid (x.l = l) ∧ Hid (Own8 wm.heap.size w' x) ∧ Hid (PB b wm g F' S R EE T) ∧ Hid (Chg F w wm) ∧ Hid (Wider w F F') ∧ Hid (Below wm.heap.size wm w')
theorem PB.read (h : PB b w g F S R EE T) (a : Nat) (ha : a < S.length) (hr : R.length ≤ 1000000) (ht : T.length ≤ 1000000) :
    Calls Try.prog 13 #[.pointer (some ⟨g, 0, none⟩), .int .i64 (a : Int)] w fun e w' => ReadB b w w' g F S R EE (T ++ [(1, (a : Int), nowB S R a)]) (nowB S R a) e := by
  obtain ⟨ss, rs, E, ts, h, rfl, rfl, h3, rfl⟩ := h
  rw [List.length_map] at ha hr ht
  obtain ⟨v1, v2, gm, v4, ev, n, hn, h⟩ := h
  refine (pread_new h hn a ha hr ht).mono ?_
  rintro e w' ⟨x, wm, F', rfl, h1, h2, h4, h5, h6, h7⟩
  exact ⟨x, wm, F', rfl, Lib.hid (by rw [← now_bytes]; exact h1.out), h2, Lib.hid ⟨ss, rs, E, _, h4.out, rfl, rfl, h3, by rw [map_snoc, ← now_bytes]; rfl⟩, h5, h6, h7⟩
/-- None of the disk's bytes lie in the blocks K. -/
def PBK (b : Nat) (w : World) (g : Nat) (F : List Nat) (S : List (List UInt8)) (R : List (Nat × List UInt8)) (EE : Nat → List (List UInt8)) (T : List (Int × Int × List UInt8)) (K : List Nat) : Prop :=
  ∃ ss rs E ts, PD b w g F ss rs E ts ∧ ss.map BV.l = S ∧ rs.map wpl = R ∧ (∀ a, a < 1024 → (E a).map BV.l = EE a) ∧ ts.map tv = T ∧ (∀ x ∈ ss, Off K x) ∧ (∀ p ∈ rs, Off K p.2) ∧ (∀ a, a < 1024 → ∀ x ∈ E a, Off K x) ∧ ∀ t ∈ ts, Off K t.2.2
theorem PD.mems {ss : List BV} {rs : List (Nat × BV)} {E : Nat → List BV} {ts : List (Int × Int × BV)} (h : PD b w g F ss rs E ts) : (∀ x ∈ ss, Own8 b w x) ∧ (∀ p ∈ rs, Own8 b w p.2) ∧ (∀ a, a < 1024 → ∀ x ∈ E a, Own8 b w x) ∧ ∀ t ∈ ts, Own8 b w t.2.2 := by
  obtain ⟨v1, v2, gm, v4, ev, n, hn, h⟩ := h
  exact ⟨fun x hx => (h.m1 x hx).1, fun p hp => (h.m2 p hp).1, fun a ha x hx => (h.me a ha x hx).1, h.m4⟩
/-- .. where those are newer. -/
theorem PB.newer {K : List Nat} (h : PB b w g F S R EE T) (hK : ∀ k ∈ K, w.heap.size ≤ k) : PBK b w g F S R EE T K := by
  obtain ⟨ss, rs, E, ts, h, h1, h2, h3, h4⟩ := h
  obtain ⟨a1, a2, a3, a4⟩ := h.mems
  exact ⟨ss, rs, E, ts, h, h1, h2, h3, h4, fun x hx => .new (a1 x hx) hK, fun p hp => .new (a2 p hp) hK, fun a ha x hx => .new (a3 a ha x hx) hK, fun t ht => .new (a4 t ht) hK⟩
theorem PBK.pb {K : List Nat} (h : PBK b w g F S R EE T K) : PB b w g F S R EE T := by
  obtain ⟨ss, rs, E, ts, h, h1, h2, h3, h4, _⟩ := h
  exact ⟨ss, rs, E, ts, h, h1, h2, h3, h4⟩
theorem PBK.kept {K : List Nat} {w' : World} (h : PBK b w g F S R EE T K) (hb : Below w.heap.size w w') : PBK b w' g F S R EE T K := by
  obtain ⟨ss, rs, E, ts, h, rest⟩ := h
  exact ⟨ss, rs, E, ts, h.kept hb, rest⟩
theorem PBK.chg {K G : List Nat} {w' : World} (h : PBK b w g F S R EE T K) (hc : Chg G w w') (hG : ∀ k ∈ G, k ∉ F) (h8 : NoBytes w G) : PBK b w' g F S R EE T K := by
  obtain ⟨ss, rs, E, ts, h, rest⟩ := h
  exact ⟨ss, rs, E, ts, h.chg hc hG h8, rest⟩
/-- Those blocks may be turned, bytes or not. -/
theorem PBK.off {K : List Nat} {w' : World} (h : PBK b w g F S R EE T K) (hc : Chg K w w') (hG : ∀ k ∈ K, k ∉ F) : PB b w' g F S R EE T := by
  obtain ⟨ss, rs, E, ts, ⟨v1, v2, gm, v4, ev, n, hn, h⟩, h1, h2, h3, h4, o1, o2, o3, o4⟩ := h
  refine ⟨ss, rs, E, ts, ⟨v1, v2, gm, v4, ev, n, hn, ?_⟩, h1, h2, h3, h4⟩
  exact {
    cells := hc.row h.cells (fun hx => hG _ hx h.fg)
    o1 := hc.own h.o1 (fun k hk hx => hG _ hx (h.f1 k hk))
    o2 := hc.own h.o2 (fun k hk hx => hG _ hx (h.f2 k hk))
    o4 := hc.own h.o4 (fun k hk hx => hG _ hx (h.f4 k hk))
    om := by
      obtain ⟨D, ⟨es, clock, hb, r⟩, k⟩ := h.om
      exact ⟨D, ⟨es, clock, (hc.block gm (Array.getElem?_eq_some_iff.1 hb).1 (fun hx => hG _ hx h.fm)).trans hb, r⟩, k⟩
    oe := fun a ha => hc.own (h.oe a ha) (fun k hk hx => hG _ hx (h.fe a ha k hk))
    sep1 := h.sep1
    sepe := h.sepe
    m1 := fun x hx => ⟨(h.m1 x hx).1.off hc (o1 x hx), (h.m1 x hx).2⟩
    m2 := fun p hp => ⟨(h.m2 p hp).1.off hc (o2 p hp), (h.m2 p hp).2⟩
    m4 := fun t ht => (h.m4 t ht).off hc (o4 t ht)
    me := fun a ha x hx => ⟨(h.me a ha x hx).1.off hc (o3 a ha x hx), (h.me a ha x hx).2⟩
    le := h.le
    most := h.most
    fx := h.fx
    fl := fun k hk => ⟨(h.fl k hk).1, Nat.lt_of_lt_of_le (h.fl k hk).2 hc.size⟩ }
theorem PBK.write {K : List Nat} (h : PBK b w g F S R EE T K) (hK : ∀ k ∈ K, k < w.heap.size) (hS : S.length ≤ 1024) (a : Nat) (ha : a < S.length) (A : Option Addr) (m c : Nat) (l : List UInt8) (hm : m = l.length) (hl : l.length = 256) (hA : Hol w A l) (hr : R.length ≤ 1000000) (ht : T.length ≤ 1000000) :
    Calls Try.prog 18 #[.pointer (some ⟨g, 0, none⟩), .int .i64 (a : Int), .slice A m c] w fun e w' => e = .returned (.int .i64 0) ∧ ∃ F', Hid (PBK b w' g F' S (R ++ [(a, l)]) (moreB EE a l) (T ++ [(2, (a : Int), l)]) K) ∧ Hid (Chg F w w') ∧ Hid (Wider w F F') := by
  subst hm
  obtain ⟨ss, rs, E, ts, ⟨v1, v2, gm, v4, ev, n, hn, h⟩, rfl, rfl, h3, rfl, o1, o2, o3, o4⟩ := h
  rw [List.length_map] at ha hr ht hS
  refine (pwrite_in h hn a ha A c l hl hA hr ht).mono ?_
  rintro e w' ⟨x, F', rfl, rfl, h1, h2, h4, h5⟩
  have ho : Off K x := fun q hq hf => by
    have h6 := h5 q hq
    have h7 := hK q hf
    omega
  refine ⟨rfl, F', Lib.hid ⟨_, _, _, _, h1, rfl, map_snoc _ _ _, more_bytes a x h3, map_snoc _ _ _, o1, fun p hp => ?_, fun c' hc' y hy => ?_, fun t ht => ?_⟩, Lib.hid h2, Lib.hid h4⟩
  · rcases List.mem_append.1 hp with hp | hp
    · exact o2 p hp
    · simp at hp
      subst hp
      exact ho
  · unfold more at hy
    split at hy
    · rcases List.mem_append.1 hy with hy | hy
      · exact o3 a (by omega) y hy
      · simp at hy
        subst hy
        exact ho
    · exact o3 c' hc' y hy
  · rcases List.mem_append.1 ht with ht | ht
    · exact o4 t ht
    · simp at ht
      subst ht
      exact ho
end
end Go.Proofs.Ytnajlineipapdaa
