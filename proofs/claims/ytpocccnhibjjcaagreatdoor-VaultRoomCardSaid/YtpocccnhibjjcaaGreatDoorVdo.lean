/- Steps that came in, as the ninth stage's laws have them; whether a script is small enough. No conditions but those named. -/
import Derived.Test.YtpocccnhibjjcaaGreatDoorMgDisk
import Derived.BigQuiet
import Derived.Deep.QuietTactic
set_option linter.unusedVariables false
namespace Go.Proofs.YtpocccnhibjjcaaGreatDoor.V9
open Go.ChangeShapes Go.WideShapes Go.ChangeAt Go.RowKit

structure DoV where
  k : Int
  a : Int
  A : Option Addr
  c : Nat
  l : List UInt8
  KA : Option Addr
  kc : Nat
  kl : List Bool
  tk : Int
  ta : Int
  tn : Int
  TA : Option Addr
  tcap : Nat
  tl : List UInt8
def dc (d : DoV) : List Value := [.int .i64 d.k, .int .i64 d.a, .slice d.A d.l.length d.c, .slice d.KA d.kl.length d.kc, .int .i64 d.tk, .int .i64 d.ta, .int .i64 d.tn, .slice d.TA d.tl.length d.tcap]
theorem dc_len (d : DoV) : (dc d).length = 8 := rfl
structure DoAt (w : World) (d : DoV) : Prop where
  b : Hol w d.A d.l
  k : HolV w d.KA (d.kl.map Value.bool)
  t : Hol w d.TA d.tl
  bc : d.l.length ≤ d.c
  kc : d.kl.length ≤ d.kc
  tc : d.tl.length ≤ d.tcap
  w1 : (Lit.int .i64 d.k).wf = true
  w2 : (Lit.int .i64 d.a).wf = true
  w3 : (Lit.int .i64 d.tk).wf = true
  w4 : (Lit.int .i64 d.ta).wf = true
  w5 : (Lit.int .i64 d.tn).wf = true
theorem DoAt.below {w w' : World} {d : DoV} (h : DoAt w d) (hb : Below w.heap.size w w') : DoAt w' d := ⟨h.b.below hb, h.k.below hb, h.t.below hb, h.bc, h.kc, h.tc, h.w1, h.w2, h.w3, h.w4, h.w5⟩
structure InDo (w : World) (A : Option Addr) (len cap : Nat) (ds : List DoV) : Prop where
  len_ : len = ds.length
  at_ : ∀ (j : Nat) (d : DoV), ds[j]? = some d → (∃ g o, A = some ⟨g, o, none⟩ ∧ ∀ i u, (dc d)[i]? = some u → w.cell? ⟨g, o + j * 8 + i, none⟩ = some u) ∧ DoAt w d
  cap_ : len ≤ cap
  max_ : cap ≤ maxLen
theorem InDo.below {w w' : World} {A : Option Addr} {n c : Nat} {ds : List DoV} (h : InDo w A n c ds) (hb : Below w.heap.size w w') : InDo w' A n c ds :=
  ⟨h.len_, fun j d hd => by
    obtain ⟨⟨g, o, rfl, h1⟩, h2⟩ := h.at_ j d hd
    exact ⟨⟨g, o, rfl, fun i u hu => (hb.cell (p := ⟨g, o + j * 8 + i, none⟩) (World.block_lt_of_cell? w _ (h1 i u hu))).trans (h1 i u hu)⟩, h2.below hb⟩, h.cap_, h.max_⟩
theorem list4 {α : Type} : ∀ {l : List α}, l.length = 4 → ∃ a b c d, l = [a, b, c, d]
  | [a, b, c, d], _ => ⟨a, b, c, d, rfl⟩
theorem list5 {α : Type} : ∀ {l : List α}, l.length = 5 → ∃ a b c d e, l = [a, b, c, d, e]
  | [a, b, c, d, e], _ => ⟨a, b, c, d, e, rfl⟩
theorem list8 {α : Type} : ∀ {l : List α}, l.length = 8 → ∃ a b c d e f g h, l = [a, b, c, d, e, f, g, h]
  | [a, b, c, d, e, f, g, h], _ => ⟨a, b, c, d, e, f, g, h, rfl⟩
section
variable {H : Type} {enc : TypeId × Value → H} {W : World} {sp : Nat → Bool} {held : Bool} {base : Nat}
theorem bools_cs {fuel : Nat} {cs : List Value} {x : DataW H × List MemPlace} (hf : DataW.trod enc Tryz.prog W base sp held fuel 50 cs = some x) : ∃ a len cap l, cs = [.slice a len cap] ∧ InK W a len cap l := by
  have ce : Tryz.prog.cellsOf 4 = 1 := by kernel_rfl
  rcases Deep.open_slice Tryz.underlying50 hf with ⟨hcs, _⟩ | ⟨a, len, cap, m, n, D, Pl, hcs, hb, hl, hm, hmm, _, hx⟩
  · exact ⟨none, 0, 0, [], hcs, rfl, .inl rfl, Nat.le_refl _, by decide⟩
  · have hlm : len ≤ m := by rw [hmm]; split <;> omega
    have each : ∀ i, i < len → ∃ b : Bool, W.cell? (a.add i) = some (.bool b) := by
      intro i hi
      obtain ⟨cs', h1, h2⟩ := hx i (by omega)
      rw [ce, Nat.mul_one] at h1
      obtain ⟨_, hlen, hcell⟩ := World.cells?_some h1
      obtain ⟨b, rfl, _⟩ := DataW.trod_bool Tryz.underlying4 h2
      have h3 := hcell 0 (by omega)
      rw [Deep.add_add] at h3
      exact ⟨b, by simpa using h3⟩
    obtain ⟨q, hq⟩ := Deep.choose_lt each
    refine ⟨some a, len, cap, (List.range len).map q, hcs, by simp, ?_, hl, hm⟩
    by_cases h0 : len = 0
    · subst h0
      exact .inl rfl
    · obtain ⟨b, off, spot⟩ := a
      have hs : spot = none := by
        have h1 := hq 0 (by omega)
        have e1 : (Addr.add ⟨b, off, spot⟩ 0) = ⟨b, off, spot⟩ := by simp [Addr.add]
        rw [e1] at h1
        exact cell_spot h1
      subst hs
      refine .inr ⟨b, off, rfl, fun j x hx => ?_⟩
      rw [List.getElem?_map, List.getElem?_map] at hx
      obtain ⟨y, hy1, rfl⟩ := Option.map_eq_some_iff.1 hx
      obtain ⟨j', hj', rfl⟩ := Option.map_eq_some_iff.1 hy1
      obtain ⟨hj, rfl⟩ := List.getElem?_eq_some_iff.1 hj'
      simp only [List.length_range] at hj
      have h2 := hq j hj
      rw [Addr.add_lit] at h2
      simpa using h2
theorem tamper_cs {fuel : Nat} {cs : List Value} {x : DataW H × List MemPlace} (hf : DataW.trod enc Tryz.prog W base sp held fuel 58 cs = some x) :
    ∃ (k a n : Int) (A : Option Addr) (c : Nat) (l : List UInt8), cs = [.int .i64 k, .int .i64 a, .int .i64 n, .slice A l.length c] ∧ Hol W A l ∧ l.length ≤ c ∧ (Lit.int .i64 k).wf = true ∧ (Lit.int .i64 a).wf = true ∧ (Lit.int .i64 n).wf = true := by
  have ci : Tryz.prog.cellsOf 3 = 1 := by kernel_rfl
  have cb : Tryz.prog.cellsOf 35 = 1 := by kernel_rfl
  have ct : Tryz.prog.cellsOf 58 = 4 := by kernel_rfl
  obtain ⟨xs, m, _, _, hl, hlen, hf'⟩ := DataW.trod_struct Tryz.underlying58 hf
  obtain ⟨y0, y1, y2, y3, rfl⟩ := list4 hlen
  obtain ⟨v0, v1, v2, v3, rfl⟩ := list4 (hl.trans ct)
  have g0 := hf' 0 _ rfl
  have g1 := hf' 1 _ rfl
  have g2 := hf' 2 _ rfl
  have g3 := hf' 3 _ rfl
  simp [ci, cb] at g0 g1 g2 g3
  obtain ⟨k, e0, _, w0⟩ := DataW.trod_int Tryz.underlying3 g0
  obtain ⟨a, e1, _, w1⟩ := DataW.trod_int Tryz.underlying3 g1
  obtain ⟨n, e2, _, w2⟩ := DataW.trod_int Tryz.underlying3 g2
  obtain ⟨A, len, c, l, e3, i3⟩ := bytes_cs g3
  simp at e0 e1 e2 e3
  subst e0 e1 e2 e3
  obtain rfl := i3.len_
  exact ⟨k, a, n, A, c, l, rfl, i3.hol, i3.cap_, w0, w1, w2⟩
theorem do_cs {fuel : Nat} {cs : List Value} {x : DataW H × List MemPlace} (hf : DataW.trod enc Tryz.prog W base sp held fuel 60 cs = some x) : ∃ d : DoV, cs = dc d ∧ DoAt W d := by
  have ci : Tryz.prog.cellsOf 3 = 1 := by kernel_rfl
  have cb : Tryz.prog.cellsOf 35 = 1 := by kernel_rfl
  have cl : Tryz.prog.cellsOf 50 = 1 := by kernel_rfl
  have ct : Tryz.prog.cellsOf 58 = 4 := by kernel_rfl
  have cd : Tryz.prog.cellsOf 60 = 8 := by kernel_rfl
  obtain ⟨xs, m, _, _, hl, hlen, hf'⟩ := DataW.trod_struct Tryz.underlying60 hf
  obtain ⟨y0, y1, y2, y3, y4, rfl⟩ := list5 hlen
  obtain ⟨v0, v1, v2, v3, v4, v5, v6, v7, rfl⟩ := list8 (hl.trans cd)
  have g0 := hf' 0 _ rfl
  have g1 := hf' 1 _ rfl
  have g2 := hf' 2 _ rfl
  have g3 := hf' 3 _ rfl
  have g4 := hf' 4 _ rfl
  simp [ci, cb, cl, ct] at g0 g1 g2 g3 g4
  obtain ⟨k, e0, _, w0⟩ := DataW.trod_int Tryz.underlying3 g0
  obtain ⟨a, e1, _, w1⟩ := DataW.trod_int Tryz.underlying3 g1
  obtain ⟨A, len, c, l, e2, i2⟩ := bytes_cs g2
  obtain ⟨KA, klen, kc, kl, e3, i4⟩ := bools_cs g3
  obtain ⟨tk, ta, tn, TA, tcap, tl, e4, t1, t2, t3, t4, t5⟩ := tamper_cs g4
  simp at e0 e1 e2 e3 e4
  obtain ⟨q5, q6, q7, q8⟩ := e4
  subst e0 e1 e2 e3 q5 q6 q7 q8
  obtain rfl := i2.len_
  obtain rfl := i4.len_
  exact ⟨⟨k, a, A, c, l, KA, kc, kl, tk, ta, tn, TA, tcap, tl⟩, rfl, ⟨i2.hol, i4.hol, t1, i2.cap_, i4.cap_, t2, w0, w1, t3, t4, t5⟩⟩
end
def FewD (ds : List DoV) : Prop := ∀ (j : Nat) (d : DoV), j < 60 → ds[j]? = some d → d.l.length ≤ 65536 ∧ d.tl.length ≤ 65536 ∧ d.kl.length ≤ 65536
def ShortD (ds : List DoV) : Prop := ∀ (j : Nat) (d : DoV), ds[j]? = some d → d.l.length ≤ 140737488355328 ∧ d.tl.length ≤ 140737488355328 ∧ d.kl.length ≤ 140737488355328
def FewPost (w : World) (ds : List DoV) (e : Ending) (w' : World) : Prop := ∃ b, e = .returned (.bool b) ∧ Below w.heap.size w w' ∧ (b = true → FewD ds)
set_option maxRecDepth 20000 in
set_option maxHeartbeats 2000000 in
theorem fewd_any (A : Option Addr) (c : Nat) (ds : List DoV) (hlen : ds.length ≤ 9223372036854775807) (hS : ShortD ds) (w : World) (hD : InDo w A ds.length c ds) :
    Calls Tryz.prog 27 #[.slice A ds.length c] w (FewPost w ds) := by
  have HD := Lib.hid hD
  have HS := Lib.hid hS
  clear hD hS hlen
  go_enter Tryz.func27, Tryz.ntmps27
  go_wp2
  go_loopw [3, 4] (fun y x wr => ∃ k m : Nat, k ≤ ds.length ∧ k ≤ 60 ∧ m ≤ 65536 ∧ x = .int .i64 (k : Int) ∧ y = .int .i64 (m : Int) ∧ Hid (∀ (j : Nat) (d : DoV), j < k → ds[j]? = some d → d.l.length ≤ 65536 ∧ d.tl.length ≤ 65536 ∧ d.kl.length ≤ 65536) ∧ Below w.heap.size w wr) (fun _ x _ => 60 - (intOf x).toNat)
  case atStart => exact ⟨0, 0, by omega, by omega, by omega, rfl, rfl, Lib.hid (fun j d hj => by omega), Below.refl _ _⟩
  case round =>
    obtain ⟨k, m, hk, hk2, hm, rfl, rfl, hno, hB⟩ := hrel
    have hkw : IntKind.i64.wrap ((k : Int) + 1) = (k : Int) + 1 := by rw [IntKind.wrap_i64]; omega
    by_cases h1 : k < ds.length
    · by_cases h2 : k < 60
      · have h1i : (k : Int) < (ds.length : Int) := by omega
        have h2i : (k : Int) < 60 := by omega
        obtain ⟨d, hd⟩ : ∃ d, ds[k]? = some d := ⟨_, List.getElem?_eq_getElem h1⟩
        obtain ⟨⟨g, o, rfl, hc⟩, _⟩ := (HD.out.below hB).at_ k d hd
        obtain ⟨s1, s2, s3⟩ := HS.out k d hd
        have c2 := hc 2 _ rfl
        have c4 := hc 3 _ rfl
        have c8 : wr.cell? ⟨g, o + k * 8 + 4 + 3, none⟩ = some (.slice d.TA d.tl.length d.tcap) := hc 7 _ rfl
        have HDK := Lib.hid hd
        have HBR := Lib.hid hB
        have HM := Lib.hid hm
        obtain ⟨n1, hn1⟩ : ∃ n1, n1 = m + d.l.length := ⟨_, rfl⟩
        obtain ⟨n2, hn2⟩ : ∃ n2, n2 = n1 + d.kl.length := ⟨_, rfl⟩
        obtain ⟨n3, hn3⟩ : ∃ n3, n3 = n2 + d.tl.length := ⟨_, rfl⟩
        have e1 : IntKind.i64.wrap ((m : Int) + (d.l.length : Int)) = (n1 : Int) := by rw [IntKind.wrap_i64]; omega
        have e2 : IntKind.i64.wrap ((n1 : Int) + (d.kl.length : Int)) = (n2 : Int) := by rw [IntKind.wrap_i64]; omega
        have e3 : IntKind.i64.wrap ((n2 : Int) + (d.tl.length : Int)) = (n3 : Int) := by rw [IntKind.wrap_i64]; omega
        have HN1 := Lib.hid hn1
        have HN2 := Lib.hid hn2
        have HN3 := Lib.hid hn3
        have HNO := hno
        clear hd hc s1 s2 s3 hB hm hn1 hn2 hn3 hno
        by_cases hbig : (65536 : Int) < (n3 : Int)
        · go_wp2
          go_quiet (fail)
          go_wp2
          go_ret
          exact ⟨false, rfl, below_drewN HBR.out _, fun h => by cases h⟩
        · have HBG := Lib.hid (p := n3 ≤ 65536) (by omega)
          go_wp2
          go_quiet (fail)
          go_wp2
          go_roundw
          case rel => exact ⟨k + 1, n3, by omega, by omega, HBG.out, by go_num, rfl, Lib.hid (fun j q hj hq => by
            rcases Nat.lt_or_ge j k with h | h
            · exact HNO.out j q h hq
            · obtain rfl : j = k := by omega
              have := HDK.out
              rw [hq] at this
              injection this with this
              subst this
              have a1 := HN1.out
              have a2 := HN2.out
              have a3 := HN3.out
              have a4 := HBG.out
              omega), below_drewN HBR.out _⟩
          case measure => simp [intOf]; omega
      · have h2i : ¬ (k : Int) < 60 := by omega
        have h1i : (k : Int) < (ds.length : Int) := by omega
        go_wp2
        go_ret
        exact ⟨true, rfl, hB, fun _ j d hj hd => hno.out j d (by omega) hd⟩
    · have h1i : ¬ (k : Int) < (ds.length : Int) := by omega
      go_wp2
      go_ret
      exact ⟨true, rfl, hB, fun _ j d hj hd => hno.out j d (by have := (List.getElem?_eq_some_iff.1 hd).1; omega) hd⟩
end Go.Proofs.YtpocccnhibjjcaaGreatDoor.V9
