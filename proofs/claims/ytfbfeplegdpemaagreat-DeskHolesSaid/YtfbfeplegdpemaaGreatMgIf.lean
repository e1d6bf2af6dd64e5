/- Package inode: the inode that a cursor tells. Conditions: those named. -/
import Derived.Test.YtfbfeplegdpemaaGreatMgIc
set_option linter.unusedVariables false
set_option maxRecDepth 20000
namespace Go.Proofs.YtfbfeplegdpemaaGreat
open Go.RowKit

/-- The first fields read. -/
def up (L : List UInt8) (k j : Nat) : Int := if j < k then rd sz L j else 0
theorem up_zero (L : List UInt8) : ncs (up L 0) = ncs ino0 := ncs_congr fun j _ => by unfold up; rw [if_neg (by omega)]; rfl
theorem up_all (L : List UInt8) : ncs (up L 27) = ncs (rd sz L) := ncs_congr fun j hj => by unfold up; rw [if_pos hj]
theorem up_step (L : List UInt8) (k : Nat) (hk : k < 27) : (ncs (up L k)).set k (.int (kd k) (rd sz L k)) = ncs (up L (k + 1)) := by
  rw [ncs_set _ hk]
  refine ncs_congr fun j _ => ?_
  unfold at1 up
  by_cases h : j = k
  · subst h
    rw [if_pos rfl, if_pos (by omega)]
  · rw [if_neg h]
    by_cases h2 : j < k
    · rw [if_pos h2, if_pos (by omega)]
    · rw [if_neg h2, if_neg (by omega)]
/-- An inode half read. -/
structure RS (w0 w : World) (gc g2 g3 : Nat) (L : List UInt8) (kc kr : Nat) : Prop where
  cur : Cur w gc (L.drop (off sz kc)) false
  r2 : Row w g2 44 (ncs ino0)
  r3 : Row w g3 44 (ncs (up L kr))
  n : gc < g2 ∧ g2 < g3
  q : w0.heap.size ≤ g2
  b : w0.grownBy w (some gc)
theorem ino_u8 : 44 ≠ 5 := by decide
theorem RS.turn {w0 w w' : World} {gc g2 g3 : Nat} {L : List UInt8} {kc kr kc' : Nat} (h : RS w0 w gc g2 g3 L kc kr) (hc : Cur w' gc (L.drop (off sz kc')) false) (hg : w.grownBy w' (some gc)) : RS w0 w' gc g2 g3 L kc' kr :=
  ⟨hc, h.r2.grown hg (fun e => by injection e with e; have := h.n; omega), h.r3.grown hg (fun e => by injection e with e; have := h.n; omega), h.n, h.q, grown_trans h.b hg⟩
theorem RS.put {w0 w : World} {gc g2 g3 : Nat} {L : List UInt8} {kc k : Nat} (h : RS w0 w gc g2 g3 L kc k) (hk : k < 27) {u : Value} (hu : u = .int (kd k) (rd sz L k)) : RS w0 (w.setCell ⟨g3, k, none⟩ u) gc g2 g3 L kc (k + 1) := by
  subst hu
  have hg := grown_set w ⟨g3, k, none⟩ (.int (kd k) (rd sz L k))
  refine ⟨h.cur.grown hg (fun e => by injection e with e; replace e : gc = g3 := e; have := h.n; omega) (fun q hq => h.r3.no8 ino_u8 q hq), h.r2.grown hg (fun e => by injection e with e; replace e : g2 = g3 := e; have := h.n; omega), ?_, h.n, h.q, ?_⟩
  · rw [← up_step L k hk]
    exact h.r3.put k _
  · exact ⟨hg.os.trans h.b.os, hg.tape.trans h.b.tape, hg.output.trans h.b.output, Nat.le_trans h.b.size hg.size, fun j hj hne => (hg.block j (Nat.lt_of_lt_of_le hj h.b.size) (fun e => by injection e with e; replace e : j = g3 := e; have := h.q; have := h.n; omega)).trans (h.b.block j hj hne)⟩
theorem RS.num {w0 w : World} {gc g2 g3 : Nat} {L : List UInt8} {k kr : Nat} (h : RS w0 w gc g2 g3 L k kr) (s x : Nat) (hs : sz k = s) (hx : rdn sz L k = x) (hk : s = 1 ∨ s = 2 ∨ s = 4 ∨ s = 8) (hl : off sz k + s ≤ L.length) (hl2 : L.length ≤ 256) :
    Calls Tryz.prog 79 #[.pointer (some ⟨gc, 0, none⟩), .int .i64 (s : Int)] w fun e w' => e = .returned (.int .u64 (x : Int)) ∧ Hid (RS w0 w' gc g2 g3 L (k + 1) kr) := by
  subst hs
  refine (cnum_at gc (L.drop (off sz k)) (sz k) hk w h.cur (by rw [List.length_drop]; omega) (by rw [List.length_drop]; omega)).mono ?_
  rintro e w' ⟨rfl, hc, hg⟩
  refine ⟨by rw [← hx]; rfl, Lib.hid (h.turn ?_ hg.out)⟩
  have := hc.out
  rw [List.drop_drop] at this
  exact this
set_option maxHeartbeats 2000000 in
theorem read_any (gc : Nat) (L : List UInt8) (w : World) (hc : Cur w gc L false) (hl : L.length = 256) :
    Calls Tryz.prog 77 #[.func (.func 79) #[.pointer (some ⟨gc, 0, none⟩)] #[]] w fun e w' => e = .returned (.agg (ncs (rd sz L)).toArray) ∧ Hid (w.grownBy w' (some gc)) := by
  have i1 := Lib.hid (fun v => info_ncs v)
  have hz := Lib.hid zero_ino
  have HC := Lib.hid hc
  have HL := Lib.hid hl
  clear hc hl
  obtain ⟨x0, hx0⟩ : ∃ x, rdn sz L 0 = x := ⟨_, rfl⟩
  have bx0 : x0 < 256 := by rw [← hx0]; exact rdn_lt sz L 0
  have wx0 : IntKind.i64.wrap (x0 : Int) = (x0 : Int) := by rw [IntKind.wrap_i64]; omega
  have HX0 := Lib.hid hx0
  obtain ⟨x1, hx1⟩ : ∃ x, rdn sz L 1 = x := ⟨_, rfl⟩
  have bx1 : x1 < 65536 := by rw [← hx1]; exact rdn_lt sz L 1
  have wx1 : IntKind.i64.wrap (x1 : Int) = (x1 : Int) := by rw [IntKind.wrap_i64]; omega
  have HX1 := Lib.hid hx1
  obtain ⟨x2, hx2⟩ : ∃ x, rdn sz L 2 = x := ⟨_, rfl⟩
  have bx2 : x2 < 4294967296 := by rw [← hx2]; exact rdn_lt sz L 2
  have wx2 : IntKind.u32.wrap (x2 : Int) = (x2 : Int) := by rw [wrap_32]; omega
  have mx2 : (x2 : Int) % 4294967296 = (x2 : Int) := by omega
  have HX2 := Lib.hid hx2
  obtain ⟨x3, hx3⟩ : ∃ x, rdn sz L 3 = x := ⟨_, rfl⟩
  have bx3 : x3 < 4294967296 := by rw [← hx3]; exact rdn_lt sz L 3
  have wx3 : IntKind.u32.wrap (x3 : Int) = (x3 : Int) := by rw [wrap_32]; omega
  have mx3 : (x3 : Int) % 4294967296 = (x3 : Int) := by omega
  have HX3 := Lib.hid hx3
  obtain ⟨x4, hx4⟩ : ∃ x, rdn sz L 4 = x := ⟨_, rfl⟩
  have bx4 : x4 < 65536 := by rw [← hx4]; exact rdn_lt sz L 4
  have wx4 : IntKind.i64.wrap (x4 : Int) = (x4 : Int) := by rw [IntKind.wrap_i64]; omega
  have HX4 := Lib.hid hx4
  obtain ⟨x5, hx5⟩ : ∃ x, rdn sz L 5 = x := ⟨_, rfl⟩
  have bx5 : x5 < 4294967296 := by rw [← hx5]; exact rdn_lt sz L 5
  have wx5 : IntKind.i64.wrap (x5 : Int) = (x5 : Int) := by rw [IntKind.wrap_i64]; omega
  have HX5 := Lib.hid hx5
  obtain ⟨x6, hx6⟩ : ∃ x, rdn sz L 6 = x := ⟨_, rfl⟩
  have HX6 := Lib.hid hx6
  obtain ⟨x7, hx7⟩ : ∃ x, rdn sz L 7 = x := ⟨_, rfl⟩
  have bx7 : x7 < 4294967296 := by rw [← hx7]; exact rdn_lt sz L 7
  have wx7 : IntKind.u32.wrap (x7 : Int) = (x7 : Int) := by rw [wrap_32]; omega
  have mx7 : (x7 : Int) % 4294967296 = (x7 : Int) := by omega
  have HX7 := Lib.hid hx7
  obtain ⟨x8, hx8⟩ : ∃ x, rdn sz L 8 = x := ⟨_, rfl⟩
  have bx8 : x8 < 65536 := by rw [← hx8]; exact rdn_lt sz L 8
  have wx8 : IntKind.i64.wrap (x8 : Int) = (x8 : Int) := by rw [IntKind.wrap_i64]; omega
  have HX8 := Lib.hid hx8
  obtain ⟨x9, hx9⟩ : ∃ x, rdn sz L 9 = x := ⟨_, rfl⟩
  have bx9 : x9 < 4294967296 := by rw [← hx9]; exact rdn_lt sz L 9
  have wx9 : IntKind.u32.wrap (x9 : Int) = (x9 : Int) := by rw [wrap_32]; omega
  have mx9 : (x9 : Int) % 4294967296 = (x9 : Int) := by omega
  have HX9 := Lib.hid hx9
  obtain ⟨x26, hx26⟩ : ∃ x, rdn sz L 26 = x := ⟨_, rfl⟩
  have bx26 : x26 < 65536 := by rw [← hx26]; exact rdn_lt sz L 26
  have wx26 : IntKind.i64.wrap (x26 : Int) = (x26 : Int) := by rw [IntKind.wrap_i64]; omega
  have HX26 := Lib.hid hx26
  clear hx0 hx1 hx2 hx3 hx4 hx5 hx6 hx7 hx8 hx9 hx26 bx0 bx1 bx2 bx3 bx4 bx5 bx7 bx8 bx9 bx26
  go_enter Tryz.func77, Tryz.ntmps77
  go_wp2_with (first
    | (refine step_alloc rfl 2 rfl 44 rfl _ hz.out ?_; intro g2 w1 hr1 hg1 hb1 hs1
       have R1 := Lib.hid hr1
       have HB1 := Lib.hid hb1
       have HG1 := Lib.hid (p := g2 = w.heap.size) hg1.out
       clear hr1 hb1 hg1 hs1)
    | (refine step_alloc rfl 3 rfl 44 rfl _ hz.out ?_; intro g3 w2 hr2 hg2 hb2 hs2
       have N0 := Lib.hid (p := RS w w2 gc g2 g3 L 0 0) ⟨by rw [off, List.drop_zero]; exact HC.out.below (HB1.out.trans (hb2.mono HB1.out.size)), R1.out.kept hb2, by rw [up_zero]; exact hr2, ⟨by have h1 := HC.out.lt; have h2 := HG1.out; omega, by have h1 := R1.out.lt; have h2 := hg2.out; omega⟩, by rw [HG1.out]; exact Nat.le_refl _, grown_of_below (HB1.out.trans (hb2.mono HB1.out.size))⟩
       clear hr2 hb2 hg2 hs2 R1 HB1 HC))
  refine (N0.out.num 1 x0 rfl HX0.out (.inl rfl) (by rw [HL.out]; decide) (by rw [HL.out]; decide)).mono ?_
  rintro e w10 ⟨rfl, M0⟩
  have c0 : w10.cell? ⟨g3, 0, none⟩ = some (.int .i64 0) := by rw [M0.out.r3.cell]; rfl
  have f0 := M0.out.r3.free 0
  have N1 := Lib.hid (M0.out.put (by omega) (u := .int .i64 (x0 : Int)) (by rw [← HX0.out]; rfl))
  clear N0 M0
  go_wp2_with fail
  refine (N1.out.num 2 x1 rfl HX1.out (.inr (.inl rfl)) (by rw [HL.out]; decide) (by rw [HL.out]; decide)).mono ?_
  rintro e w11 ⟨rfl, M1⟩
  have c1 : w11.cell? ⟨g3, 1, none⟩ = some (.int .i64 0) := by rw [M1.out.r3.cell]; rfl
  have f1 := M1.out.r3.free 1
  have N2 := Lib.hid (M1.out.put (by omega) (u := .int .i64 (x1 : Int)) (by rw [← HX1.out]; rfl))
  clear N1 M1 c0 f0
  go_wp2_with fail
  refine (N2.out.num 4 x2 rfl HX2.out (.inr (.inr (.inl rfl))) (by rw [HL.out]; decide) (by rw [HL.out]; decide)).mono ?_
  rintro e w12 ⟨rfl, M2⟩
  have c2 : w12.cell? ⟨g3, 2, none⟩ = some (.int .u32 0) := by rw [M2.out.r3.cell]; rfl
  have f2 := M2.out.r3.free 2
  have N3 := Lib.hid (M2.out.put (by omega) (u := .int .u32 (x2 : Int)) (by rw [← HX2.out]; rfl))
  clear N2 M2 c1 f1
  go_wp2_with fail
  refine (N3.out.num 4 x3 rfl HX3.out (.inr (.inr (.inl rfl))) (by rw [HL.out]; decide) (by rw [HL.out]; decide)).mono ?_
  rintro e w13 ⟨rfl, M3⟩
  have c3 : w13.cell? ⟨g3, 3, none⟩ = some (.int .u32 0) := by rw [M3.out.r3.cell]; rfl
  have f3 := M3.out.r3.free 3
  have N4 := Lib.hid (M3.out.put (by omega) (u := .int .u32 (x3 : Int)) (by rw [← HX3.out]; rfl))
  clear N3 M3 c2 f2
  go_wp2_with fail
  refine (N4.out.num 2 x4 rfl HX4.out (.inr (.inl rfl)) (by rw [HL.out]; decide) (by rw [HL.out]; decide)).mono ?_
  rintro e w14 ⟨rfl, M4⟩
  have c4 : w14.cell? ⟨g3, 4, none⟩ = some (.int .i64 0) := by rw [M4.out.r3.cell]; rfl
  have f4 := M4.out.r3.free 4
  have N5 := Lib.hid (M4.out.put (by omega) (u := .int .i64 (x4 : Int)) (by rw [← HX4.out]; rfl))
  clear N4 M4 c3 f3
  go_wp2_with fail
  refine (N5.out.num 4 x5 rfl HX5.out (.inr (.inr (.inl rfl))) (by rw [HL.out]; decide) (by rw [HL.out]; decide)).mono ?_
  rintro e w15 ⟨rfl, M5⟩
  have c5 : w15.cell? ⟨g3, 5, none⟩ = some (.int .i64 0) := by rw [M5.out.r3.cell]; rfl
  have f5 := M5.out.r3.free 5
  have N6 := Lib.hid (M5.out.put (by omega) (u := .int .i64 (x5 : Int)) (by rw [← HX5.out]; rfl))
  clear N5 M5 c4 f4
  go_wp2_with fail
  refine (N6.out.num 8 x6 rfl HX6.out (.inr (.inr (.inr rfl))) (by rw [HL.out]; decide) (by rw [HL.out]; decide)).mono ?_
  rintro e w16 ⟨rfl, M6⟩
  have c6 : w16.cell? ⟨g3, 6, none⟩ = some (.int .u64 0) := by rw [M6.out.r3.cell]; rfl
  have f6 := M6.out.r3.free 6
  have N7 := Lib.hid (M6.out.put (by omega) (u := .int .u64 (x6 : Int)) (by rw [← HX6.out]; rfl))
  clear N6 M6 c5 f5
  go_wp2_with fail
  refine (N7.out.num 4 x7 rfl HX7.out (.inr (.inr (.inl rfl))) (by rw [HL.out]; decide) (by rw [HL.out]; decide)).mono ?_
  rintro e w17 ⟨rfl, M7⟩
  have c7 : w17.cell? ⟨g3, 7, none⟩ = some (.int .u32 0) := by rw [M7.out.r3.cell]; rfl
  have f7 := M7.out.r3.free 7
  have N8 := Lib.hid (M7.out.put (by omega) (u := .int .u32 (x7 : Int)) (by rw [← HX7.out]; rfl))
  clear N7 M7 c6 f6
  go_wp2_with fail
  refine (N8.out.num 2 x8 rfl HX8.out (.inr (.inl rfl)) (by rw [HL.out]; decide) (by rw [HL.out]; decide)).mono ?_
  rintro e w18 ⟨rfl, M8⟩
  have c8 : w18.cell? ⟨g3, 8, none⟩ = some (.int .i64 0) := by rw [M8.out.r3.cell]; rfl
  have f8 := M8.out.r3.free 8
  have N9 := Lib.hid (M8.out.put (by omega) (u := .int .i64 (x8 : Int)) (by rw [← HX8.out]; rfl))
  clear N8 M8 c7 f7
  go_wp2_with fail
  refine (N9.out.num 4 x9 rfl HX9.out (.inr (.inr (.inl rfl))) (by rw [HL.out]; decide) (by rw [HL.out]; decide)).mono ?_
  rintro e w19 ⟨rfl, M9⟩
  have c9 : w19.cell? ⟨g3, 9, none⟩ = some (.int .u32 0) := by rw [M9.out.r3.cell]; rfl
  have f9 := M9.out.r3.free 9
  have N10 := Lib.hid (M9.out.put (by omega) (u := .int .u32 (x9 : Int)) (by rw [← HX9.out]; rfl))
  clear N9 M9 c8 f8
  go_wp2_with fail
  refine (readslots_any gc g3 (by have := N10.out.n; omega) (L.drop 35) 10 16 16 44 ino_u8 (fun j => ncs (up L (10 + j))) ?hC ?hz (by omega) (by rw [List.length_drop, HL.out]; decide) (by rw [List.length_drop, HL.out]; decide) _ N10.out.cur N10.out.r3).mono ?_
  case hC =>
    intro k hk
    have h1 := up_step L (10 + k) (by omega)
    have h2 : kd (10 + k) = .i64 := by unfold kd; rw [if_neg (by omega), if_neg (by omega)]
    rw [h2] at h1
    refine Eq.trans ?_ h1
    unfold rd rdn
    rw [off_slot, sz_slot, List.drop_drop]
  case hz => exact fun k hk => ⟨_, ncs_slot _ (by omega)⟩
  rintro e w30 ⟨rfl, hc30, hr30, ht30⟩
  have N26 := Lib.hid (p := RS w w30 gc g2 g3 L 26 26) ⟨by have h9 := hc30.out; rw [List.drop_drop] at h9; exact h9, ht30.out.row N10.out.r2 (by have := N10.out.n; omega) (by have := N10.out.n; omega), hr30.out, N10.out.n, N10.out.q, ⟨ht30.out.os.trans N10.out.b.os, ht30.out.tape.trans N10.out.b.tape, ht30.out.output.trans N10.out.b.output, Nat.le_trans N10.out.b.size ht30.out.size, fun j hj hne => (ht30.out.block j (Nat.lt_of_lt_of_le hj N10.out.b.size) (fun e => hne (by rw [e])) (by have := N10.out.q; have := N10.out.n; omega)).trans (N10.out.b.block j hj hne)⟩⟩
  clear hc30 hr30 ht30 N10 c9 f9
  go_wp2_with fail
  refine (N26.out.num 2 x26 rfl HX26.out (.inr (.inl rfl)) (by rw [HL.out]; decide) (by rw [HL.out]; decide)).mono ?_
  rintro e w31 ⟨rfl, M26⟩
  have c26 : w31.cell? ⟨g3, 26, none⟩ = some (.int .i64 0) := by rw [M26.out.r3.cell]; rfl
  have f26 := M26.out.r3.free 26
  have N27 := Lib.hid (M26.out.put (by omega) (u := .int .i64 (x26 : Int)) (by rw [← HX26.out]; rfl))
  clear N26 M26
  go_wp2_with (first
    | (refine step_load rfl 51 rfl 44 (.tmp 3) rfl g3 rfl (ncs (up L 27)) _ N27.out.r3.all Tryz.underlying44 rfl (i1.out _) ?_)
    | (refine step_store rfl 44 (.tmp 2) (.tmp 51) rfl g2 (by rfl) _ (ncs ino0) (ncs (up L 27)) (by rfl) N27.out.r2 rfl (i1.out _) (ncs_one _) ?_; intro w33 hr33 hg33 hs33))
  rw [up_all] at hr33
  refine bodyPost_ret (results_cell_row rfl _ _ g2 _ _ _ _ rfl hr33 Tryz.underlying44 rfl (by simpa using i1.out (rd sz L))) rfl ?_
  have hN := N27.out
  exact ⟨rfl, Lib.hid ⟨hg33.os.trans hN.b.os, hg33.tape.trans hN.b.tape, hg33.output.trans hN.b.output, Nat.le_trans hN.b.size hg33.size, fun k hk hne => (hg33.block k (Nat.lt_of_lt_of_le hk hN.b.size) (fun e => by injection e with e; have := hN.q; omega)).trans (hN.b.block k hk hne)⟩⟩
end Go.Proofs.YtfbfeplegdpemaaGreat
/- Package inode: the inode of a block, or none. Conditions: those named. -/
set_option linter.unusedVariables false
set_option maxRecDepth 20000
namespace Go.Proofs.YtfbfeplegdpemaaGreat
open Go.RowKit

theorem kd_u32 {k : Nat} (h : kd k = .u32) : sz k = 4 := by
  unfold kd at h
  split at h
  · rename_i h1
    rcases h1 with rfl | rfl | rfl | rfl <;> rfl
  · split at h <;> cases h
theorem rd_wf (l : List UInt8) : Wf (rd sz l) := by
  refine ⟨fun k hk => ?_, ?_⟩
  · have h1 := rdn_lt sz l k
    rw [kd_u32 hk] at h1
    have e : (256 : Nat) ^ 4 = 4294967296 := rfl
    unfold rd
    omega
  · have h1 := rdn_lt sz l 6
    have e : (256 : Nat) ^ sz 6 = 18446744073709551616 := rfl
    unfold rd
    omega
/-- Whether a block is an inode's. -/
def iOk (l : List UInt8) : Bool := decide (l.length = 256) && (mayB (rd sz l) && decide (blk sz (rd sz l) 27 = l))
/-- What Unpack answers. -/
def iV (l : List UInt8) : Value := .tuple #[.agg (ncs (if iOk l = true then rd sz l else ino0)).toArray, .int .i64 (if iOk l = true then 0 else 210)]
theorem iV_bad {l : List UInt8} (h : iOk l = false) : iV l = .tuple #[.agg (ncs ino0).toArray, .int .i64 210] := by unfold iV; rw [h]; rfl
theorem iV_ok {l : List UInt8} (h : iOk l = true) : iV l = .tuple #[.agg (ncs (rd sz l)).toArray, .int .i64 0] := by unfold iV; rw [h]; rfl
set_option maxHeartbeats 2000000 in
theorem unpack_any (A : Option Addr) (n c : Nat) (l : List UInt8) (hn : l.length = n) (hlen : n < 9223372036854775808) (w : World) (hA : Hol w A l) :
    Calls Tryz.prog 42 #[.slice A n c] w fun e w' => e = .returned (iV l) ∧ Below w.heap.size w w' := by
  have i1 := Lib.hid (fun v => info_ncs v)
  have hz := Lib.hid zero_ino
  by_cases h256 : n = 256
  · subst h256
    have HNew : Hid (∀ w', Below w.heap.size w w' → Calls Tryz.prog 78 #[.slice A 256 c] w' fun e w'' => ∃ g, e = .returned (.pointer (some ⟨g, 0, none⟩)) ∧ w'.heap.size ≤ g ∧ Cur w'' g l false ∧ Below w'.heap.size w' w'') := fun w' hb => by
      have h := cur_new_any A c l w' (hA.below hb) (by omega)
      rwa [hn] at h
    have HA := Lib.hid hA
    have HL := Lib.hid hn
    have hok : iOk l = (mayB (rd sz l) && decide (blk sz (rd sz l) 27 = l)) := by unfold iOk; rw [decide_eq_true hn, Bool.true_and]
    cases hm : mayB (rd sz l)
    · rw [hm, Bool.false_and] at hok
      have HU := Lib.hid hok
      have HP := Lib.hid (fun w => pack_not (rd sz l) hm w)
      clear hA hn hlen hok hm
      go_enter Tryz.func42, Tryz.ntmps42
      go_wp2_with (first
        | (refine step_alloc rfl 2 rfl 44 rfl _ hz.out ?_; intro g2 w2 hr2 hg2 hb2 hs2
           have R2 := Lib.hid hr2
           have HB2 := Lib.hid hb2
           have Q2 := Lib.hid (p := w.heap.size ≤ g2) (by rw [hg2.out]; exact Nat.le_refl _)
           clear hr2 hb2 hg2 hs2)
        | (go_at_call 78; refine (HNew.out _ HB2.out).mono ?_; rintro e5 w5 ⟨g5, rfl, hq5, hc5, hb5⟩
           have R25 := Lib.hid (R2.out.kept hb5)
           have HB5 := Lib.hid (HB2.out.trans (hb5.mono HB2.out.size))
           have N5 := Lib.hid (p := g2 < g5 ∧ w.heap.size ≤ g5) ⟨Nat.lt_of_lt_of_le R2.out.lt hq5, Nat.le_trans HB2.out.size hq5⟩
           have HC5 := Lib.hid hc5
           clear hq5 hc5 hb5)
        | (go_at_call 77; refine (read_any g5 l _ HC5.out HL.out).mono ?_; rintro e6 w6 ⟨rfl, hg6⟩
           have R26 := Lib.hid (R25.out.grown hg6.out (fun e => by injection e with e; have := N5.out; omega))
           have HB6 := Lib.hid (p := Below w.heap.size w w6) (HB5.out.grown hg6.out HB5.out.size (fun q hq => by injection hq with hq; have := N5.out; omega))
           clear hg6 HC5)
        | (refine step_alloc rfl 4 rfl 44 rfl _ hz.out ?_; intro g4 w4 hr4 hg4 hb4 hs4
           have R4 := Lib.hid hr4
           have R24 := Lib.hid (R26.out.kept hb4)
           have HB4 := Lib.hid (below_nxt hb4 HB6.out)
           have N24 := Lib.hid (p := g2 < g4) (by rw [hg4.out]; exact R26.out.lt)
           clear hr4 hb4 hg4 hs4)
        | (refine step_store rfl 44 (.tmp 4) (.tmp 14) rfl g4 (by rfl) _ (ncs ino0) (ncs (rd sz l)) (by rfl) R4.out rfl (i1.out _) (ncs_one _) ?_; intro w7 hr7 hg7 hs7
           have R47 := Lib.hid hr7
           have R27 := Lib.hid (R24.out.grown hg7 (fun e => by injection e with e; have := N24.out; omega))
           have HB7 := Lib.hid (p := Below w.heap.size w w7) (HB4.out.grown hg7 HB4.out.size (fun q hq => by injection hq with hq; have := N24.out; have := Q2.out; omega))
           clear hr7 hg7 hs7)
        | (refine step_load rfl 16 rfl 44 (.tmp 4) rfl g4 rfl (ncs (rd sz l)) _ R47.out.all Tryz.underlying44 rfl (i1.out _) ?_)
        | (go_at_call 39; refine (HP.out _).mono ?_; rintro e8 w8 ⟨rfl, hb8⟩
           have R48 := Lib.hid (R47.out.kept hb8)
           have R28 := Lib.hid (R27.out.kept hb8)
           have HB8 := Lib.hid (below_nxt hb8 HB7.out)
           clear hb8)
        | (refine step_build rfl 44 #[] rfl [] ?hv _ built_ino0 ?_; case hv => simp)
        | (refine step_store rfl 44 (.tmp 2) (.tmp 28) rfl g2 (by rfl) _ (ncs ino0) (ncs ino0) (by rfl) R28.out rfl (i1.out _) (ncs_one _) ?_; intro w9 hr9 hg9 hs9))
      refine bodyPost_ret (results_row_tmp rfl _ _ g2 _ _ _ _ rfl hr9 Tryz.underlying44 rfl (by simpa using i1.out ino0)) rfl ?_
      exact ⟨by rw [iV_bad HU.out]; rfl, HB8.out.grown hg9 HB8.out.size (fun q hq => by injection hq with hq; subst hq; exact Q2.out)⟩
    · rw [hm, Bool.true_and] at hok
      have HP := Lib.hid (fun w => pack_ok (rd sz l) hm (rd_wf l) w)
      cases he : decide (blk sz (rd sz l) 27 = l)
      · rw [he] at hok
        have HE := Lib.hid he
        have HU := Lib.hid hok
        clear hA hn hlen hok hm he
        go_enter Tryz.func42, Tryz.ntmps42
        go_wp2_with (first
          | (refine step_alloc rfl 2 rfl 44 rfl _ hz.out ?_; intro g2 w2 hr2 hg2 hb2 hs2
             have R2 := Lib.hid hr2
             have HB2 := Lib.hid hb2
             have Q2 := Lib.hid (p := w.heap.size ≤ g2) (by rw [hg2.out]; exact Nat.le_refl _)
             clear hr2 hb2 hg2 hs2)
          | (go_at_call 78; refine (HNew.out _ HB2.out).mono ?_; rintro e5 w5 ⟨g5, rfl, hq5, hc5, hb5⟩
             have R25 := Lib.hid (R2.out.kept hb5)
             have HB5 := Lib.hid (HB2.out.trans (hb5.mono HB2.out.size))
             have N5 := Lib.hid (p := g2 < g5 ∧ w.heap.size ≤ g5) ⟨Nat.lt_of_lt_of_le R2.out.lt hq5, Nat.le_trans HB2.out.size hq5⟩
             have HC5 := Lib.hid hc5
             clear hq5 hc5 hb5)
          | (go_at_call 77; refine (read_any g5 l _ HC5.out HL.out).mono ?_; rintro e6 w6 ⟨rfl, hg6⟩
             have R26 := Lib.hid (R25.out.grown hg6.out (fun e => by injection e with e; have := N5.out; omega))
             have HB6 := Lib.hid (p := Below w.heap.size w w6) (HB5.out.grown hg6.out HB5.out.size (fun q hq => by injection hq with hq; have := N5.out; omega))
             clear hg6 HC5)
          | (refine step_alloc rfl 4 rfl 44 rfl _ hz.out ?_; intro g4 w4 hr4 hg4 hb4 hs4
             have R4 := Lib.hid hr4
             have R24 := Lib.hid (R26.out.kept hb4)
             have HB4 := Lib.hid (below_nxt hb4 HB6.out)
             have N24 := Lib.hid (p := g2 < g4) (by rw [hg4.out]; exact R26.out.lt)
             clear hr4 hb4 hg4 hs4)
          | (refine step_store rfl 44 (.tmp 4) (.tmp 14) rfl g4 (by rfl) _ (ncs ino0) (ncs (rd sz l)) (by rfl) R4.out rfl (i1.out _) (ncs_one _) ?_; intro w7 hr7 hg7 hs7
             have R47 := Lib.hid hr7
             have R27 := Lib.hid (R24.out.grown hg7 (fun e => by injection e with e; have := N24.out; omega))
             have HB7 := Lib.hid (p := Below w.heap.size w w7) (HB4.out.grown hg7 HB4.out.size (fun q hq => by injection hq with hq; have := N24.out; have := Q2.out; omega))
             clear hr7 hg7 hs7)
          | (refine step_load rfl 16 rfl 44 (.tmp 4) rfl g4 rfl (ncs (rd sz l)) _ R47.out.all Tryz.underlying44 rfl (i1.out _) ?_)
          | (go_at_call 39; refine (HP.out _).mono ?_; rintro e8 w8 ⟨A8, c8, rfl, ho8, hb8⟩
             have R48 := Lib.hid (R47.out.kept hb8.out)
             have R28 := Lib.hid (R27.out.kept hb8.out)
             have HB8 := Lib.hid (below_nxt hb8.out HB7.out)
             have HH8 := Lib.hid (Hol.own ho8.out)
             clear hb8 ho8)
          | (go_at_call 80; refine (bequal_any A8 A 256 256 c8 c (blk sz (rd sz l) 27) l (blk_len sz _ 27 (by decide)).symm HL.out.symm _ HH8.out (HA.out.below HB8.out)).mono ?_; rintro e9 w9 ⟨rfl, hw9⟩; obtain rfl := hw9.symm; rw [HE.out])
          | (refine step_build rfl 44 #[] rfl [] ?hv _ built_ino0 ?_; case hv => simp)
          | (refine step_store rfl 44 (.tmp 2) (.tmp 28) rfl g2 (by rfl) _ (ncs ino0) (ncs ino0) (by rfl) R28.out rfl (i1.out _) (ncs_one _) ?_; intro w9 hr9 hg9 hs9))
        refine bodyPost_ret (results_row_tmp rfl _ _ g2 _ _ _ _ rfl hr9 Tryz.underlying44 rfl (by simpa using i1.out ino0)) rfl ?_
        exact ⟨by rw [iV_bad HU.out]; rfl, HB8.out.grown hg9 HB8.out.size (fun q hq => by injection hq with hq; subst hq; exact Q2.out)⟩
      · rw [he] at hok
        have HE := Lib.hid he
        have HU := Lib.hid hok
        clear hA hn hlen hok hm he
        go_enter Tryz.func42, Tryz.ntmps42
        go_wp2_with (first
          | (refine step_alloc rfl 2 rfl 44 rfl _ hz.out ?_; intro g2 w2 hr2 hg2 hb2 hs2
             have R2 := Lib.hid hr2
             have HB2 := Lib.hid hb2
             have Q2 := Lib.hid (p := w.heap.size ≤ g2) (by rw [hg2.out]; exact Nat.le_refl _)
             clear hr2 hb2 hg2 hs2)
          | (go_at_call 78; refine (HNew.out _ HB2.out).mono ?_; rintro e5 w5 ⟨g5, rfl, hq5, hc5, hb5⟩
             have R25 := Lib.hid (R2.out.kept hb5)
             have HB5 := Lib.hid (HB2.out.trans (hb5.mono HB2.out.size))
             have N5 := Lib.hid (p := g2 < g5 ∧ w.heap.size ≤ g5) ⟨Nat.lt_of_lt_of_le R2.out.lt hq5, Nat.le_trans HB2.out.size hq5⟩
             have HC5 := Lib.hid hc5
             clear hq5 hc5 hb5)
          | (go_at_call 77; refine (read_any g5 l _ HC5.out HL.out).mono ?_; rintro e6 w6 ⟨rfl, hg6⟩
             have R26 := Lib.hid (R25.out.grown hg6.out (fun e => by injection e with e; have := N5.out; omega))
             have HB6 := Lib.hid (p := Below w.heap.size w w6) (HB5.out.grown hg6.out HB5.out.size (fun q hq => by injection hq with hq; have := N5.out; omega))
             clear hg6 HC5)
          | (refine step_alloc rfl 4 rfl 44 rfl _ hz.out ?_; intro g4 w4 hr4 hg4 hb4 hs4
             have R4 := Lib.hid hr4
             have R24 := Lib.hid (R26.out.kept hb4)
             have HB4 := Lib.hid (below_nxt hb4 HB6.out)
             have N24 := Lib.hid (p := g2 < g4) (by rw [hg4.out]; exact R26.out.lt)
             clear hr4 hb4 hg4 hs4)
          | (refine step_store rfl 44 (.tmp 4) (.tmp 14) rfl g4 (by rfl) _ (ncs ino0) (ncs (rd sz l)) (by rfl) R4.out rfl (i1.out _) (ncs_one _) ?_; intro w7 hr7 hg7 hs7
             have R47 := Lib.hid hr7
             have R27 := Lib.hid (R24.out.grown hg7 (fun e => by injection e with e; have := N24.out; omega))
             have HB7 := Lib.hid (p := Below w.heap.size w w7) (HB4.out.grown hg7 HB4.out.size (fun q hq => by injection hq with hq; have := N24.out; have := Q2.out; omega))
             clear hr7 hg7 hs7)
          | (refine step_load rfl 16 rfl 44 (.tmp 4) rfl g4 rfl (ncs (rd sz l)) _ R47.out.all Tryz.underlying44 rfl (i1.out _) ?_)
          | (go_at_call 39; refine (HP.out _).mono ?_; rintro e8 w8 ⟨A8, c8, rfl, ho8, hb8⟩
             have R48 := Lib.hid (R47.out.kept hb8.out)
             have R28 := Lib.hid (R27.out.kept hb8.out)
             have HB8 := Lib.hid (below_nxt hb8.out HB7.out)
             have HH8 := Lib.hid (Hol.own ho8.out)
             clear hb8 ho8)
          | (go_at_call 80; refine (bequal_any A8 A 256 256 c8 c (blk sz (rd sz l) 27) l (blk_len sz _ 27 (by decide)).symm HL.out.symm _ HH8.out (HA.out.below HB8.out)).mono ?_; rintro e9 w9 ⟨rfl, hw9⟩; obtain rfl := hw9.symm; rw [HE.out])
          | (refine step_load rfl 29 rfl 44 (.tmp 4) rfl g4 rfl (ncs (rd sz l)) _ R48.out.all Tryz.underlying44 rfl (i1.out _) ?_)
          | (refine step_store rfl 44 (.tmp 2) (.tmp 29) rfl g2 (by rfl) _ (ncs ino0) (ncs (rd sz l)) (by rfl) R28.out rfl (i1.out _) (ncs_one _) ?_; intro w9 hr9 hg9 hs9))
        refine bodyPost_ret (results_row_tmp rfl _ _ g2 _ _ _ _ rfl hr9 Tryz.underlying44 rfl (by simpa using i1.out (rd sz l))) rfl ?_
        exact ⟨by rw [iV_ok HU.out]; rfl, HB8.out.grown hg9 HB8.out.size (fun q hq => by injection hq with hq; subst hq; exact Q2.out)⟩
  · have HU := Lib.hid (p := iOk l = false) (by unfold iOk; rw [decide_eq_false (by omega), Bool.false_and])
    have hne : ((n : Int) != 256) = true := by simp; omega
    have hlen' : (n : Int) ≤ 9223372036854775807 := by omega
    clear hA hn hlen h256
    go_enter Tryz.func42, Tryz.ntmps42
    go_wp2_with (first
      | (refine step_alloc rfl 2 rfl 44 rfl _ hz.out ?_; intro g2 w2 hr2 hg2 hb2 hs2
         have R2 := Lib.hid hr2
         have HB2 := Lib.hid hb2
         have Q2 := Lib.hid (p := w.heap.size ≤ g2) (by rw [hg2.out]; exact Nat.le_refl _)
         clear hr2 hb2 hg2 hs2)
      | (refine step_build rfl 44 #[] rfl [] ?hv _ built_ino0 ?_; case hv => simp)
      | (refine step_store rfl 44 (.tmp 2) (.tmp 10) rfl g2 (by rfl) _ (ncs ino0) (ncs ino0) (by rfl) R2.out rfl (i1.out _) (ncs_one _) ?_; intro w9 hr9 hg9 hs9))
    refine bodyPost_ret (results_row_tmp rfl _ _ g2 _ _ _ _ rfl hr9 Tryz.underlying44 rfl (by simpa using i1.out ino0)) rfl ?_
    exact ⟨by rw [iV_bad HU.out]; rfl, HB2.out.grown hg9 HB2.out.size (fun q hq => by injection hq with hq; subst hq; exact Q2.out)⟩
end Go.Proofs.YtfbfeplegdpemaaGreat
