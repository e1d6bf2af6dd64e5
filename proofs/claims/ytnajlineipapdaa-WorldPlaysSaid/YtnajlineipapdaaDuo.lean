/- Both disks in one memory: what one's call leaves of the other. Conditions: both lie there, apart. -/
import Derived.Test.YtnajlineipapdaaRRead2
import Derived.Test.YtnajlineipapdaaDTam0
set_option linter.unusedVariables false
namespace Go.Proofs.Ytnajlineipapdaa
open Go.RowKit

theorem syncB_len (keep : Nat → Bool) (R : List (Nat × List UInt8)) (S : List (List UInt8)) : ∀ k, (syncB keep R S k).length = S.length
  | 0 => rfl
  | k + 1 => by
    rw [syncB]
    cases R[k]? with
    | none => exact syncB_len keep R S k
    | some p =>
      show (if keep k = true then (syncB keep R S k).set p.1 p.2 else syncB keep R S k).length = _
      split
      · rw [List.length_set]
        exact syncB_len keep R S k
      · exact syncB_len keep R S k
theorem tampS_len (S : List (List UInt8)) (R : List (Nat × List UInt8)) (EE : Nat → List (List UInt8)) (k z m : Int) (l : List UInt8) : (tampS S R EE k z m l).length = S.length := by
  unfold tampS
  split
  · rfl
  · rw [List.length_set]
theorem tampR_len (R : List (Nat × List UInt8)) (k z : Int) : (tampR R k z).length ≤ R.length := by
  unfold tampR
  split
  · unfold dropB
    split
    · exact Nat.le_refl _
    · rw [List.length_append, List.length_take, List.length_drop]
      omega
  · exact List.length_filter_le _ _
/-- The blocks of F hold no step of a script. -/
def NoDo1 (w : World) (F : List Nat) : Prop := ∀ x ∈ F, ∀ cs fr, w.heap[x]? ≠ some (.cells cs 37 fr)
/-- .. and no bytes. -/
def NoDo (w : World) (F : List Nat) : Prop := NoDo1 w F ∧ NoBytes w F
theorem PDisk.noDo {b : Nat} {w : World} {g : Nat} {F : List Nat} {v1 v2 : Value} {gm : Nat} {v4 : Value} {ev : Nat → Value} {n : Nat} {ss : List BV} {rs : List (Nat × BV)} {E : Nat → List BV} {ts : List (Int × Int × BV)} (h : PDisk b w g F v1 v2 gm v4 ev n ss rs E ts) : NoDo1 w F := fun k hk => by
  rcases (h.fx k).1 hk with rfl | rfl | e | e | e | ⟨a, ha, e⟩
  · exact (NotT.row h.cells (by decide)).no
  · exact (NotT.map h.om _).no
  · have := NotT.own (e := 37) h.o1 (by decide)
    rw [e] at this
    exact this.no
  · have := NotT.own (e := 37) h.o2 (by decide)
    rw [e] at this
    exact this.no
  · have := NotT.own (e := 37) h.o4 (by decide)
    rw [e] at this
    exact this.no
  · have := NotT.own (e := 37) (h.oe a ha) (by decide)
    rw [e] at this
    exact this.no
theorem PB.noDo {b : Nat} {w : World} {g : Nat} {F : List Nat} {S : List (List UInt8)} {R : List (Nat × List UInt8)} {EE : Nat → List (List UInt8)} {T : List (Int × Int × List UInt8)} (h : PB b w g F S R EE T) : NoDo w F := by
  obtain ⟨ss, rs, E, ts, ⟨v1, v2, gm, v4, ev, n, hn, h⟩, _⟩ := h
  exact ⟨h.noDo, h.noBytes⟩
theorem RB.noDo {b : Nat} {w : World} {g : Nat} {G : List Nat} {S : List (List UInt8)} {R : List (Nat × List UInt8)} {EE : Nat → List (List UInt8)} {T : List (Int × Int × List UInt8)} {m : Nat} (h : RB b w g G S R EE T m) : NoDo w G := ⟨fun k hk => by
  obtain ⟨v1, v2, v3, v4, ss, rs, al, ts, h, rfl, rest⟩ := h
  rcases foot_in hk with rfl | e | e | e | e
  · exact (NotT.row h.cells (by decide)).no
  · have := NotT.own (e := 37) h.o1 (by decide)
    rw [e] at this
    exact this.no
  · have := NotT.own (e := 37) h.o2 (by decide)
    rw [e] at this
    exact this.no
  · have := NotT.own (e := 37) h.o3 (by decide)
    rw [e] at this
    exact this.no
  · have := NotT.own (e := 37) h.o4 (by decide)
    rw [e] at this
    exact this.no, h.noBytes⟩
theorem do_kept {w w' : World} {F : List Nat} {g : Nat} {cs : List Value} (hr : Row w g 37 cs) (hc : Chg F w w') (hn : NoDo w F) : Row w' g 37 cs := hc.row hr (fun h => hn.1 g h _ _ hr.heap)
/-- Both disks, each by its bytes, apart from each other; their bytes apart from the blocks K. -/
def Duo (b1 b2 : Nat) (w : World) (gp gr : Nat) (S : List (List UInt8)) (R : List (Nat × List UInt8)) (EE : Nat → List (List UInt8)) (T : List (Int × Int × List UInt8)) (S' : List (List UInt8)) (R' : List (Nat × List UInt8)) (EE' : Nat → List (List UInt8)) (T' : List (Int × Int × List UInt8)) (m : Nat) (K : List Nat) : Prop :=
  ∃ F G, PBK b1 w gp F S R EE T K ∧ RBK b2 w gr G S' R' EE' T' m K ∧ (∀ k ∈ G, k ∉ F)
section
variable {b1 b2 : Nat} {w : World} {gp gr : Nat} {S : List (List UInt8)} {R : List (Nat × List UInt8)} {EE : Nat → List (List UInt8)} {T : List (Int × Int × List UInt8)} {S' : List (List UInt8)} {R' : List (Nat × List UInt8)} {EE' : Nat → List (List UInt8)} {T' : List (Int × Int × List UInt8)} {m : Nat} {K : List Nat} {F G : List Nat}
theorem PBK.pB (h : PBK b1 w gp F S R EE T K) : PB b1 w gp F S R EE T := h.pb
theorem PBK.none_ (h : PB b1 w gp F S R EE T) : PBK b1 w gp F S R EE T [] := h.newer (fun k hk => by cases hk)
theorem RBK.none_ (h : RB b2 w gr G S' R' EE' T' m) : RBK b2 w gr G S' R' EE' T' m [] := h.newer (fun k hk => by cases hk)
theorem Duo.kept {w' : World} (h : Duo b1 b2 w gp gr S R EE T S' R' EE' T' m K) (hb : Below w.heap.size w w') : Duo b1 b2 w' gp gr S R EE T S' R' EE' T' m K := by
  obtain ⟨F, G, h1, h2, h3⟩ := h
  exact ⟨F, G, h1.kept hb, h2.kept hb, h3⟩
theorem Duo.most {m1 : Nat} (h : Duo b1 b2 w gp gr S R EE T S' R' EE' T' m K) (hm : m ≤ m1) : Duo b1 b2 w gp gr S R EE T S' R' EE' T' m1 K := by
  obtain ⟨F, G, h1, ⟨v1, v2, v3, v4, ss, rs, al, ts, a, b, c, d, e, f, g, r⟩, h3⟩ := h
  exact ⟨F, G, h1, ⟨v1, v2, v3, v4, ss, rs, al, ts, a, b, c, d, e, f, Nat.le_trans g hm, r⟩, h3⟩
/-- The program's call turned its own blocks. -/
theorem duo_left {F' : List Nat} {w' : World} {S1 : List (List UInt8)} {R1 : List (Nat × List UInt8)} {EE1 : Nat → List (List UInt8)} {T1 : List (Int × Int × List UInt8)} (hp : PBK b1 w gp F S R EE T K) (hr : RBK b2 w gr G S' R' EE' T' m K) (hd : ∀ k ∈ G, k ∉ F)
    (h1 : PBK b1 w' gp F' S1 R1 EE1 T1 K) (hc : Chg F w w') (hw : Wider w F F') : Duo b1 b2 w' gp gr S1 R1 EE1 T1 S' R' EE' T' m K :=
  ⟨F', G, h1, hr.chg hc (fun k hk hg => hd k hg hk) hp.pb.noBytes, fun k hk hf => (hw k hf).elim (hd k hk) (fun e => by have := (hr.rb.lt k hk).2; omega)⟩
/-- The reference's call turned its own blocks. -/
theorem duo_right {G' : List Nat} {w' : World} {S1 : List (List UInt8)} {R1 : List (Nat × List UInt8)} {EE1 : Nat → List (List UInt8)} {T1 : List (Int × Int × List UInt8)} {m1 : Nat} (hp : PBK b1 w gp F S R EE T K) (hr : RBK b2 w gr G S' R' EE' T' m K) (hd : ∀ k ∈ G, k ∉ F)
    (h1 : RBK b2 w' gr G' S1 R1 EE1 T1 m1 K) (hc : Chg G w w') (hw : Wider w G G') : Duo b1 b2 w' gp gr S R EE T S1 R1 EE1 T1 m1 K :=
  ⟨F, G', hp.chg hc hd hr.rb.noBytes, h1, fun k hk hf => (hw k hk).elim (fun e => hd k e hf) (fun e => by have := (hp.pb.lt k hf).2; omega)⟩
/-- The blocks K are written over. -/
theorem Duo.off {w' : World} (h : Duo b1 b2 w gp gr S R EE T S' R' EE' T' m K) (hc : Chg K w w') (hK : ∀ F G, PBK b1 w gp F S R EE T K → RBK b2 w gr G S' R' EE' T' m K → (∀ k ∈ K, k ∉ F) ∧ ∀ k ∈ K, k ∉ G) : Duo b1 b2 w' gp gr S R EE T S' R' EE' T' m [] := by
  obtain ⟨F, G, h1, h2, h3⟩ := h
  obtain ⟨k1, k2⟩ := hK F G h1 h2
  exact ⟨F, G, .none_ (h1.off hc k1), .none_ (h2.off hc k2), h3⟩
/-- A block of bytes is none that the disks' calls write. -/
theorem bytes_apart {g : Nat} {cs : List Value} (hr : Row w g 5 cs) (h1 : PBK b1 w gp F S R EE T K) (h2 : RBK b2 w gr G S' R' EE' T' m K) : g ∉ F ∧ g ∉ G :=
  ⟨fun h => h1.pb.noBytes g h _ _ hr.heap, fun h => h2.rb.noBytes g h _ _ hr.heap⟩
theorem Duo.newer {K' : List Nat} (h : Duo b1 b2 w gp gr S R EE T S' R' EE' T' m K) (hK : ∀ k ∈ K', w.heap.size ≤ k) : Duo b1 b2 w gp gr S R EE T S' R' EE' T' m K' := by
  obtain ⟨F, G, h1, h2, h3⟩ := h
  exact ⟨F, G, h1.pb.newer hK, h2.rb.newer hK, h3⟩
theorem RB.tamper_out (h : RB b2 w gr G S' R' EE' T' m) (k z q : Int) (A : Option Addr) (len c : Nat) (hz : TampRef S'.length k z q) :
    Calls Try.prog 25 #[.pointer (some ⟨gr, 0, none⟩), .agg (tampC k z q A len c).toArray] w fun e w' => e = .returned (.int .i64 201) ∧ Hid (Below w.heap.size w w') := by
  obtain ⟨v1, v2, v3, v4, ss, rs, al, ts, h, rfl, rfl, rfl, h3, rfl, h5⟩ := h
  unfold TampRef at hz
  rw [List.length_map] at hz
  exact dtamper_out h k z q A len c hz
theorem Duo.refused_l (h : Duo b1 b2 w gp gr S R EE T S' R' EE' T' m K) (k z q : Int) (A : Option Addr) (len c : Nat) (hz : TampRef S.length k z q) :
    Calls Try.prog 24 #[.pointer (some ⟨gp, 0, none⟩), .agg (tampC k z q A len c).toArray] w fun e w' => e = .returned (.int .i64 201) ∧ Hid (Below w.heap.size w w') := by
  obtain ⟨F, G, h1, h2, h3⟩ := h
  exact h1.pb.tamper_out k z q A len c hz
theorem Duo.refused_r (h : Duo b1 b2 w gp gr S R EE T S' R' EE' T' m K) (k z q : Int) (A : Option Addr) (len c : Nat) (hz : TampRef S'.length k z q) :
    Calls Try.prog 25 #[.pointer (some ⟨gr, 0, none⟩), .agg (tampC k z q A len c).toArray] w fun e w' => e = .returned (.int .i64 201) ∧ Hid (Below w.heap.size w w') := by
  obtain ⟨F, G, h1, h2, h3⟩ := h
  exact h2.rb.tamper_out k z q A len c hz
theorem Duo.read_out_l (h : Duo b1 b2 w gp gr S R EE T S' R' EE' T' m K) (z : Int) (hz : z < 0 ∨ (S.length : Int) ≤ z) :
    Calls Try.prog 13 #[.pointer (some ⟨gp, 0, none⟩), .int .i64 z] w fun e w' => e = .returned (.tuple #[.slice none 0 0, .int .i64 201]) ∧ w' = w := by
  obtain ⟨F, G, h1, h2, h3⟩ := h
  exact h1.pb.read_out z hz
theorem Duo.peek_out_l (h : Duo b1 b2 w gp gr S R EE T S' R' EE' T' m K) (z : Int) (hz : z < 0 ∨ (S.length : Int) ≤ z) :
    Calls Try.prog 15 #[.pointer (some ⟨gp, 0, none⟩), .int .i64 z] w fun e w' => e = .returned (.tuple #[.slice none 0 0, .int .i64 201]) ∧ w' = w := by
  obtain ⟨F, G, h1, h2, h3⟩ := h
  exact h1.pb.peek_out z hz
theorem Duo.read_out_r (h : Duo b1 b2 w gp gr S R EE T S' R' EE' T' m K) (z : Int) (hz : z < 0 ∨ (S'.length : Int) ≤ z) :
    Calls Try.prog 14 #[.pointer (some ⟨gr, 0, none⟩), .int .i64 z] w fun e w' => e = .returned (.tuple #[.slice none 0 0, .int .i64 201]) ∧ w' = w := by
  obtain ⟨F, G, h1, h2, h3⟩ := h
  exact h2.rb.read_out z hz
theorem Duo.write_out_l (h : Duo b1 b2 w gp gr S R EE T S' R' EE' T' m K) (z : Int) (A : Option Addr) (n c : Nat) (hz : (z < 0 ∨ (S.length : Int) ≤ z) ∨ n ≠ 256) :
    Calls Try.prog 18 #[.pointer (some ⟨gp, 0, none⟩), .int .i64 z, .slice A n c] w fun e w' => e = .returned (.int .i64 201) ∧ w' = w := by
  obtain ⟨F, G, h1, h2, h3⟩ := h
  exact h1.pb.write_out z A n c hz
theorem Duo.write_out_r (h : Duo b1 b2 w gp gr S R EE T S' R' EE' T' m K) (z : Int) (A : Option Addr) (n c : Nat) (hz : (z < 0 ∨ (S'.length : Int) ≤ z) ∨ n ≠ 256) :
    Calls Try.prog 19 #[.pointer (some ⟨gr, 0, none⟩), .int .i64 z, .slice A n c] w fun e w' => e = .returned (.int .i64 201) ∧ w' = w := by
  obtain ⟨F, G, h1, h2, h3⟩ := h
  exact h2.rb.write_out z A n c hz
theorem Duo.peek_l (h : Duo b1 b2 w gp gr S R EE T S' R' EE' T' m K) (a : Nat) (ha : a < S.length) (hr : R.length ≤ 1000000) :
    Calls Try.prog 15 #[.pointer (some ⟨gp, 0, none⟩), .int .i64 (a : Int)] w fun e w' => ToldX w (nowB S R a) e w' ∧ Hid (Below w.heap.size w w') := by
  obtain ⟨F, G, h1, h2, h3⟩ := h
  exact h1.pb.peek a ha hr
theorem Duo.now_len (h : Duo b1 b2 w gp gr S R EE T S' R' EE' T' m K) (a : Nat) (ha : a < S.length) : (nowB S R a).length = 256 := by
  obtain ⟨F, G, h1, h2, h3⟩ := h
  exact h1.pb.now_len a ha
theorem Duo.waiting (h : Duo b1 b2 w gp gr S R EE T S' R' EE' T' m K) : Calls Try.prog 26 #[.pointer (some ⟨gp, 0, none⟩)] w fun e w' => e = .returned (.int .i64 (R.length : Int)) ∧ w' = w := by
  obtain ⟨F, G, h1, h2, h3⟩ := h
  exact h1.pb.waiting
theorem Duo.row (h : Duo b1 b2 w gp gr S R EE T S' R' EE' T' m K) : ∃ A c, w.cell? ⟨gr, 1, none⟩ = some (.slice A R'.length c) := by
  obtain ⟨F, G, h1, h2, h3⟩ := h
  obtain ⟨v, hv, A, c, rfl⟩ := h2.rb.row
  exact ⟨A, c, hv⟩
theorem Duo.barrier_l (h : Duo b1 b2 w gp gr S R EE T S' R' EE' T' m []) (hr : R.length ≤ 1000000) (ht : T.length ≤ 1000000) :
    Calls Try.prog 20 #[.pointer (some ⟨gp, 0, none⟩)] w fun e w' => e = .returned (.tuple #[]) ∧ Hid (Duo b1 b2 w' gp gr (syncB (fun _ => true) R S R.length) [] EE (T ++ [(3, 0, [])]) S' R' EE' T' m []) ∧ Hid (∃ F, Chg F w w' ∧ NoDo w F ∧ ∀ x ∈ F, b1 ≤ x) := by
  obtain ⟨F, G, h1, h2, h3⟩ := h
  refine (h1.pb.barrier hr ht).mono ?_
  rintro e w' ⟨rfl, F', p1, p2, p3⟩
  exact ⟨rfl, Lib.hid (duo_left h1 h2 h3 (.none_ p1.out) p2.out p3.out), Lib.hid ⟨F, p2.out, h1.pb.noDo, fun x hx => (h1.pb.lt x hx).1⟩⟩
theorem Duo.barrier_r (h : Duo b1 b2 w gp gr S R EE T S' R' EE' T' m []) (hr : R'.length ≤ 1000000) (ht : T'.length ≤ 1000000) :
    Calls Try.prog 21 #[.pointer (some ⟨gr, 0, none⟩)] w fun e w' => e = .returned (.tuple #[]) ∧ Hid (Duo b1 b2 w' gp gr S R EE T (syncB (fun _ => true) R' S' R'.length) [] EE' (T' ++ [(3, 0, [])]) m []) ∧ Hid (∃ F, Chg F w w' ∧ NoDo w F ∧ ∀ x ∈ F, b2 ≤ x) := by
  obtain ⟨F, G, h1, h2, h3⟩ := h
  refine (h2.rb.barrier hr ht).mono ?_
  rintro e w' ⟨rfl, G', p1, p2, p3⟩
  exact ⟨rfl, Lib.hid (duo_right h1 h2 h3 (.none_ p1.out) p2.out p3.out), Lib.hid ⟨G, p2.out, h2.rb.noDo, fun x hx => (h2.rb.lt x hx).1⟩⟩
theorem Duo.crash_l (h : Duo b1 b2 w gp gr S R EE T S' R' EE' T' m []) (hr : R.length ≤ 1000000) (A : Option Addr) (n kc : Nat) (kl : List Bool) (hn : n = kl.length) (hK : HolV w A (kl.map Value.bool)) (hKn : ∀ g0 o, A = some ⟨g0, o, none⟩ → kl.map Value.bool ≠ [] → g0 < b1) :
    Calls Try.prog 22 #[.pointer (some ⟨gp, 0, none⟩), .slice A n kc] w fun e w' => e = .returned (.tuple #[]) ∧ Hid (Duo b1 b2 w' gp gr (syncB (fun i => kl.getD i false) R S R.length) [] EE T S' R' EE' T' m []) ∧ Hid (∃ F, Chg F w w' ∧ NoDo w F ∧ ∀ x ∈ F, b1 ≤ x) := by
  obtain ⟨F, G, h1, h2, h3⟩ := h
  refine (h1.pb.crash hr A n kc kl hn hK (fun g0 o e hne hf => by have h8 := hKn g0 o e hne; have h9 := (h1.pb.lt g0 hf).1; omega)).mono ?_
  rintro e w' ⟨rfl, F', p1, p2, p3⟩
  exact ⟨rfl, Lib.hid (duo_left h1 h2 h3 (.none_ p1.out) p2.out p3.out), Lib.hid ⟨F, p2.out, h1.pb.noDo, fun x hx => (h1.pb.lt x hx).1⟩⟩
theorem Duo.crash_r (h : Duo b1 b2 w gp gr S R EE T S' R' EE' T' m []) (hr : R'.length ≤ 1000000) (A : Option Addr) (n kc : Nat) (kl : List Bool) (hn : n = kl.length) (hK : HolV w A (kl.map Value.bool)) (hKn : ∀ g0 o, A = some ⟨g0, o, none⟩ → kl.map Value.bool ≠ [] → g0 < b2) :
    Calls Try.prog 23 #[.pointer (some ⟨gr, 0, none⟩), .slice A n kc] w fun e w' => e = .returned (.tuple #[]) ∧ Hid (Duo b1 b2 w' gp gr S R EE T (syncB (fun i => kl.getD i false) R' S' R'.length) [] EE' T' m []) ∧ Hid (∃ F, Chg F w w' ∧ NoDo w F ∧ ∀ x ∈ F, b2 ≤ x) := by
  obtain ⟨F, G, h1, h2, h3⟩ := h
  refine (h2.rb.crash hr A n kc kl hn hK (fun g0 o e hne hf => by have h8 := hKn g0 o e hne; have h9 := (h2.rb.lt g0 hf).1; omega)).mono ?_
  rintro e w' ⟨rfl, G', p1, p2, p3⟩
  exact ⟨rfl, Lib.hid (duo_right h1 h2 h3 (.none_ p1.out) p2.out p3.out), Lib.hid ⟨G, p2.out, h2.rb.noDo, fun x hx => (h2.rb.lt x hx).1⟩⟩
theorem Duo.write_l (h : Duo b1 b2 w gp gr S R EE T S' R' EE' T' m K) (hK : ∀ k ∈ K, k < w.heap.size) (hS : S.length ≤ 1024) (a : Nat) (ha : a < S.length) (A : Option Addr) (n c : Nat) (l : List UInt8) (hn : n = l.length) (hl : l.length = 256) (hA : Hol w A l) (hr : R.length ≤ 1000000) (ht : T.length ≤ 1000000) :
    Calls Try.prog 18 #[.pointer (some ⟨gp, 0, none⟩), .int .i64 (a : Int), .slice A n c] w fun e w' => e = .returned (.int .i64 0) ∧ Hid (Duo b1 b2 w' gp gr S (R ++ [(a, l)]) (moreB EE a l) (T ++ [(2, (a : Int), l)]) S' R' EE' T' m K) ∧ Hid (∃ F, Chg F w w' ∧ NoDo w F ∧ ∀ x ∈ F, b1 ≤ x) := by
  obtain ⟨F, G, h1, h2, h3⟩ := h
  refine (h1.write hK hS a ha A n c l hn hl hA hr ht).mono ?_
  rintro e w' ⟨rfl, F', p1, p2, p3⟩
  exact ⟨rfl, Lib.hid (duo_left h1 h2 h3 p1.out p2.out p3.out), Lib.hid ⟨F, p2.out, h1.pb.noDo, fun x hx => (h1.pb.lt x hx).1⟩⟩
theorem Duo.write_r (h : Duo b1 b2 w gp gr S R EE T S' R' EE' T' m K) (hK : ∀ k ∈ K, k < w.heap.size) (a : Nat) (ha : a < S'.length) (A : Option Addr) (n c : Nat) (l : List UInt8) (hn : n = l.length) (hl : l.length = 256) (hA : Hol w A l) (hr : R'.length ≤ 1000000) (hm : m ≤ 1000000) (ht : T'.length ≤ 1000000) :
    Calls Try.prog 19 #[.pointer (some ⟨gr, 0, none⟩), .int .i64 (a : Int), .slice A n c] w fun e w' => e = .returned (.int .i64 0) ∧ Hid (Duo b1 b2 w' gp gr S R EE T S' (R' ++ [(a, l)]) (moreB EE' a l) (T' ++ [(2, (a : Int), l)]) (m + 1) K) ∧ Hid (∃ F, Chg F w w' ∧ NoDo w F ∧ ∀ x ∈ F, b2 ≤ x) := by
  obtain ⟨F, G, h1, h2, h3⟩ := h
  refine (h2.write hK a ha A n c l hn hl hA hr hm ht).mono ?_
  rintro e w' ⟨rfl, G', p1, p2, p3⟩
  exact ⟨rfl, Lib.hid (duo_right h1 h2 h3 p1.out p2.out p3.out), Lib.hid ⟨G, p2.out, h2.rb.noDo, fun x hx => (h2.rb.lt x hx).1⟩⟩
/-- Read: the program's, told in a block of its own, apart from both disks' bytes. -/
theorem Duo.read_l (h : Duo b1 b2 w gp gr S R EE T S' R' EE' T' m []) (a : Nat) (ha : a < S.length) (hr : R.length ≤ 1000000) (ht : T.length ≤ 1000000) :
    Calls Try.prog 13 #[.pointer (some ⟨gp, 0, none⟩), .int .i64 (a : Int)] w fun e w' => ∃ x : BV, e = .returned (.tuple #[.slice x.A x.l.length x.c, .int .i64 0]) ∧ Hid (x.l = nowB S R a) ∧ Hid (Own8 w.heap.size w' x) ∧ Hid (∃ K, (∀ q, (bvv x).ownBlock = some q → q ∈ K) ∧ (∀ k ∈ K, (bvv x).ownBlock = some k) ∧ Duo b1 b2 w' gp gr S R EE (T ++ [(1, (a : Int), nowB S R a)]) S' R' EE' T' m K) ∧ Hid (∃ F, Chg F w w' ∧ NoDo w F ∧ ∀ x ∈ F, b1 ≤ x) := by
  obtain ⟨F, G, h1, h2, h3⟩ := h
  refine (h1.pb.read a ha hr ht).mono ?_
  rintro e w' ⟨x, wm, F', rfl, e1, e2, e3, e4, e5, e6⟩
  have hsz := e4.out.size
  have hcw : Chg F w w' := e4.out.trans (Chg.of e6.out) (fun x hx => .inl hx)
  have h8 : Own8 w.heap.size w' x := e2.out.lower hsz
  have hmem : ∀ k ∈ (bvv x).ownBlock.toList, wm.heap.size ≤ k := fun k hk => (e2.out.lt k (by simpa using hk)).1
  refine ⟨x, rfl, e1, Lib.hid h8, Lib.hid ⟨(bvv x).ownBlock.toList, fun q hq => by simp [hq], fun k hk => by simpa using hk, ?_⟩, Lib.hid ⟨F, hcw, h1.pb.noDo, fun x hx => (h1.pb.lt x hx).1⟩⟩
  obtain ⟨F2, G2, d1, d2, d3⟩ := duo_left h1 h2 h3 (.none_ e3.out) e4.out e5.out
  exact ⟨F2, G2, (d1.pb.newer hmem).kept e6.out, (d2.rb.newer hmem).kept e6.out, d3⟩
theorem Duo.read_r (h : Duo b1 b2 w gp gr S R EE T S' R' EE' T' m K) (a : Nat) (ha : a < S'.length) (hr : R'.length ≤ 1000000) (ht : T'.length ≤ 1000000) :
    Calls Try.prog 14 #[.pointer (some ⟨gr, 0, none⟩), .int .i64 (a : Int)] w fun e w' => ∃ x : BV, e = .returned (.tuple #[.slice x.A x.l.length x.c, .int .i64 0]) ∧ Hid (x.l = nowB S' R' a) ∧ Hid (Hol w' x.A x.l) ∧ Hid (Duo b1 b2 w' gp gr S R EE T S' R' EE' (T' ++ [(1, (a : Int), nowB S' R' a)]) m K) ∧ Hid (∃ F, Chg F w w' ∧ NoDo w F ∧ ∀ x ∈ F, b2 ≤ x) := by
  obtain ⟨F, G, h1, h2, h3⟩ := h
  refine (h2.read a ha hr ht).mono ?_
  rintro e w' ⟨x, G', rfl, e1, e2, e3, e4, e5⟩
  exact ⟨x, rfl, e1, e2, Lib.hid (duo_right h1 h2 h3 e3.out e4.out e5.out), Lib.hid ⟨G, e4.out, h2.rb.noDo, fun x hx => (h2.rb.lt x hx).1⟩⟩
/-- Tamper: the program's. -/
theorem Duo.tamper_l (h : Duo b1 b2 w gp gr S R EE T S' R' EE' T' m []) (hr : R.length ≤ 1000000) (ht : T.length ≤ 1000000) (hS : S.length ≤ 1024) (k z q : Int) (A : Option Addr) (len c : Nat) (l : List UInt8) (hlen : len = l.length) (hA : Hol w A l) (hz : ¬ TampRef S.length k z q) (hq : q ≤ 9223372036854775807) :
    Calls Try.prog 24 #[.pointer (some ⟨gp, 0, none⟩), .agg (tampC k z q A len c).toArray] w fun e w' => e = .returned (.int .i64 0) ∧ Hid (Duo b1 b2 w' gp gr (tampS S R EE k z q l) (tampR R k z) EE T S' R' EE' T' m []) ∧ Hid (∃ F, Chg F w w' ∧ NoDo w F ∧ ∀ x ∈ F, b1 ≤ x) := by
  obtain ⟨F, G, h1, h2, h3⟩ := h
  refine (h1.pb.tamper_in hr ht hS k z q A len c l hlen hA hz hq).mono ?_
  rintro e w' ⟨rfl, F', p1, p2, p3⟩
  exact ⟨rfl, Lib.hid (duo_left h1 h2 h3 (.none_ p1.out) p2.out p3.out), Lib.hid ⟨F, p2.out, h1.pb.noDo, fun x hx => (h1.pb.lt x hx).1⟩⟩
/-- Tamper: the reference's. -/
theorem Duo.tamper_r (h : Duo b1 b2 w gp gr S R EE T S' R' EE' T' m []) (hr : R'.length ≤ 1000000) (hm : m ≤ 1000000) (hS : S'.length ≤ 1024) (k z q : Int) (A : Option Addr) (len c : Nat) (l : List UInt8) (hlen : len = l.length) (hA : Hol w A l) (hz : ¬ TampRef S'.length k z q) :
    Calls Try.prog 25 #[.pointer (some ⟨gr, 0, none⟩), .agg (tampC k z q A len c).toArray] w fun e w' => e = .returned (.int .i64 0) ∧ Hid (Duo b1 b2 w' gp gr S R EE T (tampS S' R' EE' k z q l) (tampR R' k z) EE' T' m []) ∧ Hid (∃ F, Chg F w w' ∧ NoDo w F ∧ ∀ x ∈ F, b2 ≤ x) := by
  obtain ⟨F, G, h1, h2, h3⟩ := h
  refine (h2.rb.tamper_in hr hm hS k z q A len c l hlen hA hz).mono ?_
  rintro e w' ⟨rfl, G', p1, p2, p3⟩
  exact ⟨rfl, Lib.hid (duo_right h1 h2 h3 (.none_ p1.out) p2.out p3.out), Lib.hid ⟨G, p2.out, h2.rb.noDo, fun x hx => (h2.rb.lt x hx).1⟩⟩
end
end Go.Proofs.Ytnajlineipapdaa
