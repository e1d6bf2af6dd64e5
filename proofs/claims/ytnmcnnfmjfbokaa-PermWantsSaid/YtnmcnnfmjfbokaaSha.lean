/- Plain facts: the digest of the document in words of 32 bits, and what one operation makes of words. No program is in sight here, and no conditions. -/
import Derived.WalkKit
import Derived.Laws.BitsAllLaws
set_option linter.unusedVariables false
namespace Go.Proofs.Ytnmcnnfmjfbokaa

/-- A word, and a byte, as a number (kept shut in walks), and as a cell's value. -/
def uv (x : UInt32) : Int := (x.toNat : Int)
def bv (x : UInt8) : Int := (x.toNat : Int)
abbrev U (x : UInt32) : Value := .int .u32 (uv x)
abbrev B (x : UInt8) : Value := .int .u8 (bv x)

/-- A word moved, and turned. -/
def shr (x : UInt32) (n : Nat) : UInt32 := UInt32.ofNat (x.toNat / 2 ^ n)
def shl (x : UInt32) (n : Nat) : UInt32 := UInt32.ofNat (x.toNat * 2 ^ n)
def rot (x : UInt32) (n : Nat) : UInt32 := shr x n ||| shl x (32 - n)
def sg0 (x : UInt32) : UInt32 := rot x 7 ^^^ rot x 18 ^^^ shr x 3
def sg1 (x : UInt32) : UInt32 := rot x 17 ^^^ rot x 19 ^^^ shr x 10
def t1 (e f g h k w : UInt32) : UInt32 := h + (rot e 6 ^^^ rot e 11 ^^^ rot e 25) + ((e &&& f) ^^^ (~~~e &&& g)) + k + w
def t2 (a b c : UInt32) : UInt32 := (rot a 2 ^^^ rot a 13 ^^^ rot a 22) + ((a &&& b) ^^^ (a &&& c) ^^^ (b &&& c))

theorem rot_or (x : UInt32) (n : Nat) : rot x n = shl x (32 - n) ||| shr x n := UInt32.or_comm _ _
theorem u32_toNat (n : Nat) : (UInt32.ofNat n).toNat = n % 4294967296 := UInt32.toNat_ofNat' ..
theorem u8_toNat (n : Nat) : (UInt8.ofNat n).toNat = n % 256 := UInt8.toNat_ofNat' ..
theorem u32_lt (x : UInt32) : x.toNat < 4294967296 := UInt32.toNat_lt x
theorem u8_lt (x : UInt8) : x.toNat < 256 := UInt8.toNat_lt x
theorem wrap_add (x y : UInt32) : IntKind.u32.wrap ((x.toNat : Int) + y.toNat) = ((x + y).toNat : Int) := by
  have := UInt32.toNat_add x y
  rw [IntKind.wrap_u32']
  omega
theorem wrap_mul (x y : UInt32) : IntKind.u32.wrap ((x.toNat : Int) * y.toNat) = ((x * y).toNat : Int) := by
  have := UInt32.toNat_mul x y
  rw [IntKind.wrap_u32', this]
  simp
theorem xor_u32 (x y : UInt32) : bits .xor .u32 (x.toNat : Int) (y.toNat : Int) = ((x ^^^ y).toNat : Int) := by
  rw [u32_xor_nat _ _ (u32_lt x) (u32_lt y), UInt32.toNat_xor]
theorem and_u32 (x y : UInt32) : bits .and .u32 (x.toNat : Int) (y.toNat : Int) = ((x &&& y).toNat : Int) := by
  rw [u32_and_nat _ _ (u32_lt x) (u32_lt y), UInt32.toNat_and]
theorem or_u32 (x y : UInt32) : bits .or .u32 (x.toNat : Int) (y.toNat : Int) = ((x ||| y).toNat : Int) := by
  rw [u32_or_nat _ _ (u32_lt x) (u32_lt y), UInt32.toNat_or]
theorem not_u32 (x : UInt32) : bits .xor .u32 (4294967295 : Int) (x.toNat : Int) = ((~~~x).toNat : Int) := by
  have h : (4294967295 : Int) = ((4294967295 : UInt32).toNat : Int) := by decide
  rw [h, xor_u32]
  congr 2
theorem shl_u32 (x : UInt32) (n : Nat) : IntKind.u32.wrap ((x.toNat : Int) * 2 ^ min n 32) = ((shl x n).toNat : Int) := by
  unfold shl
  rw [u32_toNat, IntKind.wrap_u32']
  by_cases h : n ≤ 32
  · rw [Nat.min_eq_left h]
    simp
  · obtain ⟨k, rfl⟩ : ∃ k, n = 32 + k := ⟨n - 32, by omega⟩
    rw [Nat.min_eq_right (by omega), Nat.pow_add]
    have h1 : (x.toNat : Int) * 2 ^ 32 % 4294967296 = 0 := by omega
    have h2 : x.toNat * (2 ^ 32 * 2 ^ k) % 4294967296 = 0 := by
      rw [show x.toNat * (2 ^ 32 * 2 ^ k) = 4294967296 * (x.toNat * 2 ^ k) by rw [show (2:Nat) ^ 32 = 4294967296 by decide, Nat.mul_left_comm]]
      exact Nat.mul_mod_right _ _
    rw [h1, h2]
    rfl
theorem shr_u32 (x : UInt32) (n : Nat) : (x.toNat : Int).fdiv (2 ^ min n 32) = ((shr x n).toNat : Int) := by
  unfold shr
  have hx := u32_lt x
  have e : x.toNat / 2 ^ min n 32 = x.toNat / 2 ^ n := by
    by_cases h : n ≤ 32
    · rw [Nat.min_eq_left h]
    · rw [Nat.min_eq_right (by omega), Nat.div_eq_of_lt (by omega), Nat.div_eq_of_lt]
      exact Nat.lt_of_lt_of_le hx (by
        have : 2 ^ 32 ≤ 2 ^ n := Nat.pow_le_pow_right (by decide) (by omega)
        simpa using this)
  rw [u32_toNat, Nat.mod_eq_of_lt (Nat.lt_of_le_of_lt (Nat.div_le_self _ _) hx), ← e, Int.fdiv_eq_ediv_of_nonneg _ (by exact_mod_cast Nat.zero_le _)]
  simp

section
variable (x y : UInt32) (v : UInt8)
theorem uv_add : IntKind.u32.wrap (uv x + uv y) = uv (x + y) := wrap_add x y
theorem uv_add' : (uv x + uv y) % 4294967296 = uv (x + y) := by rw [← uv_add, IntKind.wrap_u32']
theorem uv_mul : IntKind.u32.wrap (uv x * 256) = uv (x * 256) := wrap_mul x 256
theorem uv_mul' : (uv x * 256) % 4294967296 = uv (x * 256) := by rw [← uv_mul, IntKind.wrap_u32']
theorem uv_xor : bits .xor .u32 (uv x) (uv y) = uv (x ^^^ y) := xor_u32 x y
theorem uv_and : bits .and .u32 (uv x) (uv y) = uv (x &&& y) := and_u32 x y
theorem uv_or : bits .or .u32 (uv x) (uv y) = uv (x ||| y) := or_u32 x y
theorem uv_not : bits .xor .u32 4294967295 (uv x) = uv (~~~x) := not_u32 x
theorem uv_not' : bits .xor .u32 (if IntKind.u32.signed = true then -1 else IntKind.u32.max) (uv x) = uv (~~~x) := not_u32 x
theorem uv_shr (n : Nat) : uv x / 2 ^ n = uv (shr x n) := by
  have hx := u32_lt x
  unfold uv shr
  rw [u32_toNat, Nat.mod_eq_of_lt (Nat.lt_of_le_of_lt (Nat.div_le_self _ _) hx)]
  simp
theorem uv_shr3 : uv x / 8 = uv (shr x 3) := uv_shr x 3
theorem uv_shr10 : uv x / 1024 = uv (shr x 10) := uv_shr x 10
theorem uv_shr8 : uv x / 256 = uv (shr x 8) := uv_shr x 8
theorem uv_shr16 : uv x / 65536 = uv (shr x 16) := uv_shr x 16
theorem uv_shr24 : uv x / 16777216 = uv (shr x 24) := uv_shr x 24
theorem uv_shl (n : Nat) (h : n ≤ 32) : IntKind.u32.wrap (uv x * 2 ^ n) = uv (shl x n) := by
  have := shl_u32 x n
  rw [Nat.min_eq_left h] at this
  exact this
theorem uv_to8 : IntKind.u8.wrap (uv x) = bv x.toUInt8 := by
  unfold uv bv
  rw [UInt32.toNat_toUInt8, IntKind.wrap_u8']
  omega
theorem uv_to8' : uv x % 256 = bv x.toUInt8 := by rw [← uv_to8, IntKind.wrap_u8']
theorem bv_to32 : IntKind.u32.wrap (bv v) = uv v.toUInt32 := by
  have := u8_lt v
  unfold uv bv
  rw [UInt8.toNat_toUInt32, IntKind.wrap_u32']
  omega
theorem bv_to32' : bv v % 4294967296 = uv v.toUInt32 := by rw [← bv_to32, IntKind.wrap_u32']
theorem uv_zero : uv 0 = 0 := rfl
theorem bv_zero : bv 0 = 0 := rfl
end

attribute [go_sem] uv_add uv_add' uv_mul uv_mul' uv_xor uv_and uv_or uv_not uv_not' uv_shr3 uv_shr10 uv_shr8 uv_shr16 uv_shr24 uv_to8 uv_to8' bv_to32 bv_to32'

/-- Rows of words and of bytes, told by a function of the place. -/
def arr (n : Nat) (f : Nat → UInt32) : List Value := (List.range n).map fun j => U (f j)
def brr (n : Nat) (f : Nat → UInt8) : List Value := (List.range n).map fun j => B (f j)
def upd {α : Type} (f : Nat → α) (i : Nat) (x : α) : Nat → α := fun j => if j = i then x else f j
theorem arr_len (n : Nat) (f : Nat → UInt32) : (arr n f).length = n := by simp [arr]
theorem brr_len (n : Nat) (f : Nat → UInt8) : (brr n f).length = n := by simp [brr]
theorem arr_get {n j : Nat} (f : Nat → UInt32) (h : j < n) : (arr n f)[j]? = some (U (f j)) := by simp [arr, h]
theorem brr_get {n j : Nat} (f : Nat → UInt8) (h : j < n) : (brr n f)[j]? = some (B (f j)) := by simp [brr, h]
theorem arr_none {n j : Nat} (f : Nat → UInt32) (h : n ≤ j) : (arr n f)[j]? = none := by simp [arr, h]
theorem brr_none {n j : Nat} (f : Nat → UInt8) (h : n ≤ j) : (brr n f)[j]? = none := by simp [brr, h]
theorem arr_one (n : Nat) (f : Nat → UInt32) : ∀ u ∈ arr n f, u.oneCell' = true := by
  intro u hu
  obtain ⟨b, _, rfl⟩ := List.mem_map.1 hu
  rfl
theorem brr_one (n : Nat) (f : Nat → UInt8) : ∀ u ∈ brr n f, u.oneCell' = true := by
  intro u hu
  obtain ⟨b, _, rfl⟩ := List.mem_map.1 hu
  rfl
theorem arr_congr {n : Nat} {f g : Nat → UInt32} (h : ∀ j, j < n → f j = g j) : arr n f = arr n g := by
  unfold arr
  refine List.map_congr_left fun j hj => ?_
  rw [h j (by simpa using hj)]
theorem brr_congr {n : Nat} {f g : Nat → UInt8} (h : ∀ j, j < n → f j = g j) : brr n f = brr n g := by
  unfold brr
  refine List.map_congr_left fun j hj => ?_
  rw [h j (by simpa using hj)]
theorem arr_set (n i : Nat) (f : Nat → UInt32) (x : UInt32) : (arr n f).set i (U x) = arr n (upd f i x) := by
  apply List.ext_getElem?
  intro j
  by_cases hj : j < n
  · rw [arr_get _ hj, List.getElem?_set]
    by_cases e : i = j
    · subst e
      rw [if_pos rfl, if_pos (by rw [arr_len]; exact hj)]
      simp [upd]
    · rw [if_neg e, arr_get _ hj]
      simp [upd, Ne.symm e]
  · rw [arr_none _ (by omega), List.getElem?_eq_none (by rw [List.length_set, arr_len]; omega)]
theorem brr_set (n i : Nat) (f : Nat → UInt8) (x : UInt8) : (brr n f).set i (B x) = brr n (upd f i x) := by
  apply List.ext_getElem?
  intro j
  by_cases hj : j < n
  · rw [brr_get _ hj, List.getElem?_set]
    by_cases e : i = j
    · subst e
      rw [if_pos rfl, if_pos (by rw [brr_len]; exact hj)]
      simp [upd]
    · rw [if_neg e, brr_get _ hj]
      simp [upd, Ne.symm e]
  · rw [brr_none _ (by omega), List.getElem?_eq_none (by rw [List.length_set, brr_len]; omega)]

/-- A word out of four bytes; the words that a block's bytes are, and those that follow from them. -/
def ap (x : UInt32) (b : UInt8) : UInt32 := x * 256 + b.toUInt32
def wd (b : Nat → UInt8) (i : Nat) : UInt32 := ap (ap (ap (ap 0 (b (4 * i))) (b (4 * i + 1))) (b (4 * i + 2))) (b (4 * i + 3))
def sch (b : Nat → UInt8) (t : Nat) : UInt32 :=
  if t < 16 then wd b t else sg1 (sch b (t - 2)) + sch b (t - 7) + sg0 (sch b (t - 15)) + sch b (t - 16)
theorem sch_lo (b : Nat → UInt8) (t : Nat) (h : t < 16) : sch b t = wd b t := by rw [sch, if_pos h]
theorem sch_hi (b : Nat → UInt8) (t : Nat) (h : 16 ≤ t) : sch b t = sg1 (sch b (t - 2)) + sch b (t - 7) + sg0 (sch b (t - 15)) + sch b (t - 16) := by rw [sch, if_neg (by omega)]
/-- The words behind i bytes. -/
def prt (b : Nat → UInt8) (i j : Nat) : UInt32 :=
  if 4 * j + 4 ≤ i then wd b j else if 4 * j + 3 = i then ap (ap (ap 0 (b (4 * j))) (b (4 * j + 1))) (b (4 * j + 2)) else if 4 * j + 2 = i then ap (ap 0 (b (4 * j))) (b (4 * j + 1)) else if 4 * j + 1 = i then ap 0 (b (4 * j)) else 0
theorem prt_zero (b : Nat → UInt8) (j : Nat) : prt b 0 j = 0 := by
  unfold prt
  rw [if_neg (by omega), if_neg (by omega), if_neg (by omega), if_neg (by omega)]
theorem prt_step (b : Nat → UInt8) (i : Nat) : upd (prt b i) (i / 4) (ap (prt b i (i / 4)) (b i)) = prt b (i + 1) := by
  funext j
  unfold upd
  split
  · rename_i h
    subst h
    have h4 : i % 4 = 0 ∨ i % 4 = 1 ∨ i % 4 = 2 ∨ i % 4 = 3 := by omega
    have hd := Nat.div_add_mod i 4
    generalize i / 4 = q at hd ⊢
    rcases h4 with h | h | h | h
    · obtain rfl : i = 4 * q := by omega
      unfold prt
      rw [if_neg (by omega), if_neg (by omega), if_neg (by omega), if_neg (by omega), if_neg (by omega), if_neg (by omega), if_neg (by omega), if_pos (by omega)]
    · obtain rfl : i = 4 * q + 1 := by omega
      unfold prt
      rw [if_neg (by omega), if_neg (by omega), if_neg (by omega), if_pos (by omega), if_neg (by omega), if_neg (by omega), if_pos (by omega)]
    · obtain rfl : i = 4 * q + 2 := by omega
      unfold prt
      rw [if_neg (by omega), if_neg (by omega), if_pos (by omega), if_neg (by omega), if_pos (by omega)]
    · obtain rfl : i = 4 * q + 3 := by omega
      unfold prt
      rw [if_neg (by omega), if_pos (by omega), if_pos (by omega)]
      rfl
  · rename_i h
    unfold prt
    by_cases h4 : 4 * j + 4 ≤ i
    · rw [if_pos h4, if_pos (by omega)]
    · rw [if_neg h4, if_neg (by omega)]
      rw [if_neg (by omega), if_neg (by omega), if_neg (by omega), if_neg (by omega), if_neg (by omega), if_neg (by omega)]
theorem prt_full (b : Nat → UInt8) (j : Nat) (h : j < 16) : prt b 64 j = wd b j := by
  unfold prt
  rw [if_pos (by omega)]
theorem prt_far (b : Nat → UInt8) (j : Nat) (h : 16 ≤ j) : prt b 64 j = 0 := by
  unfold prt
  rw [if_neg (by omega), if_neg (by omega), if_neg (by omega), if_neg (by omega)]
/-- The first t words. -/
def sft (b : Nat → UInt8) (t j : Nat) : UInt32 := if j < t then sch b j else 0
theorem sft_lt (b : Nat → UInt8) {t j : Nat} (h : j < t) : sft b t j = sch b j := if_pos h
theorem sft_start (b : Nat → UInt8) : ∀ j, j < 64 → prt b 64 j = sft b 16 j := by
  intro j hj
  unfold sft
  split
  · rename_i h
    rw [prt_full b j h, sch_lo b j h]
  · exact prt_far b j (by omega)
theorem sft_step (b : Nat → UInt8) (t : Nat) : upd (sft b t) t (sch b t) = sft b (t + 1) := by
  funext j
  unfold upd sft
  by_cases h : j = t
  · subst h
    simp
  · rw [if_neg h]
    by_cases h2 : j < t
    · rw [if_pos h2, if_pos (by omega)]
    · rw [if_neg h2, if_neg (by omega)]
/-- A word moved by a byte and joined with one. -/
theorem join_ap (x : UInt32) (b : UInt8) : x * 256 ||| b.toUInt32 = ap x b := by
  have hb := u8_lt b
  have hx := u32_lt x
  apply UInt32.toNat_inj.1
  unfold ap
  rw [UInt32.toNat_or, UInt32.toNat_add, UInt32.toNat_mul, UInt8.toNat_toUInt32]
  have h256 : (256 : UInt32).toNat = 256 := rfl
  rw [h256]
  have e : x.toNat * 256 % 2 ^ 32 = 2 ^ 8 * (x.toNat % 16777216) := by omega
  rw [e, ← Nat.two_pow_add_eq_or_of_lt (by omega)]
  omega

/-- The 64 constants of the document. -/
def ksL : List UInt32 := [
  1116352408, 1899447441, 3049323471, 3921009573, 961987163, 1508970993, 2453635748, 2870763221,
  3624381080, 310598401, 607225278, 1426881987, 1925078388, 2162078206, 2614888103, 3248222580,
  3835390401, 4022224774, 264347078, 604807628, 770255983, 1249150122, 1555081692, 1996064986,
  2554220882, 2821834349, 2952996808, 3210313671, 3336571891, 3584528711, 113926993, 338241895,
  666307205, 773529912, 1294757372, 1396182291, 1695183700, 1986661051, 2177026350, 2456956037,
  2730485921, 2820302411, 3259730800, 3345764771, 3516065817, 3600352804, 4094571909, 275423344,
  430227734, 506948616, 659060556, 883997877, 958139571, 1322822218, 1537002063, 1747873779,
  1955562222, 2024104815, 2227730452, 2361852424, 2428436474, 2756734187, 3204031479, 3329325298]
def kk (j : Nat) : UInt32 := ksL.getD j 0
/-- Eight words; what a step makes of them, and a block. -/
structure S8 where
  (a b c d e f g h : UInt32)
def S8.at (s : S8) : Nat → UInt32
  | 0 => s.a | 1 => s.b | 2 => s.c | 3 => s.d | 4 => s.e | 5 => s.f | 6 => s.g | 7 => s.h | _ => 0
def rnd (s : S8) (k w : UInt32) : S8 := ⟨t1 s.e s.f s.g s.h k w + t2 s.a s.b s.c, s.a, s.b, s.c, s.d + t1 s.e s.f s.g s.h k w, s.e, s.f, s.g⟩
def rnds (s : S8) (w : Nat → UInt32) : Nat → S8
  | 0 => s
  | n + 1 => rnd (rnds s w n) (kk n) (w n)
def S8.plus (s r : S8) : S8 := ⟨s.a + r.a, s.b + r.b, s.c + r.c, s.d + r.d, s.e + r.e, s.f + r.f, s.g + r.g, s.h + r.h⟩
def cmp (s : S8) (f : Nat → UInt8) : S8 := s.plus (rnds s (sch f) 64)
theorem plus_at (s r : S8) (j : Nat) (h : j < 8) : (s.plus r).at j = s.at j + r.at j := by
  match j, h with
  | 0, _ => rfl
  | 1, _ => rfl
  | 2, _ => rfl
  | 3, _ => rfl
  | 4, _ => rfl
  | 5, _ => rfl
  | 6, _ => rfl
  | 7, _ => rfl
/-- The first k of the sums. -/
def mix (s r : S8) (k j : Nat) : UInt32 := if j < k then (s.plus r).at j else s.at j
theorem mix_zero (s r : S8) : mix s r 0 = s.at := by
  funext j
  exact if_neg (by omega)
theorem mix_at (s r : S8) (k : Nat) : mix s r k k = s.at k := if_neg (by omega)
theorem mix_step (s r : S8) (k : Nat) (h : k < 8) : upd (mix s r k) k (s.at k + r.at k) = mix s r (k + 1) := by
  funext j
  unfold upd mix
  by_cases e : j = k
  · subst e
    rw [if_pos rfl, if_pos (by omega), plus_at s r j h]
  · rw [if_neg e]
    by_cases h2 : j < k
    · rw [if_pos h2, if_pos (by omega)]
    · rw [if_neg h2, if_neg (by omega)]
theorem mix_full (s r : S8) : arr 8 (mix s r 8) = arr 8 (s.plus r).at := arr_congr fun j hj => if_pos hj
/-- The eight beginnings of the document. -/
def h0 : S8 := ⟨0x6a09e667, 0xbb67ae85, 0x3c6ef372, 0xa54ff53a, 0x510e527f, 0x9b05688c, 0x1f83d9ab, 0x5be0cd19⟩
theorem arr8 (s : S8) : arr 8 s.at = [U s.a, U s.b, U s.c, U s.d, U s.e, U s.f, U s.g, U s.h] := rfl
attribute [irreducible] arr brr
end Go.Proofs.Ytnmcnnfmjfbokaa
