/- Plain: SHA-256, numbers to the base 2^16, roots, prime numbers. -/
import Derived.Tactics2
set_option linter.all false
namespace Go.Proofs.YtcpjdmfnipdecaaDoor.DigP
def M32 : Nat := 4294967296
def rotr (n x : Nat) : Nat := x / 2 ^ n + x % 2 ^ n * 2 ^ (32 - n)
theorem pow_split {n : Nat} (h : n ≤ 32) : 2 ^ n * 2 ^ (32 - n) = 4294967296 := by
  rw [← Nat.pow_add, show n + (32 - n) = 32 by omega]
theorem rotr_lt {n x : Nat} (hn : n ≤ 32) (hx : x < 4294967296) : rotr n x < 4294967296 := by
  have hp := pow_split hn
  have hpos : 0 < 2 ^ n := Nat.pow_pos (by decide)
  have h1 : x / 2 ^ n < 2 ^ (32 - n) := Nat.div_lt_of_lt_mul (by rw [hp]; exact hx)
  have h2 : x % 2 ^ n < 2 ^ n := Nat.mod_lt _ hpos
  have h3 : (x % 2 ^ n + 1) * 2 ^ (32 - n) ≤ 2 ^ n * 2 ^ (32 - n) := Nat.mul_le_mul_right _ h2
  rw [hp, Nat.add_mul] at h3
  unfold rotr; omega
theorem rotr_zero (x : Nat) : rotr 0 x = x := by unfold rotr; simp [Nat.mod_one]
theorem rotr_succ {i x : Nat} (hi : i < 32) : rotr i x / 2 + rotr i x % 2 * 2147483648 = rotr (i + 1) x := by
  have e1 : 2 ^ (32 - i) = 2 * 2 ^ (31 - i) := by rw [show 32 - i = (31 - i) + 1 by omega, Nat.pow_succ, Nat.mul_comm]
  have e2 : 2 ^ i * 2 ^ (31 - i) = 2147483648 := by rw [← Nat.pow_add, show i + (31 - i) = 31 by omega]
  have e3 : 32 - (i + 1) = 31 - i := by omega
  unfold rotr
  rw [e1, e3, Nat.pow_succ, ← Nat.div_div_eq_div_mul, Nat.mod_mul]
  generalize 2 ^ (31 - i) = q at *
  generalize 2 ^ i = p at *
  generalize x / p = a
  generalize x % p = b
  rw [Nat.add_mul, Nat.mul_right_comm p, e2]
  rw [show b * (2 * q) = 2 * (b * q) by rw [Nat.mul_left_comm]]
  generalize b * q = c
  omega
theorem nat_join' (i x y : Nat) (hx : x % 2 ^ i = 0) (hy : y < 2 ^ i) : x ||| y = x + y := by
  have := Nat.two_pow_add_eq_or_of_lt hy (x / 2 ^ i)
  rw [Nat.mul_div_cancel' (Nat.dvd_of_mod_eq_zero hx)] at this
  exact this.symm
theorem rotr_or {n x : Nat} (hn : n ≤ 32) (hx : x < 4294967296) : x * 2 ^ (32 - n) % 4294967296 ||| x / 2 ^ n = rotr n x := by
  have hp := pow_split hn
  have h1 : x / 2 ^ n < 2 ^ (32 - n) := Nat.div_lt_of_lt_mul (by rw [hp]; exact hx)
  rw [← hp, Nat.mul_mod_mul_right, nat_join' (32 - n) _ _ (Nat.mul_mod_left _ _) h1]
  unfold rotr; omega
def add32 (a b : Nat) : Nat := (a + b) % 4294967296
def xor32 (a b : Nat) : Nat := (a % 4294967296) ^^^ (b % 4294967296)
def and32 (a b : Nat) : Nat := (a % 4294967296) &&& (b % 4294967296)
def or32 (a b : Nat) : Nat := (a % 4294967296) ||| (b % 4294967296)
def not32 (a : Nat) : Nat := 4294967295 - a % 4294967296
def ss0 (x : Nat) : Nat := xor32 (xor32 (rotr 7 x) (rotr 18 x)) (x / 8)
def ss1 (x : Nat) : Nat := xor32 (xor32 (rotr 17 x) (rotr 19 x)) (x / 1024)
theorem add32_lt (a b : Nat) : add32 a b < 4294967296 := Nat.mod_lt _ (by decide)
def t1S (e f g h k w : Nat) : Nat := add32 (add32 (add32 (add32 h (xor32 (xor32 (rotr 6 e) (rotr 11 e)) (rotr 25 e))) (xor32 (and32 e f) (and32 (not32 e) g))) k) w
def t2S (a b c : Nat) : Nat := add32 (xor32 (xor32 (rotr 2 a) (rotr 13 a)) (rotr 22 a)) (xor32 (xor32 (and32 a b) (and32 a c)) (and32 b c))
def stepS (k w : Nat) : List Nat → List Nat
  | [a, b, c, d, e, f, g, h] => [add32 (t1S e f g h k w) (t2S a b c), a, b, c, add32 d (t1S e f g h k w), e, f, g]
  | l => l
/-- Words of 32 bits. -/
def Words (n : Nat) (l : List Nat) : Prop := l.length = n ∧ ∀ i, i < n → l.getD i 0 < 4294967296
theorem Words.eight {l : List Nat} (h : Words 8 l) : ∃ a b c d e f g i, l = [a, b, c, d, e, f, g, i] ∧ a < 4294967296 ∧ b < 4294967296 ∧ c < 4294967296 ∧ d < 4294967296 ∧ e < 4294967296 ∧ f < 4294967296 ∧ g < 4294967296 ∧ i < 4294967296 := by
  obtain ⟨h1, h2⟩ := h
  match l, h1, h2 with
  | [a, b, c, d, e, f, g, i], _, h2 => exact ⟨a, b, c, d, e, f, g, i, rfl, h2 0 (by decide), h2 1 (by decide), h2 2 (by decide), h2 3 (by decide), h2 4 (by decide), h2 5 (by decide), h2 6 (by decide), h2 7 (by decide)⟩
theorem words8 {a b c d e f g i : Nat} (ha : a < 4294967296) (hb : b < 4294967296) (hc : c < 4294967296) (hd : d < 4294967296) (he : e < 4294967296) (hf : f < 4294967296) (hg : g < 4294967296) (hi : i < 4294967296) : Words 8 [a, b, c, d, e, f, g, i] := by
  refine ⟨rfl, fun n hn => ?_⟩
  match n, hn with
  | 0, _ => exact ha
  | 1, _ => exact hb
  | 2, _ => exact hc
  | 3, _ => exact hd
  | 4, _ => exact he
  | 5, _ => exact hf
  | 6, _ => exact hg
  | 7, _ => exact hi
theorem Words.step {l : List Nat} (h : Words 8 l) (k w : Nat) : Words 8 (stepS k w l) := by
  obtain ⟨a, b, c, d, e, f, g, i, rfl, ha, hb, hc, hd, he, hf, hg, hi⟩ := h.eight
  exact words8 (add32_lt _ _) ha hb hc (add32_lt _ _) he hf hg
def roundsS (K W s : List Nat) : Nat → List Nat
  | 0 => s
  | t + 1 => stepS (K.getD t 0) (W.getD t 0) (roundsS K W s t)
theorem Words.rounds {s : List Nat} (K W : List Nat) (h : Words 8 s) : ∀ t, Words 8 (roundsS K W s t)
  | 0 => h
  | t + 1 => (Words.rounds K W h t).step _ _
def nextW (l : List Nat) (i : Nat) : Nat := add32 (add32 (add32 (ss1 (l.getD (i + 14) 0)) (l.getD (i + 9) 0)) (ss0 (l.getD (i + 1) 0))) (l.getD i 0)
def sched (l : List Nat) : Nat → List Nat
  | 0 => l
  | k + 1 => sched l k ++ [nextW (sched l k) k]
theorem sched_len {l : List Nat} (h : l.length = 16) (k : Nat) : (sched l k).length = 16 + k := by
  induction k with
  | zero => exact h
  | succ k ih => unfold sched; rw [List.length_append, ih]; rfl
theorem Words.more {n x : Nat} {l : List Nat} (h : Words n l) (hx : x < 4294967296) : Words (n + 1) (l ++ [x]) := by
  refine ⟨by rw [List.length_append, h.1]; rfl, fun i hi => ?_⟩
  by_cases hin : i < n
  · have := h.2 i hin
    rw [List.getD_eq_getElem?_getD, List.getElem?_append_left (by rw [h.1]; exact hin), ← List.getD_eq_getElem?_getD]; exact this
  · obtain rfl : i = n := by omega
    rw [List.getD_eq_getElem?_getD, List.getElem?_append_right (by rw [h.1]; exact Nat.le_refl _), h.1, Nat.sub_self]; exact hx
theorem Words.sched {l : List Nat} (h : Words 16 l) (k : Nat) : Words (16 + k) (sched l k) := by
  induction k with
  | zero => exact h
  | succ k ih => exact ih.more (add32_lt _ _)
/-- The part of the array that is not written yet. -/
def padTo (n : Nat) (l : List Nat) : List Nat := l ++ List.replicate (n - l.length) 0
theorem padTo_len {n : Nat} {l : List Nat} (h : l.length ≤ n) : (padTo n l).length = n := by unfold padTo; simp; omega
theorem padTo_full {n : Nat} {l : List Nat} (h : l.length = n) : padTo n l = l := by unfold padTo; rw [h]; simp
theorem padTo_set {n : Nat} {l : List Nat} (x : Nat) (h : l.length < n) : (padTo n l).set l.length x = padTo n (l ++ [x]) := by
  unfold padTo
  rw [List.set_append_right _ _ (Nat.le_refl _), Nat.sub_self]
  obtain ⟨m, hm⟩ : ∃ m, n - l.length = m + 1 := ⟨n - l.length - 1, by omega⟩
  rw [hm, List.replicate_succ, List.set_cons_zero, List.append_assoc, List.length_append]
  rw [show n - (l.length + [x].length) = m by simp; omega]
  rfl
theorem padTo_get {n : Nat} {l : List Nat} {i : Nat} (h : i < l.length) : (padTo n l).getD i 0 = l.getD i 0 := by
  unfold padTo
  rw [List.getD_eq_getElem?_getD, List.getElem?_append_left h, ← List.getD_eq_getElem?_getD]
/-- The number of the first m bytes of a group. -/
def part (b : List Nat) (j : Nat) : Nat → Nat
  | 0 => 0
  | m + 1 => part b j m * 256 + b.getD (4 * j + m) 0
def wordB (b : List Nat) (j : Nat) : Nat := part b j 4
def words16 (b : List Nat) : List Nat := (List.range 16).map (wordB b)
theorem part_lt {b : List Nat} (hb : ∀ i, b.getD i 0 < 256) (j : Nat) : ∀ m, part b j m < 256 ^ m
  | 0 => by show 0 < 1; decide
  | m + 1 => by
    have := part_lt hb j m
    have h2 := hb (4 * j + m)
    show part b j m * 256 + b.getD (4 * j + m) 0 < 256 ^ m * 256
    generalize part b j m = p at *
    generalize 256 ^ m = q at *
    omega
/-- The words of the first i bytes. -/
def wacc (b : List Nat) (i : Nat) : List Nat := (List.range 64).map fun j => part b j (min 4 (i - 4 * j))
theorem wacc_len (b : List Nat) (i : Nat) : (wacc b i).length = 64 := by simp [wacc]
theorem wacc_get (b : List Nat) (i : Nat) {j : Nat} (hj : j < 64) : (wacc b i).getD j 0 = part b j (min 4 (i - 4 * j)) := by
  unfold wacc
  simp [hj]
theorem wacc_zero (b : List Nat) : wacc b 0 = List.replicate 64 0 := by
  apply List.ext_getElem (by simp [wacc])
  intro i h1 h2
  simp [wacc, part, -List.reduceReplicate]
theorem wacc_step {b : List Nat} (hb : ∀ i, b.getD i 0 < 256) {i : Nat} (hi : i < 64) :
    (wacc b i).set (i / 4) (or32 ((wacc b i).getD (i / 4) 0 * 256 % 4294967296) (b.getD i 0)) = wacc b (i + 1) := by
  have hm : min 4 (i - 4 * (i / 4)) = i % 4 := by omega
  have e4 : 4 * (i / 4) + i % 4 = i := by omega
  have hp := part_lt hb (i / 4) (i % 4)
  have hp3 : 256 ^ (i % 4) ≤ 256 ^ 3 := Nat.pow_le_pow_right (by decide) (by omega)
  have hbi := hb i
  rw [wacc_get b i (by omega), hm]
  have e5 : or32 (part b (i / 4) (i % 4) * 256 % 4294967296) (b.getD i 0) = part b (i / 4) (i % 4 + 1) := by
    show _ = part b (i / 4) (i % 4) * 256 + b.getD (4 * (i / 4) + i % 4) 0
    rw [e4]
    generalize part b (i / 4) (i % 4) = p at *
    generalize b.getD i 0 = c at *
    unfold or32
    have : p < 256 ^ 3 := Nat.lt_of_lt_of_le hp hp3
    rw [Nat.mod_mod, Nat.mod_eq_of_lt (show p * 256 < 4294967296 by omega), Nat.mod_eq_of_lt (show c < 4294967296 by omega)]
    exact nat_join' 8 _ _ (by omega) (by omega)
  rw [e5]
  apply List.ext_getElem (by simp [wacc])
  intro j h1 h2
  rw [List.getElem_set]
  have hj : j < 64 := by simpa [wacc] using h2
  split
  · subst j
    have : min 4 (i + 1 - 4 * (i / 4)) = i % 4 + 1 := by omega
    simp [wacc, this]
  · have : min 4 (i + 1 - 4 * j) = min 4 (i - 4 * j) := by omega
    simp [wacc, this]
theorem wacc_done {b : List Nat} : wacc b 64 = padTo 64 (words16 b) := by
  have hl : (words16 b).length = 16 := by simp [words16]
  apply List.ext_getElem (by rw [padTo_len (by omega), wacc_len])
  intro j h1 h2
  have hj : j < 64 := by simpa [wacc] using h1
  by_cases h16 : j < 16
  · have : min 4 (64 - 4 * j) = 4 := by omega
    simp [padTo, wacc, words16, wordB, h16, this]
  · have : min 4 (64 - 4 * j) = 0 := by omega
    simp [padTo, wacc, words16, List.getElem_append, h16, this, part, -List.reduceReplicate]
theorem words16_words {b : List Nat} (hb : ∀ i, b.getD i 0 < 256) : Words 16 (words16 b) := by
  refine ⟨by simp [words16], fun i hi => ?_⟩
  have := part_lt hb i 4
  simp [words16, hi, wordB]
  exact this
theorem wordB_sum (b : List Nat) (j : Nat) : wordB b j = b.getD (4 * j) 0 * 16777216 + b.getD (4 * j + 1) 0 * 65536 + b.getD (4 * j + 2) 0 * 256 + b.getD (4 * j + 3) 0 := by
  simp only [wordB, part, Nat.add_zero, Nat.zero_mul, Nat.zero_add]
  omega
def wordsS (b : List Nat) : List Nat := sched (words16 b) 48

/-- One block, all blocks. -/
def rootsK : List Nat := [0x428a2f98, 0x71374491, 0xb5c0fbcf, 0xe9b5dba5, 0x3956c25b, 0x59f111f1, 0x923f82a4, 0xab1c5ed5,
  0xd807aa98, 0x12835b01, 0x243185be, 0x550c7dc3, 0x72be5d74, 0x80deb1fe, 0x9bdc06a7, 0xc19bf174,
  0xe49b69c1, 0xefbe4786, 0x0fc19dc6, 0x240ca1cc, 0x2de92c6f, 0x4a7484aa, 0x5cb0a9dc, 0x76f988da,
  0x983e5152, 0xa831c66d, 0xb00327c8, 0xbf597fc7, 0xc6e00bf3, 0xd5a79147, 0x06ca6351, 0x14292967,
  0x27b70a85, 0x2e1b2138, 0x4d2c6dfc, 0x53380d13, 0x650a7354, 0x766a0abb, 0x81c2c92e, 0x92722c85,
  0xa2bfe8a1, 0xa81a664b, 0xc24b8b70, 0xc76c51a3, 0xd192e819, 0xd6990624, 0xf40e3585, 0x106aa070,
  0x19a4c116, 0x1e376c08, 0x2748774c, 0x34b0bcb5, 0x391c0cb3, 0x4ed8aa4a, 0x5b9cca4f, 0x682e6ff3,
  0x748f82ee, 0x78a5636f, 0x84c87814, 0x8cc70208, 0x90befffa, 0xa4506ceb, 0xbef9a3f7, 0xc67178f2]
def init8 : List Nat := [0x6a09e667, 0xbb67ae85, 0x3c6ef372, 0xa54ff53a, 0x510e527f, 0x9b05688c, 0x1f83d9ab, 0x5be0cd19]
theorem roots_words : Words 64 rootsK := ⟨rfl, by decide⟩
theorem init_words : Words 8 init8 := ⟨rfl, by decide⟩
def mix (s u : List Nat) : List Nat := List.zipWith add32 s u
theorem mix_len {s u : List Nat} (h1 : s.length = 8) (h2 : u.length = 8) : (mix s u).length = 8 := by simp [mix, h1, h2]
/-- The first i numbers are summed. -/
def mixed (s u : List Nat) (i : Nat) : List Nat := (mix s u).take i ++ s.drop i
theorem mixed_zero (s u : List Nat) : mixed s u 0 = s := by simp [mixed]
theorem mixed_len {s u : List Nat} (h1 : s.length = 8) (h2 : u.length = 8) (i : Nat) (hi : i ≤ 8) : (mixed s u i).length = 8 := by simp [mixed, mix, h1, h2]; omega
theorem mixed_done {s u : List Nat} (h1 : s.length = 8) (h2 : u.length = 8) : mixed s u 8 = mix s u := by
  unfold mixed
  rw [List.take_of_length_le (by rw [mix_len h1 h2]; exact Nat.le_refl _), List.drop_of_length_le (by omega), List.append_nil]
theorem mixed_get {s u : List Nat} (h1 : s.length = 8) (h2 : u.length = 8) {i : Nat} (hi : i < 8) : (mixed s u i).getD i 0 = s.getD i 0 := by
  unfold mixed
  rw [List.getD_eq_getElem?_getD, List.getElem?_append_right (by rw [List.length_take, mix_len h1 h2]; omega), List.length_take, mix_len h1 h2, Nat.min_eq_left (by omega), Nat.sub_self, List.getElem?_drop, Nat.add_zero, ← List.getD_eq_getElem?_getD]
theorem mixed_step {s u : List Nat} (h1 : s.length = 8) (h2 : u.length = 8) {i : Nat} (hi : i < 8) : (mixed s u i).set i (add32 (s.getD i 0) (u.getD i 0)) = mixed s u (i + 1) := by
  have hl := mix_len h1 h2
  unfold mixed
  rw [List.set_append_right _ _ (by rw [List.length_take]; omega), List.length_take, hl, Nat.min_eq_left (by omega), Nat.sub_self]
  rw [List.drop_eq_getElem_cons (show i < s.length by omega), List.set_cons_zero, List.take_add_one, List.append_assoc]
  congr 1
  have e : (mix s u)[i]? = some (add32 (s.getD i 0) (u.getD i 0)) := by
    unfold mix
    rw [List.getElem?_zipWith, List.getElem?_eq_getElem (show i < s.length by omega), List.getElem?_eq_getElem (show i < u.length by omega)]
    simp [List.getD_eq_getElem?_getD, List.getElem?_eq_getElem (show i < s.length by omega), List.getElem?_eq_getElem (show i < u.length by omega)]
  rw [e]; rfl
theorem Words.mix {s u : List Nat} (h1 : Words 8 s) (h2 : Words 8 u) : Words 8 (mix s u) := by
  refine ⟨mix_len h1.1 h2.1, fun i hi => ?_⟩
  have e : (DigP.mix s u)[i]? = some (add32 (s.getD i 0) (u.getD i 0)) := by
    unfold DigP.mix
    have a1 := h1.1
    have a2 := h2.1
    rw [List.getElem?_zipWith, List.getElem?_eq_getElem (show i < s.length by omega), List.getElem?_eq_getElem (show i < u.length by omega)]
    simp [List.getD_eq_getElem?_getD, List.getElem?_eq_getElem (show i < s.length by omega), List.getElem?_eq_getElem (show i < u.length by omega)]
  rw [List.getD_eq_getElem?_getD, e]
  exact add32_lt _ _
theorem Words.mixed {s u : List Nat} (h1 : Words 8 s) (h2 : Words 8 u) (i : Nat) (hi : i ≤ 8) : Words 8 (mixed s u i) := by
  induction i with
  | zero => rw [mixed_zero]; exact h1
  | succ i ih =>
    have ih := ih (by omega)
    rw [← mixed_step h1.1 h2.1 (by omega)]
    refine ⟨by rw [List.length_set]; exact ih.1, fun j hj => ?_⟩
    rw [List.getD_eq_getElem?_getD, List.getElem?_set]
    split
    · split
      · exact add32_lt _ _
      · decide
    · rw [← List.getD_eq_getElem?_getD]; exact ih.2 j hj
def blockS (s b : List Nat) : List Nat := mix s (roundsS rootsK (wordsS b) s 64)
theorem Words.block {s : List Nat} (h : Words 8 s) (b : List Nat) : Words 8 (blockS s b) := h.mix (h.rounds _ _ 64)
def cut64 (b : List Nat) (n : Nat) : List Nat := (b.drop (64 * n)).take 64
def blocksS (s b : List Nat) : Nat → List Nat
  | 0 => s
  | n + 1 => blockS (blocksS s b n) (cut64 b n)
theorem Words.blocks {s : List Nat} (h : Words 8 s) (b : List Nat) : ∀ n, Words 8 (blocksS s b n)
  | 0 => h
  | n + 1 => (Words.blocks h b n).block _
theorem blocks_left (s a b : List Nat) : ∀ n, 64 * n ≤ a.length → blocksS s (a ++ b) n = blocksS s a n
  | 0, _ => rfl
  | n + 1, h => by
    show blockS _ _ = blockS _ _
    rw [blocks_left s a b n (by omega)]
    congr 1
    unfold cut64
    rw [List.drop_append_of_le_length (by omega), List.take_append_of_le_length (by rw [List.length_drop]; omega)]
theorem blocks_more (s a b : List Nat) (m : Nat) (h : a.length = 64 * m) : ∀ n, blocksS s (a ++ b) (m + n) = blocksS (blocksS s a m) b n
  | 0 => blocks_left s a b m (by omega)
  | n + 1 => by
    show blockS (blocksS s (a ++ b) (m + n)) (cut64 (a ++ b) (m + n)) = blockS _ _
    rw [blocks_more s a b m h n]
    congr 1
    unfold cut64
    rw [show 64 * (m + n) = a.length + 64 * n by omega, List.drop_append]
    rw [List.drop_of_length_le (by omega), List.nil_append, show a.length + 64 * n - a.length = 64 * n by omega]
/-- The padding behind n bytes. -/
def be8 (n : Nat) : List Nat := (List.range 8).map fun i => 8 * n / 2 ^ (56 - 8 * i) % 256
def padS (n : Nat) : List Nat := 128 :: (List.replicate (63 - (n + 8) % 64) 0 ++ be8 n)
theorem padS_len (n : Nat) : (padS n).length = 72 - (n + 8) % 64 := by simp [padS, be8]; omega
def bytesS (s : List Nat) : List Nat := (List.range 32).map fun i => s.getD (i / 4) 0 / 2 ^ (24 - 8 * (i % 4)) % 256
theorem bytesS_len (s : List Nat) : (bytesS s).length = 32 := by simp [bytesS]
theorem bytesS_get (s : List Nat) {i : Nat} (h : i < 32) : (bytesS s).getD i 0 = s.getD (i / 4) 0 / 2 ^ (24 - 8 * (i % 4)) % 256 := by simp [bytesS, h]
/-- The first i bytes are written. -/
theorem bytes_step (s : List Nat) {i : Nat} (h : i < 32) : (padTo 32 ((bytesS s).take i)).set i (s.getD (i / 4) 0 / 2 ^ (24 - 8 * (i % 4)) % 256) = padTo 32 ((bytesS s).take (i + 1)) := by
  have hl : ((bytesS s).take i).length = i := by rw [List.length_take, bytesS_len]; omega
  have := padTo_set (n := 32) (l := (bytesS s).take i) (s.getD (i / 4) 0 / 2 ^ (24 - 8 * (i % 4)) % 256) (by omega)
  rw [hl] at this
  rw [this, List.take_add_one, ← bytesS_get s h, List.getD_eq_getElem?_getD]
  rw [List.getElem?_eq_getElem (by rw [bytesS_len]; exact h)]
  rfl
def shaP (b : List Nat) : List Nat := blocksS init8 (b ++ padS b.length) ((b.length + (padS b.length).length) / 64)
def shaB (b : List Nat) : List Nat := bytesS (shaP b)
def hexD (n : Nat) : Nat := if n < 10 then 48 + n else 87 + n
def hexS (d : List Nat) : List Nat := d.flatMap fun x => [hexD (x / 16), hexD (x % 16)]
set_option maxRecDepth 100000 in
theorem sha_empty : hexS (shaB []) = [101, 51, 98, 48, 99, 52, 52, 50, 57, 56, 102, 99, 49, 99, 49, 52, 57, 97, 102, 98, 102, 52, 99, 56, 57, 57, 54, 102, 98, 57, 50, 52, 50, 55, 97, 101, 52, 49, 101, 52, 54, 52, 57, 98, 57, 51, 52, 99, 97, 52, 57, 53, 57, 57, 49, 98, 55, 56, 53, 50, 98, 56, 53, 53] := by decide +kernel
set_option maxRecDepth 100000 in
theorem sha_abc : hexS (shaB [97, 98, 99]) = [98, 97, 55, 56, 49, 54, 98, 102, 56, 102, 48, 49, 99, 102, 101, 97, 52, 49, 52, 49, 52, 48, 100, 101, 53, 100, 97, 101, 50, 50, 50, 51, 98, 48, 48, 51, 54, 49, 97, 51, 57, 54, 49, 55, 55, 97, 57, 99, 98, 52, 49, 48, 102, 102, 54, 49, 102, 50, 48, 48, 49, 53, 97, 100] := by decide +kernel
/-! ### Numbers to the base 2^16 -/
def val (l : List Nat) : Nat := l.foldr (fun x acc => x + 65536 * acc) 0
theorem val_cons (x : Nat) (l : List Nat) : val (x :: l) = x + 65536 * val l := rfl
theorem val_set : ∀ (l : List Nat) (i x : Nat), i < l.length → val (l.set i x) + l.getD i 0 * 65536 ^ i = val l + x * 65536 ^ i
  | [], i, x, h => by simp at h
  | y :: l, 0, x, _ => by simp [val_cons]; omega
  | y :: l, i + 1, x, h => by
    have ih := val_set l i x (by simpa using h)
    simp only [List.set_cons_succ, val_cons, List.getD_cons_succ, Nat.pow_succ, ← Nat.mul_assoc]
    generalize l.getD i 0 * 65536 ^ i = p at *
    generalize x * 65536 ^ i = q at *
    omega
theorem val_zeros (n : Nat) : val (List.replicate n 0) = 0 := by
  induction n with
  | zero => rfl
  | succ n ih => rw [List.replicate_succ, val_cons, ih]
theorem val_append (a b : List Nat) : val (a ++ b) = val a + 65536 ^ a.length * val b := by
  induction a with
  | nil => simp [val]
  | cons x a ih =>
    rw [List.cons_append, val_cons, val_cons, ih, List.length_cons, Nat.pow_succ, Nat.mul_add, Nat.mul_comm (65536 ^ a.length) 65536, Nat.mul_assoc, Nat.add_assoc]
theorem take_succ_getD (l : List Nat) (i : Nat) (h : i < l.length) : l.take (i + 1) = l.take i ++ [l.getD i 0] := by
  rw [List.take_add_one, List.getD_eq_getElem?_getD, List.getElem?_eq_getElem h]; rfl
theorem val_take_succ (l : List Nat) (i : Nat) (h : i < l.length) : val (l.take (i + 1)) = val (l.take i) + l.getD i 0 * 65536 ^ i := by
  rw [take_succ_getD l i h, val_append, List.length_take, Nat.min_eq_left (by omega)]
  simp [val_cons, val, Nat.mul_comm]
def Dig (l : List Nat) : Prop := ∀ i, l.getD i 0 < 65536
theorem Dig.tail {x : Nat} {l : List Nat} (h : Dig (x :: l)) : Dig l := fun i => by have := h (i + 1); simpa using this
theorem val_lt : ∀ (l : List Nat), Dig l → val l < 65536 ^ l.length
  | [], _ => by simp [val]
  | x :: l, h => by
    have ih := val_lt l h.tail
    have h0 : x < 65536 := by have := h 0; simpa using this
    rw [val_cons, List.length_cons, Nat.pow_succ]
    omega
theorem getD_set (l : List Nat) (i j x : Nat) (hj : j < l.length) : (l.set j x).getD i 0 = if i = j then x else l.getD i 0 := by
  rw [List.getD_eq_getElem?_getD, List.getElem?_set, List.getD_eq_getElem?_getD]
  by_cases h : j = i
  · subst h; simp [hj]
  · rw [if_neg h, if_neg (fun e => h e.symm)]
def carry (m : Nat) (out : List Nat) : List Nat :=
  let o := out.set (m + 1) (out.getD (m + 1) 0 + out.getD m 0 / 65536)
  o.set m (o.getD m 0 % 65536)
def tStep (a b out : List Nat) (i j : Nat) : List Nat := carry (i + j) (out.set (i + j) (out.getD (i + j) 0 + a.getD i 0 * b.getD j 0))
theorem carry_len (m : Nat) (out : List Nat) : (carry m out).length = out.length := by simp [carry]
theorem tStep_len (a b out : List Nat) (i j : Nat) : (tStep a b out i j).length = out.length := by simp [tStep, carry_len]
theorem carry_val (m : Nat) (out : List Nat) (h : m + 1 < out.length) : val (carry m out) = val out := by
  have h1 := val_set out (m + 1) (out.getD (m + 1) 0 + out.getD m 0 / 65536) h
  have h2 := val_set (out.set (m + 1) (out.getD (m + 1) 0 + out.getD m 0 / 65536)) m (out.getD m 0 % 65536) (by simp; omega)
  have e : (out.set (m + 1) (out.getD (m + 1) 0 + out.getD m 0 / 65536)).getD m 0 = out.getD m 0 := by rw [getD_set _ _ _ _ h, if_neg (by omega)]
  unfold carry
  simp only [e]
  rw [e] at h2
  rw [Nat.add_mul] at h1
  have e3 : out.getD m 0 * 65536 ^ m = 65536 * (out.getD m 0 / 65536 * 65536 ^ m) + out.getD m 0 % 65536 * 65536 ^ m := by
    rw [← Nat.mul_assoc, ← Nat.add_mul, Nat.div_add_mod]
  have e4 : out.getD m 0 / 65536 * 65536 ^ (m + 1) = 65536 * (out.getD m 0 / 65536 * 65536 ^ m) := by rw [Nat.pow_succ]; rw [← Nat.mul_assoc, Nat.mul_comm]
  omega
theorem tStep_val (a b out : List Nat) (i j : Nat) (h : i + j + 1 < out.length) : val (tStep a b out i j) = val out + a.getD i 0 * b.getD j 0 * 65536 ^ (i + j) := by
  unfold tStep
  rw [carry_val _ _ (by simpa using h)]
  have := val_set out (i + j) (out.getD (i + j) 0 + a.getD i 0 * b.getD j 0) (by omega)
  rw [Nat.add_mul] at this
  omega
def tRow (a b : List Nat) (i : Nat) (out : List Nat) : Nat → List Nat
  | 0 => out
  | j + 1 => tStep a b (tRow a b i out j) i j
def tAll (a b out : List Nat) : Nat → List Nat
  | 0 => out
  | i + 1 => tRow a b i (tAll a b out i) b.length
def cAll (out : List Nat) : Nat → List Nat
  | 0 => out
  | i + 1 => carry i (cAll out i)
theorem tRow_len (a b : List Nat) (i : Nat) (out : List Nat) : ∀ j, (tRow a b i out j).length = out.length
  | 0 => rfl
  | j + 1 => by rw [tRow, tStep_len, tRow_len a b i out j]
theorem tAll_len (a b out : List Nat) : ∀ i, (tAll a b out i).length = out.length
  | 0 => rfl
  | i + 1 => by rw [tAll, tRow_len, tAll_len a b out i]
theorem cAll_len (out : List Nat) : ∀ i, (cAll out i).length = out.length
  | 0 => rfl
  | i + 1 => by rw [cAll, carry_len, cAll_len out i]
theorem tRow_val (a b : List Nat) (i : Nat) (out : List Nat) (h : i + b.length < out.length) : ∀ j, j ≤ b.length → val (tRow a b i out j) = val out + a.getD i 0 * val (b.take j) * 65536 ^ i
  | 0, _ => by simp [tRow, val]
  | j + 1, hj => by
    rw [tRow, tStep_val _ _ _ _ _ (by rw [tRow_len]; omega), tRow_val a b i out h j (by omega), val_take_succ b j (by omega), Nat.mul_add, Nat.add_mul, Nat.add_assoc, Nat.pow_add]
    congr 2
    rw [Nat.mul_comm (65536 ^ i), Nat.mul_assoc, Nat.mul_assoc, Nat.mul_assoc]
theorem tAll_val (a b out : List Nat) (h : a.length + b.length < out.length + 1) : ∀ i, i ≤ a.length → val (tAll a b out i) = val out + val (a.take i) * val b
  | 0, _ => by simp [tAll, val]
  | i + 1, hi => by
    rw [tAll, tRow_val _ _ _ _ (by rw [tAll_len]; omega) _ (Nat.le_refl _), tAll_val a b out h i (by omega), val_take_succ a i (by omega), List.take_length, Nat.add_mul, Nat.add_assoc]
    congr 2
    rw [Nat.mul_right_comm]
theorem cAll_val (out : List Nat) : ∀ i, i < out.length → val (cAll out i) = val out
  | 0, _ => rfl
  | i + 1, h => by rw [cAll, carry_val _ _ (by rw [cAll_len]; omega), cAll_val out i (by omega)]
theorem cAll_dig (out : List Nat) : ∀ i, i < out.length → ∀ k, k < i → (cAll out i).getD k 0 < 65536
  | 0, _, k, hk => by omega
  | i + 1, h, k, hk => by
    have hl := cAll_len out i
    unfold cAll carry
    rw [getD_set _ _ _ _ (by simp; omega)]
    split
    · exact Nat.mod_lt _ (by decide)
    · rw [getD_set _ _ _ _ (by omega), if_neg (by omega)]
      exact cAll_dig out i (by omega) k (by omega)
/-- Bounds on the way. -/
def Bd (n : Nat) (l : List Nat) : Prop := ∀ i, l.getD i 0 ≤ n
theorem Bd.set {n x : Nat} {l : List Nat} (h : Bd n l) (j : Nat) (hx : x ≤ n) : Bd n (l.set j x) := fun i => by
  by_cases hj : j < l.length
  · rw [getD_set _ _ _ _ hj]; split
    · exact hx
    · exact h i
  · rw [List.set_eq_of_length_le (by omega)]; exact h i
theorem Bd.le {n m : Nat} {l : List Nat} (h : Bd n l) (hm : n ≤ m) : Bd m l := fun i => Nat.le_trans (h i) hm
theorem Bd.carry {n : Nat} {l : List Nat} (h : Bd n l) (hn : n ≤ 2000000000000) (m : Nat) : Bd (n + 100000000) (carry m l) := by
  have h1 := h m
  have h2 := h (m + 1)
  have h3 := Bd.set (h.le (show n ≤ n + 100000000 by omega)) (m + 1) (show l.getD (m + 1) 0 + l.getD m 0 / 65536 ≤ n + 100000000 by omega)
  unfold DigP.carry
  refine h3.set m ?_
  omega
theorem mul_small {x y : Nat} (hx : x < 65536) (hy : y < 65536) : x * y ≤ 4294836225 := Nat.mul_le_mul (show x ≤ 65535 by omega) (show y ≤ 65535 by omega)
theorem Bd.step {n : Nat} {a b l : List Nat} (ha : Dig a) (hb : Dig b) (h : Bd n l) (hn : n ≤ 1000000000000) (i j : Nat) : Bd (n + 5000000000) (tStep a b l i j) := by
  have h1 := h (i + j)
  have h2 := mul_small (ha i) (hb j)
  have h3 := Bd.set (h.le (show n ≤ n + 4294836225 by omega)) (i + j) (show l.getD (i + j) 0 + a.getD i 0 * b.getD j 0 ≤ n + 4294836225 by omega)
  exact (h3.carry (by omega) (i + j)).le (by omega)
theorem Bd.row {n : Nat} {a b l : List Nat} (ha : Dig a) (hb : Dig b) (h : Bd n l) (hn : n + 50000000000 ≤ 1000000000000) (i : Nat) : ∀ j, j ≤ 10 → Bd (n + 5000000000 * j) (tRow a b i l j)
  | 0, _ => h
  | j + 1, hj => ((Bd.row ha hb h hn i j (by omega)).step ha hb (by omega) i j).le (by omega)
theorem Bd.all {a b l : List Nat} (ha : Dig a) (hb : Dig b) (hbl : b.length ≤ 10) (h : Bd 0 l) : ∀ i, i ≤ 10 → Bd (50000000000 * i) (tAll a b l i)
  | 0, _ => h
  | i + 1, hi => ((Bd.all ha hb hbl h i (by omega)).row ha hb (by omega) i b.length hbl).le (by omega)
theorem Bd.fin {n : Nat} {l : List Nat} (h : Bd n l) (hn : n ≤ 1000000000000) : ∀ i, i ≤ 100 → Bd (n + 100000000 * i) (cAll l i)
  | 0, _ => h
  | i + 1, hi => ((Bd.fin h hn i (by omega)).carry (by omega) i).le (by omega)
def timesP (a b : List Nat) : List Nat := cAll (tAll a b (List.replicate (a.length + b.length + 1) 0) a.length) (a.length + b.length)
theorem times_len (a b : List Nat) : (timesP a b).length = a.length + b.length + 1 := by unfold timesP; rw [cAll_len, tAll_len, List.length_replicate]
theorem times_val (a b : List Nat) : val (timesP a b) = val a * val b := by
  unfold timesP
  rw [cAll_val _ _ (by rw [tAll_len]; simp), tAll_val _ _ _ (by simp; omega) _ (Nat.le_refl _), val_zeros, List.take_length, Nat.zero_add]
theorem getD_over {l : List Nat} {i : Nat} (h : l.length ≤ i) : l.getD i 0 = 0 := by simp [List.getD_eq_getElem?_getD, List.getElem?_eq_none h]
theorem times_dig {a b : List Nat} (ha : Dig a) (hb : Dig b) : Dig (timesP a b) := by
  intro i
  by_cases h1 : i < a.length + b.length
  · exact cAll_dig _ _ (by rw [tAll_len]; simp) i h1
  · by_cases h2 : i = a.length + b.length
    · have hv : val (timesP a b) < 65536 ^ (a.length + b.length) := by
        rw [times_val, Nat.pow_add]
        exact Nat.mul_lt_mul'' (val_lt a ha) (val_lt b hb)
      have ht := val_take_succ (timesP a b) i (by rw [times_len]; omega)
      rw [List.take_of_length_le (by rw [times_len]; omega)] at ht
      rw [← h2] at hv
      rcases Nat.eq_zero_or_pos ((timesP a b).getD i 0) with h0 | h0
      · rw [h0]; decide
      · have := Nat.mul_le_mul_right (65536 ^ i) h0
        omega
    · rw [getD_over (by rw [times_len]; omega)]; decide
/-! ### atMost -/
theorem val_ge (l : List Nat) (i : Nat) (h : 0 < l.getD i 0) : 65536 ^ i ≤ val l := by
  by_cases hi : i < l.length
  · have h1 := val_append (l.take (i + 1)) (l.drop (i + 1))
    rw [List.take_append_drop, val_take_succ l i hi] at h1
    have := Nat.mul_le_mul_right (65536 ^ i) h
    omega
  · rw [getD_over (by omega)] at h; omega
theorem val_zero_of : ∀ (l : List Nat), (∀ i, l.getD i 0 = 0) → val l = 0
  | [], _ => rfl
  | x :: l, h => by
    have h0 : x = 0 := by have := h 0; simpa using this
    rw [val_cons, h0, val_zero_of l (fun i => by have := h (i + 1); simpa using this)]
theorem val_high {l : List Nat} {sh : Nat} (hs : sh < l.length) (h : ∀ k, sh < k → l.getD k 0 = 0) : val l = val (l.take sh) + l.getD sh 0 * 65536 ^ sh := by
  have h1 := val_append (l.take (sh + 1)) (l.drop (sh + 1))
  rw [List.take_append_drop, val_take_succ l sh hs, val_zero_of (l.drop (sh + 1)) (fun i => by
    have := h (sh + 1 + i) (by omega)
    rw [List.getD_eq_getElem?_getD, List.getElem?_drop, ← List.getD_eq_getElem?_getD]; exact this)] at h1
  omega
theorem Dig.take {l : List Nat} (h : Dig l) (n : Nat) : Dig (l.take n) := fun i => by
  rw [List.getD_eq_getElem?_getD, List.getElem?_take]
  split
  · rw [← List.getD_eq_getElem?_getD]; exact h i
  · decide
theorem most_no {l : List Nat} {p sh k : Nat} (hp : p < 65536) (hk : sh < k) (h : 0 < l.getD k 0) : ¬ val l ≤ p * 65536 ^ sh := by
  have h1 := val_ge l k h
  have h2 : 65536 ^ (sh + 1) ≤ 65536 ^ k := Nat.pow_le_pow_right (by decide) hk
  have h3 : (p + 1) * 65536 ^ sh ≤ 65536 * 65536 ^ sh := Nat.mul_le_mul_right _ hp
  have h4 : 0 < 65536 ^ sh := Nat.pow_pos (by decide)
  rw [Nat.pow_succ, Nat.mul_comm] at h2
  rw [Nat.add_mul] at h3
  omega
theorem take_lt {l : List Nat} {sh : Nat} (hd : Dig l) (hs : sh < l.length) : val (l.take sh) < 65536 ^ sh := by
  have := val_lt _ (hd.take sh)
  rwa [List.length_take, Nat.min_eq_left (by omega)] at this
theorem most_lt {l : List Nat} {p sh : Nat} (hd : Dig l) (hs : sh < l.length) (h : ∀ k, sh < k → l.getD k 0 = 0) (hne : l.getD sh 0 ≠ p) : (val l ≤ p * 65536 ^ sh) ↔ l.getD sh 0 < p := by
  have h1 := take_lt hd hs
  rw [val_high hs h]
  constructor
  · intro h2
    rcases Nat.lt_or_ge (l.getD sh 0) p with h3 | h3
    · exact h3
    · have := Nat.mul_le_mul_right (65536 ^ sh) (show p + 1 ≤ l.getD sh 0 by omega)
      rw [Nat.add_mul] at this
      omega
  · intro h3
    have := Nat.mul_le_mul_right (65536 ^ sh) (show l.getD sh 0 + 1 ≤ p by omega)
    rw [Nat.add_mul] at this
    omega
theorem most_eq {l : List Nat} {p sh : Nat} (hs : sh < l.length) (h : ∀ k, sh < k → l.getD k 0 = 0) (he : l.getD sh 0 = p) : (val l ≤ p * 65536 ^ sh) ↔ val (l.take sh) = 0 := by
  rw [val_high hs h, he]; omega
theorem low_no {l : List Nat} {sh k : Nat} (hk : k < sh) (h : 0 < l.getD k 0) : val (l.take sh) ≠ 0 := by
  have : 0 < (l.take sh).getD k 0 := by rw [List.getD_eq_getElem?_getD, List.getElem?_take, if_pos hk, ← List.getD_eq_getElem?_getD]; exact h
  have h1 := val_ge _ k this
  have h4 : 0 < 65536 ^ k := Nat.pow_pos (by decide)
  omega
theorem low_yes {l : List Nat} {sh : Nat} (h : ∀ k, k < sh → l.getD k 0 = 0) : val (l.take sh) = 0 := val_zero_of _ fun i => by
  rw [List.getD_eq_getElem?_getD, List.getElem?_take]
  split
  · rw [← List.getD_eq_getElem?_getD]; exact h i (by assumption)
  · rfl
/-! ### roots -/
def digitsP (n : Nat) : List Nat := [n % 65536, n / 65536 % 65536, n / 65536 / 65536]
theorem digits_val (n : Nat) : val (digitsP n) = n := by simp [digitsP, val]; omega
theorem digits_dig {n : Nat} (h : n < 281474976710656) : Dig (digitsP n) := by
  intro i
  match i with
  | 0 => exact Nat.mod_lt _ (by decide)
  | 1 => exact Nat.mod_lt _ (by decide)
  | 2 => show n / 65536 / 65536 < 65536; omega
  | i + 3 => exact (by decide : 0 < 65536)
def goR (p power : Nat) : Nat → Nat → Nat
  | 0, r => r
  | k + 1, r => goR p power k (if (r + 2 ^ k) ^ power ≤ p * 65536 ^ (2 * power) then r + 2 ^ k else r)
def rootP (p power : Nat) : Nat := goR p power 41 0 % 4294967296
def noDiv (n d : Nat) : Bool := (List.range' 2 (d - 2)).all fun x => n % x != 0
def primesTo (n : Nat) : List Nat := (List.range' 2 (n - 2)).filter fun x => noDiv x x
theorem noDiv_step {n d : Nat} (h : 2 ≤ d) : noDiv n (d + 1) = (noDiv n d && (n % d != 0)) := by
  unfold noDiv
  rw [show d + 1 - 2 = (d - 2) + 1 by omega, List.range'_1_concat, List.all_append, show 2 + (d - 2) = d by omega]
  simp
theorem primes_step {n : Nat} (h : 2 ≤ n) : primesTo (n + 1) = primesTo n ++ (if noDiv n n then [n] else []) := by
  unfold primesTo
  rw [show n + 1 - 2 = (n - 2) + 1 by omega, List.range'_1_concat, List.filter_append, show 2 + (n - 2) = n by omega]
  cases hn : noDiv n n <;> simp [hn]
theorem primes_mono {n : Nat} (h : 2 ≤ n) : ∀ m, (primesTo n).length ≤ (primesTo (n + m)).length
  | 0 => Nat.le_refl _
  | m + 1 => by
    rw [← Nat.add_assoc, primes_step (by omega), List.length_append]
    have := primes_mono h m
    omega
def P8 : List Nat := [2, 3, 5, 7, 11, 13, 17, 19]
def P64 : List Nat := [2, 3, 5, 7, 11, 13, 17, 19, 23, 29, 31, 37, 41, 43, 47, 53, 59, 61, 67, 71, 73, 79, 83, 89, 97, 101, 103, 107, 109, 113, 127, 131, 137, 139, 149, 151, 157, 163, 167, 173, 179, 181, 191, 193, 197, 199, 211, 223, 227, 229, 233, 239, 241, 251, 257, 263, 269, 271, 277, 281, 283, 293, 307, 311]
set_option maxRecDepth 100000 in
theorem primes8 : primesTo 20 = P8 := by decide +kernel
set_option maxRecDepth 100000 in
theorem primes7 : (primesTo 19).length = 7 := by decide +kernel
set_option maxRecDepth 100000 in
theorem primes64 : primesTo 312 = P64 := by decide +kernel
set_option maxRecDepth 100000 in
theorem primes63 : (primesTo 311).length = 63 := by decide +kernel
set_option maxRecDepth 100000 in
theorem roots3 : P64.map (fun p => rootP p 3) = rootsK := by decide +kernel
set_option maxRecDepth 100000 in
theorem roots2 : P8.map (fun p => rootP p 2) = init8 := by decide +kernel
end Go.Proofs.YtcpjdmfnipdecaaDoor.DigP
