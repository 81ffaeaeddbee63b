/- Package base64, plain: the reference's lists of bits, and the program's groups. No run of the program in this text. -/
import Derived.Test.YtkibajlbjldhiaaDoorB64P
namespace Go.Proofs.YtkibajlbjldhiaaDoor
set_option linter.all false
open Go.RowKit

def numB (l : List Nat) : Nat := l.foldl (fun n b => 2 * n + b) 0
def bitsN (n : Nat) : Nat → List Nat
  | 0 => []
  | k + 1 => n / 2 ^ k % 2 :: bitsN n k
theorem bitsN_len (n : Nat) : ∀ k, (bitsN n k).length = k
  | 0 => rfl
  | k + 1 => by simp [bitsN, bitsN_len n k]
theorem bitsN_le (n : Nat) : ∀ k, ∀ x ∈ bitsN n k, x ≤ 1
  | 0, x, h => by simp [bitsN] at h
  | k + 1, x, h => by
    simp only [bitsN, List.mem_cons] at h
    rcases h with h | h
    · omega
    · exact bitsN_le n k x h
theorem numB_snoc (l : List Nat) (b : Nat) : numB (l ++ [b]) = 2 * numB l + b := by simp [numB]
theorem numB_lt' : ∀ (n : Nat) (l : List Nat), l.length = n → (∀ x ∈ l, x ≤ 1) → numB l < 2 ^ n
  | 0, l, hl, _ => by
    obtain rfl := List.length_eq_zero_iff.1 hl
    simp [numB]
  | n + 1, l, hl, h => by
    rcases List.eq_nil_or_concat l with rfl | ⟨r, b, rfl⟩
    · simp at hl
    · rw [List.concat_eq_append] at *
      have := numB_lt' n r (by simp at hl; omega) fun x hx => h x (by simp [hx])
      have hb := h b (by simp)
      rw [numB_snoc, Nat.pow_succ]
      omega
theorem numB_lt (l : List Nat) (h : ∀ x ∈ l, x ≤ 1) : numB l < 2 ^ l.length := numB_lt' _ l rfl h

def chop6 : List Nat → List Nat
  | a :: b :: c :: d :: e :: f :: r => numB [a, b, c, d, e, f] :: chop6 r
  | _ => []
def chop8 : List Nat → List UInt8
  | a :: b :: c :: d :: e :: f :: g :: h :: r => UInt8.ofNat (numB [a, b, c, d, e, f, g, h]) :: chop8 r
  | _ => []
def rest8 : List Nat → List Nat
  | _ :: _ :: _ :: _ :: _ :: _ :: _ :: _ :: r => rest8 r
  | l => l
def refBits (b : List UInt8) : List Nat := b.flatMap fun c => bitsN c.toNat 8
def refBits6 (vs : List Nat) : List Nat := vs.flatMap fun v => bitsN v 6
def zp (n : Nat) : Nat := (6 - 8 * n % 6) % 6
theorem num6 (a b c d e f : Nat) : numB [a, b, c, d, e, f] = 32 * a + 16 * b + 8 * c + 4 * d + 2 * e + f := by simp [numB]; omega
theorem num8 (a b c d e f g h : Nat) : numB [a, b, c, d, e, f, g, h] = 128 * a + 64 * b + 32 * c + 16 * d + 8 * e + 4 * f + 2 * g + h := by simp [numB]; omega
theorem chop6_3 (a b c : Nat) (r : List Nat) (ha : a < 256) (hb : b < 256) (hc : c < 256) :
    chop6 (bitsN a 8 ++ (bitsN b 8 ++ (bitsN c 8 ++ r))) = a / 4 :: (a % 4 * 16 + b / 16) :: (b % 16 * 4 + c / 64) :: c % 64 :: chop6 r := by
  simp only [bitsN, List.cons_append, List.nil_append, chop6, num6, Nat.reducePow, Nat.div_one]
  congr 1
  · omega
  · congr 1
    · omega
    · congr 1
      · omega
      · congr 1; omega
theorem chop6_ev : ∀ b : List UInt8, chop6 (refBits b ++ List.replicate (zp b.length) 0) = ev b
  | [] => rfl
  | [a] => by
    have ha := a.toNat_lt
    rw [show zp [a].length = 4 by simp [zp]]
    simp only [refBits, List.flatMap_cons, List.flatMap_nil, List.append_nil, bitsN, List.cons_append, List.nil_append, List.replicate, chop6, num6, Nat.reducePow, Nat.div_one, ev]
    congr 1
    · omega
    · congr 1; omega
  | [a, b] => by
    have ha := a.toNat_lt; have hb := b.toNat_lt
    rw [show zp [a, b].length = 2 by simp [zp]]
    simp only [refBits, List.flatMap_cons, List.flatMap_nil, List.append_nil, bitsN, List.cons_append, List.nil_append, List.replicate, chop6, num6, Nat.reducePow, Nat.div_one, ev]
    congr 1
    · omega
    · congr 1
      · omega
      · congr 1; omega
  | a :: b :: c :: r => by
    have ih := chop6_ev r
    have hz : zp (a :: b :: c :: r).length = zp r.length := by simp [zp]; omega
    rw [hz, show refBits (a :: b :: c :: r) ++ List.replicate (zp r.length) 0 = bitsN a.toNat 8 ++ (bitsN b.toNat 8 ++ (bitsN c.toNat 8 ++ (refBits r ++ List.replicate (zp r.length) 0))) by simp [refBits],
      chop6_3 _ _ _ _ a.toNat_lt b.toNat_lt c.toNat_lt, ih]
    rfl
theorem refBits_len (b : List UInt8) : (refBits b).length = 8 * b.length := by
  induction b with
  | nil => rfl
  | cons a r ih => simp [refBits, bitsN_len] at *; omega
theorem refBits6_len (b : List Nat) : (refBits6 b).length = 6 * b.length := by
  induction b with
  | nil => rfl
  | cons a r ih => simp [refBits6, bitsN_len] at *; omega
theorem refBits_le (b : List UInt8) : ∀ x ∈ refBits b, x ≤ 1 := by
  intro x hx
  obtain ⟨c, _, h⟩ := List.mem_flatMap.1 hx
  exact bitsN_le _ _ x h
theorem refBits6_le (b : List Nat) : ∀ x ∈ refBits6 b, x ≤ 1 := by
  intro x hx
  obtain ⟨c, _, h⟩ := List.mem_flatMap.1 hx
  exact bitsN_le _ _ x h
theorem chop6_append : ∀ (x y : List Nat), x.length % 6 = 0 → chop6 (x ++ y) = chop6 x ++ chop6 y
  | [], y, _ => rfl
  | [_], y, h => by simp at h
  | [_, _], y, h => by simp at h
  | [_, _, _], y, h => by simp at h
  | [_, _, _, _], y, h => by simp at h
  | [_, _, _, _, _], y, h => by simp at h
  | a :: b :: c :: d :: e :: f :: r, y, h => by
    have := chop6_append r y (by simp at h; omega)
    simp [chop6, this]
theorem chop6_one (x : List Nat) (h : x.length = 6) : chop6 x = [numB x] := by
  match x, h with
  | [a, b, c, d, e, f], _ => rfl
theorem chop6_snoc (l : List Nat) (k : Nat) (h : 6 * k + 6 ≤ l.length) : chop6 (l.take (6 * (k + 1))) = chop6 (l.take (6 * k)) ++ [numB ((l.drop (6 * k)).take 6)] := by
  rw [show 6 * (k + 1) = 6 * k + 6 by omega, List.take_add, chop6_append _ _ (by simp; omega), chop6_one ((l.drop (6 * k)).take 6) (by simp; omega)]
theorem chop6_len : ∀ l : List Nat, (chop6 l).length = l.length / 6
  | [] => rfl
  | [_] => by simp [chop6]
  | [_, _] => by simp [chop6]
  | [_, _, _] => by simp [chop6]
  | [_, _, _, _] => by simp [chop6]
  | [_, _, _, _, _] => by simp [chop6]
  | a :: b :: c :: d :: e :: f :: r => by
    have := chop6_len r
    simp [chop6, this]; omega

theorem chop8_step (l : List Nat) (h : 8 ≤ l.length) : chop8 l = UInt8.ofNat (numB (l.take 8)) :: chop8 (l.drop 8) ∧ rest8 l = rest8 (l.drop 8) := by
  match l, h with
  | a :: b :: c :: d :: e :: f :: g :: h :: r, _ => exact ⟨rfl, rfl⟩
theorem chop8_short (l : List Nat) (h : l.length < 8) : chop8 l = [] ∧ rest8 l = l := by
  match l, h with
  | [], _ => exact ⟨rfl, rfl⟩
  | [_], _ => exact ⟨rfl, rfl⟩
  | [_, _], _ => exact ⟨rfl, rfl⟩
  | [_, _, _], _ => exact ⟨rfl, rfl⟩
  | [_, _, _, _], _ => exact ⟨rfl, rfl⟩
  | [_, _, _, _, _], _ => exact ⟨rfl, rfl⟩
  | [_, _, _, _, _, _], _ => exact ⟨rfl, rfl⟩
  | [_, _, _, _, _, _, _], _ => exact ⟨rfl, rfl⟩
theorem chop8_decR : ∀ vs : List Nat, (∀ v ∈ vs, v < 64) → chop8 (refBits6 vs) = (decR vs).1 ∧ numB (rest8 (refBits6 vs)) = (decR vs).2
  | [], _ => ⟨rfl, rfl⟩
  | [v0], h => by
    have h0 : v0 < 64 := h v0 (by simp)
    constructor
    · rfl
    · simp only [refBits6, List.flatMap_cons, List.flatMap_nil, List.append_nil, bitsN, List.cons_append, List.nil_append, rest8, num6, Nat.reducePow, Nat.div_one, decR]
      omega
  | [v0, v1], h => by
    have h0 : v0 < 64 := h v0 (by simp)
    have h1 : v1 < 64 := h v1 (by simp)
    constructor
    · simp only [refBits6, List.flatMap_cons, List.flatMap_nil, List.append_nil, bitsN, List.cons_append, List.nil_append, chop8, num8, Nat.reducePow, Nat.div_one, decR]
      congr 2; omega
    · simp only [refBits6, List.flatMap_cons, List.flatMap_nil, List.append_nil, bitsN, List.cons_append, List.nil_append, rest8, Nat.reducePow, Nat.div_one, decR]
      simp [numB]; omega
  | [v0, v1, v2], h => by
    have h0 : v0 < 64 := h v0 (by simp)
    have h1 : v1 < 64 := h v1 (by simp)
    have h2 : v2 < 64 := h v2 (by simp)
    constructor
    · simp only [refBits6, List.flatMap_cons, List.flatMap_nil, List.append_nil, bitsN, List.cons_append, List.nil_append, chop8, num8, Nat.reducePow, Nat.div_one, decR]
      congr 2
      · omega
      · congr 1; omega
    · simp only [refBits6, List.flatMap_cons, List.flatMap_nil, List.append_nil, bitsN, List.cons_append, List.nil_append, rest8, Nat.reducePow, Nat.div_one, decR]
      simp [numB]; omega
  | v0 :: v1 :: v2 :: v3 :: r, h => by
    have h0 : v0 < 64 := h v0 (by simp)
    have h1 : v1 < 64 := h v1 (by simp)
    have h2 : v2 < 64 := h v2 (by simp)
    have h3 : v3 < 64 := h v3 (by simp)
    obtain ⟨i1, i2⟩ := chop8_decR r fun v hv => h v (by simp [hv])
    have e : refBits6 (v0 :: v1 :: v2 :: v3 :: r) = bitsN v0 6 ++ (bitsN v1 6 ++ (bitsN v2 6 ++ (bitsN v3 6 ++ refBits6 r))) := by simp [refBits6]
    rw [e]
    constructor
    · simp only [bitsN, List.cons_append, List.nil_append, chop8, num8, Nat.reducePow, Nat.div_one, decR, i1]
      congr 1
      · congr 1; omega
      · congr 1
        · congr 1; omega
        · congr 2; omega
    · simp only [bitsN, List.cons_append, List.nil_append, rest8, decR]
      exact i2

/-! ### the program's groups -/
def byt3 : List Nat → List UInt8
  | v0 :: v1 :: v2 :: v3 :: r => UInt8.ofNat (v0 * 4 + v1 / 16) :: UInt8.ofNat (v1 % 16 * 16 + v2 / 4) :: UInt8.ofNat (v2 % 4 * 64 + v3) :: byt3 r
  | _ => []
theorem byt3_len : ∀ l : List Nat, (byt3 l).length = l.length / 4 * 3
  | [] => rfl
  | [_] => by simp [byt3]
  | [_, _] => by simp [byt3]
  | [_, _, _] => by simp [byt3]
  | a :: b :: c :: d :: r => by
    have := byt3_len r
    simp [byt3, this]; omega
theorem ofNat_zero {n : Nat} (h : n < 256) : UInt8.ofNat n = 0 ↔ n = 0 := by
  constructor
  · intro e
    have := congrArg UInt8.toNat e
    rw [ofNat_toNat h] at this
    exact this
  · rintro rfl; rfl
theorem prog_dec : ∀ (vs : List Nat) (p : Nat), (∀ v ∈ vs, v < 64) → p ≤ 2 → (vs.length + p) % 4 = 0 →
    (byt3 (vs ++ List.replicate p 0)).take ((vs.length + p) / 4 * 3 - p) = (decR vs).1 ∧ ((∀ x ∈ (byt3 (vs ++ List.replicate p 0)).drop ((vs.length + p) / 4 * 3 - p), x = 0) ↔ (decR vs).2 = 0)
  | [], p, _, hp, hl => by
    obtain rfl : p = 0 := by simp at hl; omega
    simp [byt3, decR]
  | [v0], p, _, hp, hl => by simp at hl; omega
  | [v0, v1], p, hv, hp, hl => by
    obtain rfl : p = 2 := by simp at hl; omega
    have h1 : v1 < 64 := hv v1 (by simp)
    rw [show ([v0, v1].length + 2) / 4 * 3 - 2 = 1 by simp]
    simp only [List.replicate, List.cons_append, List.nil_append, byt3, decR]
    constructor
    · simp
    · have e : UInt8.ofNat (v1 % 16 * 16 + 0 / 4) = 0 ↔ v1 % 16 = 0 := by rw [ofNat_zero (by omega)]; omega
      rw [← e]
      generalize UInt8.ofNat (v1 % 16 * 16 + 0 / 4) = x
      simp
  | [v0, v1, v2], p, hv, hp, hl => by
    obtain rfl : p = 1 := by simp at hl; omega
    have h2 : v2 < 64 := hv v2 (by simp)
    rw [show ([v0, v1, v2].length + 1) / 4 * 3 - 1 = 2 by simp]
    simp only [List.replicate, List.cons_append, List.nil_append, byt3, decR]
    constructor
    · simp
    · have e : UInt8.ofNat (v2 % 4 * 64 + 0) = 0 ↔ v2 % 4 = 0 := by rw [ofNat_zero (by omega)]; omega
      rw [← e]
      generalize UInt8.ofNat (v2 % 4 * 64 + 0) = x
      simp
  | v0 :: v1 :: v2 :: v3 :: r, p, hv, hp, hl => by
    obtain ⟨i1, i2⟩ := prog_dec r p (fun v hv' => hv v (by simp [hv'])) hp (by simp at hl; omega)
    have e : ((v0 :: v1 :: v2 :: v3 :: r).length + p) / 4 * 3 - p = ((r.length + p) / 4 * 3 - p) + 3 := by
      simp at hl ⊢; omega
    rw [e]
    simp only [List.cons_append, byt3, decR, List.take_succ_cons, List.drop_succ_cons, i1]
    exact ⟨trivial, i2⟩
theorem vals_split (l : List UInt8) : vals l = vals (l.take (cntL l)) ++ List.replicate (padL l) 0 := by
  conv => lhs; rw [padL_split l]
  simp [vals, vl_61]
theorem vals_len (l : List UInt8) : (vals (l.take (cntL l))).length + padL l = l.length := by
  have := padL_le l
  simp [vals, cntL]; omega
/-- What the program's Decode asks of the bytes of all groups. -/
theorem prog_dec64 (l : List UInt8) (h : l.length % 4 = 0) :
    (byt3 (vals l)).take (l.length / 4 * 3 - padL l) = (decR (vals (l.take (cntL l)))).1 ∧ ((∀ x ∈ (byt3 (vals l)).drop (l.length / 4 * 3 - padL l), x = 0) ↔ (decR (vals (l.take (cntL l)))).2 = 0) := by
  have := prog_dec (vals (l.take (cntL l))) (padL l) (vals_lt _) (padL_le l).1 (by rw [vals_len]; exact h)
  rw [vals_len, ← vals_split] at this
  exact this
/-- The text of a group. -/
def grp (a b c n : Nat) : List UInt8 :=
  [dg (a / 4), if 1 ≤ n then dg (a % 4 * 16 + b / 16) else 61, if 2 ≤ n then dg (b % 16 * 4 + c / 64) else 61, if 3 ≤ n then dg (c % 64) else 61]
theorem enc64_take (l : List UInt8) (k : Nat) (h : 3 * k < l.length) : enc64 (l.take (3 * (k + 1))) = enc64 (l.take (3 * k)) ++ enc64 ((l.drop (3 * k)).take 3) := by
  rw [show 3 * (k + 1) = 3 * k + 3 by omega, List.take_add, enc64_append _ _ (by simp; omega)]
theorem enc64_grp (l : List UInt8) (h0 : 0 < l.length) (h1 : l.length ≤ 3) : enc64 l = grp (l.getD 0 0).toNat (l.getD 1 0).toNat (l.getD 2 0).toNat l.length := by
  match l, h0, h1 with
  | [a], _, _ => simp [enc64, grp]
  | [a, b], _, _ => simp [enc64, grp]
  | [a, b, c], _, _ => simp [enc64, grp]
end Go.Proofs.YtkibajlbjldhiaaDoor
