/- Package percent, plain: decoding and encoding of lists of bytes. No run of the program in this text. -/
import Derived.Test.YtomnnlcefjindaaDoorOctC
import Derived.Lib.DecodeN
namespace Go.Proofs.YtomnnlcefjindaaDoor
set_option linter.all false
open Go.RowKit

theorem of_byte {p : UInt8 → Prop} (h : ∀ n : Fin 256, p (UInt8.ofNat n.val)) (c : UInt8) : p c := by
  have := h ⟨c.toNat, c.toNat_lt⟩
  simpa using this

/-- What two digits behind a percent sign mean. -/
def tri (a b : UInt8) : Option UInt8 :=
  match hexV (a.toNat : Int), hexV (b.toNat : Int) with
  | some h, some l => some (UInt8.ofNat (h * 16 + l).toNat)
  | _, _ => none
/-- What is decoded behind n bytes, which gave l. -/
def put (n : Nat) (l : List UInt8) : Except Nat (List UInt8) → Except Nat (List UInt8)
  | .ok x => .ok (l ++ x)
  | .error k => .error (n + k)
theorem put_put (n m : Nat) (l x : List UInt8) (r : Except Nat (List UInt8)) : put n l (put m x r) = put (n + m) (l ++ x) r := by
  cases r <;> simp [put, Nat.add_assoc]
theorem put_zero (r : Except Nat (List UInt8)) : put 0 [] r = r := by cases r <;> simp [put]
/-- The bytes of a text, or the offset of its first wrong percent sign. -/
def dec : List UInt8 → Except Nat (List UInt8)
  | [] => .ok []
  | [c] => if c = 37 then .error 0 else .ok [c]
  | [c, a] => if c = 37 then .error 0 else put 1 [c] (dec [a])
  | c :: a :: b :: r => if c = 37 then (match tri a b with | some x => put 3 [x] (dec r) | none => .error 0) else put 1 [c] (dec (a :: b :: r))
theorem dec_plain {c : UInt8} (h : c ≠ 37) (t : List UInt8) : dec (c :: t) = put 1 [c] (dec t) := by
  rcases t with _ | ⟨a, _ | ⟨b, r⟩⟩ <;> simp [dec, h, put]
theorem dec_tri {a b x : UInt8} (h : tri a b = some x) (r : List UInt8) : dec (37 :: a :: b :: r) = put 3 [x] (dec r) := by
  simp [dec, h]
theorem dec_wrong {a b : UInt8} (h : tri a b = none) (r : List UInt8) : dec (37 :: a :: b :: r) = .error 0 := by
  simp [dec, h]
theorem dec_short {t : List UInt8} (h : t.length < 2) : dec (37 :: t) = .error 0 := by
  rcases t with _ | ⟨a, _ | ⟨b, r⟩⟩
  · simp [dec]
  · simp [dec]
  · simp at h; omega

/-! ### at a place of a text -/
theorem drop_at (s : ByteArray) (k : Nat) (h : k < s.size) : s.data.toList.drop k = s[k] :: s.data.toList.drop (k + 1) := by
  rw [List.drop_eq_getElem_cons (by simpa using h)]; rfl
theorem at_plain (s : ByteArray) (k : Nat) (l : List UInt8) (h : k < s.size) (hc : s[k] ≠ 37) : put (k + 1) (l ++ [s[k]]) (dec (s.data.toList.drop (k + 1))) = put k l (dec (s.data.toList.drop k)) := by
  rw [drop_at s k h, dec_plain hc, put_put]
theorem at_tri (s : ByteArray) (k : Nat) (l : List UInt8) (x : UInt8) (h : k + 2 < s.size) (hc : s[k] = 37) (ht : tri s[k + 1] s[k + 2] = some x) : put (k + 3) (l ++ [x]) (dec (s.data.toList.drop (k + 3))) = put k l (dec (s.data.toList.drop k)) := by
  rw [drop_at s k (by omega), drop_at s (k + 1) (by omega), drop_at s (k + 2) (by omega), hc, dec_tri ht, put_put]
theorem at_wrong (s : ByteArray) (k : Nat) (l : List UInt8) (h : k + 2 < s.size) (hc : s[k] = 37) (ht : tri s[k + 1] s[k + 2] = none) : put k l (dec (s.data.toList.drop k)) = .error k := by
  rw [drop_at s k (by omega), drop_at s (k + 1) (by omega), drop_at s (k + 2) (by omega), hc, dec_wrong ht]; rfl
theorem at_short (s : ByteArray) (k : Nat) (l : List UInt8) (hk : k < s.size) (h : s.size ≤ k + 2) (hc : s[k] = 37) : put k l (dec (s.data.toList.drop k)) = .error k := by
  rw [drop_at s k hk, hc, dec_short (by simp; omega)]; rfl
theorem at_end (s : ByteArray) (k : Nat) (l : List UInt8) (h : s.size ≤ k) : put k l (dec (s.data.toList.drop k)) = .ok l := by
  rw [List.drop_eq_nil_of_le (by simpa using h)]; simp [dec, put]

/-! ### one text behind another -/
theorem dec_append : ∀ (n : Nat) (a : List UInt8) (x b : List UInt8), a.length ≤ n → dec a = .ok x → dec (a ++ b) = put a.length x (dec b)
  | _, [], x, b, _, h => by
    simp [dec] at h; subst h; simp [put_zero]
  | n, c :: t, x, b, hn, h => by
    obtain _ | n := n
    · simp at hn
    by_cases hc : c = 37
    · subst hc
      rcases t with _ | ⟨d, _ | ⟨e, r⟩⟩
      · simp [dec] at h
      · simp [dec] at h
      · cases ht : tri d e with
        | none => rw [dec_wrong ht] at h; cases h
        | some y =>
          rw [dec_tri ht] at h
          cases hr : dec r with
          | error k => rw [hr] at h; cases h
          | ok z =>
            rw [hr] at h
            injection h with h
            subst h
            rw [List.cons_append, List.cons_append, List.cons_append, dec_tri ht, dec_append n r z b (by simp at hn; omega) hr, put_put]
            congr 1; simp; omega
    · rw [dec_plain hc] at h
      cases hr : dec t with
      | error k => rw [hr] at h; cases h
      | ok z =>
        rw [hr] at h
        injection h with h
        subst h
        rw [List.cons_append, dec_plain hc, dec_append n t z b (by simpa using hn) hr, put_put]
        congr 1; simp; omega
theorem dec_none : ∀ (l : List UInt8), memB 37 l = false → dec l = .ok l
  | [], _ => rfl
  | c :: t, h => by
    simp only [memB, List.any_cons, Bool.or_eq_false_iff, decide_eq_false_iff_not] at h
    rw [dec_plain (by rintro rfl; exact h.1 rfl), dec_none t h.2]; rfl

/-! ### encoding -/
def digU (n : Nat) : UInt8 := hexUp.data.toList.getD n 0
def encB (c : UInt8) : List UInt8 := if unresB (c.toNat : Int) then [c] else [37, digU (c.toNat / 16), digU (c.toNat % 16)]
def enc (l : List UInt8) : List UInt8 := l.flatMap encB
def cnt (l : List UInt8) : Nat := l.countP fun b => b == 37
theorem enc_snoc (s : ByteArray) (k : Nat) (h : k < s.size) : enc (s.data.toList.take (k + 1)) = enc (s.data.toList.take k) ++ encB s[k] := by
  rw [take_snoc s k h]; simp [enc]
theorem enc_whole (s : ByteArray) (k : Nat) (h : s.size ≤ k) : enc (s.data.toList.take k) = enc s.data.toList := by
  rw [List.take_of_length_le (by simpa using h)]
theorem encB_yes {c : UInt8} (h : unresB (c.toNat : Int) = true) : encB c = [c] := if_pos h
theorem encB_no {c : UInt8} (h : unresB (c.toNat : Int) = false) : encB c = [37, digU (c.toNat / 16), digU (c.toNat % 16)] := if_neg (by simp [h])
theorem unres_not : ∀ n : Fin 256, unresB ((UInt8.ofNat n.val).toNat : Int) = true → UInt8.ofNat n.val ≠ 37 := by decide +kernel
theorem tri_dig : ∀ n : Fin 256, tri (digU ((UInt8.ofNat n.val).toNat / 16)) (digU ((UInt8.ofNat n.val).toNat % 16)) = some (UInt8.ofNat n.val) := by decide +kernel
theorem encB_len : ∀ n : Fin 256, (encB (UInt8.ofNat n.val)).length = 1 + 2 * cnt (encB (UInt8.ofNat n.val)) := by decide +kernel
theorem encB_all : ∀ n : Fin 256, ((encB (UInt8.ofNat n.val)).all fun b => unresB (b.toNat : Int) || b == 37) = true := by decide +kernel
theorem dec_encB (c : UInt8) (t : List UInt8) : dec (encB c ++ t) = put (encB c).length [c] (dec t) := by
  cases h : unresB (c.toNat : Int)
  · rw [encB_no h]
    exact dec_tri (of_byte (p := fun c => tri (digU (c.toNat / 16)) (digU (c.toNat % 16)) = some c) tri_dig c) t
  · rw [encB_yes h]
    exact dec_plain (of_byte (p := fun c => unresB (c.toNat : Int) = true → c ≠ 37) unres_not c h) t
theorem dec_enc : ∀ l : List UInt8, dec (enc l) = .ok l
  | [] => rfl
  | c :: t => by
    rw [show enc (c :: t) = encB c ++ enc t by simp [enc], dec_encB, dec_enc t]; rfl
theorem enc_len : ∀ l : List UInt8, (enc l).length = l.length + 2 * cnt (enc l)
  | [] => rfl
  | c :: t => by
    rw [show enc (c :: t) = encB c ++ enc t by simp [enc]]
    have h1 := of_byte (p := fun c => (encB c).length = 1 + 2 * cnt (encB c)) encB_len c
    have h2 := enc_len t
    simp only [cnt, List.countP_append, List.length_append, List.length_cons] at *
    omega
theorem encB_le (c : UInt8) : (encB c).length ≤ 3 := by
  unfold encB; split <;> simp
theorem enc_le : ∀ l : List UInt8, (enc l).length ≤ 3 * l.length
  | [] => by simp [enc]
  | c :: t => by
    rw [show enc (c :: t) = encB c ++ enc t by simp [enc]]
    have h1 := encB_le c
    have h2 := enc_le t
    simp only [List.length_append, List.length_cons]; omega
theorem enc_all : ∀ (l : List UInt8), ∀ b ∈ enc l, unresB (b.toNat : Int) = true ∨ b = 37
  | [], b, h => by simp [enc] at h
  | c :: t, b, h => by
    rw [show enc (c :: t) = encB c ++ enc t by simp [enc], List.mem_append] at h
    rcases h with h | h
    · have := List.all_eq_true.1 (of_byte (p := fun c => ((encB c).all fun b => unresB (b.toNat : Int) || b == 37) = true) encB_all c) b h
      simpa using this
    · exact enc_all t b h
theorem encB_pct : (encB 37).length = 3 := by decide +kernel
theorem encB_ge (c : UInt8) : 1 ≤ (encB c).length := by
  unfold encB; split <;> simp
theorem enc_ge : ∀ l : List UInt8, l.length ≤ (enc l).length
  | [] => by simp
  | c :: t => by
    rw [show enc (c :: t) = encB c ++ enc t by simp [enc]]
    have h1 := encB_ge c
    have h2 := enc_ge t
    simp only [List.length_append, List.length_cons]; omega
theorem enc_longer : ∀ l : List UInt8, memB 37 l = true → l.length < (enc l).length
  | [], h => by simp [memB] at h
  | c :: t, h => by
    rw [show enc (c :: t) = encB c ++ enc t by simp [enc]]
    simp only [memB, List.any_cons, Bool.or_eq_true, decide_eq_true_eq] at h
    have h1 := encB_ge c
    have h2 := enc_ge t
    simp only [List.length_append, List.length_cons]
    rcases h with h | h
    · obtain rfl : c = 37 := by
        apply UInt8.toNat_inj.1; show c.toNat = 37; omega
      have := encB_pct; omega
    · have := enc_longer t h; omega

/-! ### percent signs among runes -/
theorem cnt_at (s : ByteArray) (k : Nat) (h : k < s.size) : cnt (s.data.toList.drop k) = (if s[k] = 37 then 1 else 0) + cnt (s.data.toList.drop (k + 1)) := by
  rw [drop_at s k h]
  simp only [cnt, List.countP_cons, beq_iff_eq]
  omega
theorem cnt_end (s : ByteArray) (k : Nat) (h : s.size ≤ k) : cnt (s.data.toList.drop k) = 0 := by
  rw [List.drop_eq_nil_of_le (by simpa using h)]; rfl
theorem get!_at (s : ByteArray) (k : Nat) (h : k < s.size) : s.get! k = s[k] := by
  simp [ByteArray.get!, h]; rfl
theorem rune_bytes (s : ByteArray) (k : Nat) (h : k < s.size) (hb : 128 ≤ (s[k]'h).toNat) : ∀ j, j < (Utf8.decode s k).2 → ∃ hj : k + j < s.size, 128 ≤ (s[k + j]'hj).toNat := by
  rw [Lib.decode_at]
  have h0 := get!_at s k h
  have g' : ∀ j, j < s.size - k → (s.get! (k + j)).toNat / 64 = 2 → ∃ hj : k + j < s.size, 128 ≤ (s[k + j]'hj).toNat := fun j hj h2 => by
    have hj' : k + j < s.size := by omega
    refine ⟨hj', ?_⟩
    rw [get!_at s _ hj'] at h2
    omega
  intro j hj
  rcases j with _ | j
  · exact ⟨h, hb⟩
  · unfold Lib.decodeN at hj
    rw [h0] at hj
    rw [if_neg (by omega)] at hj
    split at hj
    · rename_i hc
      split at hj
      · obtain rfl : j = 0 := by simp at hj; omega
        exact g' 1 hc.2.1 hc.2.2
      · simp at hj
    · split at hj
      · rename_i hc
        split at hj
        · have : j = 0 ∨ j = 1 := by simp at hj; omega
          rcases this with rfl | rfl
          · exact g' 1 hc.2.1.1 hc.2.1.2
          · exact g' 2 hc.2.2.1 hc.2.2.2
        · simp at hj
      · split at hj
        · rename_i hc
          split at hj
          · have : j = 0 ∨ j = 1 ∨ j = 2 := by simp at hj; omega
            rcases this with rfl | rfl | rfl
            · exact g' 1 hc.2.1.1 hc.2.1.2
            · exact g' 2 hc.2.2.1.1 hc.2.2.1.2
            · exact g' 3 hc.2.2.2.1 hc.2.2.2.2
          · simp at hj
        · simp at hj
theorem cnt_skip (s : ByteArray) (k : Nat) : ∀ n, (∀ j, j < n → ∃ hj : k + j < s.size, 128 ≤ (s[k + j]'hj).toNat) → cnt (s.data.toList.drop (k + n)) = cnt (s.data.toList.drop k)
  | 0, _ => rfl
  | n + 1, h => by
    obtain ⟨hj, hb⟩ := h n (by omega)
    rw [← cnt_skip s k n fun j hjn => h j (by omega), cnt_at s (k + n) hj, if_neg (by intro e; rw [e] at hb; revert hb; decide)]
    rw [Nat.zero_add, Nat.add_assoc]
end Go.Proofs.YtomnnlcefjindaaDoor
