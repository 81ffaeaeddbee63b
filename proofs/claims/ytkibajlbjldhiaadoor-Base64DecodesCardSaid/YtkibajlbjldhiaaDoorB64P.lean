/- Package base64, plain: the text of bytes and the bytes of a text, as lists. No run of the program in this text. -/
import Derived.Test.YtkibajlbjldhiaaDoorOctC
namespace Go.Proofs.YtkibajlbjldhiaaDoor
set_option linter.all false
open Go.RowKit

abbrev digs64 : ByteArray := ⟨#[65, 66, 67, 68, 69, 70, 71, 72, 73, 74, 75, 76, 77, 78, 79, 80, 81, 82, 83, 84, 85, 86, 87, 88, 89, 90, 97, 98, 99, 100, 101, 102, 103, 104, 105, 106, 107, 108, 109, 110, 111, 112, 113, 114, 115, 116, 117, 118, 119, 120, 121, 122, 48, 49, 50, 51, 52, 53, 54, 55, 56, 57, 43, 47]⟩
def dg (n : Nat) : UInt8 := digs64.data.toList.getD n 0
/-- The value of a digit. -/
def vl (c : UInt8) : Option Nat :=
  if 65 ≤ c.toNat ∧ c.toNat ≤ 90 then some (c.toNat - 65)
  else if 97 ≤ c.toNat ∧ c.toNat ≤ 122 then some (c.toNat - 71)
  else if 48 ≤ c.toNat ∧ c.toNat ≤ 57 then some (c.toNat + 4)
  else if c.toNat = 43 then some 62 else if c.toNat = 47 then some 63 else none
theorem b64_byte {p : UInt8 → Prop} (h : ∀ n : Fin 256, p (UInt8.ofNat n.val)) (c : UInt8) : p c := by
  have := h ⟨c.toNat, c.toNat_lt⟩
  simpa using this
theorem vl_dg_all : ∀ n : Fin 64, vl (dg n.val) = some n.val := by decide +kernel
theorem vl_dg {n : Nat} (h : n < 64) : vl (dg n) = some n := vl_dg_all ⟨n, h⟩
theorem vl_all : ∀ n : Fin 256, (vl (UInt8.ofNat n.val)).all (fun v => decide (v < 64) && (dg v == UInt8.ofNat n.val)) = true := by decide +kernel
theorem vl_some {c : UInt8} {v : Nat} (h : vl c = some v) : v < 64 ∧ dg v = c := by
  have := b64_byte (p := fun c => (vl c).all (fun v => decide (v < 64) && (dg v == c)) = true) vl_all c
  rw [h] at this
  simpa using this
theorem vl_61 : vl 61 = none := by decide +kernel
theorem dg_ne {n : Nat} (h : n < 64) : dg n ≠ 61 := by
  intro e
  have := vl_dg h
  rw [e, vl_61] at this; cases this
theorem vl_lt (c : UInt8) : (vl c).getD 0 < 64 := by
  cases h : vl c with
  | none => simp
  | some v => exact (vl_some h).1

/-! ### the text of bytes -/
def enc64 : List UInt8 → List UInt8
  | [] => []
  | [a] => [dg (a.toNat / 4), dg (a.toNat % 4 * 16), 61, 61]
  | [a, b] => [dg (a.toNat / 4), dg (a.toNat % 4 * 16 + b.toNat / 16), dg (b.toNat % 16 * 4), 61]
  | a :: b :: c :: r => dg (a.toNat / 4) :: dg (a.toNat % 4 * 16 + b.toNat / 16) :: dg (b.toNat % 16 * 4 + c.toNat / 64) :: dg (c.toNat % 64) :: enc64 r
theorem enc64_append : ∀ (x y : List UInt8), x.length % 3 = 0 → enc64 (x ++ y) = enc64 x ++ enc64 y
  | [], y, _ => rfl
  | [a], y, h => by simp at h
  | [a, b], y, h => by simp at h
  | a :: b :: c :: r, y, h => by
    have := enc64_append r y (by simp at h; omega)
    simp [enc64, this]
theorem enc64_len : ∀ l : List UInt8, (enc64 l).length = (l.length + 2) / 3 * 4
  | [] => rfl
  | [a] => by simp [enc64]
  | [a, b] => by simp [enc64]
  | a :: b :: c :: r => by
    have := enc64_len r
    simp only [enc64, List.length_cons, this]; omega
/-- The digits' values, and how many equals signs follow. -/
def ev : List UInt8 → List Nat
  | [] => []
  | [a] => [a.toNat / 4, a.toNat % 4 * 16]
  | [a, b] => [a.toNat / 4, a.toNat % 4 * 16 + b.toNat / 16, b.toNat % 16 * 4]
  | a :: b :: c :: r => a.toNat / 4 :: (a.toNat % 4 * 16 + b.toNat / 16) :: (b.toNat % 16 * 4 + c.toNat / 64) :: c.toNat % 64 :: ev r
def ep (n : Nat) : Nat := (3 - n % 3) % 3
theorem enc64_ev : ∀ l : List UInt8, enc64 l = (ev l).map dg ++ List.replicate (ep l.length) 61
  | [] => rfl
  | [a] => rfl
  | [a, b] => rfl
  | a :: b :: c :: r => by
    have := enc64_ev r
    have e : ep (a :: b :: c :: r).length = ep r.length := by simp [ep]; omega
    rw [e]
    simp [enc64, ev, this]
theorem ev_lt : ∀ (l : List UInt8), ∀ v ∈ ev l, v < 64
  | [], v, h => by simp [ev] at h
  | [a], v, h => by have := a.toNat_lt; simp [ev] at h; omega
  | [a, b], v, h => by have := a.toNat_lt; have := b.toNat_lt; simp [ev] at h; omega
  | a :: b :: c :: r, v, h => by
    have := a.toNat_lt; have := b.toNat_lt; have := c.toNat_lt
    simp only [ev, List.mem_cons] at h
    rcases h with h | h | h | h | h
    · omega
    · omega
    · omega
    · omega
    · exact ev_lt r v h
theorem ev_len : ∀ l : List UInt8, (ev l).length + ep l.length = (l.length + 2) / 3 * 4 := fun l => by
  have := congrArg List.length (enc64_ev l)
  rw [enc64_len] at this
  simp at this
  omega

/-! ### the bytes of a text -/
def decR : List Nat → List UInt8 × Nat
  | v0 :: v1 :: v2 :: v3 :: r => (UInt8.ofNat (v0 * 4 + v1 / 16) :: UInt8.ofNat (v1 % 16 * 16 + v2 / 4) :: UInt8.ofNat (v2 % 4 * 64 + v3) :: (decR r).1, (decR r).2)
  | [v0, v1, v2] => ([UInt8.ofNat (v0 * 4 + v1 / 16), UInt8.ofNat (v1 % 16 * 16 + v2 / 4)], v2 % 4)
  | [v0, v1] => ([UInt8.ofNat (v0 * 4 + v1 / 16)], v1 % 16)
  | [v0] => ([], v0)
  | [] => ([], 0)
theorem nat_byte {a : UInt8} {n : Nat} (h : n = a.toNat) : UInt8.ofNat n = a := by subst h; simp
theorem decR_ev : ∀ l : List UInt8, decR (ev l) = (l, 0)
  | [] => rfl
  | [a] => by
    have := a.toNat_lt
    simp only [ev, decR]
    rw [nat_byte (a := a) (by omega), show a.toNat % 4 * 16 % 16 = 0 by omega]
  | [a, b] => by
    have := a.toNat_lt; have := b.toNat_lt
    simp only [ev, decR]
    rw [nat_byte (a := a) (by omega), nat_byte (a := b) (by omega), show b.toNat % 16 * 4 % 4 = 0 by omega]
  | a :: b :: c :: r => by
    have := a.toNat_lt; have := b.toNat_lt; have := c.toNat_lt
    simp only [ev, decR]
    rw [nat_byte (a := a) (by omega), nat_byte (a := b) (by omega), nat_byte (a := c) (by omega), decR_ev r]
theorem ofNat_toNat {n : Nat} (h : n < 256) : (UInt8.ofNat n).toNat = n := by
  rw [UInt8.toNat_ofNat']; omega
theorem ev_decR : ∀ (vs : List Nat) (p : Nat), (∀ v ∈ vs, v < 64) → p ≤ 2 → (vs.length + p) % 4 = 0 → (decR vs).2 = 0 → ev (decR vs).1 = vs ∧ ep (decR vs).1.length = p
  | [], p, _, hp, hl, _ => by
    obtain rfl : p = 0 := by simp at hl; omega
    exact ⟨rfl, rfl⟩
  | [v0], p, _, hp, hl, _ => by simp at hl; omega
  | [v0, v1], p, hv, hp, hl, h => by
    obtain rfl : p = 2 := by simp at hl; omega
    have h0 : v0 < 64 := hv v0 (by simp)
    have h1 : v1 < 64 := hv v1 (by simp)
    simp only [decR] at h
    simp only [decR, ev]
    rw [ofNat_toNat (by omega)]
    refine ⟨?_, rfl⟩
    congr 1
    · omega
    · congr 1; omega
  | [v0, v1, v2], p, hv, hp, hl, h => by
    obtain rfl : p = 1 := by simp at hl; omega
    have h0 : v0 < 64 := hv v0 (by simp)
    have h1 : v1 < 64 := hv v1 (by simp)
    have h2 : v2 < 64 := hv v2 (by simp)
    simp only [decR] at h
    simp only [decR, ev]
    rw [ofNat_toNat (by omega), ofNat_toNat (by omega)]
    refine ⟨?_, rfl⟩
    congr 1
    · omega
    · congr 1
      · omega
      · congr 1; omega
  | v0 :: v1 :: v2 :: v3 :: r, p, hv, hp, hl, h => by
    have h0 : v0 < 64 := hv v0 (by simp)
    have h1 : v1 < 64 := hv v1 (by simp)
    have h2 : v2 < 64 := hv v2 (by simp)
    have h3 : v3 < 64 := hv v3 (by simp)
    obtain ⟨i1, i2⟩ := ev_decR r p (fun v hv' => hv v (by simp [hv'])) hp (by simp at hl; omega) (by simpa [decR] using h)
    simp only [decR, ev, i1]
    rw [ofNat_toNat (by omega), ofNat_toNat (by omega), ofNat_toNat (by omega)]
    refine ⟨?_, by simp only [List.length_cons]; rw [← i2]; simp only [ep]; omega⟩
    congr 1
    · omega
    · congr 1
      · omega
      · congr 1
        · omega
        · congr 1; omega

/-- How many equals signs stand at the end, at most 2. -/
def padL (l : List UInt8) : Nat :=
  if 0 < l.length ∧ l[l.length - 1]? = some 61 then (if 1 < l.length ∧ l[l.length - 2]? = some 61 then 2 else 1) else 0
theorem padL_le (l : List UInt8) : padL l ≤ 2 ∧ padL l ≤ l.length := by
  unfold padL
  split
  · split <;> omega
  · omega
/-- The first character that is no digit. -/
def badAt (l : List UInt8) : Option Nat := l.findIdx? fun c => (vl c).isNone
def vals (l : List UInt8) : List Nat := l.map fun c => (vl c).getD 0
def cntL (l : List UInt8) : Nat := l.length - padL l
def dec64 (l : List UInt8) : Except Nat (List UInt8) :=
  if l.length % 4 ≠ 0 then .error l.length else
  match badAt (l.take (cntL l)) with
  | some i => .error i
  | none => if (decR (vals (l.take (cntL l)))).2 = 0 then .ok (decR (vals (l.take (cntL l)))).1 else .error (cntL l - 1)
theorem bad_none {l : List UInt8} : badAt l = none ↔ ∀ c ∈ l, vl c ≠ none := by
  unfold badAt
  rw [List.findIdx?_eq_none_iff]
  simp [Option.isSome_iff_ne_none]
theorem bad_snoc {l : List UInt8} {c : UInt8} (h : badAt l = none) (hc : vl c ≠ none) : badAt (l ++ [c]) = none := by
  rw [bad_none] at *
  intro x hx
  rcases List.mem_append.1 hx with hx | hx
  · exact h x hx
  · simp at hx; subst hx; exact hc
theorem bad_first {l r : List UInt8} {c : UInt8} (h : badAt l = none) (hc : vl c = none) : badAt (l ++ c :: r) = some l.length := by
  unfold badAt at *
  rw [List.findIdx?_append, h]
  simp [List.findIdx?_cons, hc]
theorem padL_of (x : List UInt8) (hx : x = [] ∨ ∃ r c, x = r ++ [c] ∧ c ≠ 61) (p : Nat) (hp : p ≤ 2) : padL (x ++ List.replicate p 61) = p := by
  rcases (show p = 0 ∨ p = 1 ∨ p = 2 by omega) with rfl | rfl | rfl
  · rcases hx with rfl | ⟨r, c, rfl, hc⟩
    · rfl
    · simp [padL, hc]
  · rcases hx with rfl | ⟨r, c, rfl, hc⟩
    · rfl
    · simp [padL, List.replicate, List.getElem?_append, hc]
  · simp [padL, List.replicate, List.getElem?_append]
theorem padL_split (l : List UInt8) : l = l.take (cntL l) ++ List.replicate (padL l) 61 := by
  unfold cntL
  have hsplit := List.take_append_drop (l.length - padL l) l
  conv => lhs; rw [← hsplit]
  congr 1
  have hlen : (l.drop (l.length - padL l)).length = padL l := by have := padL_le l; simp; omega
  apply List.ext_getElem
  · simp; have := padL_le l; omega
  · intro i h1 h2
    simp at h2
    rw [List.getElem_replicate, List.getElem_drop]
    unfold padL at h2
    have hp : padL l = _ := rfl
    unfold padL at hp
    split at h2
    · rename_i hc
      split at h2
      · rename_i hc2
        have hp2 : padL l = 2 := by unfold padL; rw [if_pos hc, if_pos hc2]
        rcases (show i = 0 ∨ i = 1 by omega) with rfl | rfl
        · have := hc2.2
          rw [List.getElem?_eq_getElem (by omega)] at this
          injection this with this
          rw [← this]; congr 1; rw [hp2]; omega
        · have := hc.2
          rw [List.getElem?_eq_getElem (by omega)] at this
          injection this with this
          rw [← this]; congr 1; rw [hp2]; omega
      · rename_i hc2
        have hp2 : padL l = 1 := by unfold padL; rw [if_pos hc, if_neg hc2]
        obtain rfl : i = 0 := by omega
        have := hc.2
        rw [List.getElem?_eq_getElem (by omega)] at this
        injection this with this
        rw [← this]; congr 1; rw [hp2]; omega
    · omega
theorem vals_dg : ∀ {vs : List Nat}, (∀ v ∈ vs, v < 64) → vals (vs.map dg) = vs
  | [], _ => rfl
  | v :: r, h => by
    have := vals_dg (vs := r) fun x hx => h x (by simp [hx])
    simp only [vals, List.map_cons] at *
    rw [vl_dg (h v (by simp)), this]; rfl
theorem dg_vals : ∀ {l : List UInt8}, (∀ c ∈ l, vl c ≠ none) → (vals l).map dg = l
  | [], _ => rfl
  | c :: r, h => by
    have := dg_vals (l := r) fun x hx => h x (by simp [hx])
    simp only [vals, List.map_cons] at *
    rw [this]
    congr 1
    cases hv : vl c with
    | none => exact absurd hv (h c (by simp))
    | some v => exact (vl_some hv).2
theorem vals_lt (l : List UInt8) : ∀ v ∈ vals l, v < 64 := by
  intro v hv
  obtain ⟨c, _, rfl⟩ := List.mem_map.1 hv
  exact vl_lt c
theorem dg_last {vs : List Nat} (h : ∀ v ∈ vs, v < 64) : vs.map dg = [] ∨ ∃ r c, vs.map dg = r ++ [c] ∧ c ≠ 61 := by
  rcases List.eq_nil_or_concat vs with rfl | ⟨r, v, rfl⟩
  · exact .inl rfl
  · exact .inr ⟨r.map dg, dg v, by simp, dg_ne (h v (by simp))⟩
theorem ep_le (n : Nat) : ep n ≤ 2 := by unfold ep; omega
theorem dec_enc64 (b : List UInt8) : dec64 (enc64 b) = .ok b := by
  have hlt := ev_lt b
  have hp : padL (enc64 b) = ep b.length := by rw [enc64_ev]; exact padL_of _ (dg_last hlt) _ (ep_le _)
  have hc : cntL (enc64 b) = (ev b).length := by
    unfold cntL
    rw [hp, enc64_ev]
    simp
  have ht : (enc64 b).take (cntL (enc64 b)) = (ev b).map dg := by
    rw [hc, enc64_ev]
    rw [List.take_append_of_le_length (by simp)]
    exact List.take_of_length_le (by simp)
  have hb : badAt ((ev b).map dg) = none := by
    rw [bad_none]
    intro c hc
    obtain ⟨v, hv, rfl⟩ := List.mem_map.1 hc
    rw [vl_dg (hlt v hv)]; simp
  unfold dec64
  rw [ht, hb, vals_dg hlt, decR_ev, enc64_len]
  simp
theorem enc_dec64 {l b : List UInt8} (h : dec64 l = .ok b) : enc64 b = l := by
  unfold dec64 at h
  split at h
  · cases h
  · rename_i hl
    split at h
    · cases h
    · rename_i hb
      split at h
      · rename_i h0
        injection h with h
        have hpl := padL_le l
        have hvl : (vals (l.take (cntL l))).length = cntL l := by simp [vals, cntL]
        obtain ⟨e1, e2⟩ := ev_decR (vals (l.take (cntL l))) (padL l) (vals_lt _) hpl.1 (by rw [hvl]; unfold cntL; omega) h0
        rw [← h, enc64_ev, e1, e2, dg_vals (bad_none.1 hb)]
        exact (padL_split l).symm
      · cases h
end Go.Proofs.YtkibajlbjldhiaaDoor
