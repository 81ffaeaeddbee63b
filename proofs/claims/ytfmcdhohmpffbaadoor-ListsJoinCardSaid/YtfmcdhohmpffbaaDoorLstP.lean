/- Plain: the parts of a text between its commas, the elements of values, texts joined. -/
import Derived.Lib.Join
import Derived.Lib.IndexLaws
import Derived.Lib.IndexBytes
import Derived.Test.YtfmcdhohmpffbaaDoorFldP
namespace Go.Proofs.YtfmcdhohmpffbaaDoor
set_option linter.all false
open Go.Lib

def mkB (l : List UInt8) : ByteArray := ⟨l.toArray⟩
theorem mkB_data (l : List UInt8) : (mkB l).data.toList = l := by simp [mkB]
theorem mkB_of (s : ByteArray) : mkB s.data.toList = s := by simp [mkB]
/-- The parts between commas. -/
def cutC : List UInt8 → List (List UInt8)
  | [] => [[]]
  | c :: r => if c = 44 then [] :: cutC r else
    match cutC r with
    | [] => [[c]]
    | p :: ps => (c :: p) :: ps
theorem cutC_ne : ∀ l, ∃ p ps, cutC l = p :: ps
  | [] => ⟨[], [], rfl⟩
  | c :: r => by
    obtain ⟨p, ps, h⟩ := cutC_ne r
    by_cases hc : c = 44
    · exact ⟨[], cutC r, by simp [cutC, hc]⟩
    · exact ⟨c :: p, ps, by simp [cutC, hc, h]⟩
theorem cutC_none : ∀ {l : List UInt8}, (44 : UInt8) ∉ l → cutC l = [l]
  | [], _ => rfl
  | c :: r, h => by
    rw [List.mem_cons, not_or] at h
    rw [cutC, if_neg (Ne.symm h.1), cutC_none h.2]
theorem cutC_cat : ∀ (a b : List UInt8), cutC (a ++ 44 :: b) = cutC a ++ cutC b
  | [], b => by simp [cutC]
  | c :: a, b => by
    have ih := cutC_cat a b
    obtain ⟨p, ps, h⟩ := cutC_ne a
    by_cases hc : c = 44
    · simp [cutC, hc, ih]
    · simp [cutC, hc, ih, h]
theorem cutC_first {a b : List UInt8} (h : (44 : UInt8) ∉ a) : cutC (a ++ 44 :: b) = a :: cutC b := by
  rw [cutC_cat, cutC_none h]; rfl
/-- One part's element, or none. -/
def el1 (p : List UInt8) : List (List UInt8) := if trimL p = [] then [] else [trimL p]
def elsL (l : List UInt8) : List (List UInt8) := (cutC l).flatMap el1
theorem elsL_cat (a b : List UInt8) : elsL (a ++ 44 :: b) = elsL a ++ elsL b := by simp [elsL, cutC_cat]
theorem el1_nil : el1 [] = [] := by decide
theorem elsL_nil : elsL [] = [] := by simp [elsL, cutC, el1_nil]
theorem trim_blank {c : UInt8} (hc : blank c = true) (l : List UInt8) : trimL (c :: l) = trimL l := by
  have := trim_more (p := [c]) (q := []) (by simpa using hc) (by simp) l
  simpa using this
theorem el1_blank {c : UInt8} (hc : blank c = true) (l : List UInt8) : el1 (c :: l) = el1 l := by simp [el1, trim_blank hc]
theorem elsL_blank {c : UInt8} (hc : blank c = true) (l : List UInt8) : elsL (c :: l) = elsL l := by
  have hn : ¬ c = 44 := fun h => by subst h; revert hc; decide
  obtain ⟨p, ps, h⟩ := cutC_ne l
  simp [elsL, cutC, hn, h, el1_blank hc]
/-! ### As texts -/
def partsB (s : ByteArray) : List ByteArray := (cutC s.data.toList).map mkB
def el1B (p : ByteArray) : List ByteArray := if trimS p = ByteArray.empty then [] else [trimS p]
def elsB (s : ByteArray) : List ByteArray := (partsB s).flatMap el1B
def elsA (L : List ByteArray) : List ByteArray := L.flatMap elsB
theorem empty_data : (ByteArray.empty).data.toList = [] := rfl
theorem mkB_nil : mkB [] = ByteArray.empty := rfl
theorem el1B_mk (p : List UInt8) : el1B (mkB p) = (el1 p).map mkB := by
  unfold el1B el1 trimS
  rw [mkB_data]
  by_cases h : trimL p = []
  · rw [if_pos h, if_pos (by rw [h]; rfl)]; rfl
  · have hn : ¬ (⟨(trimL p).toArray⟩ : ByteArray) = ByteArray.empty := fun e => h (text_inj.1 (show (⟨(trimL p).toArray⟩ : ByteArray) = ⟨([] : List UInt8).toArray⟩ from e))
    rw [if_neg h, if_neg hn]; rfl
theorem elsB_map (s : ByteArray) : elsB s = (elsL s.data.toList).map mkB := by
  unfold elsB partsB elsL
  rw [List.flatMap_map, List.map_flatMap]
  congr 1; funext p
  exact el1B_mk p
theorem partsB_none {s : ByteArray} (h : (44 : UInt8) ∉ s.data.toList) : partsB s = [s] := by
  simp [partsB, cutC_none h, mkB_of]
theorem partsB_first {s : ByteArray} {a b : List UInt8} (hs : s.data.toList = a ++ 44 :: b) (h : (44 : UInt8) ∉ a) : partsB s = mkB a :: partsB (mkB b) := by
  simp [partsB, hs, cutC_first h, mkB_data]
theorem elsA_append (a b : List ByteArray) : elsA (a ++ b) = elsA a ++ elsA b := by simp [elsA]
theorem elsA_snoc (a : List ByteArray) (x : ByteArray) : elsA (a ++ [x]) = elsA a ++ elsB x := by simp [elsA]
theorem elsA_take_snoc (L : List ByteArray) (k : Nat) (h : k < L.length) : elsA (L.take (k + 1)) = elsA (L.take k) ++ elsB L[k] := by
  rw [List.take_succ_eq_append_getElem h, elsA_snoc]
theorem elsA_split (L : List ByteArray) (k : Nat) (h : k < L.length) : elsA L = elsA (L.take k) ++ elsB L[k] ++ elsA (L.drop (k + 1)) := by
  conv => lhs; rw [← List.take_append_drop (k + 1) L]
  rw [elsA_append, elsA_take_snoc L k h]
theorem cutC_len : ∀ (l : List UInt8), ∀ p ∈ cutC l, p.length ≤ l.length
  | [], p, h => by simp [cutC] at h; subst h; simp
  | c :: r, p, h => by
    obtain ⟨q, qs, hq⟩ := cutC_ne r
    by_cases hc : c = 44
    · rw [cutC, if_pos hc, List.mem_cons] at h
      rcases h with rfl | h
      · simp
      · have := cutC_len r p h; simp; omega
    · rw [cutC, if_neg hc, hq, List.mem_cons] at h
      rcases h with rfl | h
      · have := cutC_len r q (by rw [hq]; simp); simp; omega
      · have := cutC_len r p (by rw [hq]; exact List.mem_cons_of_mem _ h); simp; omega
theorem partsB_size {s p : ByteArray} (h : p ∈ partsB s) : p.size ≤ s.size := by
  unfold partsB at h
  obtain ⟨l, hl, rfl⟩ := List.mem_map.1 h
  rw [size_eq, size_eq, mkB_data]
  exact cutC_len _ l hl
theorem el1B_some {p : ByteArray} (h : ¬ trimS p = ByteArray.empty) : el1B p = [trimS p] := if_neg h
theorem el1B_none {p : ByteArray} (h : trimS p = ByteArray.empty) : el1B p = [] := if_pos h
def toksA (L : List ByteArray) : List ByteArray := if (elsA L).all tokS = true then (elsA L).map lowS else []
def toksOk (L : List ByteArray) : Bool := (elsA L).all tokS && !(elsA L).isEmpty
def hasA (t : ByteArray) (L : List ByteArray) : Bool := (elsA L).any fun e => decide (lowS e = lowS t)
theorem elsB_size {s p : ByteArray} (h : p ∈ elsB s) : p.size ≤ s.size := by
  unfold elsB at h
  obtain ⟨q, hq, hp⟩ := List.mem_flatMap.1 h
  have h1 := partsB_size hq
  have h2 : p.size ≤ q.size := by
    unfold el1B at hp
    split at hp
    · cases hp
    · rw [List.mem_singleton] at hp
      subst hp
      rw [size_eq, size_eq]
      simpa [trimS] using trim_len q.data.toList
  omega
theorem elsA_size {L : List ByteArray} {m : Nat} (hL : ∀ s ∈ L, s.size ≤ m) {p : ByteArray} (h : p ∈ elsA L) : p.size ≤ m := by
  obtain ⟨s, hs, hp⟩ := List.mem_flatMap.1 h
  exact Nat.le_trans (elsB_size hp) (hL s hs)
theorem toks_all {L : List ByteArray} (h : (elsA L).all tokS = true) : toksA L = (elsA L).map lowS ∧ toksOk L = decide (0 < (elsA L).length) := by
  unfold toksA toksOk
  rw [if_pos h, h]
  refine ⟨rfl, ?_⟩
  cases elsA L <;> simp
theorem toks_not {L : List ByteArray} (h : (elsA L).all tokS = false) : toksA L = [] ∧ toksOk L = false := by
  unfold toksA toksOk
  rw [if_neg (by rw [h]; decide), h]
  exact ⟨rfl, rfl⟩
/-! ### strings.Index at a comma -/
theorem idx_none {s : ByteArray} (h : indexByte s.data.toList 44 < 0) : (44 : UInt8) ∉ s.data.toList := by
  have h1 : indexByte s.data.toList 44 = -1 := by have := indexByte_ge s.data.toList 44; omega
  intro hm
  obtain ⟨k, hk⟩ := List.getElem?_of_mem hm
  exact indexByte_none h1 k hk
theorem idx_some {s : ByteArray} {o : Nat} (h : indexByte s.data.toList 44 = o) : s.data.toList = s.data.toList.take o ++ 44 :: s.data.toList.drop (o + 1) ∧ (44 : UInt8) ∉ s.data.toList.take o ∧ o < s.size := by
  obtain ⟨h1, h2⟩ := indexByte_some h
  obtain ⟨hlt, he⟩ := List.getElem?_eq_some_iff.1 h1
  refine ⟨?_, ?_, by rw [size_eq]; exact hlt⟩
  · conv => lhs; rw [← List.take_append_drop o s.data.toList, List.drop_eq_getElem_cons hlt, he]
  · intro hm
    obtain ⟨k, hk⟩ := List.getElem?_of_mem hm
    have hko : k < o := by
      have := (List.getElem?_eq_some_iff.1 hk).1
      rw [List.length_take] at this; omega
    rw [List.getElem?_take, if_pos hko] at hk
    exact h2 k hko hk
/-! ### Joined texts -/
def joinB (L : List ByteArray) : ByteArray := mkB (join (L.map (·.data.toList)) [44, 32])
theorem elsL_tail : ∀ (r : List (List UInt8)) (x : List UInt8), elsL (x ++ joinTail [44, 32] r) = elsL x ++ r.flatMap elsL
  | [], x => by simp [joinTail]
  | y :: r, x => by
    have h : x ++ joinTail [44, 32] (y :: r) = x ++ 44 :: (32 :: (y ++ joinTail [44, 32] r)) := by simp [joinTail]
    rw [h, elsL_cat, elsL_blank (by decide), elsL_tail r y]; simp
theorem elsB_join (L : List ByteArray) : elsB (joinB L) = elsA L := by
  rw [elsB_map, joinB, mkB_data]
  cases L with
  | nil => simp [elsA, join_nil, elsL_nil]
  | cons x r =>
    rw [List.map_cons, join_cons, elsL_tail]
    have : elsB = fun s => (elsL s.data.toList).map mkB := funext elsB_map
    simp only [elsA, List.flatMap_cons, List.map_append, this, List.flatMap_map, List.map_flatMap]
theorem tok_el {t : ByteArray} (h : tokS t = true) : elsB t = [t] := by
  unfold tokS at h
  rw [Bool.and_eq_true, decide_eq_true_eq] at h
  have hmem : ∀ b ∈ t.data.toList, b ≠ 44 ∧ blank b = false := fun b hb => by
    have := allB_mem h.2 b hb
    constructor
    · intro e; subst e; revert this; decide
    · have hb := b.toNat_lt
      have key : ∀ n : Fin 256, tokenB (n.val : Int) = true → blank (UInt8.ofNat n.val) = false := by decide +kernel
      have := key ⟨b.toNat, hb⟩ this
      simpa using this
  have htr : trimL t.data.toList = t.data.toList := by
    have hne : t.data.toList ≠ [] := fun e => by have := h.1; rw [size_eq, e] at this; simp at this
    have := trim_of (p := []) (m := t.data.toList) (q := []) (by simp) (by simp)
      (.inr (by obtain ⟨a, r, e⟩ := List.exists_cons_of_ne_nil hne; exact ⟨a, r, e, (hmem a (by rw [e]; simp)).2⟩))
      (.inr ⟨t.data.toList.dropLast, t.data.toList.getLast hne, (List.dropLast_concat_getLast hne).symm, (hmem _ (List.getLast_mem hne)).2⟩)
    simpa using this
  have hne : t.data.toList ≠ [] := fun e => by have := h.1; rw [size_eq, e] at this; simp at this
  rw [elsB_map, elsL, cutC_none (fun hm => (hmem _ hm).1 rfl)]
  simp [el1, htr, hne, mkB_of]
theorem toks_els : ∀ {L : List ByteArray}, (∀ t ∈ L, tokS t = true) → elsA L = L
  | [], _ => rfl
  | x :: L, h => by
    have := toks_els (L := L) fun t ht => h t (List.mem_cons_of_mem _ ht)
    rw [show elsA (x :: L) = elsB x ++ elsA L from rfl, this, tok_el (h x (by simp))]; rfl
/-! ### Lower case -/
theorem low_comma : ∀ n : Fin 256, (lowU (UInt8.ofNat n.val) = 44 ↔ UInt8.ofNat n.val = 44) := by decide +kernel
theorem low_blank : ∀ n : Fin 256, blank (lowU (UInt8.ofNat n.val)) = blank (UInt8.ofNat n.val) := by decide +kernel
theorem cutC_low : ∀ l : List UInt8, cutC (l.map lowU) = (cutC l).map (·.map lowU)
  | [] => rfl
  | c :: r => by
    have ih := cutC_low r
    obtain ⟨p, ps, h⟩ := cutC_ne r
    have hc := low_comma ⟨c.toNat, c.toNat_lt⟩
    simp only [UInt8.ofNat_toNat] at hc
    by_cases h4 : c = 44
    · rw [List.map_cons, cutC, if_pos (hc.2 h4), cutC, if_pos h4, ih]; rfl
    · rw [List.map_cons, cutC, if_neg (fun e => h4 (hc.1 e)), cutC, if_neg h4, ih, h]; rfl
theorem el1_low (p : List UInt8) : el1 (p.map lowU) = (el1 p).map (·.map lowU) := by
  unfold el1
  rw [trim_map (fun b => by have := low_blank ⟨b.toNat, b.toNat_lt⟩; simpa using this)]
  by_cases h : trimL p = []
  · rw [if_pos h, if_pos (by rw [h]; rfl)]; rfl
  · rw [if_neg h, if_neg (by simpa using h)]; rfl
theorem elsL_low (l : List UInt8) : elsL (l.map lowU) = (elsL l).map (·.map lowU) := by
  unfold elsL
  rw [cutC_low, List.flatMap_map, List.map_flatMap]
  exact congrArg (fun f => (cutC l).flatMap f) (funext el1_low)
theorem elsB_low (s : ByteArray) : elsB (lowS s) = (elsB s).map lowS := by
  rw [elsB_map, elsB_map]
  have : (lowS s).data.toList = s.data.toList.map lowU := by simp [lowS]
  rw [this, elsL_low, List.map_map, List.map_map]
  refine List.map_congr_left fun p _ => ?_
  simp [mkB, lowS]
theorem elsA_low (L : List ByteArray) : elsA (L.map lowS) = (elsA L).map lowS := by
  unfold elsA
  rw [List.flatMap_map, List.map_flatMap]
  exact congrArg (fun f => L.flatMap f) (funext elsB_low)
/-! ### Tokens, words -/
theorem toksA_low (L : List ByteArray) : toksA (L.map lowS) = toksA L := by
  unfold toksA
  rw [elsA_low, List.all_map]
  have : (tokS ∘ lowS) = tokS := by funext e; exact tokS_low e
  rw [this, List.map_map]
  have : (lowS ∘ lowS) = lowS := by funext e; exact lowS_low e
  rw [this]
theorem toksOk_low (L : List ByteArray) : toksOk (L.map lowS) = toksOk L := by
  unfold toksOk
  rw [elsA_low, List.all_map]
  have : (tokS ∘ lowS) = tokS := by funext e; exact tokS_low e
  rw [this, List.isEmpty_map]
theorem hasA_word (t : ByteArray) (L : List ByteArray) : hasA (lowS t) L = hasA t L := by unfold hasA; rw [lowS_low]
theorem hasA_low (t : ByteArray) (L : List ByteArray) : hasA t (L.map lowS) = hasA t L := by
  unfold hasA
  rw [elsA_low, List.any_map]
  congr 1; funext e
  simp [lowS_low]
/-! ### One word more -/
theorem els_once {t : ByteArray} (hc : (44 : UInt8) ∉ t.data.toList) (hn : trimS t ≠ ByteArray.empty) : elsB (mkB (32 :: t.data.toList ++ [9, 44])) = [trimS t] := by
  rw [elsB_map, mkB_data]
  have e : (32 :: t.data.toList ++ [9, 44]) = 32 :: (t.data.toList ++ [9]) ++ 44 :: [] := by simp
  have hne : trimL t.data.toList ≠ [] := fun h => hn (by unfold trimS; rw [h]; rfl)
  rw [e, List.cons_append, elsL_blank (by decide), elsL_cat, elsL_nil, List.append_nil]
  have h9 : (44 : UInt8) ∉ t.data.toList ++ [9] := by
    rw [List.mem_append, not_or]; exact ⟨hc, by decide⟩
  have htr : trimL (t.data.toList ++ [9]) = trimL t.data.toList := by
    have := trim_more (p := []) (q := [9]) (by simp) (by simp; decide) t.data.toList
    simpa using this
  rw [elsL, cutC_none h9]
  simp only [List.flatMap_cons, List.flatMap_nil, List.append_nil, el1, htr, if_neg hne, List.map_cons, List.map_nil]
  rfl
/-! ### As the reference goes -/
def refGo : List UInt8 → List UInt8 → List (List UInt8)
  | _, [] => []
  | part, c :: r => if c = 44 then el1 part ++ refGo [] r else refGo (part ++ [c]) r
theorem refGo_cut : ∀ (r part p : List UInt8) (ps : List (List UInt8)), cutC r = p :: ps → refGo part (r ++ [44]) = (((part ++ p) :: ps).flatMap el1)
  | [], part, p, ps, h => by
    simp only [cutC, List.cons.injEq] at h
    obtain ⟨rfl, rfl⟩ := h
    simp [refGo]
  | c :: r, part, p, ps, h => by
    obtain ⟨q, qs, hq⟩ := cutC_ne r
    by_cases hc : c = 44
    · rw [cutC, if_pos hc] at h
      simp only [List.cons.injEq] at h
      obtain ⟨rfl, rfl⟩ := h
      rw [List.cons_append, refGo, if_pos hc, refGo_cut r [] q qs hq, hq]
      simp
    · rw [cutC, if_neg hc, hq] at h
      simp only [List.cons.injEq] at h
      obtain ⟨rfl, rfl⟩ := h
      rw [List.cons_append, refGo, if_neg hc, refGo_cut r (part ++ [c]) q qs hq]
      simp
theorem refGo_els (l : List UInt8) : refGo [] (l ++ [44]) = elsL l := by
  obtain ⟨p, ps, h⟩ := cutC_ne l
  rw [refGo_cut l [] p ps h, elsL, h]; rfl
end Go.Proofs.YtfmcdhohmpffbaaDoor
