/- GENERAL. append(s[:n:n], ..): bytes behind a slice that is full: a new row, or (nothing appended) the slice itself. -/
import Derived.Test.YtbjfdakanhaagaaGreatDoorBunB
import Derived.Deep.Upon
import Derived.Deep.AppendSrc
namespace Go.Proofs.YtbjfdakanhaagaaGreatDoor
set_option linter.all false
open Go.RowKit

set_option maxRecDepth 100000 in
theorem wp_append_full {tx : TypeId} {o : Oper} {a : Act} {K : Act → World → Prop} {Q : Exit → Act → World → Prop} (s x : Operand)
    (ho : o.op = .call { callee := .builtin .append, args := #[s, x], argTypes := #[22, tx] })
    (W : World) (b off n : Nat) (l : List UInt8) (hs : a.eval s = .slice (some ⟨b, off, none⟩) n n) (hl : BytesIn W (.slice (some ⟨b, off, none⟩) n n) l) (hn : l.length = n)
    (v2 : Value) (m : Nat) (cs : List UInt8) (hx : a.eval x = v2) (hsrc : Src Tryz.prog 1 tx v2 m (byteVals cs) W) (hm : cs.length = m) (h1 : n ≤ 1000000000) (h2 : m ≤ 1000000000)
    (h : ∀ v' w', BytesIn w' v' (l ++ cs) → Below W.heap.size W w' → K (a.put o.dst v') w') : o.wp Tryz.prog a W K Q := by
  obtain ⟨i0, hi, hz0, hz1, hz2⟩ := info_parts Tryz.infoByte
  have hT := Tryz.underlying22
  have hsrc1 : Src Tryz.prog i0.size tx v2 m (byteVals cs) W := by rw [hz1]; exact hsrc
  by_cases h0 : m = 0
  · subst h0
    obtain rfl : cs = [] := List.eq_nil_of_length_eq_zero hm
    have hrun := run_append_nothing (P := Tryz.prog) W 22 tx o.type 5 i0 hT hi (some ⟨b, off, none⟩) n n (Nat.le_refl _) v2 hsrc1
    unfold Oper.wp
    simp [execOp, ho, resolve, invoke, builtin, hs, hx, hrun, Result.andThen]
    exact h _ _ (by simpa using hl) (Below.refl _ _)
  · have hcells : ∀ j u, (byteVals l)[j]? = some u → W.drew.cell? ((⟨b, off, none⟩ : Addr).add j) = some u := fun j u hj => by
      rcases hl with ⟨hz, _⟩ | ⟨b', off', cap, hv, _, _, hc⟩
      · rw [hz] at hj; simp at hj
      · injection hv with e1 e2 e3
        injection e1 with e1
        injection e1 with e1 e4 e5
        subst e1 e4
        rw [Addr.add_lit]
        exact hc j u hj
    have hold := run_firstCells_some (P := Tryz.prog) W.drew i0.size n ⟨b, off, none⟩ n n (byteVals l) (by rw [byteVals_len, hz1, hn]; omega) hcells
    have hg : n < n + m := by omega
    have hrun := run_append_grow_src (P := Tryz.prog) W 22 tx o.type 5 i0 _ hT hi hz0 (some ⟨b, off, none⟩) n n (byteVals l) hold v2 m (byteVals cs) hsrc1 hg (by omega) (growslice_fits hg (by rw [hz2]; omega))
    unfold Oper.wp
    simp only [execOp, ho, resolve, invoke, builtin, Sem.run_bind, Sem.run_pure, Result.andThen_ok, List.map_toArray, List.map_cons, List.map_nil, hs, hx, hrun]
    refine h _ _ ?_ ((Below.refl _ W).drew.alloc (Nat.le_refl _) _)
    have hge := grownCap_ge W (n + m) n 5
    have hcm := grownCap_le_maxLen W (n + m) n 5 (by unfold maxLen; omega)
    unfold maxLen at hcm
    refine .inr ⟨W.heap.size, 0, _, by rw [byteVals_len, List.length_append, hn, hm], by rw [byteVals_len, List.length_append, hn, hm]; exact hge, hcm, fun i u hu => ?_⟩
    rw [Nat.zero_add]
    show (W.drew.alloc _).cell? ⟨W.drew.heap.size, i, none⟩ = _
    rw [World.cell?_alloc_mark]
    have e : byteVals l ++ byteVals cs = byteVals (l ++ cs) := by simp [byteVals]
    rw [e, Array.getElem?_append_left (by have := (List.getElem?_eq_some_iff.1 hu).1; simpa using this)]
    simpa using hu
theorem wpList_append_full {tx : TypeId} {ops : Array Oper} {rest : List Oper} {o : Oper} {a : Act} {Q : Exit → Act → World → Prop} (hgd : o.guard = none) (s x : Operand)
    (ho : o.op = .call { callee := .builtin .append, args := #[s, x], argTypes := #[22, tx] })
    (W : World) (b off n : Nat) (l : List UInt8) (hs : a.eval s = .slice (some ⟨b, off, none⟩) n n) (hl : BytesIn W (.slice (some ⟨b, off, none⟩) n n) l) (hn : l.length = n)
    (v2 : Value) (m : Nat) (cs : List UInt8) (hx : a.eval x = v2) (hsrc : Src Tryz.prog 1 tx v2 m (byteVals cs) W) (hm : cs.length = m) (h1 : n ≤ 1000000000) (h2 : m ≤ 1000000000)
    (h : ∀ v' w', BytesIn w' v' (l ++ cs) → Below W.heap.size W w' → wpList Tryz.prog ops Q rest (a.put o.dst v') w') : wpList Tryz.prog ops Q (o :: rest) a W :=
  wpList_plain hgd fun _ hK => wp_append_full s x ho W b off n l hs hl hn v2 m cs hx hsrc hm h1 h2 fun v' w' g1 g2 => hK _ _ (h v' w' g1 g2)
theorem src_bytes {W : World} {v : Value} {l : List UInt8} (h : BytesIn W v l) : Src Tryz.prog 1 22 v l.length (byteVals l) W := by
  rcases h with ⟨hc, hv | ⟨ad, cap, hv⟩⟩ | ⟨b, off, cap, hv, h3, h4, hcell⟩
  · obtain rfl : l = [] := by simpa [byteVals] using hc
    subst hv
    exact Src.ofNil W Tryz.underlying22 0
  · obtain rfl : l = [] := by simpa [byteVals] using hc
    subst hv
    exact Src.ofSlice W Tryz.underlying22 ad 0 cap [] rfl (fun j u hj => by simp at hj) (fun u hu => by cases hu)
  · subst hv
    rw [byteVals_len]
    exact Src.ofSlice W Tryz.underlying22 ⟨b, off, none⟩ l.length cap (byteVals l) (by rw [byteVals_len, Nat.mul_one]) (fun j u hj => by rw [Addr.add_lit]; exact hcell j u hj) (bytes_one l)
theorem src_text (W : World) (y : ByteArray) : Src Tryz.prog 1 9 (.string y) y.size (byteVals y.data.toList) W := Src.ofString W Tryz.underlying9 y
/-- A slice with something in it has a place. -/
theorem BytesIn.place {W : World} {p : Option Addr} {n c : Nat} {l : List UInt8} (h : BytesIn W (.slice p n c) l) (h0 : 0 < l.length) : ∃ b off, p = some ⟨b, off, none⟩ ∧ n = l.length ∧ n ≤ c := by
  rcases h with ⟨hc, _⟩ | ⟨b, off, cap, hv, h3, _, _⟩
  · have : l = [] := by simpa [byteVals] using hc
    rw [this] at h0; simp at h0
  · injection hv with e1 e2 e3
    rw [byteVals_len] at e2 h3
    exact ⟨b, off, e1, e2, by omega⟩
theorem BytesIn.cut {W : World} {b off n c k : Nat} {l : List UInt8} (h : BytesIn W (.slice (some ⟨b, off, none⟩) n c) l) (hk : k ≤ l.length) : BytesIn W (.slice (some ⟨b, off, none⟩) k k) (l.take k) := by
  rcases h with ⟨hc, _⟩ | ⟨b', off', cap, hv, h3, h4, hcell⟩
  · have : l = [] := by simpa [byteVals] using hc
    subst this
    have : k = 0 := by simpa using hk
    subst this
    exact .inl ⟨by simp [byteVals], .inr ⟨_, 0, rfl⟩⟩
  · injection hv with e1 e2 e3
    injection e1 with e1
    injection e1 with e1 e4 e5
    subst e1 e4
    rw [byteVals_len] at h3
    refine .inr ⟨b, off, k, by rw [byteVals_len, List.length_take]; congr 1; omega, by rw [byteVals_len, List.length_take]; omega, by omega, fun i u hu => hcell i u ?_⟩
    have hi := (List.getElem?_eq_some_iff.1 hu).1
    rw [byteVals_len, List.length_take] at hi
    unfold byteVals at hu ⊢
    rw [List.map_take, List.getElem?_take] at hu
    rw [if_pos (by omega)] at hu
    exact hu
end Go.Proofs.YtbjfdakanhaagaaGreatDoor
