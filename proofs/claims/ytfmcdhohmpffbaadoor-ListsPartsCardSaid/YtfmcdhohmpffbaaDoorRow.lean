/- GENERAL. Slices that are read and appended to, side by side; what an append to one leaves of the others (taken out of XB64B, XB64C). -/
import Derived.Test.YtfmcdhohmpffbaaDoorByt
import Derived.Laws.BitsAllLaws
import Derived.Laws.BitsLemmas
import Derived.Deep.RegionLaw
import Derived.BigRegion
import Derived.Laws.AppendOwnNone
import Derived.Deep.QuietTactic
import Derived.BigQuiet
namespace Go.Proofs.YtfmcdhohmpffbaaDoor
set_option linter.all false
open Go.RowKit

theorem i64_and1 (n : Int) : bits .and .i64 n 1 = n % 2 := by
  have h1 : (BitVec.ofInt 64 1).toNat = 2 ^ 1 - 1 := by decide
  have key : (BitVec.ofInt 64 n &&& BitVec.ofInt 64 1).toNat = (n % ((2 ^ 64 : Nat) : Int)).toNat % 2 ^ 1 := by
    rw [BitVec.toNat_and, BitVec.toNat_ofInt, h1, Nat.and_two_pow_sub_one_eq_mod]
  show IntKind.i64.wrap ((BitVec.ofInt 64 n &&& BitVec.ofInt 64 1).toNat : Nat) = n % 2
  rw [key, IntKind.wrap_i64]
  omega
theorem i64_and63 (n : Int) : bits .and .i64 n 63 = n % 64 := by
  have h1 : (BitVec.ofInt 64 63).toNat = 2 ^ 6 - 1 := by decide
  have key : (BitVec.ofInt 64 n &&& BitVec.ofInt 64 63).toNat = (n % ((2 ^ 64 : Nat) : Int)).toNat % 2 ^ 6 := by
    rw [BitVec.toNat_and, BitVec.toNat_ofInt, h1, Nat.and_two_pow_sub_one_eq_mod]
  show IntKind.i64.wrap ((BitVec.ofInt 64 n &&& BitVec.ofInt 64 63).toNat : Nat) = n % 64
  rw [key, IntKind.wrap_i64]
  omega
theorem ofInt_i64 (a : Nat) (ha : a < 18446744073709551616) : (BitVec.ofInt 64 (a : Int)).toNat = a := by
  rw [BitVec.ofInt_natCast, BitVec.toNat_ofNat]; exact Nat.mod_eq_of_lt (by omega)
/-- An 'or' that adds. -/
theorem i64_or_add (q b k : Nat) (hb : b < 2 ^ k) (hs : q * 2 ^ k + b < 9223372036854775808) : bits .or .i64 ((q * 2 ^ k : Nat) : Int) (b : Int) = ((q * 2 ^ k + b : Nat) : Int) := by
  have e : q * 2 ^ k ||| b = q * 2 ^ k + b := by rw [← Nat.shiftLeft_eq, Nat.shiftLeft_add_eq_or_of_lt hb]
  show IntKind.i64.wrap ((BitVec.ofInt 64 ((q * 2 ^ k : Nat) : Int) ||| BitVec.ofInt 64 (b : Int)).toNat : Nat) = _
  rw [BitVec.toNat_or, ofInt_i64 _ (by omega), ofInt_i64 _ (by omega), e, IntKind.wrap_i64]
  omega
/-- A slice that reads as xs. -/
def RowIn (w : World) (v : Value) (xs : List Value) : Prop :=
  (xs = [] ∧ (v = .slice none 0 0 ∨ ∃ ad cap, v = .slice (some ad) 0 cap)) ∨
  ∃ b off cap, v = .slice (some ⟨b, off, none⟩) xs.length cap ∧ xs.length ≤ cap ∧ cap ≤ 9223372036854775807 ∧ ∀ i u, xs[i]? = some u → w.cell? ⟨b, off + i, none⟩ = some u
def BytesIn (w : World) (v : Value) (l : List UInt8) : Prop := RowIn w v (byteVals l)
def intVals (l : List Nat) : List Value := l.map fun (n : Nat) => Value.int .i64 (n : Int)
theorem intVals_len (l : List Nat) : (intVals l).length = l.length := by simp [intVals]
theorem byteVals_len (l : List UInt8) : (byteVals l).length = l.length := by simp [byteVals]
def OwnInts (w : World) (base : Nat) (v : Value) (l : List Nat) : Prop := w.ownsRow base 3 1 v l.length (intVals l)
theorem OwnInts.nil (w : World) (base : Nat) : OwnInts w base (.slice none 0 0) [] := World.ownsRow_nil _ _ _ _
theorem Tryd.infoInt : (Tryd.prog.info? 3).map (fun i => (i.zero, i.size, i.bytes)) = some (some (.int .i64 0), 1, 8) := by kernel_rfl

theorem OwnInts.more {w : World} {base : Nat} {v : Value} {l cs : List Nat} (h : w.ownsRow base 3 1 v (l.length + cs.length) (intVals l ++ intVals cs)) : OwnInts w base v (l ++ cs) := by
  unfold OwnInts
  rw [List.length_append]
  unfold intVals at *
  rw [List.map_append]
  exact h
theorem rowIn_of_own {w : World} {base : Nat} {e : TypeId} {v : Value} {n : Nat} {xs : List Value} (h : w.ownsRow base e 1 v n xs) : RowIn w v xs := by
  have hlen := h.1
  rcases h.2 with ⟨rfl, rfl⟩ | ⟨g, cap, cur, rfl, _, hh, hn, hm, hc, ht⟩
  · exact .inl ⟨List.length_eq_zero_iff.1 (by simpa using hlen), .inl rfl⟩
  · refine .inr ⟨g, 0, cap, by rw [hlen]; simp, by omega, by unfold maxLen at hm; exact hm, fun i u hu => ?_⟩
    have := h.cells (g := g) rfl i u hu
    rw [Addr.add_lit] at this
    exact this
theorem OwnInts.rowIn {w : World} {base : Nat} {v : Value} {l : List Nat} (h : OwnInts w base v l) : RowIn w v (intVals l) := rowIn_of_own h
theorem OwnBytes.bytesIn {w : World} {base : Nat} {v : Value} {l : List UInt8} (h : OwnBytes w base v l) : BytesIn w v l := rowIn_of_own h
/-- Every block of another element type is as it was. -/
def Keeps (E : TypeId) (w w' : World) : Prop := ∀ (k : Nat) cur e fr, w.heap[k]? = some (.cells cur e fr) → e ≠ E → w'.heap[k]? = w.heap[k]?
theorem Keeps.refl (E : TypeId) (w : World) : Keeps E w w := fun _ _ _ _ _ _ => rfl
theorem Keeps.trans {E : TypeId} {a b c : World} (h : Keeps E a b) (k : Keeps E b c) : Keeps E a c := fun i cur e fr hi he => by
  rw [k i cur e fr (by rw [h i cur e fr hi he]; exact hi) he, h i cur e fr hi he]
theorem lt_of_cells {w : World} {b : Nat} {o : Obj} (h : w.heap[b]? = some o) : b < w.heap.size := (Array.getElem?_eq_some_iff.1 h).1
theorem Keeps.alloc {E : TypeId} {a b : World} (h : Keeps E a b) (o : Obj) : Keeps E a (b.alloc o) := fun i cur e fr hi he => by
  have := h i cur e fr hi he
  rw [Below.heap_alloc b o i (lt_of_cells (this.trans hi))]; exact this
theorem Keeps.drew {E : TypeId} {a b : World} (h : Keeps E a b) : Keeps E a b.drew := h
theorem Keeps.below {E : TypeId} {a b c : World} (h : Keeps E a b) (hb : Below b.heap.size b c) : Keeps E a c := fun i cur e fr hi he => by
  have := h i cur e fr hi he
  rw [hb.block i (lt_of_cells (this.trans hi))]; exact this
theorem keeps_of_grown {E : TypeId} {w w' : World} {base size n : Nat} {v : Value} {xs : List Value} (h : w.ownsRow base E size v n xs) (hg : w.grownBy w' v.ownBlock) : Keeps E w w' := fun i cur e fr hi he => by
  refine hg.block i (lt_of_cells hi) ?_
  rcases h.2 with ⟨rfl, _⟩ | ⟨g, cap, cur', rfl, _, hh, _⟩
  · simp [Value.ownBlock]
  · intro e1
    simp only [Value.ownBlock, Option.some.injEq] at e1
    subst e1
    rw [hh] at hi
    injection hi with hi
    injection hi with _ h2 _
    exact he h2.symm
theorem Keeps.own {E e : TypeId} {w w' : World} {base size n : Nat} {v : Value} {xs : List Value} (hk : Keeps E w w') (h : w.ownsRow base e size v n xs) (hne : e ≠ E) : w'.ownsRow base e size v n xs := by
  refine ⟨h.1, ?_⟩
  rcases h.2 with h2 | ⟨g, cap, cur, rfl, hb, hh, r⟩
  · exact .inl h2
  · exact .inr ⟨g, cap, cur, rfl, hb, (hk g cur e (0, 0) hh hne).trans hh, r⟩
theorem RowIn.below {w w' : World} {v : Value} {xs : List Value} (h : RowIn w v xs) (hb : Below w.heap.size w w') : RowIn w' v xs := by
  rcases h with h | ⟨b, off, cap, rfl, h1, h2, h3⟩
  · exact .inl h
  · refine .inr ⟨b, off, cap, rfl, h1, h2, fun i u hu => ?_⟩
    have := h3 i u hu
    rw [hb.cell (World.block_lt_of_cell? w _ this)]; exact this
/-- The value of a slice that reads as xs, and where its cells lie. -/
theorem RowIn.open_ {w : World} {v : Value} {xs : List Value} (h : RowIn w v xs) : ∃ p cap, v = .slice p xs.length cap ∧ ∀ i u, xs[i]? = some u → ∃ b off, p = some ⟨b, off, none⟩ ∧ w.cell? ⟨b, off + i, none⟩ = some u := by
  rcases h with ⟨rfl, rfl | ⟨ad, cap, rfl⟩⟩ | ⟨b, off, cap, rfl, _, _, h3⟩
  · exact ⟨none, 0, rfl, fun i u hu => by simp at hu⟩
  · exact ⟨some ad, cap, rfl, fun i u hu => by simp at hu⟩
  · exact ⟨_, cap, rfl, fun i u hu => ⟨b, off, rfl, h3 i u hu⟩⟩
theorem add_zero' (a : Addr) : a.add 0 = a := rfl
/-- A part of a slice that is read. -/
theorem row_slice {T : TypeId} (hT : Tryd.prog.underlying T = some (.slice (Tryd.prog.elem T))) (hz : ∀ w, (sizeOf (Tryd.prog.elem T)).run Tryd.prog w = .ok 1 w) {w0 : World} {v : Value} {xs : List Value} (h : RowIn w0 v xs) (lo hi : Nat) (h1 : lo ≤ hi) (h2 : hi ≤ xs.length) :
    ∃ x, (∀ w, (Instr.slice T v (some (.int .i64 (lo : Int))) (some (.int .i64 (hi : Int))) none).run Tryd.prog w = .ok x w) ∧ ∀ w, RowIn w v xs → RowIn w x ((xs.drop lo).take (hi - lo)) := by
  rcases h with ⟨rfl, rfl | ⟨ad, cap, rfl⟩⟩ | ⟨b, off, cap, rfl, h3, h4, _⟩
  · obtain rfl : hi = 0 := by simpa using h2
    obtain rfl : lo = 0 := by omega
    refine ⟨.slice none 0 0, fun w => ?_, fun w _ => .inl ⟨by simp, .inl rfl⟩⟩
    rw [run_slice_lh w T none 0 0 hT .i64 .i64 _ _ (by omega) (by omega) (by omega), hz]
    simp [Result.andThen, sliced]
  · obtain rfl : hi = 0 := by simpa using h2
    obtain rfl : lo = 0 := by omega
    refine ⟨.slice (some ad) 0 cap, fun w => ?_, fun w _ => .inl ⟨by simp, .inr ⟨ad, cap, rfl⟩⟩⟩
    rw [run_slice_lh w T (some ad) 0 cap hT .i64 .i64 _ _ (by omega) (by omega) (by omega), hz]
    simp [Result.andThen, sliced]
    intro _; rfl
  · by_cases hc : cap = lo
    · obtain rfl : hi = lo := by omega
      refine ⟨.slice (some ⟨b, off, none⟩) 0 0, fun w => ?_, fun w _ => .inl ⟨by simp, .inr ⟨_, _, rfl⟩⟩⟩
      rw [run_slice_lh w T _ _ cap hT .i64 .i64 _ _ (by omega) (by omega) (by omega), hz]
      simp [Result.andThen, sliced, hc]
    · refine ⟨.slice (some ⟨b, off + lo, none⟩) (hi - lo) (cap - lo), fun w => ?_, fun w hw => ?_⟩
      · rw [run_slice_lh w T _ _ cap hT .i64 .i64 _ _ (by omega) (by omega) (by omega), hz]
        simp [Result.andThen, sliced, hc, Addr.add_lit]
      · rcases hw with ⟨hx, hv⟩ | ⟨b', off', cap', hv, _, _, hcell⟩
        · subst hx
          obtain rfl : hi = 0 := by simpa using h2
          obtain rfl : lo = 0 := by omega
          exact .inl ⟨by simp, .inr ⟨_, _, rfl⟩⟩
        · injection hv with e1 e2 e3
          injection e1 with e1
          injection e1 with e4 e5 e6
          subst e3 e4 e5
          refine .inr ⟨b, off + lo, cap - lo, by simp; omega, by simp; omega, by omega, fun i u hu => ?_⟩
          rw [List.getElem?_take] at hu
          split at hu
          · rw [List.getElem?_drop] at hu
            rw [Nat.add_assoc]
            exact hcell _ u hu
          · cases hu

/-! ### append, whatever is appended -/
theorem wp_append_row {T E : TypeId} {z : Value} {by_ : Nat} (hT : Tryd.prog.underlying T = some (.slice E)) (hinfo : (Tryd.prog.info? E).map (fun i => (i.zero, i.size, i.bytes)) = some (some z, 1, by_)) (hzs : z.cells.size = 1) (hby : by_ ≤ 16)
    {o : Oper} {a : Act} {K : Act → World → Prop} {Q : Exit → Act → World → Prop} (s x : Operand)
    (ho : o.op = .call { callee := .builtin .append, args := #[s, x], argTypes := #[T, T] })
    (B : Nat) (w W : World) (v : Value) (n : Nat) (xs : List Value) (hs : a.eval s = v) (hown : W.ownsRow B E 1 v n xs) (v2 : Value) (news : List Value) (hx : a.eval x = v2) (hsrc : RowIn W v2 news) (h1 : ∀ u ∈ news, u.oneCell' = true)
    (hlen : n + news.length ≤ 1000000000000) (hB : B ≤ W.heap.size) (hbel : Below B w W)
    (h : ∀ v' w', w'.ownsRow B E 1 v' (n + news.length) (xs ++ news) → Below B w w' → Keeps E W w' → K (a.put o.dst v') w') : o.wp Tryd.prog a W K Q := by
  obtain ⟨i0, hi, hz0, hz1, hz2⟩ := info_parts hinfo
  rcases hsrc with ⟨rfl, rfl | ⟨ad, cap, rfl⟩⟩ | ⟨b, off, cap, rfl, h3, h4, hcell⟩
  · have hrun := run_append_owned_none (P := Tryd.prog) (w := W) B T o.type E i0 1 hT hi v n xs hown
    unfold Oper.wp
    simp [execOp, ho, resolve, invoke, builtin, hs, hx, hrun, Result.andThen]
    exact h _ _ (by simpa using hown) hbel (Keeps.refl _ _)
  · exact wp_append_own (P := Tryd.prog) W s x T ho B E i0 z 1 by_ hT hi hz0 hz1 hz2 hzs (by decide) v n xs hs hown ad 0 cap [] hx rfl (by simp) (by simp) (by unfold maxLen; simp at hlen; omega)
      (by have : (n + 0) * by_ ≤ n * 16 := Nat.mul_le_mul (by omega) hby
          simp at hlen; omega) hB fun v' w' g1 g2 _ => h v' w' g1 (hbel.grown g2 hB fun k hk => (World.ownsRow.lt hown k hk).1) (keeps_of_grown hown g2)
  · exact wp_append_own (P := Tryd.prog) W s x T ho B E i0 z 1 by_ hT hi hz0 hz1 hz2 hzs (by decide) v n xs hs hown ⟨b, off, none⟩ news.length cap news hx (by simp) (fun j u hj => by rw [Addr.add_lit]; exact hcell j u hj) h1 (by unfold maxLen; omega)
      (by have : (n + news.length) * by_ ≤ (n + news.length) * 16 := Nat.mul_le_mul (by omega) hby
          omega) hB fun v' w' g1 g2 _ => h v' w' g1 (hbel.grown g2 hB fun k hk => (World.ownsRow.lt hown k hk).1) (keeps_of_grown hown g2)
theorem rowIn_new (w : World) (u : Value) (E : TypeId) : RowIn (w.alloc (.cells #[u] E)) (.slice (some ⟨w.heap.size, 0, none⟩) 1 1) [u] := by
  refine .inr ⟨w.heap.size, 0, 1, rfl, Nat.le_refl _, by omega, fun i x hx => ?_⟩
  match i, hx with
  | 0, hx =>
    simp at hx; subst hx
    simp [World.cell?_alloc_mark]
theorem wanted_plain {o : Oper} {ops : Array Oper} {a : Act} (h : o.guard = none) : Region.wanted o (yielded ops a.tmps) = true := by simp [Region.wanted, h]
theorem bytes_one (l : List UInt8) : ∀ u ∈ byteVals l, u.oneCell' = true := by
  intro u hu
  simp only [byteVals, List.mem_map] at hu
  obtain ⟨b, _, rfl⟩ := hu
  rfl
theorem ints_one (l : List Nat) : ∀ u ∈ intVals l, u.oneCell' = true := by
  intro u hu
  simp only [intVals, List.mem_map] at hu
  obtain ⟨b, _, rfl⟩ := hu
  rfl
/-- Bytes appended: those of another slice. -/
theorem wp_append_bytes {o : Oper} {a : Act} {K : Act → World → Prop} {Q : Exit → Act → World → Prop} (s x : Operand)
    (ho : o.op = .call { callee := .builtin .append, args := #[s, x], argTypes := #[43, 43] })
    (B : Nat) (w W : World) (v : Value) (l : List UInt8) (hs : a.eval s = v) (hown : OwnBytes W B v l) (v2 : Value) (cs : List UInt8) (hx : a.eval x = v2) (hsrc : BytesIn W v2 cs)
    (hl : l.length ≤ 1000000000) (hcs : cs.length ≤ 1000000000) (hB : B ≤ W.heap.size) (hbel : Below B w W)
    (h : ∀ v' w', OwnBytes w' B v' (l ++ cs) → Below B w w' → Keeps 5 W w' → K (a.put o.dst v') w') : o.wp Tryd.prog a W K Q :=
  wp_append_row Tryd.underlying43 Tryd.infoByte rfl (by decide) s x ho B w W v l.length (byteVals l) hs hown v2 (byteVals cs) hx hsrc (bytes_one cs) (by rw [byteVals_len]; omega) hB hbel
    fun v' w' h1 h2 h3 => h v' w' (by
      unfold OwnBytes
      rw [byteVals_len] at h1
      rw [List.length_append]
      unfold byteVals at *
      rw [List.map_append]; exact h1) h2 h3
theorem wpList_append_bytes {ops : Array Oper} {rest : List Oper} {o : Oper} {a : Act} {Q : Exit → Act → World → Prop} (hgd : o.guard = none) (s x : Operand)
    (ho : o.op = .call { callee := .builtin .append, args := #[s, x], argTypes := #[43, 43] })
    (B : Nat) (w W : World) (v : Value) (l : List UInt8) (hs : a.eval s = v) (hown : OwnBytes W B v l) (v2 : Value) (cs : List UInt8) (hx : a.eval x = v2) (hsrc : BytesIn W v2 cs)
    (hl : l.length ≤ 1000000000) (hcs : cs.length ≤ 1000000000) (hB : B ≤ W.heap.size) (hbel : Below B w W)
    (h : ∀ v' w', OwnBytes w' B v' (l ++ cs) → Below B w w' → Keeps 5 W w' → wpList Tryd.prog ops Q rest (a.put o.dst v') w') : wpList Tryd.prog ops Q (o :: rest) a W :=
  wpList_plain hgd fun _ hK => wp_append_bytes s x ho B w W v l hs hown v2 cs hx hsrc hl hcs hB hbel fun v' w' h1 h2 h3 => hK _ _ (h v' w' h1 h2 h3)
/-- As one step of a region that draws its order. -/
theorem step_append_bytesK {ops : Array Oper} {o : Oper} {a : Act} {K : Act → World → Prop} {Q : Exit → Act → World → Prop} {E : Prop} (hgd : o.guard = none) (s x : Operand)
    (ho : o.op = .call { callee := .builtin .append, args := #[s, x], argTypes := #[43, 43] })
    (B : Nat) (w W : World) (v : Value) (l : List UInt8) (hs : a.eval s = v) (hown : OwnBytes W B v l) (v2 : Value) (cs : List UInt8) (hx : a.eval x = v2) (hsrc : BytesIn W v2 cs)
    (hl : l.length ≤ 1000000000) (hcs : cs.length ≤ 1000000000) (hB : B ≤ W.heap.size) (hbel : Below B w W)
    (h : ∀ v' w', OwnBytes w' B v' (l ++ cs) → Below B w w' → Keeps 5 W w' → K (a.put o.dst v') w') : if Region.wanted o (yielded ops a.tmps) = true then Oper.wp Tryd.prog o a W K Q else E := by
  rw [if_pos (wanted_plain hgd)]
  exact wp_append_bytes s x ho B w W v l hs hown v2 cs hx hsrc hl hcs hB hbel h
/-- One byte, out of the new block of one cell. -/
theorem wpList_append_byteK {ops : Array Oper} {rest : List Oper} {o : Oper} {a : Act} {Q : Exit → Act → World → Prop} (hgd : o.guard = none) (s x : Operand)
    (ho : o.op = .call { callee := .builtin .append, args := #[s, x], argTypes := #[43, 43] })
    (B : Nat) (w wr : World) (v : Value) (l : List UInt8) (c : UInt8) (z : Int) (hs : a.eval s = v) (hown : OwnBytes wr B v l) (hx : a.eval x = .slice (some ⟨wr.heap.size, 0, none⟩) 1 1) (hz : z = (c.toNat : Int))
    (hl : l.length ≤ 1000000000) (hB : B ≤ wr.heap.size) (hbel : Below B w wr)
    (h : ∀ v' w', OwnBytes w' B v' (l ++ [c]) → Below B w w' → Keeps 5 wr w' → wpList Tryd.prog ops Q rest (a.put o.dst v') w') : wpList Tryd.prog ops Q (o :: rest) a (wr.alloc (.cells #[.int .u8 z] 5)) := by
  subst hz
  exact wpList_append_bytes hgd s x ho B w _ v l hs (World.ownsRow.alloc hown _) _ [c] hx (rowIn_new wr _ _) hl (by simp) (by simp; omega) (hbel.alloc hB _) fun v' w' h1 h2 h3 => h v' w' h1 h2 (((Keeps.refl _ wr).alloc _).trans h3)

/-! ### parts of a slice, and the type of its block -/
def BlockIs (E : TypeId) (w : World) (v : Value) : Prop := ∀ ad n c, v = .slice (some ad) n c → ∃ cur, w.heap[ad.block]? = some (.cells cur E (0, 0))
theorem BlockIs.keeps {E F : TypeId} {w w' : World} {v : Value} (h : BlockIs E w v) (hk : Keeps F w w') (hne : E ≠ F) : BlockIs E w' v := fun ad n c e => by
  obtain ⟨cur, hc⟩ := h ad n c e
  exact ⟨cur, (hk _ _ _ _ hc hne).trans hc⟩
theorem BlockIs.below {E : TypeId} {w w' : World} {v : Value} (h : BlockIs E w v) (hb : Below w.heap.size w w') : BlockIs E w' v := fun ad n c e => by
  obtain ⟨cur, hc⟩ := h ad n c e
  exact ⟨cur, (hb.block _ (lt_of_cells hc)).trans hc⟩
theorem blockIs_of_own {w : World} {base : Nat} {e : TypeId} {size n : Nat} {v : Value} {xs : List Value} (h : w.ownsRow base e size v n xs) : BlockIs e w v := fun ad m c hv => by
  rcases h.2 with ⟨rfl, _⟩ | ⟨g, cap, cur, rfl, _, hh, _⟩
  · simp at hv
  · injection hv with h1 _ _
    injection h1 with h1
    subst h1
    exact ⟨cur, hh⟩
theorem RowIn.keeps {E F : TypeId} {w w' : World} {v : Value} {xs : List Value} (h : RowIn w v xs) (hB : BlockIs E w v) (hk : Keeps F w w') (hne : E ≠ F) : RowIn w' v xs := by
  rcases h with h | ⟨b, off, cap, rfl, h1, h2, h3⟩
  · exact .inl h
  · obtain ⟨cur, hc⟩ := hB _ _ _ rfl
    refine .inr ⟨b, off, cap, rfl, h1, h2, fun i u hu => ?_⟩
    rw [World.cell?_of_block (w := w) (a := ⟨b, off + i, none⟩) (hk b _ _ _ hc hne)]
    exact h3 i u hu
theorem sliced_row {w : World} {a : Option Addr} {n cap : Nat} {xs : List Value} (h : RowIn w (.slice a n cap) xs) (lo hi : Nat) (h1 : lo ≤ hi) (h2 : hi ≤ xs.length) : RowIn w (sliced a lo hi cap 1) ((xs.drop lo).take (hi - lo)) := by
  rcases h with ⟨rfl, hv⟩ | ⟨b, off, cap', hv, h3, h4, hcell⟩
  · obtain rfl : hi = 0 := by simpa using h2
    obtain rfl : lo = 0 := by omega
    rcases hv with hv | ⟨ad, cap', hv⟩
    · injection hv with e1 e2 e3; subst e1 e2 e3
      exact .inl ⟨by simp, .inl (by simp [sliced])⟩
    · injection hv with e1 e2 e3; subst e1 e2 e3
      refine .inl ⟨by simp, .inr ⟨ad, cap, ?_⟩⟩
      simp [sliced]
      intro _; rfl
  · injection hv with e1 e2 e3
    subst e1 e2 e3
    by_cases hc : cap = lo
    · obtain rfl : hi = lo := by omega
      exact .inl ⟨by simp, .inr ⟨⟨b, off, none⟩, 0, by simp [sliced, hc]⟩⟩
    · refine .inr ⟨b, off + lo, cap - lo, ?_, by simp; omega, by omega, fun i u hu => ?_⟩
      · simp [sliced, hc, Addr.add_lit]; omega
      · rw [List.getElem?_take] at hu
        split at hu
        · rw [List.getElem?_drop] at hu
          rw [Nat.add_assoc]
          exact hcell _ u hu
        · cases hu
theorem sliced_block {E : TypeId} {w : World} {a : Option Addr} {n cap : Nat} (h : BlockIs E w (.slice a n cap)) (lo hi : Nat) : BlockIs E w (sliced a lo hi cap 1) := fun ad m c hv => by
  unfold sliced at hv
  injection hv with h1 _ _
  cases a with
  | none => simp at h1
  | some a0 =>
    obtain ⟨cur, hc⟩ := h a0 n cap rfl
    refine ⟨cur, ?_⟩
    split at h1
    · injection h1 with h1; subst h1; exact hc
    · simp at h1; subst h1
      unfold Addr.add
      split <;> exact hc
theorem slice_lo {T : TypeId} (hT : Tryd.prog.underlying T = some (.slice (Tryd.prog.elem T))) (hz : ∀ w, (sizeOf (Tryd.prog.elem T)).run Tryd.prog w = .ok 1 w) (a : Option Addr) (n cap lo : Nat) (h : lo ≤ n) (w : World) :
    (Instr.slice T (.slice a n cap) (some (.int .i64 (lo : Int))) none none).run Tryd.prog w = .ok (sliced a lo n cap 1) w := by
  rw [run_slice_l w T a n cap hT .i64 _ (by omega) (by omega), hz]; rfl
theorem slice_hi {T : TypeId} (hT : Tryd.prog.underlying T = some (.slice (Tryd.prog.elem T))) (hz : ∀ w, (sizeOf (Tryd.prog.elem T)).run Tryd.prog w = .ok 1 w) (a : Option Addr) (n cap hi : Nat) (h : hi ≤ cap) (w : World) :
    (Instr.slice T (.slice a n cap) none (some (.int .i64 (hi : Int))) none).run Tryd.prog w = .ok (sliced a 0 hi cap 1) w := by
  rw [run_slice_h w T a n cap hT .i64 _ (by omega) (by omega), hz]; rfl
theorem slice_lohi {T : TypeId} (hT : Tryd.prog.underlying T = some (.slice (Tryd.prog.elem T))) (hz : ∀ w, (sizeOf (Tryd.prog.elem T)).run Tryd.prog w = .ok 1 w) (a : Option Addr) (n cap lo hi : Nat) (h0 : lo ≤ hi) (h : hi ≤ cap) (w : World) :
    (Instr.slice T (.slice a n cap) (some (.int .i64 (lo : Int))) (some (.int .i64 (hi : Int))) none).run Tryd.prog w = .ok (sliced a lo hi cap 1) w := by
  rw [run_slice_lh w T a n cap hT .i64 .i64 _ _ (by omega) (by omega) (by omega), hz]; rfl
theorem RowIn.cap {w : World} {a : Option Addr} {n cap : Nat} {xs : List Value} (h : RowIn w (.slice a n cap) xs) : n = xs.length ∧ n ≤ cap := by
  rcases h with ⟨rfl, hv | ⟨ad, cap', hv⟩⟩ | ⟨b, off, cap', hv, h3, h4, hcell⟩
  · injection hv with e1 e2 e3; subst e1 e2 e3; simp
  · injection hv with e1 e2 e3; subst e1 e2 e3; simp
  · injection hv with e1 e2 e3; subst e1 e2 e3; exact ⟨rfl, h3⟩
end Go.Proofs.YtfmcdhohmpffbaaDoor
