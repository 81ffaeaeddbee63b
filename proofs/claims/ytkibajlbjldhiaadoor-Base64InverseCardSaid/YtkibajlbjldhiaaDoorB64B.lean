/- The reference of package base64: lists of bits (bits, number); slices that are read; integers appended. -/
import Derived.Test.YtkibajlbjldhiaaDoorB64A
import Derived.Laws.BitsAllLaws
import Derived.Laws.BitsLemmas
namespace Go.Proofs.YtkibajlbjldhiaaDoor
set_option linter.all false
open Go.RowKit

theorem i64_and1 (n : Int) : bits .and .i64 n 1 = n % 2 := by
  have h1 : (BitVec.ofInt 64 1).toNat = 2 ^ 1 - 1 := by decide
  have key : (BitVec.ofInt 64 n &&& BitVec.ofInt 64 1).toNat = (n % ((2 ^ 64 : Nat) : Int)).toNat % 2 ^ 1 := by
    rw [BitVec.toNat_and, BitVec.toNat_ofInt, h1, Nat.and_two_pow_sub_one_eq_mod]
  show IntKind.i64.wrap ((BitVec.ofInt 64 n &&& BitVec.ofInt 64 1).toNat : Nat) = n % 2
  rw [key, IntKind.wrap_i64]
  omega
theorem i64_and63 (n : Int) : bits .and .i64 n 63 = n % 64 := by
  have h1 : (BitVec.ofInt 64 63).toNat = 2 ^ 6 - 1 := by decide
  have key : (BitVec.ofInt 64 n &&& BitVec.ofInt 64 63).toNat = (n % ((2 ^ 64 : Nat) : Int)).toNat % 2 ^ 6 := by
    rw [BitVec.toNat_and, BitVec.toNat_ofInt, h1, Nat.and_two_pow_sub_one_eq_mod]
  show IntKind.i64.wrap ((BitVec.ofInt 64 n &&& BitVec.ofInt 64 63).toNat : Nat) = n % 64
  rw [key, IntKind.wrap_i64]
  omega
theorem ofInt_i64 (a : Nat) (ha : a < 18446744073709551616) : (BitVec.ofInt 64 (a : Int)).toNat = a := by
  rw [BitVec.ofInt_natCast, BitVec.toNat_ofNat]; exact Nat.mod_eq_of_lt (by omega)
/-- An 'or' that adds. -/
theorem i64_or_add (q b k : Nat) (hb : b < 2 ^ k) (hs : q * 2 ^ k + b < 9223372036854775808) : bits .or .i64 ((q * 2 ^ k : Nat) : Int) (b : Int) = ((q * 2 ^ k + b : Nat) : Int) := by
  have e : q * 2 ^ k ||| b = q * 2 ^ k + b := by rw [← Nat.shiftLeft_eq, Nat.shiftLeft_add_eq_or_of_lt hb]
  show IntKind.i64.wrap ((BitVec.ofInt 64 ((q * 2 ^ k : Nat) : Int) ||| BitVec.ofInt 64 (b : Int)).toNat : Nat) = _
  rw [BitVec.toNat_or, ofInt_i64 _ (by omega), ofInt_i64 _ (by omega), e, IntKind.wrap_i64]
  omega
/-- A slice that reads as xs. -/
def RowIn (w : World) (v : Value) (xs : List Value) : Prop :=
  (xs = [] ∧ (v = .slice none 0 0 ∨ ∃ ad cap, v = .slice (some ad) 0 cap)) ∨
  ∃ b off cap, v = .slice (some ⟨b, off, none⟩) xs.length cap ∧ xs.length ≤ cap ∧ cap ≤ 9223372036854775807 ∧ ∀ i u, xs[i]? = some u → w.cell? ⟨b, off + i, none⟩ = some u
def BytesIn (w : World) (v : Value) (l : List UInt8) : Prop := RowIn w v (byteVals l)
def intVals (l : List Nat) : List Value := l.map fun (n : Nat) => Value.int .i64 (n : Int)
theorem intVals_len (l : List Nat) : (intVals l).length = l.length := by simp [intVals]
theorem byteVals_len (l : List UInt8) : (byteVals l).length = l.length := by simp [byteVals]
def OwnInts (w : World) (base : Nat) (v : Value) (l : List Nat) : Prop := w.ownsRow base 3 1 v l.length (intVals l)
theorem OwnInts.nil (w : World) (base : Nat) : OwnInts w base (.slice none 0 0) [] := World.ownsRow_nil _ _ _ _
theorem Tryd.infoInt : (Tryd.prog.info? 3).map (fun i => (i.zero, i.size, i.bytes)) = some (some (.int .i64 0), 1, 8) := by kernel_rfl

set_option maxRecDepth 100000 in
theorem number_any (v : Value) (l : List Nat) (w : World) (hv : RowIn w v (intVals l)) (hl : l.length ≤ 8) (hb : ∀ x ∈ l, x ≤ 1) : Calls Tryd.prog 21 #[v] w (SaysNat (numB l) w) := by
  rcases hv with ⟨h0, hv⟩ | ⟨b, off, cap, rfl, hc, hm, hcell⟩
  · obtain rfl : l = [] := by simpa [intVals] using h0
    rcases hv with rfl | ⟨ad, cap, rfl⟩
    all_goals
      go_enter Tryd.func21, Tryd.ntmps21
      go_wp2
      refine wp_loop_rounds 1 ?_
      rw [rounds_succ]
      go_wp2
      go_ret
      exact saysNat_of w rfl
  · have Hb := Lib.hid hb
    have Hcell := Lib.hid hcell
    clear hb hcell
    rw [intVals_len] at *
    go_enter Tryd.func21, Tryd.ntmps21
    go_wp2
    go_loop [3, 4] (fun n i => ∃ (k m : Nat), k ≤ l.length ∧ i = .int .i64 k ∧ n = .int .i64 m ∧ m ≤ 255 ∧ Hid (m = numB (l.take k))) (fun _ i => l.length - (intOf i).toNat)
    case atStart => exact ⟨0, 0, Nat.zero_le _, rfl, rfl, by omega, rfl⟩
    case round =>
      obtain ⟨k, m, hk, rfl, rfl, hm255, Hm⟩ := hrel
      by_cases hlt : k < l.length
      · have g := Hcell.out k (.int .i64 (l[k] : Int)) (by simp [intVals, hlt])
        have h1 : l[k] ≤ 1 := Hb.out _ (List.getElem_mem hlt)
        have Hn := Lib.hid (show 2 * m + l[k] = numB (l.take (k + 1)) by rw [List.take_succ_eq_append_getElem hlt, numB_snoc, Hm.out])
        have hle : 2 * m + l[k] ≤ 255 := by
          rw [Hn.out]
          have h8 := numB_lt (l.take (k + 1)) fun x hx => Hb.out x (List.mem_of_mem_take hx)
          have : 2 ^ (l.take (k + 1)).length ≤ 2 ^ 8 := Nat.pow_le_pow_right (by omega) (by simp; omega)
          omega
        go_wp2
        go_round
        case rel => exact ⟨k + 1, 2 * m + l[k], by omega, by go_num, by go_num, hle, Hn.out⟩
        case measure => simp [intOf]; omega
      · go_wp2
        go_ret
        exact saysNat_of w (by rw [Hm.out, List.take_of_length_le (by omega)])
theorem OwnInts.more {w : World} {base : Nat} {v : Value} {l cs : List Nat} (h : w.ownsRow base 3 1 v (l.length + cs.length) (intVals l ++ intVals cs)) : OwnInts w base v (l ++ cs) := by
  unfold OwnInts
  rw [List.length_append]
  unfold intVals at *
  rw [List.map_append]
  exact h
/-- Integers appended: one, out of the new block of one cell. -/
theorem wpList_append_int {ops : Array Oper} {rest : List Oper} {o : Oper} {a : Act} {Q : Exit → Act → World → Prop} (hgd : o.guard = none) (s x : Operand)
    (ho : o.op = .call { callee := .builtin .append, args := #[s, x], argTypes := #[47, 47] })
    (B : Nat) (w wr : World) (v : Value) (l : List Nat) (c : Nat) (z : Int) (hs : a.eval s = v) (hown : OwnInts wr B v l) (hx : a.eval x = .slice (some ⟨wr.heap.size, 0, none⟩) 1 1) (hz : z = (c : Int))
    (hl : l.length ≤ 1000000000) (hB : B ≤ wr.heap.size) (hbel : Below B w wr)
    (h : ∀ v' w', OwnInts w' B v' (l ++ [c]) → Below B w w' → wpList Tryd.prog ops Q rest (a.put o.dst v') w') : wpList Tryd.prog ops Q (o :: rest) a (wr.alloc (.cells #[.int .i64 z] 3)) := by
  subst hz
  obtain ⟨i0, hi, hz0, hz1, hz2⟩ := info_parts Tryd.infoInt
  have h0 : wr.ownsRow B 3 1 v l.length (intVals l) := hown
  refine wpList_append_own (P := Tryd.prog) (wr.alloc (.cells #[.int .i64 (c : Int)] 3)) hgd s x 47 ho B 3 i0 (.int .i64 0) 1 8 Tryd.underlying47 hi hz0 hz1 hz2 rfl (by decide) v l.length _ hs (World.ownsRow.alloc h0 _) ⟨wr.heap.size, 0, none⟩ 1 1 (intVals [c]) hx rfl ?_ ?_ ?_ ?_ ?_ ?_
  · intro j u hj
    match j, hj with
    | 0, hj =>
      simp [intVals] at hj; subst hj
      show (wr.alloc _).cell? _ = _
      simp [Addr.add, World.cell?_alloc_mark]
  · intro u hu; simp [intVals] at hu; subst hu; rfl
  · unfold maxLen; omega
  · omega
  · simp; omega
  · intro v' w' h1 h2 _
    exact h v' w' (OwnInts.more (cs := [c]) h1) ((hbel.alloc hB _).grown h2 (by simp; omega) fun k hk => (World.ownsRow.lt h0 k hk).1)
set_option maxRecDepth 100000 in
theorem bits_any (n many : Nat) (w : World) (hn : n ≤ 1000000) (hm : many ≤ 8) :
    Calls Tryd.prog 19 #[.int .i64 (n : Int), .int .i64 (many : Int)] w fun e w' => ∃ v, e = .returned v ∧ OwnInts w' w.heap.size v (bitsN n many) ∧ Below w.heap.size w w' := by
  go_enter Tryd.func19, Tryd.ntmps19
  go_wp2
  go_loopw [5, 6] (fun v i wr => ∃ (j : Nat) (l : List Nat), j ≤ many ∧ i = .int .i64 ((j : Int) - 1) ∧ Hid (l ++ bitsN n j = bitsN n many) ∧ l.length + j = many ∧ OwnInts wr w.heap.size v l ∧ Below w.heap.size w wr) (fun _ i _ => (intOf i + 1).toNat)
  case atStart => exact ⟨many, [], Nat.le_refl _, rfl, rfl, by simp, OwnInts.nil _ _, Below.refl _ _⟩
  case round =>
    obtain ⟨j, l, hj, rfl, Hl, hlen, hown, hbel⟩ := hrel
    have hsz := hbel.size
    have hle : l.length ≤ 1000000000 := by omega
    have Hlen := Lib.hid hlen
    clear hlen
    by_cases h0 : 1 ≤ j
    · obtain ⟨q, rfl⟩ : ∃ q, j = q + 1 := ⟨j - 1, by omega⟩
      have hpos : 0 ≤ (((q + 1 : Nat)) : Int) - 1 := by omega
      have Hz := Lib.hid (show bits .and .i64 ((n : Int) / 2 ^ q) 1 = ((n / 2 ^ q % 2 : Nat) : Int) by rw [i64_and1]; push_cast; rfl)
      go_wp2_with (at_builtin; refine wpList_append_int rfl _ _ rfl w.heap.size w wr u5 l (n / 2 ^ q % 2) _ rfl hown rfl Hz.out hle hsz hbel ?_)
      intro v' w1 hown' hbel'
      clear hown hbel
      have Hown := Lib.hid hown'
      clear hown'
      go_wp2
      go_roundw
      case rel => exact ⟨q, _, by omega, by go_num, by rw [List.append_assoc]; exact Hl.out, by have := Hlen.out; simp; omega, Hown.out, hbel'⟩
      case measure => simp [intOf] <;> omega
    · obtain rfl : j = 0 := by omega
      have Hown := Lib.hid hown
      clear hown
      go_wp2
      go_ret
      exact ⟨_, rfl, by rw [← Hl.out]; simpa [bitsN] using Hown.out, hbel⟩

/-! ### what is owned reads so; many appended -/
theorem rowIn_of_own {w : World} {base : Nat} {e : TypeId} {v : Value} {n : Nat} {xs : List Value} (h : w.ownsRow base e 1 v n xs) : RowIn w v xs := by
  have hlen := h.1
  rcases h.2 with ⟨rfl, rfl⟩ | ⟨g, cap, cur, rfl, _, hh, hn, hm, hc, ht⟩
  · exact .inl ⟨List.length_eq_zero_iff.1 (by simpa using hlen), .inl rfl⟩
  · refine .inr ⟨g, 0, cap, by rw [hlen]; simp, by omega, by unfold maxLen at hm; exact hm, fun i u hu => ?_⟩
    have := h.cells (g := g) rfl i u hu
    rw [Addr.add_lit] at this
    exact this
theorem OwnInts.rowIn {w : World} {base : Nat} {v : Value} {l : List Nat} (h : OwnInts w base v l) : RowIn w v (intVals l) := rowIn_of_own h
theorem OwnBytes.bytesIn {w : World} {base : Nat} {v : Value} {l : List UInt8} (h : OwnBytes w base v l) : BytesIn w v l := rowIn_of_own h
/-- Integers appended: those of another slice. -/
theorem wpList_append_ints {ops : Array Oper} {rest : List Oper} {o : Oper} {a : Act} {Q : Exit → Act → World → Prop} (hgd : o.guard = none) (s x : Operand)
    (ho : o.op = .call { callee := .builtin .append, args := #[s, x], argTypes := #[47, 47] })
    (B : Nat) (w wr : World) (v v2 : Value) (l cs : List Nat) (hs : a.eval s = v) (hown : OwnInts wr B v l) (hx : a.eval x = v2) (hsrc : RowIn wr v2 (intVals cs)) (hpos : 0 < cs.length)
    (hl : l.length ≤ 1000000) (hcs : cs.length ≤ 1000) (hB : B ≤ wr.heap.size) (hbel : Below B w wr)
    (h : ∀ v' w', OwnInts w' B v' (l ++ cs) → Below B w w' → wpList Tryd.prog ops Q rest (a.put o.dst v') w') : wpList Tryd.prog ops Q (o :: rest) a wr := by
  obtain ⟨i0, hi, hz0, hz1, hz2⟩ := info_parts Tryd.infoInt
  have h0 : wr.ownsRow B 3 1 v l.length (intVals l) := hown
  rcases hsrc with ⟨hn, _⟩ | ⟨b, off, cap, rfl, hc, hm, hcell⟩
  · have := congrArg List.length hn
    simp [intVals_len] at this
    subst this
    simp at hpos
  · refine wpList_append_own (P := Tryd.prog) wr hgd s x 47 ho B 3 i0 (.int .i64 0) 1 8 Tryd.underlying47 hi hz0 hz1 hz2 rfl (by decide) v l.length _ hs h0 ⟨b, off, none⟩ cs.length cap (intVals cs) (by rw [hx, intVals_len]) (by simp [intVals_len]) ?_ ?_ ?_ ?_ ?_ ?_
    · intro j u hj
      rw [Addr.add_lit]
      exact hcell j u hj
    · intro u hu
      simp only [intVals, List.mem_map] at hu
      obtain ⟨b, _, rfl⟩ := hu
      rfl
    · unfold maxLen; omega
    · omega
    · exact hB
    · intro v' w' h1 h2 _
      exact h v' w' (OwnInts.more h1) (hbel.grown h2 hB fun k hk => (World.ownsRow.lt h0 k hk).1)
end Go.Proofs.YtkibajlbjldhiaaDoor
