/- Texts of one seat, merged: FldA, Row, FldC, FldE, LstP, ReqP, ReqA, ReqC, ReqQ, Back, FldQ, At, DecC. -/
import Derived.Laws.BitsAllLaws
import Derived.Laws.BitsLemmas
import Derived.Deep.RegionLaw
import Derived.BigRegion
import Derived.Laws.AppendOwnNone
import Derived.Deep.QuietTactic
import Derived.BigQuiet
import Derived.StillTailTactics
import Derived.Lib.SplitLaws
import Derived.Deep.RegionHeld3
import Derived.Lib.Join
import Derived.Lib.IndexLaws
import Derived.Lib.IndexBytes
import Derived.Maps.OwnOps
import Derived.Maps.Views
import Derived.Maps.OwnSet
import Derived.WalkMore
import Derived.WalkLawsBesides
import Derived.OwnWalk
import Derived.Test.YtpplgdnklpchkaaGreatDoorQA
import Derived.Test.YtpplgdnklpchkaaGreatDoorQB
namespace Go.Proofs.YtpplgdnklpchkaaGreatDoor
set_option linter.all false
open Go.RowKit
def CountIs (n : Int) (w : World) (e : Ending) (w' : World) : Prop := e = .returned (.int .i64 n) /\ w = w'
theorem countIs_of {a b : Int} (w : World) (h : a = b) : CountIs b w (.returned (.int .i64 a)) w := ⟨by rw [h], rfl⟩
set_option maxRecDepth 100000 in
theorem fieldBytes_any (s : ByteArray) (w : World) (hs : s.size <= 9223372036854775807) : Calls Tryz.prog 112 #[.string s] w (CountIs (fbn s.data.toList : Int) w) := by
 go_enter Tryz.func112, Tryz.ntmps112
 go_wp2
 go_loop [6] (fun i => ∃ k : Nat, k <= s.size /\ i = .int .i64 k /\ Hid (allB fieldB (s.data.toList.take k) = true)) (fun i => s.size - (intOf i).toNat)
 case atStart => exact ⟨0, Nat.zero_le _, rfl, Lib.hid rfl⟩
 case round =>
  obtain ⟨k, hk, rfl, Hm⟩ := hrel
  by_cases hlt : k < s.size
  ·have Hs := Lib.hid (allB_snoc fieldB s k hlt)
   have HF := Lib.hid (field_any (s[k].toNat : Int))
   by_cases hb : fieldB (s[k].toNat : Int) = true
   ·have Hn := Lib.hid (show allB fieldB (s.data.toList.take (k + 1)) = true by rw [Hs.out, Hm.out, hb]; rfl)
    rw [hb] at HF
    clear hb Hs Hm
    go_wp2_with fail
    refine (HF.out _).mono ?_
    rintro e w' ⟨rfl, rfl⟩
    go_wp2_with fail
    go_round
    case rel => exact ⟨k + 1, by omega, by go_num, Hn⟩
    case measure => simp [intOf]; omega
   ·have hb : fieldB (s[k].toNat : Int) = false := by simpa using hb
    have He := Lib.hid (fbn_at hlt Hm.out hb)
    rw [hb] at HF
    clear hb Hs Hm
    go_wp2_with fail
    refine (HF.out _).mono ?_
    rintro e w' ⟨rfl, rfl⟩
    go_wp2_with fail
    go_ret
    exact countIs_of _ (by rw [He.out])
  ·obtain rfl : k = s.size := by omega
   have He := Lib.hid (fbn_all (allB_yes fieldB s s.size (Nat.le_refl _) Hm.out))
   clear Hm
   go_wp2
   go_ret
   exact countIs_of _ (by rw [He.out])
def TextTo (t : ByteArray) (w : World) (e : Ending) (w' : World) : Prop := e = .returned (.string t) /\ Below w.heap.size w w'
def textF (N V : ByteArray) : ByteArray := N ++ ⟨#[58]⟩ ++ ⟨#[32]⟩ ++ V
theorem text_any (N V : ByteArray) (w : World) (hA : N.size <= 1000000) (hB : V.size <= 1000000) :
  Calls Tryz.prog 33 #[.agg #[.string N, .string V]] w (TextTo (textF N V) w) := by
 go_enter Tryz.func33, Tryz.ntmps33
 go_wp2
 go_ret
 exact ⟨rfl, (Below.refl _ _).alloc (Nat.le_refl _) _⟩
end Go.Proofs.YtpplgdnklpchkaaGreatDoor
namespace Go.Proofs.YtpplgdnklpchkaaGreatDoor
set_option linter.all false
open Go.RowKit
def RowIn (w : World) (v : Value) (xs : List Value) : Prop :=
 (xs = [] /\ (v = .slice none 0 0 \/ ∃ ad cap, v = .slice (some ad) 0 cap)) \/
 ∃ b off cap, v = .slice (some ⟨b, off, none⟩) xs.length cap /\ xs.length <= cap /\ cap <= 9223372036854775807 /\ ∀ i u, xs[i]? = some u -> w.cell? ⟨b, off + i, none⟩ = some u
def BytesIn (w : World) (v : Value) (l : List UInt8) : Prop := RowIn w v (byteVals l)
def intVals (l : List Nat) : List Value := l.map fun (n : Nat) => Value.int .i64 (n : Int)
theorem byteVals_len (l : List UInt8) : (byteVals l).length = l.length := by simp [byteVals]
def OwnInts (w : World) (base : Nat) (v : Value) (l : List Nat) : Prop := w.ownsRow base 3 1 v l.length (intVals l)
theorem OwnInts.nil (w : World) (base : Nat) : OwnInts w base (.slice none 0 0) [] := World.ownsRow_nil _ _ _ _
theorem Tryz.infoInt : (Tryz.prog.info? 3).map (fun i => (i.zero, i.size, i.bytes)) = some (some (.int .i64 0), 1, 8) := by kernel_rfl
theorem OwnInts.more {w : World} {base : Nat} {v : Value} {l cs : List Nat} (h : w.ownsRow base 3 1 v (l.length + cs.length) (intVals l ++ intVals cs)) : OwnInts w base v (l ++ cs) := by
 unfold OwnInts
 rw [List.length_append]
 unfold intVals at *
 rw [List.map_append]
 exact h
theorem wpList_append_int {ops : Array Oper} {rest : List Oper} {o : Oper} {a : Act} {Q : Exit -> Act -> World -> Prop} (hgd : o.guard = none) (s x : Operand)
  (ho : o.op = .call { callee := .builtin .append, args := #[s, x], argTypes := #[111, 111] })
  (B : Nat) (w wr : World) (v : Value) (l : List Nat) (c : Nat) (z : Int) (hs : a.eval s = v) (hown : OwnInts wr B v l) (hx : a.eval x = .slice (some ⟨wr.heap.size, 0, none⟩) 1 1) (hz : z = (c : Int))
  (hl : l.length <= 1000000000) (hB : B <= wr.heap.size) (hbel : Below B w wr)
  (h : ∀ v' w', OwnInts w' B v' (l ++ [c]) -> Below B w w' -> wpList Tryz.prog ops Q rest (a.put o.dst v') w') : wpList Tryz.prog ops Q (o :: rest) a (wr.alloc (.cells #[.int .i64 z] 3)) := by
 subst hz
 obtain ⟨i0, hi, hz0, hz1, hz2⟩ := info_parts Tryz.infoInt
 have h0 : wr.ownsRow B 3 1 v l.length (intVals l) := hown
 refine wpList_append_own (P := Tryz.prog) (wr.alloc (.cells #[.int .i64 (c : Int)] 3)) hgd s x 111 ho B 3 i0 (.int .i64 0) 1 8 Tryz.underlying111 hi hz0 hz1 hz2 rfl (by decide) v l.length _ hs (World.ownsRow.alloc h0 _) ⟨wr.heap.size, 0, none⟩ 1 1 (intVals [c]) hx rfl ?_ ?_ ?_ ?_ ?_ ?_
 ·intro j u hj
  match j, hj with
  | 0, hj =>
   simp [intVals] at hj; subst hj
   show (wr.alloc _).cell? _ = _
   simp [Addr.add, World.cell?_alloc_mark]
 ·intro u hu; simp [intVals] at hu; subst hu; rfl
 ·unfold maxLen; omega
 ·omega
 ·simp; omega
 ·intro v' w' h1 h2 _
  exact h v' w' (OwnInts.more (cs := [c]) h1) ((hbel.alloc hB _).grown h2 (by simp; omega) fun k hk => (World.ownsRow.lt h0 k hk).1)
theorem rowIn_of_own {w : World} {base : Nat} {e : TypeId} {v : Value} {n : Nat} {xs : List Value} (h : w.ownsRow base e 1 v n xs) : RowIn w v xs := by
 have hlen := h.1
 rcases h.2 with ⟨rfl, rfl⟩ | ⟨g, cap, cur, rfl, _, hh, hn, hm, hc, ht⟩
 ·exact .inl ⟨List.length_eq_zero_iff.1 (by simpa using hlen), .inl rfl⟩
 ·refine .inr ⟨g, 0, cap, by rw [hlen]; simp, by omega, by unfold maxLen at hm; exact hm, fun i u hu => ?_⟩
  have := h.cells (g := g) rfl i u hu
  rw [Addr.add_lit] at this
  exact this
theorem OwnBytes.bytesIn {w : World} {base : Nat} {v : Value} {l : List UInt8} (h : OwnBytes w base v l) : BytesIn w v l := rowIn_of_own h
def Keeps (E : TypeId) (w w' : World) : Prop := ∀ (k : Nat) cur e fr, w.heap[k]? = some (.cells cur e fr) -> e ≠ E -> w'.heap[k]? = w.heap[k]?
theorem Keeps.refl (E : TypeId) (w : World) : Keeps E w w := fun _ _ _ _ _ _ => rfl
theorem Keeps.trans {E : TypeId} {a b c : World} (h : Keeps E a b) (k : Keeps E b c) : Keeps E a c := fun i cur e fr hi he => by
 rw [k i cur e fr (by rw [h i cur e fr hi he]; exact hi) he, h i cur e fr hi he]
theorem lt_of_cells {w : World} {b : Nat} {o : Obj} (h : w.heap[b]? = some o) : b < w.heap.size := (Array.getElem?_eq_some_iff.1 h).1
theorem Keeps.alloc {E : TypeId} {a b : World} (h : Keeps E a b) (o : Obj) : Keeps E a (b.alloc o) := fun i cur e fr hi he => by
 have := h i cur e fr hi he
 rw [Below.heap_alloc b o i (lt_of_cells (this.trans hi))]; exact this
theorem Keeps.drew {E : TypeId} {a b : World} (h : Keeps E a b) : Keeps E a b.drew := h
theorem Keeps.below {E : TypeId} {a b c : World} (h : Keeps E a b) (hb : Below b.heap.size b c) : Keeps E a c := fun i cur e fr hi he => by
 have := h i cur e fr hi he
 rw [hb.block i (lt_of_cells (this.trans hi))]; exact this
theorem keeps_of_grown {E : TypeId} {w w' : World} {base size n : Nat} {v : Value} {xs : List Value} (h : w.ownsRow base E size v n xs) (hg : w.grownBy w' v.ownBlock) : Keeps E w w' := fun i cur e fr hi he => by
 refine hg.block i (lt_of_cells hi) ?_
 rcases h.2 with ⟨rfl, _⟩ | ⟨g, cap, cur', rfl, _, hh, _⟩
 ·simp [Value.ownBlock]
 ·intro e1
  simp only [Value.ownBlock, Option.some.injEq] at e1
  subst e1
  rw [hh] at hi
  injection hi with hi
  injection hi with _ h2 _
  exact he h2.symm
theorem Keeps.own {E e : TypeId} {w w' : World} {base size n : Nat} {v : Value} {xs : List Value} (hk : Keeps E w w') (h : w.ownsRow base e size v n xs) (hne : e ≠ E) : w'.ownsRow base e size v n xs := by
 refine ⟨h.1, ?_⟩
 rcases h.2 with h2 | ⟨g, cap, cur, rfl, hb, hh, r⟩
 ·exact .inl h2
 ·exact .inr ⟨g, cap, cur, rfl, hb, (hk g cur e (0, 0) hh hne).trans hh, r⟩
theorem RowIn.below {w w' : World} {v : Value} {xs : List Value} (h : RowIn w v xs) (hb : Below w.heap.size w w') : RowIn w' v xs := by
 rcases h with h | ⟨b, off, cap, rfl, h1, h2, h3⟩
 ·exact .inl h
 ·refine .inr ⟨b, off, cap, rfl, h1, h2, fun i u hu => ?_⟩
  have := h3 i u hu
  rw [hb.cell (World.block_lt_of_cell? w _ this)]; exact this
theorem RowIn.open_ {w : World} {v : Value} {xs : List Value} (h : RowIn w v xs) : ∃ p cap, v = .slice p xs.length cap /\ ∀ i u, xs[i]? = some u -> ∃ b off, p = some ⟨b, off, none⟩ /\ w.cell? ⟨b, off + i, none⟩ = some u := by
 rcases h with ⟨rfl, rfl | ⟨ad, cap, rfl⟩⟩ | ⟨b, off, cap, rfl, _, _, h3⟩
 ·exact ⟨none, 0, rfl, fun i u hu => by simp at hu⟩
 ·exact ⟨some ad, cap, rfl, fun i u hu => by simp at hu⟩
 ·exact ⟨_, cap, rfl, fun i u hu => ⟨b, off, rfl, h3 i u hu⟩⟩
theorem row_slice {T : TypeId} (hT : Tryz.prog.underlying T = some (.slice (Tryz.prog.elem T))) (hz : ∀ w, (sizeOf (Tryz.prog.elem T)).run Tryz.prog w = .ok 1 w) {w0 : World} {v : Value} {xs : List Value} (h : RowIn w0 v xs) (lo hi : Nat) (h1 : lo <= hi) (h2 : hi <= xs.length) :
  ∃ x, (∀ w, (Instr.slice T v (some (.int .i64 (lo : Int))) (some (.int .i64 (hi : Int))) none).run Tryz.prog w = .ok x w) /\ ∀ w, RowIn w v xs -> RowIn w x ((xs.drop lo).take (hi - lo)) := by
 rcases h with ⟨rfl, rfl | ⟨ad, cap, rfl⟩⟩ | ⟨b, off, cap, rfl, h3, h4, _⟩
 ·obtain rfl : hi = 0 := by simpa using h2
  obtain rfl : lo = 0 := by omega
  refine ⟨.slice none 0 0, fun w => ?_, fun w _ => .inl ⟨by simp, .inl rfl⟩⟩
  rw [run_slice_lh w T none 0 0 hT .i64 .i64 _ _ (by omega) (by omega) (by omega), hz]
  simp [Result.andThen, sliced]
 ·obtain rfl : hi = 0 := by simpa using h2
  obtain rfl : lo = 0 := by omega
  refine ⟨.slice (some ad) 0 cap, fun w => ?_, fun w _ => .inl ⟨by simp, .inr ⟨ad, cap, rfl⟩⟩⟩
  rw [run_slice_lh w T (some ad) 0 cap hT .i64 .i64 _ _ (by omega) (by omega) (by omega), hz]
  simp [Result.andThen, sliced]
  intro _; rfl
 ·by_cases hc : cap = lo
  ·obtain rfl : hi = lo := by omega
   refine ⟨.slice (some ⟨b, off, none⟩) 0 0, fun w => ?_, fun w _ => .inl ⟨by simp, .inr ⟨_, _, rfl⟩⟩⟩
   rw [run_slice_lh w T _ _ cap hT .i64 .i64 _ _ (by omega) (by omega) (by omega), hz]
   simp [Result.andThen, sliced, hc]
  ·refine ⟨.slice (some ⟨b, off + lo, none⟩) (hi - lo) (cap - lo), fun w => ?_, fun w hw => ?_⟩
   ·rw [run_slice_lh w T _ _ cap hT .i64 .i64 _ _ (by omega) (by omega) (by omega), hz]
    simp [Result.andThen, sliced, hc, Addr.add_lit]
   ·rcases hw with ⟨hx, hv⟩ | ⟨b', off', cap', hv, _, _, hcell⟩
    ·subst hx
     obtain rfl : hi = 0 := by simpa using h2
     obtain rfl : lo = 0 := by omega
     exact .inl ⟨by simp, .inr ⟨_, _, rfl⟩⟩
    ·injection hv with e1 e2 e3
     injection e1 with e1
     injection e1 with e4 e5 e6
     subst e3 e4 e5
     refine .inr ⟨b, off + lo, cap - lo, by simp; omega, by simp; omega, by omega, fun i u hu => ?_⟩
     rw [List.getElem?_take] at hu
     split at hu
     ·rw [List.getElem?_drop] at hu
      rw [Nat.add_assoc]
      exact hcell _ u hu
     ·cases hu
theorem wp_append_row {T E : TypeId} {z : Value} {by_ : Nat} (hT : Tryz.prog.underlying T = some (.slice E)) (hinfo : (Tryz.prog.info? E).map (fun i => (i.zero, i.size, i.bytes)) = some (some z, 1, by_)) (hzs : z.cells.size = 1) (hby : by_ <= 16)
    {o : Oper} {a : Act} {K : Act -> World -> Prop} {Q : Exit -> Act -> World -> Prop} (s x : Operand)
    (ho : o.op = .call { callee := .builtin .append, args := #[s, x], argTypes := #[T, T] })
    (B : Nat) (w W : World) (v : Value) (n : Nat) (xs : List Value) (hs : a.eval s = v) (hown : W.ownsRow B E 1 v n xs) (v2 : Value) (news : List Value) (hx : a.eval x = v2) (hsrc : RowIn W v2 news) (h1 : ∀ u ∈ news, u.oneCell' = true)
    (hlen : n + news.length <= 1000000000000) (hB : B <= W.heap.size) (hbel : Below B w W)
    (h : ∀ v' w', w'.ownsRow B E 1 v' (n + news.length) (xs ++ news) -> Below B w w' -> Keeps E W w' -> K (a.put o.dst v') w') : o.wp Tryz.prog a W K Q := by
  obtain ⟨i0, hi, hz0, hz1, hz2⟩ := info_parts hinfo
  rcases hsrc with ⟨rfl, rfl | ⟨ad, cap, rfl⟩⟩ | ⟨b, off, cap, rfl, h3, h4, hcell⟩
  · have hrun := run_append_owned_none (P := Tryz.prog) (w := W) B T o.type E i0 1 hT hi v n xs hown
    unfold Oper.wp
    simp [execOp, ho, resolve, invoke, builtin, hs, hx, hrun, Result.andThen]
    exact h _ _ (by simpa using hown) hbel (Keeps.refl _ _)
  · exact wp_append_own (P := Tryz.prog) W s x T ho B E i0 z 1 by_ hT hi hz0 hz1 hz2 hzs (by decide) v n xs hs hown ad 0 cap [] hx rfl (by simp) (by simp) (by unfold maxLen; simp at hlen; omega)
      (by have : (n + 0) * by_ <= n * 16 := Nat.mul_le_mul (by omega) hby
          simp at hlen; omega) hB fun v' w' g1 g2 _ => h v' w' g1 (hbel.grown g2 hB fun k hk => (World.ownsRow.lt hown k hk).1) (keeps_of_grown hown g2)
  · exact wp_append_own (P := Tryz.prog) W s x T ho B E i0 z 1 by_ hT hi hz0 hz1 hz2 hzs (by decide) v n xs hs hown ⟨b, off, none⟩ news.length cap news hx (by simp) (fun j u hj => by rw [Addr.add_lit]; exact hcell j u hj) h1 (by unfold maxLen; omega)
      (by have : (n + news.length) * by_ <= (n + news.length) * 16 := Nat.mul_le_mul (by omega) hby
          omega) hB fun v' w' g1 g2 _ => h v' w' g1 (hbel.grown g2 hB fun k hk => (World.ownsRow.lt hown k hk).1) (keeps_of_grown hown g2)
theorem wanted_plain {o : Oper} {ops : Array Oper} {a : Act} (h : o.guard = none) : Region.wanted o (yielded ops a.tmps) = true := by simp [Region.wanted, h]
theorem bytes_one (l : List UInt8) : ∀ u ∈ byteVals l, u.oneCell' = true := by
 intro u hu
 simp only [byteVals, List.mem_map] at hu
 obtain ⟨b, _, rfl⟩ := hu
 rfl
theorem wp_append_bytes {o : Oper} {a : Act} {K : Act -> World -> Prop} {Q : Exit -> Act -> World -> Prop} (s x : Operand)
  (ho : o.op = .call { callee := .builtin .append, args := #[s, x], argTypes := #[22, 22] })
  (B : Nat) (w W : World) (v : Value) (l : List UInt8) (hs : a.eval s = v) (hown : OwnBytes W B v l) (v2 : Value) (cs : List UInt8) (hx : a.eval x = v2) (hsrc : BytesIn W v2 cs)
  (hl : l.length <= 1000000000) (hcs : cs.length <= 1000000000) (hB : B <= W.heap.size) (hbel : Below B w W)
  (h : ∀ v' w', OwnBytes w' B v' (l ++ cs) -> Below B w w' -> Keeps 5 W w' -> K (a.put o.dst v') w') : o.wp Tryz.prog a W K Q :=
 wp_append_row Tryz.underlying22 Tryz.infoByte rfl (by decide) s x ho B w W v l.length (byteVals l) hs hown v2 (byteVals cs) hx hsrc (bytes_one cs) (by rw [byteVals_len]; omega) hB hbel
  fun v' w' h1 h2 h3 => h v' w' (by
   unfold OwnBytes
   rw [byteVals_len] at h1
   rw [List.length_append]
   unfold byteVals at *
   rw [List.map_append]; exact h1) h2 h3
theorem wpList_append_bytes {ops : Array Oper} {rest : List Oper} {o : Oper} {a : Act} {Q : Exit -> Act -> World -> Prop} (hgd : o.guard = none) (s x : Operand)
  (ho : o.op = .call { callee := .builtin .append, args := #[s, x], argTypes := #[22, 22] })
  (B : Nat) (w W : World) (v : Value) (l : List UInt8) (hs : a.eval s = v) (hown : OwnBytes W B v l) (v2 : Value) (cs : List UInt8) (hx : a.eval x = v2) (hsrc : BytesIn W v2 cs)
  (hl : l.length <= 1000000000) (hcs : cs.length <= 1000000000) (hB : B <= W.heap.size) (hbel : Below B w W)
  (h : ∀ v' w', OwnBytes w' B v' (l ++ cs) -> Below B w w' -> Keeps 5 W w' -> wpList Tryz.prog ops Q rest (a.put o.dst v') w') : wpList Tryz.prog ops Q (o :: rest) a W :=
 wpList_plain hgd fun _ hK => wp_append_bytes s x ho B w W v l hs hown v2 cs hx hsrc hl hcs hB hbel fun v' w' h1 h2 h3 => hK _ _ (h v' w' h1 h2 h3)
def BlockIs (E : TypeId) (w : World) (v : Value) : Prop := ∀ ad n c, v = .slice (some ad) n c -> ∃ cur, w.heap[ad.block]? = some (.cells cur E (0, 0))
theorem BlockIs.below {E : TypeId} {w w' : World} {v : Value} (h : BlockIs E w v) (hb : Below w.heap.size w w') : BlockIs E w' v := fun ad n c e => by
 obtain ⟨cur, hc⟩ := h ad n c e
 exact ⟨cur, (hb.block _ (lt_of_cells hc)).trans hc⟩
theorem sliced_row {w : World} {a : Option Addr} {n cap : Nat} {xs : List Value} (h : RowIn w (.slice a n cap) xs) (lo hi : Nat) (h1 : lo <= hi) (h2 : hi <= xs.length) : RowIn w (sliced a lo hi cap 1) ((xs.drop lo).take (hi - lo)) := by
 rcases h with ⟨rfl, hv⟩ | ⟨b, off, cap', hv, h3, h4, hcell⟩
 ·obtain rfl : hi = 0 := by simpa using h2
  obtain rfl : lo = 0 := by omega
  rcases hv with hv | ⟨ad, cap', hv⟩
  ·injection hv with e1 e2 e3; subst e1 e2 e3
   exact .inl ⟨by simp, .inl (by simp [sliced])⟩
  ·injection hv with e1 e2 e3; subst e1 e2 e3
   refine .inl ⟨by simp, .inr ⟨ad, cap, ?_⟩⟩
   simp [sliced]
   intro _; rfl
 ·injection hv with e1 e2 e3
  subst e1 e2 e3
  by_cases hc : cap = lo
  ·obtain rfl : hi = lo := by omega
   exact .inl ⟨by simp, .inr ⟨⟨b, off, none⟩, 0, by simp [sliced, hc]⟩⟩
  ·refine .inr ⟨b, off + lo, cap - lo, ?_, by simp; omega, by omega, fun i u hu => ?_⟩
   ·simp [sliced, hc, Addr.add_lit]; omega
   ·rw [List.getElem?_take] at hu
    split at hu
    ·rw [List.getElem?_drop] at hu
     rw [Nat.add_assoc]
     exact hcell _ u hu
    ·cases hu
theorem slice_lo {T : TypeId} (hT : Tryz.prog.underlying T = some (.slice (Tryz.prog.elem T))) (hz : ∀ w, (sizeOf (Tryz.prog.elem T)).run Tryz.prog w = .ok 1 w) (a : Option Addr) (n cap lo : Nat) (h : lo <= n) (w : World) :
  (Instr.slice T (.slice a n cap) (some (.int .i64 (lo : Int))) none none).run Tryz.prog w = .ok (sliced a lo n cap 1) w := by
 rw [run_slice_l w T a n cap hT .i64 _ (by omega) (by omega), hz]; rfl
theorem slice_hi {T : TypeId} (hT : Tryz.prog.underlying T = some (.slice (Tryz.prog.elem T))) (hz : ∀ w, (sizeOf (Tryz.prog.elem T)).run Tryz.prog w = .ok 1 w) (a : Option Addr) (n cap hi : Nat) (h : hi <= cap) (w : World) :
  (Instr.slice T (.slice a n cap) none (some (.int .i64 (hi : Int))) none).run Tryz.prog w = .ok (sliced a 0 hi cap 1) w := by
 rw [run_slice_h w T a n cap hT .i64 _ (by omega) (by omega), hz]; rfl
theorem RowIn.cap {w : World} {a : Option Addr} {n cap : Nat} {xs : List Value} (h : RowIn w (.slice a n cap) xs) : n = xs.length /\ n <= cap := by
 rcases h with ⟨rfl, hv | ⟨ad, cap', hv⟩⟩ | ⟨b, off, cap', hv, h3, h4, hcell⟩
 ·injection hv with e1 e2 e3; subst e1 e2 e3; simp
 ·injection hv with e1 e2 e3; subst e1 e2 e3; simp
 ·injection hv with e1 e2 e3; subst e1 e2 e3; exact ⟨rfl, h3⟩
end Go.Proofs.YtpplgdnklpchkaaGreatDoor
namespace Go.Proofs.YtpplgdnklpchkaaGreatDoor
set_option linter.all false
open Go.RowKit
theorem Tryz.fldSize : (Tryz.prog.info? 53).map (·.size) = some 2 := by kernel_rfl
theorem Tryz.fldAgg (w : World) : (isAgg 53).run Tryz.prog w = .ok true w := by kernel_rfl
def fldL (N V : ByteArray) : List Value := [.string N, .string V]
theorem fld_one (N V : ByteArray) : ∀ v ∈ fldL N V, v.oneCell' = true := by
 intro v hv
 simp only [fldL, List.mem_cons, List.not_mem_nil, or_false] at hv
 rcases hv with rfl | rfl <;> rfl
def fldV (N V : ByteArray) : Value := .agg #[.string N, .string V]
theorem only_eq_below {w w1 : World} {g B : Nat} (h : Only (fun k => k = g) w w1) (hg : B <= g) (hB : B <= w.heap.size) : Below B w w1 :=
 h.below B hB fun k hk => by subst hk; exact hg
theorem slice_sto (s x : ByteArray) (j : Int) (n : Nat) (hj : j = (n : Int)) (hn : n <= s.size) (hx : x.data.toList = s.data.toList.take n) (w : World) : (Instr.slice 9 (.string s) none (some (.int .i64 j)) none).run Tryz.prog w = .ok (.string x) w := by
 subst hj
 rw [run_slice_string_h w _ s Tryz.underlying9 _ _ (by omega) (by omega), show s.extract 0 (Int.toNat (n : Int)) = x from fba_ext (by rw [Lib.extract_from_zero, hx]; simp)]
theorem slice_sfrom (s x : ByteArray) (j : Int) (n : Nat) (hj : j = (n : Int)) (hn : n <= s.size) (hx : x.data.toList = s.data.toList.drop n) (w : World) : (Instr.slice 9 (.string s) (some (.int .i64 j)) none none).run Tryz.prog w = .ok (.string x) w := by
 subst hj
 rw [run_slice_string_l w _ s Tryz.underlying9 _ _ (by omega) (by omega), show s.extract (Int.toNat (n : Int)) s.size = x from fba_ext (by rw [Lib.extract_to_end, hx]; simp)]
theorem no_colon_snoc {s : ByteArray} {k : Nat} (hk : k < s.size) (h : (58 : UInt8) ∉ s.data.toList.take k) (hb : s[k] ≠ 58) : (58 : UInt8) ∉ s.data.toList.take (k + 1) := by
 rw [take_snoc s k hk, List.mem_append, List.mem_singleton]
 rintro (h' | h')
 ·exact h h'
 ·exact hb h'.symm
theorem two_at {s : ByteArray} {k : Nat} (hk : k < s.size) (h : (58 : UInt8) ∉ s.data.toList.take k) (hb : s[k] = 58) : ∃ A B, Two s A B /\ A.size = k := by
 refine ⟨⟨(s.data.toList.take k).toArray⟩, ⟨(s.data.toList.drop (k + 1)).toArray⟩, ⟨?_, h⟩, ?_⟩
 ·have : s.data.toList.drop k = s[k] :: s.data.toList.drop (k + 1) := List.drop_eq_getElem_cons (by rw [<- Lib.size_eq]; exact hk)
  rw [hb] at this
  show s.data.toList = s.data.toList.take k ++ 58 :: s.data.toList.drop (k + 1)
  rw [<- this, List.take_append_drop]
 ·rw [text_size, List.length_take]; rw [Lib.size_eq] at hk; omega
theorem Two.take {s A B : ByteArray} (h : Two s A B) : A.data.toList = s.data.toList.take A.size := by rw [h.text, Lib.size_eq]; simp
theorem Two.drop {s A B : ByteArray} (h : Two s A B) : B.data.toList = s.data.toList.drop (A.size + 1) := by
 have e : A.data.toList ++ 58 :: B.data.toList = (A.data.toList ++ [58]) ++ B.data.toList := by simp
 have l : (A.data.toList ++ [58]).length = A.size + 1 := by simp
 rw [h.text, e, <- l, List.drop_append, List.drop_of_length_le (Nat.le_refl _)]
 simp
theorem Two.byte {s A B : ByteArray} (h : Two s A B) {j : Nat} (hj : j < B.size) (h' : A.size + 1 + j < s.size) : s[A.size + 1 + j] = B[j] := by
 show s.data.toList[A.size + 1 + j]'(by simpa using h') = B.data.toList[j]'(by simpa using hj)
 simp only [h.drop, List.getElem_drop]
def Fn (s : ByteArray) (m n : Nat) : Prop := ∀ j (h : j < s.size), m <= j -> j < n -> fieldB (s[j].toNat : Int) = true
theorem Fn.snoc {s : ByteArray} {m n : Nat} (h : Fn s m n) (hn : n < s.size) (hb : fieldB (s[n].toNat : Int) = true) : Fn s m (n + 1) := fun j hj h1 h2 => by
 by_cases e : j = n
 ·subst e; exact hb
 ·exact h j hj h1 (by omega)
theorem Two.fn_take {s A B : ByteArray} (h : Two s A B) {n : Nat} (hn : n <= s.size) (hf : Fn s (A.size + 1) n) : allB fieldB (B.data.toList.take (n - (A.size + 1))) = true := by
 have hz := h.size
 unfold allB
 rw [List.all_eq_true]
 intro b hb
 obtain ⟨j, hj, rfl⟩ := List.getElem_of_mem hb
 rw [List.length_take, <- Lib.size_eq] at hj
 rw [List.getElem_take]
 have := hf (A.size + 1 + j) (by omega) (by omega) (by omega)
 rw [h.byte (by omega)] at this
 exact this
theorem Two.bad_at {s A B : ByteArray} (h : Two s A B) (ht : tokS A = true) {n : Nat} (hn : n < s.size) (hm : A.size + 1 <= n) (hf : Fn s (A.size + 1) n) (hb : fieldB (s[n].toNat : Int) = false) : outS s = .bad (n : Int) := by
 have hz := h.size
 have hk : n - (A.size + 1) < B.size := by omega
 have e : A.size + 1 + (n - (A.size + 1)) = n := by omega
 have hbb : fieldB (B[n - (A.size + 1)].toNat : Int) = false := by
  rw [<- h.byte hk (by omega)]
  simp only [e]; exact hb
 have hfb := fbn_at hk (h.fn_take (by omega) hf) hbb
 rw [outS_two h]
 unfold outF
 rw [if_pos ht, hfb, if_pos hk]
 congr 1
 omega
theorem Two.all_field {s A B : ByteArray} (h : Two s A B) (hf : Fn s (A.size + 1) s.size) : allB fieldB B.data.toList = true := by
 have hz := h.size
 have := h.fn_take (Nat.le_refl _) hf
 rwa [List.take_of_length_le (by rw [<- Lib.size_eq]; omega)] at this
def put2 (W : World) (r : Nat) (a b : Value) : World := (W.setCell ⟨r, 0, none⟩ a).setCell ⟨r, 1, none⟩ b
theorem put2_only (W : World) (r : Nat) (a b : Value) : Only (fun k => k = r) W (put2 W r a b) :=
 ((Only.refl (fun k => k = r) W).setCell (p := ⟨r, 0, none⟩) (fun _ => rfl) a).setCell (p := ⟨r, 1, none⟩) (fun _ => rfl) b
theorem put2_box {W : World} {r : Nat} {x y : Value} (h : Box W r [x, y]) (a b : Value) : Box (put2 W r a b) r [a, b] := h.setCells [a, b] rfl
theorem ValsAt.two {W : World} {g : Nat} {a b : Value} (h : ValsAt W g [a, b]) : W.cell? ⟨g, 0, none⟩ = some a /\ W.cell? ⟨g, 1, none⟩ = some b := ⟨h 0 _ rfl, h 1 _ rfl⟩
def refV : Out -> Value
 | .bad at_ => .tuple #[fldV ⟨#[]⟩ ⟨#[]⟩, .int .i64 at_]
 | .fld N V => .tuple #[fldV N V, .int .i64 (-1)]
def RefTo (o : Out) (w : World) (e : Ending) (w' : World) : Prop := e = .returned (refV o) /\ Below w.heap.size w w'
set_option maxRecDepth 100000 in
set_option maxHeartbeats 2000000 in
theorem refParse_huge (s : ByteArray) (w : World) (hs : s.size <= 140737488351232) : Calls Tryz.prog 39 #[.string s] w (RefTo (outS s) w) := by
 have H0 := Box.new w (fldL ⟨#[]⟩ ⟨#[]⟩) 53
 have B0 := (Below.refl w.heap.size w).alloc (Nat.le_refl _) (.cells #[.string ⟨#[]⟩, .string ⟨#[]⟩] 53)
 go_enter Tryz.func39, Tryz.ntmps39
 go_wp2
 obtain ⟨W0, hW0⟩ : ∃ W0, W0 = w.alloc (.cells #[.string ⟨#[]⟩, .string ⟨#[]⟩] 53) := ⟨_, rfl⟩
 have H0 : Box W0 w.heap.size (fldL ⟨#[]⟩ ⟨#[]⟩) := hW0 ▸ H0
 rw [<- hW0] at B0 ⊢
 clear hW0
 have H0 := Lib.hid H0
 have B0 := Lib.hid B0
 go_loop [4] (fun i => ∃ k : Nat, k <= s.size /\ i = .int .i64 k /\ Hid ((58 : UInt8) ∉ s.data.toList.take k)) (fun i => (s.size - intOf i).toNat)
 case atStart => exact ⟨0, Nat.zero_le _, rfl, Lib.hid (by simp)⟩
 case round =>
  obtain ⟨k, hk, rfl, HN⟩ := hrel
  by_cases hlt : k < s.size
  ·by_cases h58 : (s[k].toNat : Int) = 58
   ·obtain ⟨A, B, h2, hA⟩ := two_at hlt HN.out (byte_is (n := 58) (by decide) h58)
    have H2 := Lib.hid h2
    have hz := h2.size
    have q1 : ((s[k].toNat : Int) == 58) = true := by rw [h58]; rfl
    have q2 : ((k : Int) == (s.size : Int)) = false := by rw [beq_eq_false_iff_ne]; omega
    have SA := fun W => slice_sto s A (k : Int) k rfl (by omega) (by rw [h2.take, hA]) W
    have HT := Lib.hid (fun W => refIsToken_any A W (by omega))
    have HtA := Lib.hid (show (decide (0 < A.size) && allB tokenB A.data.toList) = tokS A from rfl)
    have HA := Lib.hid hA
    have HB := Lib.hid (show A.size <= 140737488351232 /\ B.size <= 140737488351232 by omega)
    clear h2 HN h58 hA hz
    go_wp2_with fail
    refine (HT.out _).mono ?_
    rintro e W1 ⟨rfl, rfl⟩
    clear HT
    obtain ⟨tA, htA⟩ : ∃ tA, tA = (decide (0 < A.size) && allB tokenB A.data.toList) := ⟨_, rfl⟩
    rw [<- htA] at HtA ⊢
    clear htA
    cases tA
    ·have HE := Lib.hid (show outS s = .bad 0 from outS_not_tok H2.out HtA.out.symm)
     clear HtA
     go_wp2_with (refine wpList_store_box (n := 2) Tryz.fldSize rfl _ _ rfl (g := w.heap.size) (vs := fldL ⟨#[]⟩ ⟨#[]⟩) rfl rfl H0.out rfl rfl (fld_one _ _) ?_)
     intro w2 b2 o2
     go_wp2
     refine bodyPost_ret (v := refV (.bad 0)) ?_ rfl ⟨by rw [HE.out], B0.out.trans (only_eq_below o2 (Nat.le_refl _) B0.out.size)⟩
     exact results_cell1 Tryz.fldSize Tryz.fldAgg Tryz.results39 _ _ rfl rfl b2.vals rfl
    ·have HtA := Lib.hid HtA.out.symm
     go_wp2
     go_loop [5] (fun i => ∃ n : Nat, n <= s.size /\ i = .int .i64 n /\ Hid (A.size + 1 <= n /\ Fn s (A.size + 1) n)) (fun i => (s.size - intOf i).toNat)
     case atStart => exact ⟨k + 1, by omega, by go_num, Lib.hid ⟨by rw [HA.out]; exact Nat.le_refl _, fun j _ h1 h2 => by have := HA.out; omega⟩⟩
     case round =>
      obtain ⟨n, hn, rfl, HF⟩ := hrel
      by_cases hltn : n < s.size
      ·have HC := Lib.hid (fun w => class5 (s[n].toNat : Int) w (by omega) (byte_le _))
       by_cases hb : fieldB (s[n].toNat : Int) = true
       ·have HF2 := Lib.hid (show A.size + 1 <= n + 1 /\ Fn s (A.size + 1) (n + 1) from ⟨by have := HF.out.1; omega, HF.out.2.snoc hltn hb⟩)
        rw [hb] at HC
        clear hb HF
        go_wp2_with fail
        refine (HC.out _).mono ?_
        rintro e w' ⟨rfl, rfl⟩
        go_wp2_with fail
        go_round
        case rel => exact ⟨n + 1, by omega, by go_num, HF2⟩
        case measure => simp [intOf]; omega
       ·have hb : fieldB (s[n].toNat : Int) = false := by simpa using hb
        have HE := Lib.hid (H2.out.bad_at HtA.out hltn HF.out.1 HF.out.2 hb)
        rw [hb] at HC
        clear hb HF
        go_wp2_with fail
        refine (HC.out _).mono ?_
        rintro e w' ⟨rfl, rfl⟩
        go_wp2_with (refine wpList_store_box (n := 2) Tryz.fldSize rfl _ _ rfl (g := w.heap.size) (vs := fldL ⟨#[]⟩ ⟨#[]⟩) rfl rfl H0.out rfl rfl (fld_one _ _) ?_)
        intro w2 b2 o2
        go_wp2
        refine bodyPost_ret (v := refV (.bad (n : Int))) ?_ rfl ⟨by rw [HE.out], B0.out.trans (only_eq_below o2 (Nat.le_refl _) B0.out.size)⟩
        exact results_cell1 Tryz.fldSize Tryz.fldAgg Tryz.results39 _ _ rfl rfl b2.vals rfl
      ·obtain rfl : n = s.size := by omega
       have HE := Lib.hid (outS_of H2.out HtA.out (H2.out.all_field HF.out.2))
       have HL := Lib.hid (fun W => refLower_huge A W HB.out.1)
       have HR := Lib.hid (fun W => refTrim_any B W (Nat.le_trans HB.out.2 (by decide)))
       obtain ⟨j0, hj0⟩ : ∃ j0 : Int, j0 = (k : Int) + 1 := ⟨_, rfl⟩
       have SB := fun W => slice_sfrom s B j0 (k + 1) (by omega) (by omega) (by rw [H2.out.drop, HA.out]) W
       have hw1 : IntKind.i64.wrap ((k : Int) + 1) = j0 := (IntWalk.i64_in ((k : Int) + 1) (by omega)).trans hj0.symm
       clear hj0
       clear HF
       obtain ⟨X, hX⟩ : ∃ X, X = lowS A := ⟨_, rfl⟩
       obtain ⟨Y, hY⟩ : ∃ Y, Y = trimS B := ⟨_, rfl⟩
       rw [<- hX] at HL HE
       rw [<- hY] at HR HE
       clear hX hY
       have hz1 : k + 1 <= s.size := by omega
       go_wp2_with fail
       go_region_held3 (fun W => True) (trivial) (first | (go_at_call 50; refine (HL.out _).mono ?_; rintro e w' ⟨rfl, hb⟩; have yb : Box w' w.heap.size (fldL ⟨#[]⟩ ⟨#[]⟩) := (by first | exact H0.out.below hb | exact H0.out.drew.below hb); obtain ⟨k0, k1⟩ := yb.vals.two; have f0 := yb.free 0 (by decide); have f1 := yb.free 1 (by decide); have HY := Lib.hid yb; have HW := Lib.hid (show Below W0.heap.size W0 w' by first | exact hb | exact (Below.refl _ _).drew.trans hb); clear hb yb) | (go_at_call 51; refine (HR.out _).mono ?_; rintro e w'' ⟨rfl, rfl⟩))
       change Exit.then _ _ _ _ (put2 w' w.heap.size (.string X) (.string Y))
       have b2 := put2_box HY.out (.string X) (.string Y)
       have o2 := put2_only w' w.heap.size (.string X) (.string Y)
       have HB2 := Lib.hid (B0.out.trans (HW.out.mono B0.out.size))
       generalize put2 w' w.heap.size (.string X) (.string Y) = w2 at b2 o2 ⊢
       clear k0 k1 f0 f1
       go_wp2
       refine bodyPost_ret (v := refV (.fld X Y)) ?_ rfl ⟨by rw [HE.out], HB2.out.trans (only_eq_below o2 (Nat.le_refl _) HB2.out.size)⟩
       exact results_cell1 Tryz.fldSize Tryz.fldAgg Tryz.results39 _ _ rfl rfl b2.vals rfl
   ·have HN2 := Lib.hid (no_colon_snoc hlt HN.out (byte_not (n := 58) (by decide) h58))
    have q1 : ((s[k].toNat : Int) == 58) = false := by rw [beq_eq_false_iff_ne]; exact h58
    clear HN h58
    go_wp2
    go_round
    case rel => exact ⟨k + 1, by omega, by go_num, HN2⟩
    case measure => simp [intOf]; omega
  ·obtain rfl : k = s.size := by omega
   have HE := Lib.hid (outS_not (s := s) (by have := HN.out; rwa [List.take_of_length_le (by rw [Lib.size_eq]; exact Nat.le_refl _)] at this))
   clear HN
   go_wp2_with (refine wpList_store_box (n := 2) Tryz.fldSize rfl _ _ rfl (g := w.heap.size) (vs := fldL ⟨#[]⟩ ⟨#[]⟩) rfl rfl H0.out rfl rfl (fld_one _ _) ?_)
   intro w2 b2 o2
   go_wp2
   refine bodyPost_ret (v := refV (.bad 0)) ?_ rfl ⟨by rw [HE.out], B0.out.trans (only_eq_below o2 (Nat.le_refl _) B0.out.size)⟩
   exact results_cell1 Tryz.fldSize Tryz.fldAgg Tryz.results39 _ _ rfl rfl b2.vals rfl
end Go.Proofs.YtpplgdnklpchkaaGreatDoor
namespace Go.Proofs.YtpplgdnklpchkaaGreatDoor
set_option linter.all false
open Go.RowKit
abbrev FB := ByteArray × ByteArray
def fldVals : List FB -> List Value
 | [] => []
 | f :: l => .string f.1 :: .string f.2 :: fldVals l
theorem fldVals_len : ∀ L : List FB, (fldVals L).length = 2 * L.length
 | [] => rfl
 | f :: l => by simp [fldVals, fldVals_len l]; omega
theorem fldVals_append : ∀ a b : List FB, fldVals (a ++ b) = fldVals a ++ fldVals b
 | [], _ => rfl
 | f :: l, b => by simp [fldVals, fldVals_append l b]
theorem fldVals_at : ∀ (L : List FB) (i : Nat) (f : FB), L[i]? = some f -> (fldVals L)[2 * i]? = some (.string f.1) /\ (fldVals L)[2 * i + 1]? = some (.string f.2)
 | [], i, f, h => by simp at h
 | g :: l, 0, f, h => by
  simp at h; subst h
  exact ⟨rfl, rfl⟩
 | g :: l, i + 1, f, h => by
  have := fldVals_at l i f (by simpa using h)
  have e : 2 * (i + 1) = 2 * i + 1 + 1 := by omega
  rw [e]
  simpa [fldVals] using this
theorem fldVals_one : ∀ (L : List FB), ∀ v ∈ fldVals L, v.oneCell' = true
 | [], v, h => by simp [fldVals] at h
 | f :: l, v, h => by
  simp only [fldVals, List.mem_cons] at h
  rcases h with rfl | rfl | h
  ·rfl
  ·rfl
  ·exact fldVals_one l v h
def FldAt (w : World) (b o : Nat) (f : FB) : Prop := w.cell? ⟨b, o, none⟩ = some (.string f.1) /\ w.cell? ⟨b, o + 1, none⟩ = some (.string f.2)
theorem FldAt.below {w w' : World} {b o : Nat} {f : FB} (h : FldAt w b o f) (hb : Below w.heap.size w w') : FldAt w' b o f :=
 ⟨(hb.cell (World.block_lt_of_cell? w _ h.1)).trans h.1, (hb.cell (World.block_lt_of_cell? w _ h.2)).trans h.2⟩
def FldsIn (w : World) (v : Value) (L : List FB) : Prop :=
 (L = [] /\ (v = .slice none 0 0 \/ ∃ ad cap, v = .slice (some ad) 0 cap)) \/
 ∃ b off cap, v = .slice (some ⟨b, off, none⟩) L.length cap /\ L.length <= cap /\ cap <= 9223372036854775807 /\ ∀ i f, L[i]? = some f -> FldAt w b (off + i * 2) f
theorem FldsIn.below {w w' : World} {v : Value} {L : List FB} (h : FldsIn w v L) (hb : Below w.heap.size w w') : FldsIn w' v L := by
 rcases h with h | ⟨b, off, cap, rfl, h1, h2, h3⟩
 ·exact .inl h
 ·exact .inr ⟨b, off, cap, rfl, h1, h2, fun i f hf => (h3 i f hf).below hb⟩
theorem FldsIn.drew {w : World} {v : Value} {L : List FB} (h : FldsIn w v L) : FldsIn w.drew v L := h
theorem FldsIn.nil (w : World) : FldsIn w (.slice none 0 0) [] := .inl ⟨rfl, .inl rfl⟩
theorem FldsIn.sliced {w : World} {v : Value} {L : List FB} (h : FldsIn w v L) : ∃ p c, v = .slice p L.length c := by
 rcases h with ⟨rfl, rfl | ⟨ad, cap, rfl⟩⟩ | ⟨b, off, cap, rfl, _⟩
 ·exact ⟨none, 0, rfl⟩
 ·exact ⟨_, _, rfl⟩
 ·exact ⟨_, _, rfl⟩
theorem FldsIn.len {w : World} {v : Value} {L : List FB} (h : FldsIn w v L) : L.length <= 9223372036854775807 := by
 rcases h with ⟨rfl, _⟩ | ⟨b, off, cap, rfl, h1, h2, _⟩
 ·simp
 ·omega
theorem Tryz.uFlds : Tryz.prog.underlying 46 = some (.slice (Tryz.prog.elem 46)) := by kernel_rfl
theorem Tryz.zFld (w : World) : (sizeOf (Tryz.prog.elem 46)).run Tryz.prog w = .ok 2 w := by kernel_rfl
theorem FldsIn.at_ {w : World} {p : Option Addr} {n c : Nat} {L : List FB} (h : FldsIn w (.slice p n c) L) (k : Nat) (hk : k < L.length) :
  ∃ b o, (∀ W, (Instr.indexAt 46 (.slice p n c) (.int .i64 (k : Int))).run Tryz.prog W = .ok (.pointer (some ⟨b, o, none⟩)) W) /\ FldAt w b o L[k] := by
 rcases h with ⟨rfl, _⟩ | ⟨b, off, cap, hv, h1, h2, h3⟩
 ·simp at hk
 ·injection hv with e1 e2 e3
  subst e1 e2 e3
  refine ⟨b, off + k * 2, fun W => ?_, h3 k _ (List.getElem?_eq_getElem hk)⟩
  rw [run_indexAt_slice (h := Tryz.uFlds), if_pos ⟨by omega, by omega⟩, Tryz.zFld]
  simp [Result.andThen, Addr.add_lit]
def OwnFlds (w : World) (B : Nat) (v : Value) (L : List FB) : Prop := w.ownsRow B 53 2 v L.length (fldVals L)
theorem OwnFlds.nil (w : World) (B : Nat) : OwnFlds w B (.slice none 0 0) [] := World.ownsRow_nil _ _ _ _
theorem OwnFlds.alloc {w : World} {B : Nat} {v : Value} {L : List FB} (h : OwnFlds w B v L) (o : Obj) : OwnFlds (w.alloc o) B v L := World.ownsRow.alloc h o
theorem OwnFlds.below {w w' : World} {B : Nat} {v : Value} {L : List FB} (h : OwnFlds w B v L) (hb : Below w.heap.size w w') : OwnFlds w' B v L := own_below h hb
theorem OwnFlds.sliced {w : World} {B : Nat} {v : Value} {L : List FB} (h : OwnFlds w B v L) : ∃ p c, v = .slice p L.length c := by
 have h0 : w.ownsRow B 53 2 v L.length (fldVals L) := h
 rcases h0.2 with ⟨rfl, hn⟩ | ⟨g, cap, cur, rfl, _⟩
 ·rw [hn]; exact ⟨none, 0, rfl⟩
 ·exact ⟨_, cap, rfl⟩
theorem OwnFlds.fldsIn {w : World} {B : Nat} {v : Value} {L : List FB} (h : OwnFlds w B v L) : FldsIn w v L := by
 have h0 : w.ownsRow B 53 2 v L.length (fldVals L) := h
 rcases h0.2 with ⟨rfl, hn⟩ | ⟨g, cap, cur, rfl, _, hh, hn, hm, hc, ht⟩
 ·exact .inl ⟨List.length_eq_zero_iff.1 hn, .inl rfl⟩
 ·refine .inr ⟨g, 0, cap, rfl, hn, by unfold maxLen at hm; exact hm, fun i f hf => ?_⟩
  obtain ⟨c0, c1⟩ := fldVals_at L i f hf
  have d0 := h0.cells (g := g) rfl _ _ c0
  have d1 := h0.cells (g := g) rfl _ _ c1
  rw [Addr.add_lit] at d0 d1
  have e0 : 0 + 2 * i = 0 + i * 2 := by omega
  have e1 : 0 + (2 * i + 1) = 0 + i * 2 + 1 := by omega
  rw [e0] at d0
  rw [e1] at d1
  exact ⟨d0, d1⟩
theorem Tryz.infoFld : (Tryz.prog.info? 53).map (fun i => (i.zero, i.size, i.bytes)) = some (some (.agg #[.string ByteArray.empty, .string ByteArray.empty]), 2, 32) := by kernel_rfl
theorem fldInfo : ∃ i, Tryz.prog.info? 53 = some i /\ i.zero = some (.agg #[.string ByteArray.empty, .string ByteArray.empty]) /\ i.size = 2 /\ i.bytes = 32 := by
 have h := Tryz.infoFld
 cases hi : Tryz.prog.info? 53 with
 | none => rw [hi] at h; simp at h
 | some i => rw [hi] at h; simp at h; exact ⟨i, rfl, h.1, h.2.1, h.2.2⟩
theorem Tryz.uFlds2 : Tryz.prog.underlying 46 = some (.slice 53) := by kernel_rfl
theorem Box.fldsIn {w : World} {g : Nat} {M : List FB} (h : Box w g (fldVals M)) {n : Nat} (hn : M.length = n) (hm : n <= 1000000) : FldsIn w (.slice (some ⟨g, 0, none⟩) n n) M := by
 subst hn
 refine .inr ⟨g, 0, M.length, rfl, Nat.le_refl _, by omega, fun i f hf => ?_⟩
 obtain ⟨c0, c1⟩ := fldVals_at M i f hf
 have d0 := h.vals _ _ c0
 have d1 := h.vals _ _ c1
 have e0 : 0 + i * 2 = 2 * i := by omega
 rw [e0]
 exact ⟨d0, d1⟩
end Go.Proofs.YtpplgdnklpchkaaGreatDoor
namespace Go.Proofs.YtpplgdnklpchkaaGreatDoor
set_option linter.all false
open Go.Lib
def mkB (l : List UInt8) : ByteArray := ⟨l.toArray⟩
theorem mkB_data (l : List UInt8) : (mkB l).data.toList = l := by simp [mkB]
theorem mkB_of (s : ByteArray) : mkB s.data.toList = s := by simp [mkB]
def cutC : List UInt8 -> List (List UInt8)
 | [] => [[]]
 | c :: r => if c = 44 then [] :: cutC r else
  match cutC r with
  | [] => [[c]]
  | p :: ps => (c :: p) :: ps
theorem cutC_ne : ∀ l, ∃ p ps, cutC l = p :: ps
 | [] => ⟨[], [], rfl⟩
 | c :: r => by
  obtain ⟨p, ps, h⟩ := cutC_ne r
  by_cases hc : c = 44
  ·exact ⟨[], cutC r, by simp [cutC, hc]⟩
  ·exact ⟨c :: p, ps, by simp [cutC, hc, h]⟩
theorem cutC_none : ∀ {l : List UInt8}, (44 : UInt8) ∉ l -> cutC l = [l]
 | [], _ => rfl
 | c :: r, h => by
  rw [List.mem_cons, not_or] at h
  rw [cutC, if_neg (Ne.symm h.1), cutC_none h.2]
theorem cutC_cat : ∀ (a b : List UInt8), cutC (a ++ 44 :: b) = cutC a ++ cutC b
 | [], b => by simp [cutC]
 | c :: a, b => by
  have ih := cutC_cat a b
  obtain ⟨p, ps, h⟩ := cutC_ne a
  by_cases hc : c = 44
  ·simp [cutC, hc, ih]
  ·simp [cutC, hc, ih, h]
theorem cutC_first {a b : List UInt8} (h : (44 : UInt8) ∉ a) : cutC (a ++ 44 :: b) = a :: cutC b := by
 rw [cutC_cat, cutC_none h]; rfl
def el1 (p : List UInt8) : List (List UInt8) := if trimL p = [] then [] else [trimL p]
def elsL (l : List UInt8) : List (List UInt8) := (cutC l).flatMap el1
def partsB (s : ByteArray) : List ByteArray := (cutC s.data.toList).map mkB
def el1B (p : ByteArray) : List ByteArray := if trimS p = ByteArray.empty then [] else [trimS p]
def elsB (s : ByteArray) : List ByteArray := (partsB s).flatMap el1B
def elsA (L : List ByteArray) : List ByteArray := L.flatMap elsB
theorem el1B_mk (p : List UInt8) : el1B (mkB p) = (el1 p).map mkB := by
 unfold el1B el1 trimS
 rw [mkB_data]
 by_cases h : trimL p = []
 ·rw [if_pos h, if_pos (by rw [h]; rfl)]; rfl
 ·have hn : ¬ (⟨(trimL p).toArray⟩ : ByteArray) = ByteArray.empty := fun e => h (text_inj.1 (show (⟨(trimL p).toArray⟩ : ByteArray) = ⟨([] : List UInt8).toArray⟩ from e))
  rw [if_neg h, if_neg hn]; rfl
theorem elsB_map (s : ByteArray) : elsB s = (elsL s.data.toList).map mkB := by
 unfold elsB partsB elsL
 rw [List.flatMap_map, List.map_flatMap]
 congr 1; funext p
 exact el1B_mk p
theorem partsB_none {s : ByteArray} (h : (44 : UInt8) ∉ s.data.toList) : partsB s = [s] := by
 simp [partsB, cutC_none h, mkB_of]
theorem partsB_first {s : ByteArray} {a b : List UInt8} (hs : s.data.toList = a ++ 44 :: b) (h : (44 : UInt8) ∉ a) : partsB s = mkB a :: partsB (mkB b) := by
 simp [partsB, hs, cutC_first h, mkB_data]
theorem elsA_append (a b : List ByteArray) : elsA (a ++ b) = elsA a ++ elsA b := by simp [elsA]
theorem elsA_snoc (a : List ByteArray) (x : ByteArray) : elsA (a ++ [x]) = elsA a ++ elsB x := by simp [elsA]
theorem elsA_take_snoc (L : List ByteArray) (k : Nat) (h : k < L.length) : elsA (L.take (k + 1)) = elsA (L.take k) ++ elsB L[k] := by
 rw [List.take_succ_eq_append_getElem h, elsA_snoc]
theorem elsA_split (L : List ByteArray) (k : Nat) (h : k < L.length) : elsA L = elsA (L.take k) ++ elsB L[k] ++ elsA (L.drop (k + 1)) := by
 conv => lhs; rw [<- List.take_append_drop (k + 1) L]
 rw [elsA_append, elsA_take_snoc L k h]
theorem cutC_len : ∀ (l : List UInt8), ∀ p ∈ cutC l, p.length <= l.length
 | [], p, h => by simp [cutC] at h; subst h; simp
 | c :: r, p, h => by
  obtain ⟨q, qs, hq⟩ := cutC_ne r
  by_cases hc : c = 44
  ·rw [cutC, if_pos hc, List.mem_cons] at h
   rcases h with rfl | h
   ·simp
   ·have := cutC_len r p h; simp; omega
  ·rw [cutC, if_neg hc, hq, List.mem_cons] at h
   rcases h with rfl | h
   ·have := cutC_len r q (by rw [hq]; simp); simp; omega
   ·have := cutC_len r p (by rw [hq]; exact List.mem_cons_of_mem _ h); simp; omega
theorem partsB_size {s p : ByteArray} (h : p ∈ partsB s) : p.size <= s.size := by
 unfold partsB at h
 obtain ⟨l, hl, rfl⟩ := List.mem_map.1 h
 rw [size_eq, size_eq, mkB_data]
 exact cutC_len _ l hl
theorem el1B_some {p : ByteArray} (h : ¬ trimS p = ByteArray.empty) : el1B p = [trimS p] := if_neg h
theorem el1B_none {p : ByteArray} (h : trimS p = ByteArray.empty) : el1B p = [] := if_pos h
def toksA (L : List ByteArray) : List ByteArray := if (elsA L).all tokS = true then (elsA L).map lowS else []
def toksOk (L : List ByteArray) : Bool := (elsA L).all tokS && !(elsA L).isEmpty
theorem elsB_size {s p : ByteArray} (h : p ∈ elsB s) : p.size <= s.size := by
 unfold elsB at h
 obtain ⟨q, hq, hp⟩ := List.mem_flatMap.1 h
 have h1 := partsB_size hq
 have h2 : p.size <= q.size := by
  unfold el1B at hp
  split at hp
  ·cases hp
  ·rw [List.mem_singleton] at hp
   subst hp
   rw [size_eq, size_eq]
   simpa [trimS] using trim_len q.data.toList
 omega
theorem elsA_size {L : List ByteArray} {m : Nat} (hL : ∀ s ∈ L, s.size <= m) {p : ByteArray} (h : p ∈ elsA L) : p.size <= m := by
 obtain ⟨s, hs, hp⟩ := List.mem_flatMap.1 h
 exact Nat.le_trans (elsB_size hp) (hL s hs)
theorem toks_all {L : List ByteArray} (h : (elsA L).all tokS = true) : toksA L = (elsA L).map lowS /\ toksOk L = decide (0 < (elsA L).length) := by
 unfold toksA toksOk
 rw [if_pos h, h]
 refine ⟨rfl, ?_⟩
 cases elsA L <;> simp
theorem toks_not {L : List ByteArray} (h : (elsA L).all tokS = false) : toksA L = [] /\ toksOk L = false := by
 unfold toksA toksOk
 rw [if_neg (by rw [h]; decide), h]
 exact ⟨rfl, rfl⟩
theorem idx_none {s : ByteArray} (h : indexByte s.data.toList 44 < 0) : (44 : UInt8) ∉ s.data.toList := by
 have h1 : indexByte s.data.toList 44 = -1 := by have := indexByte_ge s.data.toList 44; omega
 intro hm
 obtain ⟨k, hk⟩ := List.getElem?_of_mem hm
 exact indexByte_none h1 k hk
theorem idx_some {s : ByteArray} {o : Nat} (h : indexByte s.data.toList 44 = o) : s.data.toList = s.data.toList.take o ++ 44 :: s.data.toList.drop (o + 1) /\ (44 : UInt8) ∉ s.data.toList.take o /\ o < s.size := by
 obtain ⟨h1, h2⟩ := indexByte_some h
 obtain ⟨hlt, he⟩ := List.getElem?_eq_some_iff.1 h1
 refine ⟨?_, ?_, by rw [size_eq]; exact hlt⟩
 ·conv => lhs; rw [<- List.take_append_drop o s.data.toList, List.drop_eq_getElem_cons hlt, he]
 ·intro hm
  obtain ⟨k, hk⟩ := List.getElem?_of_mem hm
  have hko : k < o := by
   have := (List.getElem?_eq_some_iff.1 hk).1
   rw [List.length_take] at this; omega
  rw [List.getElem?_take, if_pos hko] at hk
  exact h2 k hko hk
def refGo : List UInt8 -> List UInt8 -> List (List UInt8)
 | _, [] => []
 | part, c :: r => if c = 44 then el1 part ++ refGo [] r else refGo (part ++ [c]) r
theorem refGo_cut : ∀ (r part p : List UInt8) (ps : List (List UInt8)), cutC r = p :: ps -> refGo part (r ++ [44]) = (((part ++ p) :: ps).flatMap el1)
 | [], part, p, ps, h => by
  simp only [cutC, List.cons.injEq] at h
  obtain ⟨rfl, rfl⟩ := h
  simp [refGo]
 | c :: r, part, p, ps, h => by
  obtain ⟨q, qs, hq⟩ := cutC_ne r
  by_cases hc : c = 44
  ·rw [cutC, if_pos hc] at h
   simp only [List.cons.injEq] at h
   obtain ⟨rfl, rfl⟩ := h
   rw [List.cons_append, refGo, if_pos hc, refGo_cut r [] q qs hq, hq]
   simp
  ·rw [cutC, if_neg hc, hq] at h
   simp only [List.cons.injEq] at h
   obtain ⟨rfl, rfl⟩ := h
   rw [List.cons_append, refGo, if_neg hc, refGo_cut r (part ++ [c]) q qs hq]
   simp
theorem refGo_els (l : List UInt8) : refGo [] (l ++ [44]) = elsL l := by
 obtain ⟨p, ps, h⟩ := cutC_ne l
 rw [refGo_cut l [] p ps h, elsL, h]; rfl
end Go.Proofs.YtpplgdnklpchkaaGreatDoor
namespace Go.Proofs.YtpplgdnklpchkaaGreatDoor
set_option linter.all false
open Go.Lib
def spc : ByteArray := ⟨#[32]⟩
structure Three (s A B C : ByteArray) : Prop where
 text : s.data.toList = A.data.toList ++ 32 :: (B.data.toList ++ 32 :: C.data.toList)
 noA : (32 : UInt8) ∉ A.data.toList
 noB : (32 : UInt8) ∉ B.data.toList
 noC : (32 : UInt8) ∉ C.data.toList
def spn (s : ByteArray) : Nat := s.data.toList.count 32
theorem list_split (l : List UInt8) (h : 0 < l.count 32) : ∃ a r, l = a ++ 32 :: r /\ (32 : UInt8) ∉ a := by
 induction l with
 | nil => simp at h
 | cons b l ih =>
  by_cases hb : b = 32
  ·exact ⟨[], l, by rw [hb]; rfl, by simp⟩
  ·rw [List.count_cons_of_ne (by simpa using hb)] at h
   obtain ⟨a, r, e, hn⟩ := ih h
   exact ⟨b :: a, r, by rw [e]; rfl, by simp [hn, Ne.symm hb]⟩
theorem count_split {a r : List UInt8} (h : (32 : UInt8) ∉ a) : (a ++ 32 :: r).count 32 = r.count 32 + 1 := by
 rw [List.count_append, List.count_eq_zero_of_not_mem h]; simp
theorem Three.count {s A B C : ByteArray} (h : Three s A B C) : spn s = 2 := by
 unfold spn
 rw [h.text, count_split h.noA, count_split h.noB, List.count_eq_zero_of_not_mem h.noC]
theorem three_some (s : ByteArray) (h : spn s = 2) : ∃ A B C, Three s A B C := by
 unfold spn at h
 obtain ⟨a, r, e, ha⟩ := list_split s.data.toList (by omega)
 rw [e, count_split ha] at h
 obtain ⟨b, c, e', hb⟩ := list_split r (by omega)
 rw [e', count_split hb] at h
 have hc : (32 : UInt8) ∉ c := List.count_eq_zero.1 (by omega)
 exact ⟨⟨a.toArray⟩, ⟨b.toArray⟩, ⟨c.toArray⟩, by rw [e, e'], ha, hb, hc⟩
theorem Three.size {s A B C : ByteArray} (h : Three s A B C) : s.size = A.size + B.size + C.size + 2 := by
 have := congrArg List.length h.text
 simp only [List.length_append, List.length_cons] at this
 simp only [size_eq]; omega
theorem cut_take (a b c : List UInt8) (x y : UInt8) : (a ++ x :: (b ++ y :: c)).take a.length = a := by simp
theorem cut_mid (a b c : List UInt8) (x y : UInt8) : ((a ++ x :: (b ++ y :: c)).take (a.length + 1 + b.length)).drop (a.length + 1) = b := by
 have e : a ++ x :: (b ++ y :: c) = (a ++ [x]) ++ (b ++ y :: c) := by simp
 have l : (a ++ [x]).length = a.length + 1 := by simp
 rw [e, <- l, List.take_append, List.take_of_length_le (by omega), List.drop_append, List.drop_of_length_le (Nat.le_refl _)]
 simp
theorem cut_drop (a b c : List UInt8) (x y : UInt8) : (a ++ x :: (b ++ y :: c)).drop (a.length + 1 + b.length + 1) = c := by
 have e : a ++ x :: (b ++ y :: c) = (a ++ x :: (b ++ [y])) ++ c := by simp
 have l : (a ++ x :: (b ++ [y])).length = a.length + 1 + b.length + 1 := by simp; omega
 rw [e, <- l, List.drop_append, List.drop_of_length_le (Nat.le_refl _)]
 simp
theorem index_at (a r : List UInt8) (h : (32 : UInt8) ∉ a) : index (a ++ 32 :: r) [32] = (a.length : Int) := by
 induction a with
 | nil => simp [index, List.isPrefixOf]
 | cons b a ih =>
  have hb : ((32 : UInt8) == b) = false := by simp only [beq_eq_false_iff_ne]; intro e; exact h (by simp [e])
  have := ih (fun m => h (by simp [m]))
  rw [List.cons_append, index, this]
  have h1 : ((a.length : Int) == -1) = false := by rw [beq_eq_false_iff_ne]; omega
  simp [List.isPrefixOf, hb, h1]
theorem index_not (a : List UInt8) (h : (32 : UInt8) ∉ a) : index a [32] = -1 := by
 induction a with
 | nil => simp [index]
 | cons b a ih =>
  have hb : ((32 : UInt8) == b) = false := by simp only [beq_eq_false_iff_ne]; intro e; exact h (by simp [e])
  have := ih (fun m => h (by simp [m]))
  rw [index, this]
  simp [List.isPrefixOf, hb]
theorem indexB_at {s : ByteArray} {a r : List UInt8} (e : s.data.toList = a ++ 32 :: r) (h : (32 : UInt8) ∉ a) : indexB s spc = (a.length : Int) := by
 show index s.data.toList [32] = _
 rw [e, index_at a r h]
theorem indexB_not {s : ByteArray} (h : (32 : UInt8) ∉ s.data.toList) : indexB s spc = -1 := index_not _ h
theorem ba_ext {a b : ByteArray} (h : a.data.toList = b.data.toList) : a = b := ByteArray.ext (Array.ext' h)
theorem splitB_cut {s : ByteArray} {a r : List UInt8} (k : Nat) (e : s.data.toList = a ++ 32 :: r) (h : (32 : UInt8) ∉ a) : splitB spc 0 (k + 1) s = ⟨a.toArray⟩ :: splitB spc 0 k ⟨r.toArray⟩ := by
 have hs : s.size = a.length + r.length + 1 := by rw [size_eq, e]; simp; omega
 rw [splitB_hit spc 0 k s a.length (indexB_at e h)]
 have h1 : s.extract 0 (a.length + 0) = ⟨a.toArray⟩ := ba_ext (by rw [extract_from_zero, e]; simp)
 have h2 : s.extract (a.length + spc.size) s.size = ⟨r.toArray⟩ := ba_ext (by
  rw [extract_to_end, e]
  show (a ++ 32 :: r).drop (a.length + 1) = r
  simp)
 rw [h1, h2]
theorem splitB_len : ∀ (k : Nat) (s : ByteArray), (splitB spc 0 k s).length = min k (spn s) + 1
 | 0, s => by simp [splitB]
 | k + 1, s => by
  by_cases h : 0 < spn s
  ·obtain ⟨a, r, e, ha⟩ := list_split s.data.toList h
   rw [splitB_cut k e ha, List.length_cons, splitB_len k]
   have : spn s = spn ⟨r.toArray⟩ + 1 := by unfold spn; rw [e, count_split ha]
   omega
  ·have h0 : (32 : UInt8) ∉ s.data.toList := List.count_eq_zero.1 (by unfold spn at h; omega)
   rw [splitB_miss spc 0 _ s (indexB_not h0)]
   have : spn s = 0 := by omega
   simp [this]
theorem Three.split {s A B C : ByteArray} (h : Three s A B C) (k : Nat) (hk : 2 <= k) : splitB spc 0 k s = [A, B, C] := by
 obtain ⟨k, rfl⟩ : ∃ j, k = j + 2 := ⟨k - 2, by omega⟩
 rw [splitB_cut (k + 1) h.text h.noA, splitB_cut k rfl h.noB, splitB_miss spc 0 k _ (indexB_not h.noC)]
theorem spn_le (s : ByteArray) : spn s <= s.size := by rw [size_eq]; exact List.count_le_length
theorem split_not {s : ByteArray} (h : spn s ≠ 2) : (splitB spc 0 (min 4 (s.size + 1) - 1) s).length ≠ 3 := by
 rw [splitB_len]
 have := spn_le s
 omega
def posn (n : Nat) (l : List UInt8) : List Nat := ((l.zipIdx n).filter fun p => p.1 == 32).map (·.2)
theorem posn_append (n : Nat) (a b : List UInt8) : posn n (a ++ b) = posn n a ++ posn (n + a.length) b := by
 simp [posn, List.zipIdx_append]
theorem posn_one (n : Nat) (c : UInt8) : posn n [c] = if c = 32 then [n] else [] := by
 by_cases h : c = 32 <;> simp [posn, h]
theorem posn_none : ∀ (n : Nat) (a : List UInt8), (32 : UInt8) ∉ a -> posn n a = []
 | _, [], _ => rfl
 | n, b :: a, h => by
  have h1 : ¬ b = 32 := fun e => h (by simp [e])
  have := posn_none (n + 1) a (fun m => h (by simp [m]))
  rw [show b :: a = [b] ++ a from rfl, posn_append, posn_one, if_neg h1]
  simpa using this
theorem posn_len : ∀ (n : Nat) (l : List UInt8), (posn n l).length = l.count 32
 | _, [] => rfl
 | n, b :: l => by
  rw [show b :: l = [b] ++ l from rfl, posn_append, List.length_append, posn_len (n + [b].length) l, posn_one, List.count_append]
  by_cases h : b = 32 <;> simp [h]
theorem posn_snoc (s : ByteArray) (k : Nat) (h : k < s.size) : posn 0 (s.data.toList.take (k + 1)) = posn 0 (s.data.toList.take k) ++ if s[k] = 32 then [k] else [] := by
 rw [take_snoc s k h, posn_append, posn_one]
 have : (s.data.toList.take k).length = k := by rw [List.length_take]; rw [size_eq] at h; omega
 rw [this, Nat.zero_add]
theorem Three.posn {s A B C : ByteArray} (h : Three s A B C) : posn 0 s.data.toList = [A.size, A.size + 1 + B.size] := by
 rw [h.text, posn_append, posn_none _ _ h.noA, show (32 : UInt8) :: (B.data.toList ++ 32 :: C.data.toList) = [32] ++ (B.data.toList ++ ([32] ++ C.data.toList)) from rfl,
  posn_append, posn_append, posn_append, posn_none _ _ h.noB, posn_none _ _ h.noC, posn_one, posn_one, <- size_eq, <- size_eq]
 simp
def tgtB (z : Int) : Bool := decide (33 <= z /\ z <= 126)
def tgtS (s : ByteArray) : Bool := decide (0 < s.size) && allB tgtB s.data.toList
def verS (s : ByteArray) : Bool := match s.data.toList with
 | [72, 84, 84, 80, 47, a, d, b] => digitB (a.toNat : Int) && (d == 46 && digitB (b.toNat : Int))
 | _ => false
def v10 : ByteArray := ⟨#[72, 84, 84, 80, 47, 49, 46, 48]⟩
def v11 : ByteArray := ⟨#[72, 84, 84, 80, 47, 49, 46, 49]⟩
def supS (s : ByteArray) : Bool := s.toList == [72, 84, 84, 80, 47, 49, 46, 48] || s.toList == [72, 84, 84, 80, 47, 49, 46, 49]
def minS (s : ByteArray) : Int := if s.toList == [72, 84, 84, 80, 47, 49, 46, 49] then 1 else 0
inductive OutR
 | bad (st at_ : Int)
 | line (A B : ByteArray) (m : Int)
def outP (A B C : ByteArray) : OutR :=
 if tokS A then
  if tgtS B then
   if verS C then
    if supS C then .line A B (minS C) else .bad 505 ((A.size : Int) + (B.size : Int) + 2)
   else .bad 400 ((A.size : Int) + (B.size : Int) + 2)
  else .bad 400 ((A.size : Int) + 1)
 else .bad 400 0
def Is (s : ByteArray) (o : OutR) : Prop := (∃ A B C, Three s A B C /\ o = outP A B C) \/ (spn s ≠ 2 /\ o = .bad 400 0)
theorem is_some (s : ByteArray) : ∃ o, Is s o := by
 by_cases h : spn s = 2
 ·obtain ⟨A, B, C, h⟩ := three_some s h
  exact ⟨_, .inl ⟨A, B, C, h, rfl⟩⟩
 ·exact ⟨_, .inr ⟨h, rfl⟩⟩
theorem supS_cases {s : ByteArray} (h : supS s = true) : s = v10 \/ s = v11 := by
 unfold supS at h
 rw [Bool.or_eq_true] at h
 rcases h with h | h
 ·exact .inl (ba_ext (by simpa [ByteArray.toList_eq, v10] using h))
 ·exact .inr (ba_ext (by simpa [ByteArray.toList_eq, v11] using h))
theorem verS_at (a d b : UInt8) : verS ⟨#[72, 84, 84, 80, 47, a, d, b]⟩ = (digitB (a.toNat : Int) && (d == 46 && digitB (b.toNat : Int))) := rfl
theorem pre_cases (s : ByteArray) : (∃ a d b : UInt8, s = ⟨#[72, 84, 84, 80, 47, a, d, b]⟩) \/ (verS s = false /\ (hasPrefix s.data.toList [72, 84, 84, 80, 47] = false \/ s.size ≠ 8)) := by
 by_cases h : hasPrefix s.data.toList [72, 84, 84, 80, 47] = true /\ s.size = 8
 ·left
  obtain ⟨h1, h2⟩ := h
  have : ([72, 84, 84, 80, 47] : List UInt8) <+: s.data.toList := by simpa [hasPrefix] using h1
  obtain ⟨t, ht⟩ := this
  have hl : t.length = 3 := by
   have := congrArg List.length ht
   rw [<- size_eq, h2] at this
   simp at this; omega
  match t, hl with
  | [a, d, b], _ => exact ⟨a, d, b, ba_ext ht.symm⟩
 ·right
  refine ⟨?_, ?_⟩
  ·unfold verS
   split
   ·rename_i a d b e
    exfalso; apply h
    rw [size_eq, e]
    exact ⟨rfl, rfl⟩
   ·rfl
  ·by_cases h1 : hasPrefix s.data.toList [72, 84, 84, 80, 47] = true
   ·exact .inr fun e => h ⟨h1, e⟩
   ·exact .inl (by simpa using h1)
def nGET : ByteArray := ⟨#[71, 69, 84]⟩
def nHEAD : ByteArray := ⟨#[72, 69, 65, 68]⟩
def nOPTIONS : ByteArray := ⟨#[79, 80, 84, 73, 79, 78, 83]⟩
def nPOST : ByteArray := ⟨#[80, 79, 83, 84]⟩
def nPUT : ByteArray := ⟨#[80, 85, 84]⟩
def nDELETE : ByteArray := ⟨#[68, 69, 76, 69, 84, 69]⟩
def nPATCH : ByteArray := ⟨#[80, 65, 84, 67, 72]⟩
def nTRACE : ByteArray := ⟨#[84, 82, 65, 67, 69]⟩
def nCONNECT : ByteArray := ⟨#[67, 79, 78, 78, 69, 67, 84]⟩
def names : List ByteArray := [nGET, nHEAD, nOPTIONS, nPOST, nPUT, nDELETE, nPATCH, nTRACE, nCONNECT]
def kindFrom (i : Nat) : List ByteArray -> ByteArray -> Nat
 | [], _ => 0
 | n :: l, s => if n.toList == s.toList then min (i + 1) 4 else kindFrom (i + 1) l s
def kindS (s : ByteArray) : Nat := kindFrom 0 names s
end Go.Proofs.YtpplgdnklpchkaaGreatDoor
namespace Go.Proofs.YtpplgdnklpchkaaGreatDoor
set_option linter.all false
open Go.RowKit
theorem visible_any (z : Int) (w : World) : Calls Tryz.prog 122 #[.int .u8 z] w (Says (tgtB z) w) := by
 go_enter Tryz.func122, Tryz.ntmps122
 go_wp2
 all_goals
  go_ret
  exact says_of w (by rw [Bool.eq_iff_iff]; go_light; simp [tgtB]; omega)
theorem all_visible (s : ByteArray) (w : World) (hs : s.size <= 9223372036854775807) : Calls Tryz.prog 120 #[.string s, .func (.func 122) #[] #[]] w (SaysIn (allB tgtB s.data.toList) w) :=
 all_any s _ tgtB w hs (fun x w => by kernel_rfl) (fun z w _ _ => visible_any z w)
theorem nonempty_of {s : ByteArray} (h : 0 < s.size) : s.toList.isEmpty = false := by
 rw [ByteArray.toList_eq]
 cases hl : s.data.toList with
 | nil => simp at hl; rw [show s.size = s.data.size from rfl, hl] at h; simp at h
 | cons _ _ => rfl
theorem empty_of {s : ByteArray} (h : ¬ 0 < s.size) : s = ByteArray.empty := by
 apply ByteArray.ext
 apply Array.eq_empty_of_size_eq_zero
 show s.size = 0
 omega
set_option maxRecDepth 100000 in
theorem isTarget_any (s : ByteArray) (w : World) (hs : s.size <= 9223372036854775807) :
  Calls Tryz.prog 105 #[.string s] w (SaysIn (tgtS s) w) := by
 by_cases h : 0 < s.size
 ·have h1 : s.toList.isEmpty = false := nonempty_of h
  have h2 : (!s.toList.isEmpty) = true := by rw [h1]; rfl
  have ht : tgtS s = allB tgtB s.data.toList := by simp [tgtS, h]
  have Ht := Lib.hid ht
  clear ht
  go_enter Tryz.func105, Tryz.ntmps105
  go_wp2_with fail
  refine (all_visible s _ hs).mono ?_
  rintro e w' ⟨rfl, hb⟩
  go_wp2_with fail
  go_ret
  exact saysIn_of Ht.out.symm hb
 ·obtain rfl := empty_of h
  go_enter Tryz.func105, Tryz.ntmps105
  go_wp2_with fail
  go_ret
  exact saysIn_of (by decide) (Below.refl _ _)
theorem isSupported_any (s : ByteArray) (w : World) : Calls Tryz.prog 107 #[.string s] w (Says (supS s) w) := by
 have Hs := Lib.hid (show supS s = (s.toList == [72, 84, 84, 80, 47, 49, 46, 48] || s.toList == [72, 84, 84, 80, 47, 49, 46, 49]) from rfl)
 by_cases h : s.toList = [72, 84, 84, 80, 47, 49, 46, 48]
 all_goals
  go_enter Tryz.func107, Tryz.ntmps107
  go_wp2
  go_ret
  exact says_of w (by rw [Hs.out]; try simp [h])
theorem minor_any (s : ByteArray) (w : World) (h : supS s = true) : Calls Tryz.prog 93 #[.string s] w (fun e w' => e = .returned (.int .i64 (minS s)) /\ w = w') := by
 have m0 : minS v10 = 0 := by simp [minS, ByteArray.toList_eq, v10]
 have m1 : minS v11 = 1 := by simp [minS, ByteArray.toList_eq, v11]
 rcases supS_cases h with rfl | rfl
 ·rw [m0]
  unfold v10
  go_enter Tryz.func93, Tryz.ntmps93
  go_wp2
  go_ret
  exact ⟨rfl, rfl⟩
 ·rw [m1]
  unfold v11
  go_enter Tryz.func93, Tryz.ntmps93
  go_wp2
  go_ret
  exact ⟨rfl, rfl⟩
def verOf (m : Int) : ByteArray := if m = 0 then v10 else v11
def textP (A B : ByteArray) (m : Int) : ByteArray := A ++ spc ++ B ++ spc ++ verOf m
def TextIn (t : ByteArray) (w : World) (e : Ending) (w' : World) : Prop := e = .returned (.string t) /\ Below w.heap.size w w'
theorem reqText_any (A B : ByteArray) (m : Int) (w : World) (hA : A.size <= 1000000) (hB : B.size <= 1000000) :
  Calls Tryz.prog 32 #[.agg #[.string A, .string B, .int .i64 m]] w (TextIn (textP A B m) w) := by
 by_cases h : m = 0
 ·subst h
  go_enter Tryz.func32, Tryz.ntmps32
  go_wp2
  go_ret
  exact ⟨rfl, (Below.refl _ _).alloc (Nat.le_refl _) _⟩
 ·have h0 : (m == 0) = false := by simpa using h
  have Hv := Lib.hid (show verOf m = v11 from if_neg h)
  clear h
  go_enter Tryz.func32, Tryz.ntmps32
  go_wp2
  go_ret
  refine ⟨?_, (Below.refl _ _).alloc (Nat.le_refl _) _⟩
  unfold textP
  rw [Hv.out]; rfl
def refVer (m : Int) : ByteArray := if m = 0 then ⟨#[32, 72, 84, 84, 80, 47, 49, 46, 48]⟩ else ⟨#[32, 72, 84, 84, 80, 47, 49, 46, 49]⟩
theorem refReqText_any (A B : ByteArray) (m : Int) (w : World) (hA : A.size <= 1000000) (hB : B.size <= 1000000) :
  Calls Tryz.prog 34 #[.agg #[.string A, .string B, .int .i64 m]] w (TextIn (textP A B m) w) := by
 have E : textP A B m = A ++ spc ++ B ++ refVer m := by
  unfold textP verOf refVer
  rw [ByteArray.append_assoc (b := spc)]
  split <;> rfl
 rw [E]
 clear E
 by_cases h : m = 0
 ·subst h
  go_enter Tryz.func34, Tryz.ntmps34
  go_wp2
  go_ret
  exact ⟨rfl, (Below.refl _ _).alloc (Nat.le_refl _) _⟩
 ·have h0 : (m == 0) = false := by simpa using h
  have Hv := Lib.hid (show refVer m = ⟨#[32, 72, 84, 84, 80, 47, 49, 46, 49]⟩ from if_neg h)
  clear h
  go_enter Tryz.func34, Tryz.ntmps34
  go_wp2
  go_ret
  refine ⟨?_, (Below.refl _ _).alloc (Nat.le_refl _) _⟩
  rw [Hv.out]; rfl
end Go.Proofs.YtpplgdnklpchkaaGreatDoor
namespace Go.Proofs.YtpplgdnklpchkaaGreatDoor
set_option linter.all false
open Go.RowKit Go.WideMaps Go.Maps
theorem wpList_insert_own {H : Type} {P : Program} (w : World) {ops : Array Oper} {rest : List Oper} {o : Oper} {a : Act} {Q : Exit -> Act -> World -> Prop}
  (hg : o.guard = none) (m x v : Operand) (t : TypeId) (hop : o.op = Op.insert t m x v)
  (k e : TypeId) (K : Keyed P k) (ht : P.underlying t = some (.map k e)) (R : Value -> Option (DataW H × List MemPlace)) (b n : Nat) (D : DataW H)
  (hm : a.eval m = .map (some b)) (hown : w.ownsMap P k R b n D) (hn : n < maxLen) (key val : Value) (kl : Lit) (hx : a.eval x = key) (hv : a.eval v = val) (hkey : keyOf P k key = some kl)
  (d : DataW H) (ps : List MemPlace) (hval : R val = some (d, ps))
  (hK : ∀ w', w'.ownsMap P k R b (n + 1) (D.put kl d) -> w.grownBy w' (some b) -> wpList P ops Q rest (a.put o.dst undef) w') :
  wpList P ops Q (o :: rest) a w := by
 refine wpList_plain hg fun K' hK' => ?_
 obtain ⟨w1, run1, own1, grown1⟩ := World.ownsMap.update hown K ht hn hkey hval
 unfold Oper.wp
 simp [execOp, hop, hm, hx, hv, run1, Result.andThen]
 exact hK' _ _ (hK w1 own1 grown1)
theorem Tryz.strKey : Keyed Tryz.prog 9 := string_keyed Tryz.underlying9
theorem Tryz.zeroInt (w : World) : (zeroValue 3).run Tryz.prog w = .ok (.int .i64 0) w := by kernel_rfl
def kk (s : ByteArray) : Lit := .string s.data.toList
def kd (n : Int) : DataW Unit := .lit (.int .i64 n)
def kD0 : DataW Unit := .map []
def kD1 : DataW Unit := kD0.put (kk nGET) (kd 1)
def kD2 : DataW Unit := kD1.put (kk nHEAD) (kd 2)
def kD3 : DataW Unit := kD2.put (kk nOPTIONS) (kd 3)
def kD4 : DataW Unit := kD3.put (kk nPOST) (kd 4)
def kD5 : DataW Unit := kD4.put (kk nPUT) (kd 4)
def kD6 : DataW Unit := kD5.put (kk nDELETE) (kd 4)
def kD7 : DataW Unit := kD6.put (kk nPATCH) (kd 4)
def kD8 : DataW Unit := kD7.put (kk nTRACE) (kd 4)
def kD9 : DataW Unit := kD8.put (kk nCONNECT) (kd 4)
theorem kk_ne {a b : ByteArray} (h : a ≠ b) : kk a ≠ kk b := fun e => h (ba_ext (by injection e))
theorem kindS_none {s : ByteArray} (h : ∀ n ∈ names, n ≠ s) : kindS s = 0 := by
 have hb : ∀ n ∈ names, (n.toList == s.toList) = false := fun n hn => by
  rw [beq_eq_false_iff_ne]
  intro e
  exact h n hn (ba_ext (by simpa [ByteArray.toList_eq] using e))
 have go : ∀ (l : List ByteArray) (i : Nat), (∀ n ∈ l, (n.toList == s.toList) = false) -> kindFrom i l s = 0 := by
  intro l
  induction l with
  | nil => intros; rfl
  | cons n l ih =>
   intro i hl
   unfold kindFrom
   rw [hl n (by simp)]
   exact ih (i + 1) fun n hn => hl n (by simp [hn])
 exact go _ _ hb
theorem kindS_at : kindS nGET = 1 /\ kindS nHEAD = 2 /\ kindS nOPTIONS = 3 /\ kindS nPOST = 4 /\ kindS nPUT = 4 /\ kindS nDELETE = 4 /\ kindS nPATCH = 4 /\ kindS nTRACE = 4 /\ kindS nCONNECT = 4 := by
 simp [kindS, names, kindFrom, ByteArray.toList_eq, nGET, nHEAD, nOPTIONS, nPOST, nPUT, nDELETE, nPATCH, nTRACE, nCONNECT]
theorem kD9_at (s : ByteArray) : kD9.atKey (kk s) (kd 0) = kd (kindS s : Int) := by
 by_cases h : ∃ n ∈ names, n = s
 ·obtain ⟨n, hn, rfl⟩ := h
  obtain ⟨h1, h2, h3, h4, h5, h6, h7, h8, h9⟩ := kindS_at
  simp only [names, List.mem_cons, List.not_mem_nil, or_false] at hn
  rcases hn with rfl | rfl | rfl | rfl | rfl | rfl | rfl | rfl | rfl
  ·rw [h1]; rfl
  ·rw [h2]; rfl
  ·rw [h3]; rfl
  ·rw [h4]; rfl
  ·rw [h5]; rfl
  ·rw [h6]; rfl
  ·rw [h7]; rfl
  ·rw [h8]; rfl
  ·rw [h9]; rfl
 ·have hn : ∀ n ∈ names, n ≠ s := fun n hn e => h ⟨n, hn, e⟩
  rw [kindS_none hn]
  have ne : ∀ n ∈ names, kk s ≠ kk n := fun n h => kk_ne (hn n h).symm
  unfold kD9 kD8 kD7 kD6 kD5 kD4 kD3 kD2 kD1
  rw [atKey_put_other (ne _ (by simp [names])), atKey_put_other (ne _ (by simp [names])), atKey_put_other (ne _ (by simp [names])), atKey_put_other (ne _ (by simp [names])), atKey_put_other (ne _ (by simp [names])), atKey_put_other (ne _ (by simp [names])), atKey_put_other (ne _ (by simp [names])), atKey_put_other (ne _ (by simp [names])), atKey_put_other (ne _ (by simp [names]))]
  rfl
def KindsIn (w : World) (e : Ending) (w' : World) : Prop := e = .returned (.map (some w.heap.size)) /\ w'.ownsMap Tryz.prog 9 (plainElem (H := Unit) Tryz.prog 3) w.heap.size 9 kD9 /\ Below w.heap.size w w'
set_option maxRecDepth 100000 in
set_option maxHeartbeats 1000000 in
theorem kinds_any (w : World) : Calls Tryz.prog 167 #[] w (KindsIn w) := by
 have hmm := @run_makeMap Tryz.prog
 have hkey : ∀ s : ByteArray, s.size <= 100 -> keyOf Tryz.prog 9 (.string s) = some (kk s) := fun s hs => keyOf_string_mk Tryz.underlying9 (by unfold maxLen; omega)
 have Hkey := Lib.hid hkey
 clear hkey
 have H0 := Lib.hid (World.ownsMap_made (H := Unit) w Tryz.prog 9 (plainElem Tryz.prog 3))
 have B0 := (Below.refl w.heap.size w).alloc (Nat.le_refl _) (.map #[] 0)
 go_enter Tryz.func167, Tryz.ntmps167
 go_wp2_with (first
  | (refine wpList_insert_own _ rfl _ _ _ 231 rfl 9 3 Tryz.strKey Tryz.underlying231 _ w.heap.size 8 kD8 rfl h8.out (by decide) (.string nCONNECT) (.int .i64 4) (kk nCONNECT) rfl rfl (Hkey.out nCONNECT (by decide)) (kd 4) [] (plainElem_int Tryz.underlying3 rfl) ?_; intro w9 g9 r9; have h9 := Lib.hid (show w9.ownsMap Tryz.prog 9 (plainElem (H := Unit) Tryz.prog 3) w.heap.size 9 kD9 from g9); have B9 := B8.grown r9 B8.size (fun j hj => by cases hj; exact Nat.le_refl _); clear g9 r9)
  | (refine wpList_insert_own _ rfl _ _ _ 231 rfl 9 3 Tryz.strKey Tryz.underlying231 _ w.heap.size 7 kD7 rfl h7.out (by decide) (.string nTRACE) (.int .i64 4) (kk nTRACE) rfl rfl (Hkey.out nTRACE (by decide)) (kd 4) [] (plainElem_int Tryz.underlying3 rfl) ?_; intro w8 g8 r8; have h8 := Lib.hid (show w8.ownsMap Tryz.prog 9 (plainElem (H := Unit) Tryz.prog 3) w.heap.size 8 kD8 from g8); have B8 := B7.grown r8 B7.size (fun j hj => by cases hj; exact Nat.le_refl _); clear g8 r8)
  | (refine wpList_insert_own _ rfl _ _ _ 231 rfl 9 3 Tryz.strKey Tryz.underlying231 _ w.heap.size 6 kD6 rfl h6.out (by decide) (.string nPATCH) (.int .i64 4) (kk nPATCH) rfl rfl (Hkey.out nPATCH (by decide)) (kd 4) [] (plainElem_int Tryz.underlying3 rfl) ?_; intro w7 g7 r7; have h7 := Lib.hid (show w7.ownsMap Tryz.prog 9 (plainElem (H := Unit) Tryz.prog 3) w.heap.size 7 kD7 from g7); have B7 := B6.grown r7 B6.size (fun j hj => by cases hj; exact Nat.le_refl _); clear g7 r7)
  | (refine wpList_insert_own _ rfl _ _ _ 231 rfl 9 3 Tryz.strKey Tryz.underlying231 _ w.heap.size 5 kD5 rfl h5.out (by decide) (.string nDELETE) (.int .i64 4) (kk nDELETE) rfl rfl (Hkey.out nDELETE (by decide)) (kd 4) [] (plainElem_int Tryz.underlying3 rfl) ?_; intro w6 g6 r6; have h6 := Lib.hid (show w6.ownsMap Tryz.prog 9 (plainElem (H := Unit) Tryz.prog 3) w.heap.size 6 kD6 from g6); have B6 := B5.grown r6 B5.size (fun j hj => by cases hj; exact Nat.le_refl _); clear g6 r6)
  | (refine wpList_insert_own _ rfl _ _ _ 231 rfl 9 3 Tryz.strKey Tryz.underlying231 _ w.heap.size 4 kD4 rfl h4.out (by decide) (.string nPUT) (.int .i64 4) (kk nPUT) rfl rfl (Hkey.out nPUT (by decide)) (kd 4) [] (plainElem_int Tryz.underlying3 rfl) ?_; intro w5 g5 r5; have h5 := Lib.hid (show w5.ownsMap Tryz.prog 9 (plainElem (H := Unit) Tryz.prog 3) w.heap.size 5 kD5 from g5); have B5 := B4.grown r5 B4.size (fun j hj => by cases hj; exact Nat.le_refl _); clear g5 r5)
  | (refine wpList_insert_own _ rfl _ _ _ 231 rfl 9 3 Tryz.strKey Tryz.underlying231 _ w.heap.size 3 kD3 rfl h3.out (by decide) (.string nPOST) (.int .i64 4) (kk nPOST) rfl rfl (Hkey.out nPOST (by decide)) (kd 4) [] (plainElem_int Tryz.underlying3 rfl) ?_; intro w4 g4 r4; have h4 := Lib.hid (show w4.ownsMap Tryz.prog 9 (plainElem (H := Unit) Tryz.prog 3) w.heap.size 4 kD4 from g4); have B4 := B3.grown r4 B3.size (fun j hj => by cases hj; exact Nat.le_refl _); clear g4 r4)
  | (refine wpList_insert_own _ rfl _ _ _ 231 rfl 9 3 Tryz.strKey Tryz.underlying231 _ w.heap.size 2 kD2 rfl h2.out (by decide) (.string nOPTIONS) (.int .i64 3) (kk nOPTIONS) rfl rfl (Hkey.out nOPTIONS (by decide)) (kd 3) [] (plainElem_int Tryz.underlying3 rfl) ?_; intro w3 g3 r3; have h3 := Lib.hid (show w3.ownsMap Tryz.prog 9 (plainElem (H := Unit) Tryz.prog 3) w.heap.size 3 kD3 from g3); have B3 := B2.grown r3 B2.size (fun j hj => by cases hj; exact Nat.le_refl _); clear g3 r3)
  | (refine wpList_insert_own _ rfl _ _ _ 231 rfl 9 3 Tryz.strKey Tryz.underlying231 _ w.heap.size 1 kD1 rfl h1.out (by decide) (.string nHEAD) (.int .i64 2) (kk nHEAD) rfl rfl (Hkey.out nHEAD (by decide)) (kd 2) [] (plainElem_int Tryz.underlying3 rfl) ?_; intro w2 g2 r2; have h2 := Lib.hid (show w2.ownsMap Tryz.prog 9 (plainElem (H := Unit) Tryz.prog 3) w.heap.size 2 kD2 from g2); have B2 := B1.grown r2 B1.size (fun j hj => by cases hj; exact Nat.le_refl _); clear g2 r2)
  | (refine wpList_insert_own _ rfl _ _ _ 231 rfl 9 3 Tryz.strKey Tryz.underlying231 _ w.heap.size 0 kD0 rfl H0.out (by decide) (.string nGET) (.int .i64 1) (kk nGET) rfl rfl (Hkey.out nGET (by decide)) (kd 1) [] (plainElem_int Tryz.underlying3 rfl) ?_; intro w1 g1 r1; have h1 := Lib.hid (show w1.ownsMap Tryz.prog 9 (plainElem (H := Unit) Tryz.prog 3) w.heap.size 1 kD1 from g1); have B1 := B0.grown r1 B0.size (fun j hj => by cases hj; exact Nat.le_refl _); clear g1 r1))
 go_ret
 exact ⟨rfl, h9.out, B9⟩
theorem kd_inj {a b : Int} (h : kd a = kd b) : a = b := by
 unfold kd at h
 injection h with h
 injection h with h1 h2
set_option maxRecDepth 100000 in
theorem kind_any (s : ByteArray) (w : World) (hs : s.size <= 9223372036854775807) : Calls Tryz.prog 152 #[.string s] w (fun e w' => e = .returned (.int .i64 (kindS s : Int)) /\ Below w.heap.size w w') := by
 have hkey : keyOf Tryz.prog 9 (.string s) = some (kk s) := keyOf_string_mk Tryz.underlying9 hs
 go_enter Tryz.func152, Tryz.ntmps152
 go_wp2_with (first
  | (go_at_call 167; refine (kinds_any _).mono ?_; rintro e w1 ⟨rfl, hm, hb⟩)
  | (at_lookup; refine wpList_lookup_own_int _ rfl _ _ 231 rfl 9 3 .i64 Tryz.strKey Tryz.underlying231 Tryz.underlying3 (Tryz.zeroInt _) w.heap.size 9 kD9 rfl hm (.string s) (kk s) rfl hkey ?_; intro c hat hwc))
 go_ret
 refine ⟨?_, hb⟩
 show Ending.returned (.int .i64 c) = _
 rw [kd_inj ((kD9_at s).symm.trans hat)]
theorem kindFrom_hit {i : Nat} {n s : ByteArray} {l : List ByteArray} (h : n = s) : kindFrom i (n :: l) s = min (i + 1) 4 := by subst h; simp [kindFrom]
theorem kindFrom_miss {i : Nat} {n s : ByteArray} {l : List ByteArray} (h : n ≠ s) : kindFrom i (n :: l) s = kindFrom (i + 1) l s := by
 rw [kindFrom, if_neg (by
  intro e
  exact h (ba_ext (by simpa [ByteArray.toList_eq] using e)))]
theorem ret_num {k : IntKind} {a b : Int} (h : a = b) : Ending.returned (.int k a) = .returned (.int k b) := by rw [h]
theorem names_at {k : Nat} (hk : k < 9) : ∃ n, names[k]? = some n /\ names.drop k = n :: names.drop (k + 1) := by
 have : k < names.length := hk
 exact ⟨names[k], List.getElem?_eq_getElem this, List.drop_eq_getElem_cons this⟩
set_option maxRecDepth 100000 in
set_option maxHeartbeats 1000000 in
theorem refKind_any (s : ByteArray) (w : World) : Calls Tryz.prog 56 #[.string s] w (fun e w' => e = .returned (.int .i64 (kindS s : Int)) /\ Below w.heap.size w w') := by
 have Hc := Lib.hid (fun (k : Nat) (n : ByteArray) (h : names[k]? = some n) => show (w.alloc (.cells #[.string ⟨#[71, 69, 84]⟩, .string ⟨#[72, 69, 65, 68]⟩, .string ⟨#[79, 80, 84, 73, 79, 78, 83]⟩, .string ⟨#[80, 79, 83, 84]⟩, .string ⟨#[80, 85, 84]⟩, .string ⟨#[68, 69, 76, 69, 84, 69]⟩, .string ⟨#[80, 65, 84, 67, 72]⟩, .string ⟨#[84, 82, 65, 67, 69]⟩, .string ⟨#[67, 79, 78, 78, 69, 67, 84]⟩] 9)).cell? ⟨w.heap.size, k, none⟩ = some (.string n) by
  rw [World.cell?_alloc_mark]
  have hk : k < 9 := (List.getElem?_eq_some_iff.1 h).1
  match k, hk with
  | 0, _ | 1, _ | 2, _ | 3, _ | 4, _ | 5, _ | 6, _ | 7, _ | 8, _ => simp [names] at h; subst h; rfl)
 have B1 := (Below.refl w.heap.size w).alloc (Nat.le_refl _) (.cells #[.string ⟨#[71, 69, 84]⟩, .string ⟨#[72, 69, 65, 68]⟩, .string ⟨#[79, 80, 84, 73, 79, 78, 83]⟩, .string ⟨#[80, 79, 83, 84]⟩, .string ⟨#[80, 85, 84]⟩, .string ⟨#[68, 69, 76, 69, 84, 69]⟩, .string ⟨#[80, 65, 84, 67, 72]⟩, .string ⟨#[84, 82, 65, 67, 69]⟩, .string ⟨#[67, 79, 78, 78, 69, 67, 84]⟩] 9)
 go_enter Tryz.func56, Tryz.ntmps56
 go_wp2
 obtain ⟨W, hW⟩ : ∃ W, W = w.alloc (.cells #[.string ⟨#[71, 69, 84]⟩, .string ⟨#[72, 69, 65, 68]⟩, .string ⟨#[79, 80, 84, 73, 79, 78, 83]⟩, .string ⟨#[80, 79, 83, 84]⟩, .string ⟨#[80, 85, 84]⟩, .string ⟨#[68, 69, 76, 69, 84, 69]⟩, .string ⟨#[80, 65, 84, 67, 72]⟩, .string ⟨#[84, 82, 65, 67, 69]⟩, .string ⟨#[67, 79, 78, 78, 69, 67, 84]⟩] 9) := ⟨_, rfl⟩
 rw [<- hW] at Hc B1 ⊢
 clear hW
 go_loop [4] (fun i => ∃ k : Nat, k <= 9 /\ i = .int .i64 k /\ Hid (kindFrom k (names.drop k) s = kindS s)) (fun i => (9 - intOf i).toNat)
 case atStart => exact ⟨0, by omega, rfl, Lib.hid rfl⟩
 case round =>
  obtain ⟨k, hk, rfl, hrel⟩ := hrel
  by_cases hlt : k < 9
  ·obtain ⟨n, hn, hd⟩ := names_at hlt
   have hcell := Hc.out k n hn
   rw [hd] at hrel
   clear hn hd
   by_cases he : n = s
   ·have hr := Lib.hid ((kindFrom_hit he).symm.trans hrel.out)
    have he' : (n.toList == s.toList) = true := by rw [he]; simp
    clear hrel he
    go_wp2
    all_goals
     go_ret
     refine ⟨?_, B1⟩
     rw [<- hr.out]
     exact ret_num (by omega)
   ·have hr := Lib.hid ((kindFrom_miss he).symm.trans hrel.out)
    have he' : (n.toList == s.toList) = false := by
     rw [beq_eq_false_iff_ne]
     intro e
     exact he (ba_ext (by simpa [ByteArray.toList_eq] using e))
    clear hrel he
    go_wp2
    go_round
    case rel => exact ⟨k + 1, by omega, by go_num, hr⟩
    case measure => simp [intOf]; omega
  ·obtain rfl : k = 9 := by omega
   go_wp2
   go_ret
   exact ⟨by rw [<- hrel.out]; rfl, B1⟩
end Go.Proofs.YtpplgdnklpchkaaGreatDoor
namespace Go.Proofs.YtpplgdnklpchkaaGreatDoor
set_option linter.all false
open Go.RowKit
theorem textP_data (A B : ByteArray) (m : Int) : (textP A B m).data.toList = A.data.toList ++ 32 :: (B.data.toList ++ 32 :: (verOf m).data.toList) := by
 have h32 : spc.data.toList = [32] := rfl
 simp [textP, h32]
theorem is_status {s : ByteArray} {st at_ : Int} (h : Is s (.bad st at_)) : st = 400 \/ st = 505 := by
 rcases h with ⟨A, B, C, _, h⟩ | ⟨_, h⟩
 ·unfold outP at h
  (repeat' split at h) <;> first | (injection h with h1 h2; subst h1; decide) | (exact absurd h (by simp))
 ·injection h with h1 h2; exact .inl h1
theorem is_text {s A B : ByteArray} {m : Int} (h : Is s (.line A B m)) : textP A B m = s /\ ∃ C, Three s A B C /\ tokS A = true /\ tgtS B = true /\ (C = v10 \/ C = v11) /\ m = minS C := by
 rcases h with ⟨A', B', C, h3, h⟩ | ⟨_, h⟩
 ·unfold outP at h
  split at h
  ·rename_i h1
   split at h
   ·rename_i h2
    split at h
    ·split at h
     ·rename_i h4
      injection h with e1 e2 e3
      subst e1 e2
      have hc := supS_cases h4
      have hv : verOf m = C := by
       subst e3
       rcases hc with rfl | rfl
       ·have : minS v10 = 0 := by simp [minS, ByteArray.toList_eq, v10]
        rw [this]; rfl
       ·have : minS v11 = 1 := by simp [minS, ByteArray.toList_eq, v11]
        rw [this]; rfl
      refine ⟨ba_ext (by rw [textP_data, hv, h3.text]), C, h3, h1, h2, hc, e3⟩
     ·cases h
    ·cases h
   ·cases h
  ·cases h
 ·cases h
end Go.Proofs.YtpplgdnklpchkaaGreatDoor
namespace Go.Proofs.YtpplgdnklpchkaaGreatDoor
set_option linter.all false
open Go.RowKit
theorem BytesIn.back {w : World} {v : Value} {l : List UInt8} (h : BytesIn w v l) : (convert 22 9 v).run Tryz.prog w = .ok (.string ⟨l.toArray⟩) w := by
 rcases h with ⟨h0, hv⟩ | ⟨b, off, cap, rfl, h1, h2, hcell⟩
 ·obtain rfl : l = [] := by simpa [byteVals] using h0
  rcases hv with rfl | ⟨ad, cap, rfl⟩
  ·exact bytes_none w 22 9 5 0 Tryz.underlying22 Tryz.underlying5 Tryz.underlying9
  ·exact run_convert_bytes_back w 22 9 5 ad cap [] Tryz.underlying22 Tryz.underlying5 Tryz.underlying9 fun j hj => by simp at hj
 ·rw [byteVals_len]
  refine run_convert_bytes_back w 22 9 5 ⟨b, off, none⟩ cap l Tryz.underlying22 Tryz.underlying5 Tryz.underlying9 fun j hj => ?_
  rw [Addr.add_lit]
  exact hcell j _ (by simp [byteVals, hj])
theorem bytesIn_new (w : World) (C : Array Value) (E : TypeId) (fr : Nat × Nat) (l : List UInt8) (cap : Nat) (hC : C.toList = byteVals l) (hcap : l.length <= cap) (hm : cap <= 9223372036854775807) : BytesIn (w.alloc (.cells C E fr)) (.slice (some ⟨w.heap.size, 0, none⟩) l.length cap) l := by
 refine .inr ⟨w.heap.size, 0, cap, by rw [byteVals_len], by rw [byteVals_len]; exact hcap, hm, fun i u hu => ?_⟩
 rw [World.cell?_alloc_mark]
 rw [<- hC] at hu
 simpa using hu
end Go.Proofs.YtpplgdnklpchkaaGreatDoor
namespace Go.Proofs.YtpplgdnklpchkaaGreatDoor
set_option linter.all false
open Go.RowKit
theorem fldsIn_src {W : World} {v : Value} {L : List FB} (h : FldsIn W v L) : v = .slice none 0 0 /\ L = [] \/ ∃ ad c, v = .slice (some ad) L.length c /\ ∀ j u, (fldVals L)[j]? = some u -> W.cell? (ad.add j) = some u := by
 rcases h with ⟨rfl, rfl | ⟨ad, cap, rfl⟩⟩ | ⟨b, off, cap, rfl, h1, h2, h3⟩
 ·exact .inl ⟨rfl, rfl⟩
 ·exact .inr ⟨ad, cap, rfl, fun j u hu => by simp [fldVals] at hu⟩
 ·refine .inr ⟨⟨b, off, none⟩, cap, rfl, fun j u hu => ?_⟩
  have hj : j < 2 * L.length := by rw [<- fldVals_len]; exact (List.getElem?_eq_some_iff.1 hu).1
  obtain ⟨k, r, rfl, hr⟩ : ∃ k r, j = 2 * k + r /\ r < 2 := ⟨j / 2, j % 2, by omega, Nat.mod_lt _ (by omega)⟩
  have hk : k < L.length := by omega
  have hat := fldVals_at L k L[k] (List.getElem?_eq_getElem hk)
  have hc := h3 k L[k] (List.getElem?_eq_getElem hk)
  rw [Addr.add_lit]
  rcases (by omega : r = 0 \/ r = 1) with rfl | rfl
  ·rw [Nat.add_zero] at hu ⊢
   rw [hat.1] at hu; cases hu
   rw [show off + 2 * k = off + k * 2 by omega]; exact hc.1
  ·rw [hat.2] at hu; cases hu
   rw [show off + (2 * k + 1) = off + k * 2 + 1 by omega]; exact hc.2
theorem run_append_flds (W : World) (B : Nat) (ty : TypeId) (v : Value) (L : List FB) (hown : OwnFlds W B v L) (v2 : Value) (L2 : List FB) (hsrc : FldsIn W v2 L2) (hn : L.length + L2.length <= 1000000000) (hB : B <= W.heap.size) :
  ∃ v' w', (Builtin.append_ #[46, 46] ty #[v, v2]).run Tryz.prog W = .ok v' w' /\ OwnFlds w' B v' (L ++ L2) /\ W.grownBy w' v.ownBlock := by
 obtain ⟨i0, hi, hz0, hz1, hz2⟩ := fldInfo
 rcases fldsIn_src hsrc with ⟨rfl, rfl⟩ | ⟨ad, c, rfl, hc⟩
 ·refine ⟨v, W, run_append_owned_none (P := Tryz.prog) (w := W) B 46 ty 53 i0 2 Tryz.uFlds2 hi v L.length _ hown, by simpa using hown, ⟨rfl, rfl, rfl, Nat.le_refl _, fun _ _ _ => rfl⟩⟩
 ·obtain ⟨v', w', hr, h2, h3, _⟩ := run_append_own (P := Tryz.prog) (w := W) B 46 ty 53 i0 (.agg #[.string ByteArray.empty, .string ByteArray.empty]) 2 32 Tryz.uFlds2 hi hz0 hz1 hz2 rfl (by decide) v L.length _ hown ad L2.length c (fldVals L2) (by rw [fldVals_len]; omega) hc (fldVals_one L2) (by unfold maxLen; omega) (by omega) hB
  refine ⟨v', w', hr, ?_, h3⟩
  unfold OwnFlds
  rw [List.length_append, fldVals_append]
  exact h2
theorem step_append_flds0 {ops : Array Oper} {o : Oper} {a : Act} {K : Act -> World -> Prop} {Q : Exit -> Act -> World -> Prop} {E : Prop} (d : Option Tmp) (hd : o.dst = d) (hgd : o.guard = none) (s x : Operand)
  (ho : o.op = .call { callee := .builtin .append, args := #[s, x], argTypes := #[46, 46] })
  (W : World) (hs : a.eval s = .slice none 0 0) (v2 : Value) (L2 : List FB) (hx : a.eval x = v2) (hsrc : FldsIn W v2 L2) (hn : L2.length <= 1000000000)
  (h : ∀ v' w', OwnFlds w' W.heap.size v' L2 -> Below W.heap.size W w' -> K (a.put d v') w') : if Region.wanted o (yielded ops a.tmps) = true then Oper.wp Tryz.prog o a W K Q else E := by
 subst hd
 rw [if_pos (wanted_plain hgd)]
 obtain ⟨v', w', hr, h1, h2⟩ := run_append_flds W W.heap.size o.type (.slice none 0 0) [] (OwnFlds.nil _ _) v2 L2 hsrc (by simpa using hn) (Nat.le_refl _)
 unfold Oper.wp execOp
 simp only [ho, resolve, invoke, builtin, Sem.run_bind, Sem.run_pure, Result.andThen_ok, List.map_toArray, List.map_cons, List.map_nil, hs, hx, hr]
 exact h v' w' h1 ((Below.refl _ W).grown h2 (Nat.le_refl _) fun j hj => by simp [Value.ownBlock] at hj)
theorem step_append_bytes0 {ops : Array Oper} {o : Oper} {a : Act} {K : Act -> World -> Prop} {Q : Exit -> Act -> World -> Prop} {E : Prop} (d : Option Tmp) (hd : o.dst = d) (hgd : o.guard = none) (s x : Operand)
  (ho : o.op = .call { callee := .builtin .append, args := #[s, x], argTypes := #[22, 22] })
  (W : World) (hs : a.eval s = .slice none 0 0) (v2 : Value) (cs : List UInt8) (hx : a.eval x = v2) (hsrc : BytesIn W v2 cs) (hn : cs.length <= 1000000000)
  (h : ∀ v' w', OwnBytes w' W.heap.size v' cs -> Below W.heap.size W w' -> K (a.put d v') w') : if Region.wanted o (yielded ops a.tmps) = true then Oper.wp Tryz.prog o a W K Q else E := by
 subst hd
 rw [if_pos (wanted_plain hgd)]
 exact wp_append_bytes s x ho W.heap.size W W (.slice none 0 0) [] hs (OwnBytes.nil _ _) v2 cs hx hsrc (by simp) hn (Nat.le_refl _) (Below.refl _ _) fun v' w' h1 h2 _ => h v' w' h1 h2
end Go.Proofs.YtpplgdnklpchkaaGreatDoor
namespace Go.Proofs.YtpplgdnklpchkaaGreatDoor
set_option linter.all false
open Go.RowKit
structure EInfo (T E : TypeId) (z : Value) (sz by_ : Nat) : Prop where
 ty : Tryz.prog.underlying T = some (.slice E)
 info : ∃ i, Tryz.prog.info? E = some i /\ i.zero = some z /\ i.size = sz /\ i.bytes = by_
 zs : z.cells.size = sz
 pos : 0 < sz
theorem EInfo.of {T E : TypeId} {z : Value} {sz by_ : Nat} (hT : Tryz.prog.underlying T = some (.slice E)) (hinfo : (Tryz.prog.info? E).map (fun i => (i.zero, i.size, i.bytes)) = some (some z, sz, by_)) (hz : z.cells.size = sz) (hp : 0 < sz) : EInfo T E z sz by_ := by
 refine ⟨hT, ?_, hz, hp⟩
 cases hi : Tryz.prog.info? E with
 | none => rw [hi] at hinfo; simp at hinfo
 | some i => rw [hi] at hinfo; simp at hinfo; exact ⟨i, rfl, hinfo.1, hinfo.2.1, hinfo.2.2⟩
def SrcAt (W : World) (sz : Nat) (v2 : Value) (m : Nat) (news : List Value) : Prop :=
 (v2 = .slice none 0 0 /\ m = 0 /\ news = []) \/ ∃ ad c, v2 = .slice (some ad) m c /\ news.length = m * sz /\ ∀ j u, news[j]? = some u -> W.cell? (ad.add j) = some u
theorem SrcAt.new (w : World) (us : List Value) (E : TypeId) (sz : Nat) (h : us.length = sz) : SrcAt (w.alloc (.cells us.toArray E)) sz (.slice (some ⟨w.heap.size, 0, none⟩) 1 1) 1 us := by
 refine .inr ⟨_, _, rfl, by omega, fun j u hj => ?_⟩
 rw [Addr.add_lit, Nat.zero_add, World.cell?_alloc_mark]
 simpa using hj
theorem SrcAt.drew {W : World} {sz : Nat} {v2 : Value} {m : Nat} {news : List Value} (h : SrcAt W sz v2 m news) : SrcAt W.drew sz v2 m news := h
theorem run_append_at {T E : TypeId} {z : Value} {sz by_ : Nat} (e : EInfo T E z sz by_) (W : World) (B : Nat) (ty : TypeId) (v : Value) (n : Nat) (xs : List Value) (hown : W.ownsRow B E sz v n xs)
  (v2 : Value) (m : Nat) (news : List Value) (hs : SrcAt W sz v2 m news) (h1 : ∀ u ∈ news, u.oneCell' = true) (hn : (n + m) * by_ <= 140737488355328) (hm : n + m <= 1000000000) (hB : B <= W.heap.size) :
  ∃ v' w', (Builtin.append_ #[T, T] ty #[v, v2]).run Tryz.prog W = .ok v' w' /\ w'.ownsRow B E sz v' (n + m) (xs ++ news) /\ W.grownBy w' v.ownBlock /\ Placed W v v' := by
 obtain ⟨i, hi, hz, hsz, hbt⟩ := e.info
 rcases hs with ⟨rfl, rfl, rfl⟩ | ⟨ad, c, rfl, hl, hc⟩
 ·exact ⟨v, W, run_append_owned_none (P := Tryz.prog) (w := W) B T ty E i sz e.ty hi v n xs hown, by simpa using hown, ⟨rfl, rfl, rfl, Nat.le_refl _, fun _ _ _ => rfl⟩, .inl rfl⟩
 ·obtain ⟨v', w', hr, h2, h3, _, h5⟩ := run_append_own_at (P := Tryz.prog) (w := W) B T ty E i z sz by_ e.ty hi hz hsz hbt e.zs e.pos v n xs hown ad m c news hl hc h1 (by unfold maxLen; omega) hn hB
  refine ⟨v', w', hr, h2, h3, ?_⟩
  rcases h5 with h5 | h5
  ·exact .inl h5
  ·exact .inr ⟨_, h5, Nat.le_refl _⟩
theorem wp_append_at {T E : TypeId} {z : Value} {sz by_ : Nat} (e : EInfo T E z sz by_) {o : Oper} {a : Act} {K : Act -> World -> Prop} {Q : Exit -> Act -> World -> Prop} (s x : Operand)
  (ho : o.op = .call { callee := .builtin .append, args := #[s, x], argTypes := #[T, T] })
  (B : Nat) (W : World) (v : Value) (n : Nat) (xs : List Value) (hs : a.eval s = v) (hown : W.ownsRow B E sz v n xs) (v2 : Value) (m : Nat) (news : List Value) (hx : a.eval x = v2) (hsrc : SrcAt W sz v2 m news)
  (h1 : ∀ u ∈ news, u.oneCell' = true) (hn : (n + m) * by_ <= 140737488355328) (hm : n + m <= 1000000000) (hB : B <= W.heap.size)
  (h : ∀ v' w', w'.ownsRow B E sz v' (n + m) (xs ++ news) -> W.grownBy w' v.ownBlock -> Placed W v v' -> K (a.put o.dst v') w') : o.wp Tryz.prog a W K Q := by
 obtain ⟨v', w', hr, h2, h3, h4⟩ := run_append_at e W B o.type v n xs hown v2 m news hsrc h1 hn hm hB
 unfold Oper.wp execOp
 simp only [ho, resolve, invoke, builtin, Sem.run_bind, Sem.run_pure, Result.andThen_ok, List.map_toArray, List.map_cons, List.map_nil, hs, hx, hr]
 exact h v' w' h2 h3 h4
theorem wpList_append_at {T E : TypeId} {z : Value} {sz by_ : Nat} (e : EInfo T E z sz by_) {ops : Array Oper} {rest : List Oper} {o : Oper} {a : Act} {Q : Exit -> Act -> World -> Prop} (hgd : o.guard = none) (s x : Operand)
  (ho : o.op = .call { callee := .builtin .append, args := #[s, x], argTypes := #[T, T] })
  (B : Nat) (W : World) (v : Value) (n : Nat) (xs : List Value) (hs : a.eval s = v) (hown : W.ownsRow B E sz v n xs) (v2 : Value) (m : Nat) (news : List Value) (hx : a.eval x = v2) (hsrc : SrcAt W sz v2 m news)
  (h1 : ∀ u ∈ news, u.oneCell' = true) (hn : (n + m) * by_ <= 140737488355328) (hm : n + m <= 1000000000) (hB : B <= W.heap.size)
  (h : ∀ v' w', w'.ownsRow B E sz v' (n + m) (xs ++ news) -> W.grownBy w' v.ownBlock -> Placed W v v' -> wpList Tryz.prog ops Q rest (a.put o.dst v') w') : wpList Tryz.prog ops Q (o :: rest) a W :=
 wpList_plain hgd fun _ hK => wp_append_at e s x ho B W v n xs hs hown v2 m news hx hsrc h1 hn hm hB fun v' w' g1 g2 g3 => hK _ _ (h v' w' g1 g2 g3)
theorem step_append_at {T E : TypeId} {z : Value} {sz by_ : Nat} (e : EInfo T E z sz by_) {ops : Array Oper} {o : Oper} {a : Act} {K : Act -> World -> Prop} {Q : Exit -> Act -> World -> Prop} {X : Prop} (d : Option Tmp) (hd : o.dst = d) (hgd : o.guard = none) (s x : Operand)
  (ho : o.op = .call { callee := .builtin .append, args := #[s, x], argTypes := #[T, T] })
  (B : Nat) (W : World) (v : Value) (n : Nat) (xs : List Value) (hs : a.eval s = v) (hown : W.ownsRow B E sz v n xs) (v2 : Value) (m : Nat) (news : List Value) (hx : a.eval x = v2) (hsrc : SrcAt W sz v2 m news)
  (h1 : ∀ u ∈ news, u.oneCell' = true) (hn : (n + m) * by_ <= 140737488355328) (hm : n + m <= 1000000000) (hB : B <= W.heap.size)
  (h : ∀ v' w', w'.ownsRow B E sz v' (n + m) (xs ++ news) -> W.grownBy w' v.ownBlock -> Placed W v v' -> K (a.put d v') w') : if Region.wanted o (yielded ops a.tmps) = true then Oper.wp Tryz.prog o a W K Q else X := by
 subst hd
 rw [if_pos (wanted_plain hgd)]
 exact wp_append_at e s x ho B W v n xs hs hown v2 m news hx hsrc h1 hn hm hB h
theorem grownBy_from {w W w' : World} {r : Option Nat} (h : Below w.heap.size w W) (g : W.grownBy w' r) : w.grownBy w' r :=
 ⟨g.os.trans h.os, g.tape.trans h.tape, g.output.trans h.output, Nat.le_trans h.size g.size, fun k hk hne => (g.block k (Nat.lt_of_lt_of_le hk h.size) hne).trans (h.block k hk)⟩
theorem placed_from {w W : World} {v v' : Value} (h : w.heap.size <= W.heap.size) (g : Placed W v v') : Placed w v v' := by
 rcases g with g | ⟨j, g, hj⟩
 ·exact .inl g
 ·exact .inr ⟨j, g, by omega⟩
theorem Tryz.eFld : EInfo 46 53 (.agg #[.string ByteArray.empty, .string ByteArray.empty]) 2 32 := EInfo.of Tryz.uFlds2 Tryz.infoFld rfl (by decide)
theorem ownFlds_more {w : World} {B : Nat} {v : Value} {L : List FB} {N V : ByteArray} (h : w.ownsRow B 53 2 v (L.length + 1) (fldVals L ++ [.string N, .string V])) : OwnFlds w B v (L ++ [(N, V)]) := by
 unfold OwnFlds
 rw [List.length_append, fldVals_append]
 exact h
end Go.Proofs.YtpplgdnklpchkaaGreatDoor
namespace Go.Proofs.YtpplgdnklpchkaaGreatDoor
set_option linter.all false
open Go.RowKit
def Base (D : Int -> Option Int) (b : Int) : Prop := D = digV /\ b = 10 \/ D = hexV /\ b = 16
theorem Base.digits {D : Int -> Option Int} {b : Int} (h : Base D b) : Digits D b := by
 rcases h with ⟨rfl, rfl⟩ | ⟨rfl, rfl⟩
 ·exact digits10
 ·exact digits16
theorem dig_none {z : Int} (h : digitB z = false) : (digV z).getD (-1) = -1 := by
 unfold digV; simp [digitB] at h; rw [if_neg (by omega)]; rfl
theorem dig_some {z : Int} (h : digitB z = true) : (digV z).getD (-1) = hexN z := by
 simp [digitB] at h; unfold hexN hexV digV; rw [if_pos h, if_pos h]
theorem hex_big {z : Int} (h : 10 <= hexN z) : (digV z).getD (-1) = -1 := by
 apply dig_none
 unfold hexN hexV at h
 simp [digitB]
 (repeat' split at h) <;> simp at h <;> omega
theorem hexN_range (z : Int) : -1 <= hexN z /\ hexN z <= 15 := by
 unfold hexN hexV
 (repeat' split) <;> simp <;> omega
set_option maxRecDepth 100000 in
theorem refDig10 (z : Int) (w : World) (h0 : 0 <= z) (h1 : z <= 255) : Calls Tryz.prog 74 #[.int .u8 z, .int .i64 10] w (SaysInt ((digV z).getD (-1)) w) := by
 go_enter Tryz.func74, Tryz.ntmps74
 go_wp2_with fail
 refine (refHex_any _ _ h0 h1).mono ?_
 rintro e w' ⟨rfl, rfl⟩
 by_cases hb : 10 <= hexN z
 ·have Hb := Lib.hid (hex_big hb)
  go_wp2_with fail
  go_ret
  exact saysInt_of w Hb.out.symm
 ·go_wp2_with fail
  refine (class1 _ _ h0 h1).mono ?_
  rintro e w' ⟨rfl, rfl⟩
  cases hd : digitB z
  ·have Hd := Lib.hid (dig_none hd)
   go_wp2_with fail
   go_ret
   exact saysInt_of w Hd.out.symm
  ·have Hd := Lib.hid (dig_some hd)
   go_wp2_with fail
   go_ret
   exact saysInt_of w Hd.out.symm
set_option maxRecDepth 100000 in
theorem refDig16 (z : Int) (w : World) (h0 : 0 <= z) (h1 : z <= 255) : Calls Tryz.prog 74 #[.int .u8 z, .int .i64 16] w (SaysInt ((hexV z).getD (-1)) w) := by
 have hr := hexN_range z
 go_enter Tryz.func74, Tryz.ntmps74
 go_wp2_with fail
 refine (refHex_any _ _ h0 h1).mono ?_
 rintro e w' ⟨rfl, rfl⟩
 go_wp2_with fail
 go_ret
 exact saysInt_of w rfl
theorem refDig_any {D : Int -> Option Int} {b : Int} (h : Base D b) (z : Int) (w : World) (h0 : 0 <= z) (h1 : z <= 255) : Calls Tryz.prog 74 #[.int .u8 z, .int .i64 b] w (SaysInt ((D z).getD (-1)) w) := by
 rcases h with ⟨rfl, rfl⟩ | ⟨rfl, rfl⟩
 ·exact refDig10 z w h0 h1
 ·exact refDig16 z w h0 h1
def refNumRes : NumR -> Value
 | .ok n => .tuple #[.int .i64 n, .int .i64 0, .int .i64 0]
 | .bad k => .tuple #[.int .i64 0, .int .i64 400, .int .i64 k]
 | .great => .tuple #[.int .i64 0, .int .i64 413, .int .i64 0]
theorem ret_rnum {a : Value} {r : NumR} (h : a = refNumRes r) : Ending.returned a = .returned (refNumRes r) := by rw [h]
theorem getD_bad {D : Int -> Option Int} {b z : Int} (h : Digits D b) (hn : (D z).getD (-1) < 0) : D z = none := by
 cases hd : D z with
 | none => rfl
 | some v => have := h.2.2 _ _ hd; rw [hd] at hn; simp at hn; omega
theorem getD_good {D : Int -> Option Int} {z : Int} (hn : ¬ (D z).getD (-1) < 0) : ∃ v, D z = some v := by
 cases hd : D z with
 | none => rw [hd] at hn; simp at hn
 | some v => exact ⟨v, rfl⟩
def AllD (D : Int -> Option Int) (l : List UInt8) : Prop := ∀ c ∈ l, D (c.toNat : Int) ≠ none
theorem run_all {D : Int -> Option Int} {b most : Int} (s : ByteArray) (k : Nat) (hk : k < s.size) (ha : AllD D (s.data.toList.take k)) (hd : D (s[k].toNat : Int) = none) : run D b most 0 0 (s.data.toList.drop 0) = .bad k := by
 have h1 := num_app (b := b) (most := most) (s.data.toList.take k) (s.data.toList.drop k) 0 0 ha
 rw [List.take_append_drop] at h1
 rw [List.drop_zero, h1]
 have hl : 0 + (s.data.toList.take k).length = k := by simp; omega
 rw [hl]
 exact run_bad s k hk hd
theorem AllD.more {D : Int -> Option Int} (s : ByteArray) (k : Nat) (hk : k < s.size) (ha : AllD D (s.data.toList.take k)) {v : Int} (hd : D (s[k].toNat : Int) = some v) : AllD D (s.data.toList.take (k + 1)) := by
 rw [take_snoc s k hk]
 intro c hc
 rw [List.mem_append] at hc
 rcases hc with hc | hc
 ·exact ha c hc
 ·rw [List.mem_singleton] at hc; rw [hc, hd]; simp
theorem AllD.rest {D : Int -> Option Int} {l : List UInt8} (h : AllD D l) (k : Nat) : AllD D (l.drop k) := fun c hc => h c (List.mem_of_mem_drop hc)
theorem AllD.at {D : Int -> Option Int} {s : ByteArray} (h : AllD D s.data.toList) (k : Nat) (hk : k < s.size) : ∃ v, D (s[k].toNat : Int) = some v := by
 cases hd : D (s[k].toNat : Int) with
 | some v => exact ⟨v, rfl⟩
 | none => exact absurd hd (h s[k] (by rw [show s[k] = s.data[k] from rfl]; simp))
set_option maxRecDepth 100000 in
set_option maxHeartbeats 1000000 in
theorem refDec_any (D : Int -> Option Int) (b B : Int) (hBb : B = b) (hB : Base D b) (s : ByteArray) (most : Int) (w : World) (hs : s.size <= 9223372036854775807) (h0 : 0 <= most) (h1 : most <= 4611686018427387904) :
  Calls Tryz.prog 55 #[.string s, .int .i64 b, .int .i64 most] w fun e w' => e = .returned (refNumRes (num D B most s.data.toList)) /\ w = w' := by
 have HBb := Lib.hid hBb
 clear hBb
 have HD : Hid (Digits D B) := by rw [HBb.out]; exact hB.digits
 have HF := Lib.hid (fun z w h0 h1 => refDig_any hB z w h0 h1)
 by_cases hz : s.size = 0
 ·have Hn := Lib.hid (num_none (D := D) (b := B) (most := most) s hz)
  clear hB
  go_enter Tryz.func55, Tryz.ntmps55
  go_wp2_with fail
  go_ret3
  exact ⟨ret_rnum (by rw [Hn.out]; rfl), rfl⟩
 ·have Hn := Lib.hid (num_some (D := D) (b := B) (most := most) s (by omega))
  have hb : b = 10 \/ b = 16 := by rcases hB with h | h <;> omega
  clear hB
  have hzb : ((s.size : Int) == 0) = false := by rw [beq_eq_false_iff_ne]; omega
  rcases hb with rfl | rfl
  all_goals
   go_enter Tryz.func55, Tryz.ntmps55
   go_wp2
   go_loop [9] (fun i => ∃ k : Nat, k <= s.size /\ i = .int .i64 k /\ AllD D (s.data.toList.take k)) (fun i => s.size - (intOf i).toNat)
   case atStart => exact ⟨0, Nat.zero_le _, rfl, by intro c hc; simp at hc⟩
   case round =>
    obtain ⟨k, hk, rfl, ha⟩ := hrel
    have Ha := Lib.hid ha
    clear ha
    by_cases hlt : k < s.size
    ·go_wp2_with fail
     refine (HF.out _ _ (by omega) (byte_le _)).mono ?_
     rintro e w' ⟨rfl, rfl⟩
     by_cases hneg : (D (s[k].toNat : Int)).getD (-1) < 0
     ·have Hr := Lib.hid (run_all (b := B) (most := most) s k hlt Ha.out (getD_bad HD.out hneg))
      go_wp2_with fail
      go_ret3
      exact ⟨ret_rnum (by rw [Hn.out, Hr.out]; rfl), rfl⟩
     ·obtain ⟨v, hv⟩ := getD_good hneg
      have Hm := Lib.hid (AllD.more s k hlt Ha.out hv)
      clear hv
      go_wp2_with fail
      go_round
      case rel => exact ⟨k + 1, by omega, by go_num, Hm.out⟩
      case measure => simp [intOf]; omega
    ·have Hall : Hid (AllD D s.data.toList) := by
      have := Ha.out
      rw [List.take_of_length_le (by simp; omega)] at this
      exact this
     go_wp2
     go_loop [10, 11] (fun n i => ∃ (j : Nat) (V : Int), j <= s.size /\ i = .int .i64 j /\ n = .int .i64 V /\ 0 <= V /\ V <= most /\ Hid (run D B most j V (s.data.toList.drop j) = run D B most 0 0 (s.data.toList.drop 0))) (fun n i => s.size - (intOf i).toNat)
     case atStart => exact ⟨0, 0, Nat.zero_le _, rfl, rfl, by omega, h0, rfl⟩
     case round =>
      obtain ⟨j, V, hj, rfl, rfl, hV0, hV1, HR⟩ := hrel
      by_cases hjt : j < s.size
      ·obtain ⟨v, hv⟩ := AllD.at Hall.out j hjt
       have hvr := HD.out.2.2 _ _ hv
       have Hnx := Lib.hid (run_next (b := B) (most := most) (V := V) s j hjt hv)
       have Hg : Hid (most < V * B + v -> 0 <= V * B + v -> run D B most 0 0 (s.data.toList.drop 0) = .great) := fun hg hg0 => by
        rw [<- HR.out, Hnx.out]
        exact run_great HD.out _ _ _ (Hall.out.rest _) hg hg0
       have Hq := Lib.hid (quo_great (most := most) (V := V) HD.out.1)
       have HF2 : Hid (∀ W, Calls Tryz.prog 74 #[.int .u8 (s[j].toNat : Int), .int .i64 _] W (SaysInt v W)) := fun W => by
        have := HF.out (s[j].toNat : Int) W (by omega) (byte_le _)
        rw [hv] at this
        exact this
       have hB2 := HBb.out
       have hv0 := hvr.1
       have hv1 : v < 16 := by omega
       rw [hB2] at Hq
       clear hv hvr hB2
       have hgB : most / B < V \/ ¬ most / B < V := Classical.em _
       rw [HBb.out] at hgB
       rcases hgB with hg1 | hg1
       ·have Hg2 := Lib.hid (Hg.out (by rw [HBb.out]; have := Hq.out.1 hg1; omega) (by rw [HBb.out]; omega))
        go_wp2_with fail
        go_ret3
        exact ⟨ret_rnum (by rw [Hn.out, Hg2.out]; rfl), rfl⟩
       ·have hm : V * B <= most := by rw [HBb.out]; have := mt Hq.out.2 hg1; omega
        rw [HBb.out] at hm
        go_wp2_with fail
        refine (HF2.out _).mono ?_
        rintro e w' ⟨rfl, rfl⟩
        have hgB : most < V * B + v \/ ¬ most < V * B + v := Classical.em _
        rw [HBb.out] at hgB
        rcases hgB with hg2 | hg2
        ·have Hg2 := Lib.hid (Hg.out (by rw [HBb.out]; exact hg2) (by rw [HBb.out]; omega))
         go_wp2_with fail
         go_ret3
         exact ⟨ret_rnum (by rw [Hn.out, Hg2.out]; rfl), rfl⟩
        ·go_wp2_with fail
         go_round
         case rel => exact ⟨j + 1, V * B + v, by omega, by go_num, by rw [HBb.out], by rw [HBb.out]; omega, by rw [HBb.out]; omega, (show _ = _ by rw [<- Hnx.out, HR.out])⟩
         case measure => simp [intOf]; omega
      ·have He := Lib.hid (run_end (D := D) (b := B) (most := most) (V := V) s j (by omega))
       go_wp2_with fail
       go_ret3
       exact ⟨ret_rnum (by rw [Hn.out, <- HR.out, He.out, if_pos hV1]; rfl), rfl⟩
end Go.Proofs.YtpplgdnklpchkaaGreatDoor
