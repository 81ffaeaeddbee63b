/- Texts of one seat, merged: SegG, SegI, SegJ, SegK, SegM, SegH. -/
import Derived.StillTailTactics
import Derived.Test.YtjndnjnclmpidaaDoorQS2
import Derived.Test.YtjndnjnclmpidaaDoorQPC
namespace Go.Proofs.YtjndnjnclmpidaaDoor
set_option linter.all false
open Go.RowKit
theorem join_take {L : List ByteArray} {k : Nat} (h : k < L.length) : joinSl ((L.take (k + 1)).map encS) = joinSl ((L.take k).map encS) ++ 47 :: encS L[k] := by
 rw [List.take_succ_eq_append_getElem h, List.map_append]
 unfold joinSl
 rw [List.flatMap_append]
 simp
theorem join_all (L : List ByteArray) : joinSl ((L.take L.length).map encS) = joinSl (L.map encS) := by rw [List.take_length]
theorem encS_size (x : ByteArray) : (encS x).length <= 3 * x.size := by
 have := enc_le x.data.toList
 have h2 : x.size = x.data.toList.length := by simp
 rw [h2]; exact this
def TextTo (L : List ByteArray) (d : Bool) (w : World) (e : Ending) (w' : World) : Prop := e = .returned (.string ⟨(textL L d).toArray⟩) /\ Below w.heap.size w w'
theorem ret_textS {a b : ByteArray} (h : a = b) : Ending.returned (.string a) = .returned (.string b) := by rw [h]
set_option maxRecDepth 100000 in
set_option maxHeartbeats 4000000 in
theorem segText_any (x : Value) (L : List ByteArray) (d : Bool) (w : World) (h : StrsIn w x L) (hl : L.length <= 1000) (hs : ∀ y ∈ L, y.size <= 1000) :
  Calls Tryd.prog 20 #[.agg #[x, .bool d]] w (TextTo L d w) := by
 obtain ⟨px, cx, rfl⟩ := h.sliced
 obtain ⟨n, hn⟩ : ∃ n, n = L.length := ⟨_, rfl⟩
 have HI := Lib.hid h
 rw [<- hn] at HI hl ⊢
 have HN := Lib.hid hn
 have HS := Lib.hid hs
 have hbox : ∀ (W : World), W = w.alloc (.cells #[.slice px n cx, .bool d] 25) -> Box W w.heap.size [.slice px n cx, .bool d] /\ W.heap.size = w.heap.size + 1 /\ Below w.heap.size w W := fun W hW => by
  subst hW
  exact ⟨Box.new w _ _, by simp, (Below.refl _ _).alloc (Nat.le_refl _) _⟩
 obtain ⟨w0, hw0⟩ : ∃ W, W = w.alloc (.cells #[.slice px n cx, .bool d] 25) := ⟨_, rfl⟩
 obtain ⟨hb0, hz0, hB0⟩ := hbox w0 hw0
 obtain ⟨w1, hmk, hown0, hbel0⟩ := OwnBytes.make w0 1 (by omega)
 have X0 := Lib.hid hb0
 have Z0 := Lib.hid hz0
 have B0 := Lib.hid hB0
 have HO0 := Lib.hid hown0
 have HB0 := Lib.hid hbel0
 have hmk2 : (Instr.makeSlice 67 (.int .i64 0) (.int .i64 1)).run Tryd.prog (w.alloc (.cells #[.slice px n cx, .bool d] 25)) = .ok (.slice (some ⟨w0.heap.size, 0, none⟩) 0 1) w1 := by rw [<- hw0]; exact hmk
 have q0 : w1.cell? ⟨w.heap.size, 0, none⟩ = some (.slice px n cx) := (hb0.below hbel0).cell rfl
 clear h hn hs hbox hb0 hz0 hB0 hown0 hbel0 hmk hw0
 go_enter Tryd.func20, Tryd.ntmps20
 go_wp2
 clear hmk2 q0
 go_loopw [3, 10] (fun u i wr => ∃ (k : Nat) (l : List UInt8), k <= n /\ i = .int .i64 k /\ l.length <= k * 3001 /\ Hid (joinSl ((L.take k).map encS) = l) /\ Hid (OwnBytes wr w0.heap.size u l) /\ Hid (Below w0.heap.size w0 wr)) (fun _ i _ => (n - intOf i).toNat)
 case atStart => exact ⟨0, [], Nat.zero_le _, rfl, Nat.zero_le _, Lib.hid rfl, HO0, HB0⟩
 case round =>
  clear HO0 HB0
  obtain ⟨k, l, hk, rfl, hlk, HJ, HO, HB⟩ := hrel
  by_cases hlt : k < n
  ·have hkL : k < L.length := by rw [<- HN.out]; exact hlt
   obtain ⟨b, o, hix, c0⟩ := ((HI.out.below B0.out).below HB.out).at2 k hkL
   have XJ := Lib.hid (join_take hkL)
   have hx0 : L[k].size <= 1000 := HS.out _ (List.getElem_mem hkL)
   obtain ⟨s, hs⟩ : ∃ s, s = L[k] := ⟨_, rfl⟩
   rw [<- hs] at c0 XJ hx0
   have hez := encS_size s
   obtain ⟨y, hy⟩ : ∃ y : ByteArray, y = ⟨(enc s.data.toList).toArray⟩ := ⟨_, rfl⟩
   have hyd : y.data.toList = encS s := by rw [hy]; rfl
   have hys : y.size <= 3000 := by
    have e : y.size = (encS s).length := by rw [<- hyd]; simp
    omega
   have HY := Lib.hid hyd
   have HEnc := Lib.hid (fun W => encode_any s W (by omega))
   rw [<- hy] at HEnc
   have hle : l.length <= 1000000000 := by omega
   have hsz : w0.heap.size <= wr.heap.size := HB.out.size
   have cY : (9223372036854775807 < 1 + y.size) = False := eq_false (by omega)
   clear hs hkL hez hy hyd
   go_wp2_with fail
   refine (HEnc.out _).mono ?_
   rintro e w2 ⟨rfl, hb2⟩
   have HB2 := Lib.hid (HB.out.trans (hb2.mono HB.out.size))
   have HO2 := Lib.hid (own_below HO.out hb2)
   have hsz2 : w0.heap.size <= w2.heap.size := HB2.out.size
   clear hb2 HB HO c0 hix
   go_wp2_with (at_builtin; go_loud (refine wpList_append_text rfl _ _ rfl w0.heap.size w0 w2 u3 l rfl HO2.out (⟨#[47]⟩ ++ y) rfl hle (by rw [ByteArray.size_append]; exact (show 1 + y.size <= 1000000000 by omega)) hsz2 HB2.out ?_))
   intro v' w3 own' hb3
   have HO3 := Lib.hid own'
   have HB3 := Lib.hid hb3
   clear own' hb3
   go_wp2
   go_roundw
   case rel =>
    refine ⟨k + 1, _, by omega, by go_num, ?_, ?_, HO3, HB3⟩
    ·have e : y.data.toList.length = y.size := by simp
     rw [List.length_append, List.length_cons, e]; omega
    ·refine Lib.hid ?_
     rw [XJ.out, HJ.out, <- HY.out]
   case measure => simp [intOf]; omega
  ·obtain rfl : k = n := by omega
   have HL := Lib.hid (show joinSl (L.map encS) = l by
    have e := HJ.out
    have e2 := join_all L
    rw [<- HN.out, e] at e2
    exact e2.symm)
   have hB := X0.out.below HB.out
   have q0 : wr.cell? ⟨w.heap.size, 0, none⟩ = some (.slice px k cx) := hB.cell rfl
   have q1 : wr.cell? ⟨w.heap.size, 1, none⟩ = some (.bool d) := hB.cell rfl
   have BZ := Lib.hid (show Below w.heap.size w wr from B0.out.trans (HB.out.mono B0.out.size))
   have hle : l.length <= 1000000000 := by omega
   have hsz : w0.heap.size <= wr.heap.size := HB.out.size
   clear HJ hB
   by_cases hd : d = true \/ (d = false /\ k = 0)
   ·have HT := Lib.hid (show textL L d = l ++ [47] by
     unfold textL
     rw [HL.out, if_pos]
     rcases hd with h | h
     ·exact .inl h
     ·exact .inr (List.length_eq_zero_iff.1 (by rw [<- HN.out]; exact h.2)))
    clear HL
    rcases hd with rfl | ⟨rfl, rfl⟩
    all_goals
     go_wp2_with (at_builtin; refine wpList_append_text rfl _ _ rfl w0.heap.size w0 wr u3 l rfl HO.out ⟨#[47]⟩ rfl hle (Nat.le_of_ble_eq_true rfl) hsz HB.out ?_)
     intro v' w3 own' hb3
     obtain ⟨l2, hl2⟩ : ∃ l2, l2 = l ++ (⟨#[47]⟩ : ByteArray).data.toList := ⟨_, rfl⟩
     rw [<- hl2] at own'
     have HT := Lib.hid (HT.out.trans hl2.symm)
     have HO2 := Lib.hid own'
     have HB2 := Lib.hid hb3
     clear own' hb3 HO hl2
     have hback := HO2.out.back
     rcases HO2.out.shape with rfl | ⟨g, cap, rfl⟩
     all_goals
      clear HO2
      go_wp2
      go_ret
      exact ⟨ret_textS (by rw [HT.out]), B0.out.trans (HB2.out.mono B0.out.size)⟩
   ·have hd1 : d = false := by cases d; rfl; exact absurd (.inl rfl) hd
    have hk0 : ¬ k = 0 := fun h => hd (.inr ⟨hd1, h⟩)
    subst hd1
    have HT := Lib.hid (show textL L false = l by
     unfold textL
     rw [HL.out, if_neg, List.append_nil]
     rintro (h | h)
     ·cases h
     ·exact hk0 (by rw [HN.out, h]; rfl))
    clear HL hd
    have hk1 : ((k : Int) == 0) = false := by rw [beq_eq_false_iff_ne]; omega
    have hback := HO.out.back
    rcases HO.out.shape with rfl | ⟨g, cap, rfl⟩
    all_goals
     clear HO
     go_wp2
     go_ret
     exact ⟨ret_textS (by rw [HT.out]), BZ.out⟩
end Go.Proofs.YtjndnjnclmpidaaDoor
namespace Go.Proofs.YtjndnjnclmpidaaDoor
set_option linter.all false
open Go.RowKit
theorem OwnStrs.last {w : World} {B : Nat} {v : Value} {A : List ByteArray} {x : ByteArray} {n : Nat} (h : OwnStrs w B v (A ++ [x])) (hn : A.length = n) :
  ∃ g cap, v = .slice (some ⟨g, 0, none⟩) (n + 1) cap /\ (∀ W, (Instr.indexAt 23 v (.int .i64 (n : Int))).run Tryd.prog W = .ok (.pointer (some ⟨g, n, none⟩)) W) /\ w.cell? ⟨g, n, none⟩ = some (.string x) /\ w.frozen? ⟨g, n, none⟩ = false /\ B <= g /\ g < w.heap.size /\
   ∀ y, OwnStrs (w.setCell ⟨g, n, none⟩ (.string y)) B v (A ++ [y]) := by
 have hl : (A ++ [x]).length = n + 1 := by simp [hn]
 have h0 : w.ownsRow B 9 1 v (A ++ [x]).length (strVals (A ++ [x])) := h
 rcases h0.2 with ⟨_, hz⟩ | ⟨g, cap, cur, rfl, hb, hh, h1, hm, hc, ht⟩
 ·omega
 ·rw [hl] at h1
  have hv : strVals (A ++ [x]) = strVals A ++ [.string x] := by simp [strVals]
  have hn2 : (strVals A).length = n := by rw [strVals_len, hn]
  refine ⟨g, cap, by rw [hl], fun W => ?_, ?_, h0.frozenAt n, hb, (Array.getElem?_eq_some_iff.1 hh).1, fun y => ?_⟩
  ·rw [hl, run_indexAt_slice (h := Tryd.uStrs), if_pos ⟨by omega, by omega⟩, Tryd.zStrs]
   simp [Result.andThen, Addr.add_lit]
  ·rw [h0.cellAt n (by omega), hv, List.getElem?_append_right (by omega), hn2]
   simp
  ·have hs := (h0.stored n (.string y)).1
   have hl2 : (A ++ [y]).length = n + 1 := by simp [hn]
   have e : (strVals (A ++ [x])).set n (.string y) = strVals (A ++ [y]) := by
    rw [hv, List.set_append_right _ _ (by omega), hn2]
    simp [strVals]
   rw [e] at hs
   unfold OwnStrs
   rw [hl2]
   rw [hl] at hs ⊢
   exact hs
theorem slice_oneL (s : ByteArray) (k : Nat) (h : k < s.size) (hs : s.size <= 4000000) (w : World) :
  (Instr.slice 9 (.string s) (some (.int .i64 (k : Int))) (some (.int .i64 ((k : Int) + 1))) none).run Tryd.prog w = .ok (.string ⟨#[s[k]]⟩) w := by
 rw [run_slice_string (P := Tryd.prog) w 9 s .i64 .i64 (k : Int) ((k : Int) + 1) Tryd.underlying9 (by omega) (by omega) (by omega)]
 rw [show ((k : Int)).toNat = k by omega, show ((k : Int) + 1).toNat = k + 1 by omega]
 congr 2
 apply ByteArray.ext
 apply Array.ext
 ·have : k < s.data.size := h
  simp; omega
 ·intro i h1 h2
  simp at h2
  subst h2
  simp
  rfl
theorem rawS_first {s : ByteArray} (h0 : 0 < s.size) (h : s[0] ≠ 47) : rawS s = [] := rawS_none (by rw [head_at h0]; simpa using h)
theorem rawS_empty {s : ByteArray} (h0 : ¬ 0 < s.size) : rawS s = [] := rawS_none (by rw [head_none h0]; simp)
set_option maxRecDepth 100000 in
set_option maxHeartbeats 4000000 in
theorem refRaw_any (s : ByteArray) (w : World) (hs : s.size <= 4000000) : Calls Tryd.prog 13 #[.string s] w (RawTo s w) := by
 by_cases h0 : 0 < s.size
 ·by_cases hf : (s[0].toNat : Int) = 47
  ·have h47 := byte_is (n := 47) (by decide) hf
   have HAll := Lib.hid (rawT_all s)
   have HSz := Lib.hid (fun k x hx => Nat.le_trans (rawT_size s k x hx) hs)
   have HMost := Lib.hid (fun k => Nat.le_trans (rawT_most s k) hs)
   have HSl := Lib.hid (fun k hk e => rawT_sl (s := s) (k := k) hk h0 h47 e)
   have HPut := Lib.hid (fun k hk e => rawT_put (s := s) (k := k) hk h0 h47 e)
   have b0 : ((s[0].toNat : Int) != 47) = false := by rw [hf]; rfl
   clear h47
   go_enter Tryd.func13, Tryd.ntmps13
   go_wp2
   go_loopw [3, 4] (fun u i wr => ∃ k : Nat, k <= s.size /\ i = .int .i64 k /\ Hid (OwnStrs wr w.heap.size u (rawT s k)) /\ Hid (Below w.heap.size w wr)) (fun _ i _ => (s.size - intOf i).toNat)
   case atStart => exact ⟨0, Nat.zero_le _, rfl, Lib.hid (OwnStrs.nil _ _), Lib.hid (Below.refl _ _)⟩
   case round =>
    obtain ⟨k, hk, rfl, HO, HB⟩ := hrel
    by_cases hlt : k < s.size
    ·have hsz : w.heap.size <= wr.heap.size := HB.out.size
     have hle : (rawT s k).length <= 1000000000 := Nat.le_trans (HMost.out k) (by decide)
     by_cases hc : (s[k].toNat : Int) = 47
     ·have HN := Lib.hid (HSl.out k hlt (byte_is (n := 47) (by decide) hc))
      rcases Nat.eq_zero_or_pos k with rfl | hk0
      all_goals
       try have hk1 : ((k : Int) == 0) = false := by rw [beq_eq_false_iff_ne]; omega
       go_wp2_with (at_builtin; refine wpList_append_strAt rfl _ _ rfl w.heap.size wr u3 _ ⟨#[]⟩ rfl HO.out rfl hle hsz ?_)
       intro v' w2 own' grown' placed'
       have HO2 := Lib.hid own'
       have HB2 := Lib.hid (HB.out.grown grown' hsz fun k hk => HO.out.ge k hk)
       rw [show (⟨#[]⟩ : ByteArray) = sNil from rfl, <- HN.out] at HO2
       clear own' grown' placed' HO HB
       go_wp2
       go_roundw
       case rel => exact ⟨_, by omega, by go_num, HO2, HB2⟩
       case measure => simp [intOf]; omega
     ·have hk0 : 0 < k := by
       rcases Nat.eq_zero_or_pos k with rfl | h
       ·exact absurd hf hc
       ·exact h
      have hk1 : ((k : Int) == 0) = false := by rw [beq_eq_false_iff_ne]; omega
      obtain ⟨A, x, e1, e2⟩ := HPut.out k hlt (byte_not (n := 47) (by decide) hc)
      have HO' := HO.out
      rw [e1] at HO'
      obtain ⟨m, hm⟩ : ∃ m, A.length = m := ⟨_, rfl⟩
      obtain ⟨g, cap, rfl, hix, d0, d1, hg, hgl, hset⟩ := OwnStrs.last (w := wr.drew) (World.ownsRow.drew HO') hm
      have c0 : wr.cell? ⟨g, m, none⟩ = some (.string x) := d0
      have hx : x.size <= 4000000 := HSz.out k x (by rw [e1]; simp)
      have hm2 : m <= 4000000 := by
       have := HMost.out k
       rw [e1] at this
       simp [hm] at this
       omega
      have HSet := Lib.hid (hset (x ++ ⟨#[s[k]]⟩))
      rw [<- e2] at HSet
      have HB2 := Lib.hid (HB.out.drew.setCell (p := ⟨g, m, none⟩) hg (.string (x ++ ⟨#[s[k]]⟩)))
      have s1 := fun w => slice_oneL s k hlt hs w
      have cX : (9223372036854775807 < x.size + 1) = False := eq_false (by omega)
      have hwr : IntKind.i64.wrap ((k : Int) + 1) = (k : Int) + 1 := by rw [IntKind.wrap_i64]; omega
      have hwm : IntKind.i64.wrap (m : Int) = (m : Int) := by rw [IntKind.wrap_i64]; omega
      clear e1 e2 hm hset HO' HO HB
      go_wp2_with fail
      refine wp_region_still_tail 17 (by kernel_rfl) (by kernel_rfl) ?_
      simp only [List.take_succ_cons, List.take_zero, List.drop_succ_cons, List.drop_zero]
      repeat (still_step; try simp only [hwm])
      refine wpStill_nil ?_
      change wpList _ _ _ _ _ wr.drew
      clear c0
      generalize wr.drew = wd at HSet HB2 d0 d1 ⊢
      go_wp2
      go_roundw
      case rel => exact ⟨k + 1, by omega, by go_num, HSet, HB2⟩
      case measure => simp [intOf]; omega
    ·obtain rfl : k = s.size := by omega
     rw [HAll.out] at HO
     go_wp2
     go_ret
     exact ⟨_, rfl, HO.out.strsIn, HB.out⟩
  ·have HR := Lib.hid (rawS_first h0 (byte_not (n := 47) (by decide) hf))
   have hgt : 0 < s.size := h0
   have b0 : ((s[0].toNat : Int) != 47) = true := by simp [bne, hf]
   have hpos : ((0 : Int) < (s.size : Int)) = True := eq_true (by omega)
   go_enter Tryd.func13, Tryd.ntmps13
   go_wp2
   go_loopw [3, 4] (fun u i wr => u = .slice none 0 0 /\ i = .int .i64 0 /\ w = wr) (fun _ i _ => (1 - intOf i).toNat)
   case atStart => exact ⟨rfl, rfl, rfl⟩
   case round =>
    obtain ⟨rfl, rfl, rfl⟩ := hrel
    go_wp2
    go_ret
    exact ⟨_, rfl, by rw [HR.out]; exact .inl ⟨rfl, .inl rfl⟩, Below.refl _ _⟩
 ·have HR := Lib.hid (rawS_empty h0)
  have hz : s.size = 0 := by omega
  have hpos : ((0 : Int) < (s.size : Int)) = False := eq_false (by omega)
  go_enter Tryd.func13, Tryd.ntmps13
  go_wp2
  go_loopw [3, 4] (fun u i wr => u = .slice none 0 0 /\ i = .int .i64 0 /\ w = wr) (fun _ i _ => (1 - intOf i).toNat)
  case atStart => exact ⟨rfl, rfl, rfl⟩
  case round =>
   obtain ⟨rfl, rfl, rfl⟩ := hrel
   go_wp2
   go_ret
   exact ⟨_, rfl, by rw [HR.out]; exact .inl ⟨rfl, .inl rfl⟩, Below.refl _ _⟩
end Go.Proofs.YtjndnjnclmpidaaDoor
namespace Go.Proofs.YtjndnjnclmpidaaDoor
set_option linter.all false
open Go.RowKit
theorem Tryd.rpathSize : (Tryd.prog.info? 30).map (·.size) = some 2 := by kernel_rfl
theorem Tryd.rpathAgg (w : World) : (isAgg 30).run Tryd.prog w = .ok true w := by kernel_rfl
theorem only_of_belowB {B : Nat} {a b : World} (h : Below B a b) : Only (fun k => B <= k) a b := ⟨h.os, h.tape, h.output, h.size, fun k hk hn => h.block k (by omega)⟩
def offC : Except Nat (List ByteArray × Bool) -> Int
 | .ok _ => -1
 | .error k => k
def RefPathTo (r : Except Nat (List ByteArray × Bool)) (w : World) (e : Ending) (w' : World) : Prop := ∃ x, e = .returned (.tuple #[x, .int .i64 (offC r)]) /\ PathO w.heap.size w' x (match r with | .ok p => p | .error _ => ([], false)) /\ Below w.heap.size w w'
theorem refPath_no {r : Except Nat (List ByteArray × Bool)} {k : Nat} (hr : r = .error k) {w w1 w2 : World} (hb : Below w.heap.size w w1) (o2 : Only (fun j => j = w.heap.size) w1 w2) : RefPathTo r w (.returned (.tuple #[.agg #[.slice none 0 0, .bool false], .int .i64 (k : Int)])) w2 := by
 subst hr
 exact ⟨_, rfl, PathO.zero _ _, hb.trans (o2.below _ hb.size fun j hj => by subst hj; exact Nat.le_refl _)⟩
theorem refPath_ok {r : Except Nat (List ByteArray × Bool)} {L : List ByteArray} {d : Bool} (hr : r = .ok (L, d)) {w w1 w2 : World} {v : Value} (ho : OwnStrs w1 (w.heap.size + 1) v L) (hb : Below w.heap.size w w1) (o2 : Only (fun j => j = w.heap.size) w1 w2) : RefPathTo r w (.returned (.tuple #[.agg #[v, .bool d], .int .i64 (-1)])) w2 := by
 subst hr
 exact ⟨_, rfl, ⟨_, rfl, (ho.only o2 fun k hk => by omega).less (by omega)⟩, hb.trans (o2.below _ hb.size fun j hj => by subst hj; exact Nat.le_refl _)⟩
set_option maxRecDepth 100000 in
set_option maxHeartbeats 8000000 in
theorem refClean16_any (v : Value) (L : List ByteArray) (w : World) (h : StrsIn w v L) (hl : L.length <= 4000000) :
  Calls Tryd.prog 19 #[v] w (RefPathTo (cleanS 0 [] false L) w) := by
 obtain ⟨p, c, rfl⟩ := h.sliced
 obtain ⟨n, hn⟩ : ∃ n, n = L.length := ⟨_, rfl⟩
 have HI := Lib.hid h
 rw [<- hn] at HI hl ⊢
 have HN := Lib.hid hn
 have HX := Lib.hid (Box.new w [.slice none 0 0, .bool false] 30)
 have B0 := Lib.hid (show Below w.heap.size w (w.alloc (.cells #[.slice none 0 0, .bool false] 30)) from (Below.refl _ _).alloc (Nat.le_refl _) _)
 have HZ0 := Lib.hid (show w.heap.size + 1 <= (w.alloc (.cells #[.slice none 0 0, .bool false] 30)).heap.size by simp)
 generalize hr : cleanS 0 [] false L = r
 have HR := Lib.hid hr
 clear h hn hr
 go_enter Tryd.func19, Tryd.ntmps19
 go_wp2
 go_loopw [4, 5, 6] (fun u dv i wr => ∃ (k : Nat) (acc : List ByteArray) (d : Bool), k <= n /\ dv = .bool d /\ i = .int .i64 k /\ acc.length <= k /\ Hid (cleanS k acc d (L.drop k) = r) /\ Hid (OwnStrs wr (w.heap.size + 1) u acc) /\ Hid (Below w.heap.size w wr) /\ Hid (Box wr w.heap.size [.slice none 0 0, .bool false]) /\ Hid (w.heap.size + 1 <= wr.heap.size)) (fun _ _ i _ => (n - intOf i).toNat)
 case atStart => exact ⟨0, [], false, Nat.zero_le _, rfl, rfl, Nat.le_refl _, HR, Lib.hid (OwnStrs.nil _ _), B0, HX, HZ0⟩
 case round =>
  clear HX B0 HZ0
  obtain ⟨k, acc, d, hk, rfl, rfl, hak, HC, HO, HB, HX, HZ⟩ := hrel
  by_cases hlt : k < n
  ·have hkL : k < L.length := by rw [<- HN.out]; exact hlt
   obtain ⟨b, o, hix, c0⟩ := (HI.out.below HB.out).at2 k hkL
   have X1 := Lib.hid (fun h1 => clean_up0 hkL d h1)
   have X2 := Lib.hid (fun h1 h2 => clean_up hkL acc d h1 h2)
   have X3 := Lib.hid (fun h1 => clean_dot hkL acc d h1)
   have X4 := Lib.hid (fun h1 h2 => clean_nil hkL acc d h1 h2)
   have X5 := Lib.hid (fun h1 h2 h3 => clean_put hkL acc d h1 h2 h3)
   obtain ⟨s, hs⟩ : ∃ s, s = L[k] := ⟨_, rfl⟩
   rw [<- hs] at c0 X1 X2 X3 X4 X5
   have t1 := isUp s
   have t2 := isDot s
   have t3 := isNil s
   have u1 : (s.toList != [46, 46]) = !decide (s = sUp) := by rw [bne, t1]
   have u2 : (s.toList != [46]) = !decide (s = sDot) := by rw [bne, t2]
   clear hs
   by_cases hup : s = sUp
   ·have hnd : ¬ s = sDot := by rintro rfl; revert hup; decide
    have hnn : ¬ s = sNil := by rintro rfl; revert hup; decide
    rw [decide_eq_true hup] at t1 u1
    rw [decide_eq_false hnd] at t2 u2
    rw [decide_eq_false hnn] at t3
    simp only [Bool.not_true, Bool.not_false] at u1 u2
    clear X3 X4 X5 hnd hnn
    rcases Nat.eq_zero_or_pos acc.length with h0 | h0
    ·obtain rfl : acc = [] := List.length_eq_zero_iff.1 h0
     obtain ⟨pa, ca, rfl⟩ := HO.out.sliced
     have XE := Lib.hid ((X1.out hup).symm.trans HC.out)
     clear X1 X2 hup h0 hak HC
     go_wp2_with (refine wpList_store_box (n := 2) Tryd.rpathSize rfl _ _ rfl (g := w.heap.size) (vs := [.slice none 0 0, .bool false]) rfl rfl HX.out rfl rfl path_one ?_)
     intro w2 b2 o2
     go_wp2
     refine bodyPost_ret ?_ rfl (refPath_no XE.out.symm HB.out o2)
     exact results_cell1 Tryd.rpathSize Tryd.rpathAgg Tryd.results19 _ _ rfl rfl b2.vals rfl
    ·obtain ⟨m, hm⟩ : ∃ m, acc.length = m + 1 := ⟨acc.length - 1, by omega⟩
     have hne : acc ≠ [] := fun e => by rw [e] at hm; cases hm
     obtain ⟨g, ca, rfl, hsl, hpop⟩ := HO.out.pop hm
     have XE := Lib.hid ((X2.out hup hne).symm.trans HC.out)
     have HO1 := Lib.hid hpop
     have hm2 : acc.dropLast.length = m := by rw [List.length_dropLast]; omega
     clear X1 X2 hup h0 hne hpop HC HO
     go_wp2
     go_roundw
     case rel => exact ⟨k + 1, acc.dropLast, true, by omega, rfl, by go_num, by omega, XE, HO1, HB, HX, HZ⟩
     case measure => simp [intOf]; omega
   ·rw [decide_eq_false hup] at t1 u1
    clear X1 X2
    by_cases hdot : s = sDot
    ·have hnn : ¬ s = sNil := by rintro rfl; revert hdot; decide
     rw [decide_eq_true hdot] at t2 u2
     rw [decide_eq_false hnn] at t3
     simp only [Bool.not_true, Bool.not_false] at u1 u2
     have XE := Lib.hid ((X3.out hdot).symm.trans HC.out)
     clear X3 X4 X5 hup hdot hnn HC
     go_wp2
     go_roundw
     case rel => exact ⟨k + 1, acc, true, by omega, rfl, by go_num, by omega, XE, HO, HB, HX, HZ⟩
     case measure => simp [intOf]; omega
    ·rw [decide_eq_false hdot] at t2 u2
     simp only [Bool.not_false] at u1 u2
     by_cases hnil : s = sNil /\ k + 1 = n
     ·rw [decide_eq_true hnil.1] at t3
      have XE := Lib.hid ((X4.out hnil.1 (by rw [<- HN.out]; exact hnil.2.symm)).symm.trans HC.out)
      have hkn := hnil.2
      have hkn2 : ¬ ((k : Int) < (n : Int) - 1) := by omega
      clear X3 X4 X5 hup hdot HC hnil
      go_wp2
      go_roundw
      case rel => exact ⟨k + 1, acc, true, by omega, rfl, by go_num, by omega, XE, HO, HB, HX, HZ⟩
      case measure => simp [intOf]; omega
     ·have XE := Lib.hid ((X5.out hup hdot (by
       rw [<- HN.out]
       by_cases h1 : s = sNil
       ·exact .inr (by have : ¬ k + 1 = n := fun h2 => hnil ⟨h1, h2⟩; omega)
       ·exact .inl h1)).symm.trans HC.out)
      obtain ⟨sn, hsn⟩ : ∃ sn : Bool, decide (s = sNil) = sn := ⟨_, rfl⟩
      have hb : (sn = true /\ k + 1 < n) \/ sn = false := by
       rw [<- hsn]
       by_cases h1 : s = sNil
       ·exact .inl ⟨decide_eq_true h1, by have : ¬ k + 1 = n := fun h2 => hnil ⟨h1, h2⟩; omega⟩
       ·exact .inr (decide_eq_false h1)
      rw [hsn] at t3 XE
      have hle : acc.length <= 1000000000 := by omega
      have hle2 : ([] : List ByteArray).length + acc.length <= 1000000000 := by simp; omega
      have HL0 := Lib.hid ((OwnStrs.lit0 wr).less HZ.out)
      have HS0 := Lib.hid (HO.out.strsIn.below ((Below.refl wr.heap.size wr).alloc (Nat.le_refl _) (.cells #[] 9)))
      have hz1 : w.heap.size + 1 <= (wr.alloc (.cells #[] 9)).heap.size := by have := HZ.out; simp; omega
      have HB1 := Lib.hid ((Below.refl wr.heap.size wr).alloc (Nat.le_refl _) (.cells #[] 9))
      clear X3 X4 X5 hup hdot hnil HC hsn
      rcases hb with ⟨rfl, hkn⟩ | rfl
      all_goals
       try have hkn2 : ((k : Int) < (n : Int) - 1) := by omega
       go_wp2_with (at_builtin; refine wpList_append_strsOf rfl _ _ rfl (w.heap.size + 1) wr (wr.alloc (.cells #[] 9)) (.slice (some ⟨wr.heap.size, 0, none⟩) 0 0) [] rfl HL0.out u4 acc rfl HS0.out hle2 hz1 (HB1.out.mono HZ.out) ?_)
       intro v1 w1 own1 hb1
       have own1 : OwnStrs w1 (w.heap.size + 1) v1 acc := own1
       have HO1 := Lib.hid own1
       have HX1 := Lib.hid (HX.out.only (only_of_belowB hb1) (by omega))
       have HB2 := Lib.hid (HB.out.trans (hb1.mono (Nat.le_succ _)))
       have hz2 : w.heap.size + 1 <= w1.heap.size := Nat.le_trans HZ.out hb1.size
       clear own1 hb1 HO HX HB HL0 HS0 HB1 hz1
       go_wp2_with (at_builtin; refine wpList_append_strAt rfl _ _ rfl (w.heap.size + 1) w1 v1 acc s rfl HO1.out rfl hle hz2 ?_)
       intro v2 w2 own2 grown2 placed2
       have HO2 := Lib.hid own2
       have hg : Only (fun k => w.heap.size + 1 <= k) w1 w2 := (Only.refl _ w1).grown grown2 fun k hk _ => HO1.out.ge k hk
       have HX2 := Lib.hid (HX1.out.only hg (by omega))
       have HB3 := Lib.hid (HB2.out.trans (hg.below w.heap.size (by omega) fun k hk => by omega))
       have HZ2 := Lib.hid (show w.heap.size + 1 <= w2.heap.size from Nat.le_trans hz2 grown2.size)
       clear own2 grown2 placed2 hg HO1 HX1 HB2 hz2 HZ
       go_wp2
       go_roundw
       case rel => exact ⟨k + 1, acc ++ [s], _, by omega, rfl, by go_num, by simp; omega, XE, HO2, HB3, HX2, HZ2⟩
       case measure => simp [intOf]; omega
  ·obtain rfl : k = n := by omega
   have XE := Lib.hid (show r = .ok (acc, d) by
    rw [<- HC.out]
    have e := clean_end L acc d
    rw [<- HN.out] at e
    exact e)
   obtain ⟨pa, ca, rfl⟩ := HO.out.sliced
   clear HC
   go_wp2_with (refine wpList_store_box (n := 2) Tryd.rpathSize rfl _ _ rfl (g := w.heap.size) (vs := [.slice pa acc.length ca, .bool d]) rfl rfl HX.out rfl rfl (path_one' _ _ _ _) ?_)
   intro w2 b2 o2
   go_wp2
   refine bodyPost_ret ?_ rfl (refPath_ok XE.out HO.out HB.out o2)
   exact results_cell1 Tryd.rpathSize Tryd.rpathAgg Tryd.results19 _ _ rfl rfl b2.vals rfl
end Go.Proofs.YtjndnjnclmpidaaDoor
namespace Go.Proofs.YtjndnjnclmpidaaDoor
set_option linter.all false
open Go.RowKit
section
variable {s : ByteArray}
theorem parse_head (h : s.data.toList.head? ≠ some 47) : parseP s.data.toList = .error 0 := by
 unfold parseP
 rw [if_neg h]
variable (h0 : s.data.toList.head? = some 47)
include h0
theorem parse_shape {k : Nat} (h : shapeS 0 s.data.toList = some k) : parseP s.data.toList = .error k := by
 rw [parseP_walk, if_pos h0, h]
variable (h1 : shapeS 0 s.data.toList = none)
include h1
theorem parse_firstBad {k : Nat} (hk : (goodG (rawS s)).length = k) (hl : k < (rawS s).length) : parseP s.data.toList = .error (offB 1 (rawS s) k) := by
 rw [parseP_walk, if_pos h0, h1]
 simp only
 rw [if_pos (by omega), hk]
theorem parse_clean (hl : (goodG (rawS s)).length = (rawS s).length) : (∀ k, cleanS 0 [] false (goodG (rawS s)) = .error k -> parseP s.data.toList = .error (offB 1 (rawS s) k)) /\ (∀ p, cleanS 0 [] false (goodG (rawS s)) = .ok p -> parseP s.data.toList = .ok p) := by
 rw [parseP_walk, if_pos h0, h1]
 simp only
 rw [if_neg (by omega)]
 exact ⟨fun k h => by rw [h], fun p h => by rw [h]⟩
end
theorem Tryd.uInts : Tryd.prog.underlying 55 = some (.slice (Tryd.prog.elem 55)) := by kernel_rfl
theorem Tryd.zInts (w : World) : (sizeOf (Tryd.prog.elem 55)).run Tryd.prog w = .ok 1 w := by kernel_rfl
theorem OwnInts.at_ {w : World} {B : Nat} {v : Value} {A : List Nat} (h : OwnInts w B v A) (k : Nat) (hk : k < A.length) :
  ∃ g n cap, v = .slice (some ⟨g, 0, none⟩) n cap /\ B <= g /\ (∀ W, (Instr.indexAt 55 v (.int .i64 (k : Int))).run Tryd.prog W = .ok (.pointer (some ⟨g, k, none⟩)) W) /\ w.cell? ⟨g, k, none⟩ = some (.int .i64 (A[k] : Int)) := by
 have h0 : w.ownsRow B 3 1 v A.length (intVals A) := h
 rcases h0.2 with ⟨_, hz⟩ | ⟨g, cap, cur, rfl, hb, hh, h1, hm, hc, ht⟩
 ·omega
 ·refine ⟨g, A.length, cap, rfl, hb, fun W => ?_, ?_⟩
  ·rw [run_indexAt_slice (h := Tryd.uInts), if_pos ⟨by omega, by omega⟩, Tryd.zInts]
   simp [Result.andThen, Addr.add_lit]
  ·rw [h0.cellAt k (by omega)]
   unfold intVals
   rw [List.getElem?_map, List.getElem?_eq_getElem hk]; rfl
theorem wpList_append_intAt {ops : Array Oper} {rest : List Oper} {o : Oper} {a : Act} {Q : Exit -> Act -> World -> Prop} (hgd : o.guard = none) (s x : Operand)
  (ho : o.op = .call { callee := .builtin .append, args := #[s, x], argTypes := #[55, 55] })
  (B : Nat) (w : World) (v : Value) (A : List Nat) (c : Nat) (hs : a.eval s = v) (hown : OwnInts w B v A) (hx : a.eval x = .slice (some ⟨w.heap.size, 0, none⟩) 1 1)
  (hn : A.length <= 1000000000) (hB : B <= w.heap.size)
  (h : ∀ v' w', OwnInts w' B v' (A ++ [c]) -> w.grownBy w' v.ownBlock -> Placed w v v' -> wpList Tryd.prog ops Q rest (a.put o.dst v') w') : wpList Tryd.prog ops Q (o :: rest) a (w.alloc (.cells #[.int .i64 (c : Int)] 3)) :=
 wpList_append_new1 Tryd.underlying55 Tryd.infoInt rfl (by decide) hgd s x ho B w v A.length (intVals A) (.int .i64 (c : Int)) rfl hs hown hx hn hB fun v' w' h1 h2 h3 => h v' w' (OwnInts.more (cs := [c]) h1) h2 h3
def offsL (R : List ByteArray) (k : Nat) : List Nat := (List.range k).map (offB 1 R)
theorem offsL_snoc (R : List ByteArray) (k : Nat) : offsL R (k + 1) = offsL R k ++ [offB 1 R k] := by
 unfold offsL
 rw [List.range_succ, List.map_append]; rfl
theorem offsL_len (R : List ByteArray) (k : Nat) : (offsL R k).length = k := by simp [offsL]
theorem offsL_at (R : List ByteArray) (k j : Nat) (h : j < (offsL R k).length) : (offsL R k)[j] = offB 1 R j := by simp [offsL]
end Go.Proofs.YtjndnjnclmpidaaDoor
namespace Go.Proofs.YtjndnjnclmpidaaDoor
set_option linter.all false
open Go.RowKit
set_option maxRecDepth 100000 in
set_option maxHeartbeats 4000000 in
theorem refText16_any (x : Value) (L : List ByteArray) (d : Bool) (w : World) (h : StrsIn w x L) (hl : L.length <= 1000) (hs : ∀ y ∈ L, y.size <= 1000) :
  Calls Tryd.prog 21 #[.agg #[x, .bool d]] w (TextTo L d w) := by
 obtain ⟨px, cx, rfl⟩ := h.sliced
 obtain ⟨n, hn⟩ : ∃ n, n = L.length := ⟨_, rfl⟩
 have HI := Lib.hid h
 rw [<- hn] at HI hl ⊢
 have HN := Lib.hid hn
 have HS := Lib.hid hs
 have hbox : ∀ (W : World), W = w.alloc (.cells #[.slice px n cx, .bool d] 30) -> Box W w.heap.size [.slice px n cx, .bool d] /\ Below w.heap.size w W := fun W hW => by
  subst hW
  exact ⟨Box.new w _ _, (Below.refl _ _).alloc (Nat.le_refl _) _⟩
 obtain ⟨X0, B0⟩ := hbox _ rfl
 have X0 := Lib.hid X0
 have B0 := Lib.hid B0
 clear h hn hs hbox
 go_enter Tryd.func21, Tryd.ntmps21
 go_wp2
 go_loopw [3, 4] (fun u i wr => ∃ (k : Nat) (t : ByteArray), k <= n /\ i = .int .i64 k /\ u = .string t /\ t.size <= k * 3001 /\ Hid (joinSl ((L.take k).map encS) = t.data.toList) /\ Hid (Below w.heap.size w wr) /\ Hid (Box wr w.heap.size [.slice px n cx, .bool d])) (fun _ i _ => (n - intOf i).toNat)
 case atStart => exact ⟨0, ⟨#[]⟩, Nat.zero_le _, rfl, rfl, Nat.zero_le _, Lib.hid rfl, B0, X0⟩
 case round =>
  clear X0 B0
  obtain ⟨k, t, hk, rfl, rfl, hlk, HJ, HB, HX⟩ := hrel
  have q0 : wr.cell? ⟨w.heap.size, 0, none⟩ = some (.slice px n cx) := HX.out.cell rfl
  have q1 : wr.cell? ⟨w.heap.size, 1, none⟩ = some (.bool d) := HX.out.cell rfl
  by_cases hlt : k < n
  ·have hkL : k < L.length := by rw [<- HN.out]; exact hlt
   obtain ⟨b, o, hix, c0⟩ := (HI.out.below HB.out).at2 k hkL
   have XJ := Lib.hid (join_take hkL)
   have hx0 : L[k].size <= 1000 := HS.out _ (List.getElem_mem hkL)
   obtain ⟨s, hs⟩ : ∃ s, s = L[k] := ⟨_, rfl⟩
   rw [<- hs] at c0 XJ hx0
   have hez := encS_size s
   obtain ⟨y, hy⟩ : ∃ y : ByteArray, y = ⟨(enc s.data.toList).toArray⟩ := ⟨_, rfl⟩
   have hyd : y.data.toList = encS s := by rw [hy]; rfl
   have hys : y.size <= 3000 := by
    have e : y.size = (encS s).length := by rw [<- hyd]; simp
    omega
   have HY := Lib.hid hyd
   have HEnc := Lib.hid (fun W => refEncode_any s W (by omega))
   rw [<- hy] at HEnc
   have cX1 : (9223372036854775807 < t.size + 1) = False := eq_false (by omega)
   have cX2 : (9223372036854775807 < t.size + 1 + y.size) = False := eq_false (by omega)
   clear hs hkL hez hy hyd
   go_wp2_with fail
   refine (HEnc.out _).mono ?_
   rintro e w2 ⟨rfl, hb2⟩
   have HB2 := Lib.hid (HB.out.trans (hb2.mono HB.out.size))
   have HX2 := Lib.hid (HX.out.below hb2)
   clear hb2 HB HX c0 hix q0 q1
   go_wp2
   go_roundw
   case rel =>
    refine ⟨k + 1, _, by omega, by go_num, rfl, ?_, ?_, HB2, HX2⟩
    ·simp only [ByteArray.size_append]
     show t.size + 1 + y.size <= _
     omega
    ·refine Lib.hid ?_
     rw [XJ.out, HJ.out, <- HY.out]
     simp
   case measure => simp [intOf]; omega
  ·obtain rfl : k = n := by omega
   have HL := Lib.hid (show joinSl (L.map encS) = t.data.toList by
    have e := HJ.out
    have e2 := join_all L
    rw [<- HN.out, e] at e2
    exact e2.symm)
   have cX1 : (9223372036854775807 < t.size + 1) = False := eq_false (by omega)
   clear HJ
   by_cases hd : d = true \/ (d = false /\ k = 0)
   ·have HT := Lib.hid (show textL L d = t.data.toList ++ [47] by
     unfold textL
     rw [HL.out, if_pos]
     rcases hd with h | h
     ·exact .inl h
     ·exact .inr (List.length_eq_zero_iff.1 (by rw [<- HN.out]; exact h.2)))
    clear HL
    rcases hd with rfl | ⟨rfl, rfl⟩
    all_goals
     go_wp2
     go_ret
     exact ⟨ret_textS (by rw [HT.out]; apply ByteArray.ext; apply Array.toList_inj.1; simp), HB.out⟩
   ·have hd1 : d = false := by cases d; rfl; exact absurd (.inl rfl) hd
    have hk0 : ¬ k = 0 := fun h => hd (.inr ⟨hd1, h⟩)
    subst hd1
    have HT := Lib.hid (show textL L false = t.data.toList by
     unfold textL
     rw [HL.out, if_neg, List.append_nil]
     rintro (h | h)
     ·cases h
     ·exact hk0 (by rw [HN.out, h]; rfl))
    clear HL hd
    have hk1 : ((k : Int) == 0) = false := by rw [beq_eq_false_iff_ne]; omega
    go_wp2
    go_ret
    exact ⟨ret_textS (by rw [HT.out]), HB.out⟩
theorem two_boxesR (w : World) (x y : Value) (d d' : Bool) : ∀ W, W = (w.alloc (.cells #[x, .bool d] 30)).alloc (.cells #[y, .bool d'] 30) -> Box W w.heap.size [x, .bool d] /\ Box W (w.heap.size + 1) [y, .bool d'] /\ Below w.heap.size w W := fun W hW => by
 subst hW
 refine ⟨box_of_cells (T := 30) (by rw [heap_old (by simp), heap_new rfl]), box_of_cells (T := 30) (heap_new (by simp)), ((Below.refl _ _).alloc (Nat.le_refl _) _).alloc (by simp) _⟩
set_option maxRecDepth 100000 in
set_option maxHeartbeats 2000000 in
theorem refSame16_any (v1 v2 : Value) (p : List ByteArray × Bool) (w : World) (h1 : PathV w v1 p) (h2 : PathV w v2 p) (hl : p.1.length <= 1000000) :
  Calls Tryd.prog 14 #[v1, v2] w (SaysIn true w) := by
 obtain ⟨x, rfl, hx⟩ := h1
 obtain ⟨y, rfl, hy⟩ := h2
 obtain ⟨d, hd⟩ : ∃ d, d = p.2 := ⟨_, rfl⟩
 rw [<- hd]
 obtain ⟨w2, hw2⟩ : ∃ W, W = (w.alloc (.cells #[x, .bool d] 30)).alloc (.cells #[y, .bool d] 30) := ⟨_, rfl⟩
 obtain ⟨hb0, hb1, hB⟩ := two_boxesR w _ _ _ _ w2 hw2
 have HT := Lib.hid (texts_any x y p.1 w2 (hx.below hB) (hy.below hB) hl)
 have HB := Lib.hid hB
 have X0 := Lib.hid hb0
 have X1 := Lib.hid hb1
 obtain ⟨px, cx, hx3⟩ := hx.sliced
 obtain ⟨py, cy, hy3⟩ := hy.sliced
 obtain ⟨n, hn⟩ : ∃ n, n = p.1.length := ⟨_, rfl⟩
 rw [<- hn] at hx3 hy3
 subst hx3 hy3
 have HW := Lib.hid hw2
 clear hb0 hb1 hB hw2 hd hn hx hy hl
 go_enter Tryd.func14, Tryd.ntmps14
 go_wp2_with fail
 rw [<- HW.out]
 refine HT.out.mono ?_
 rintro e w3 ⟨rfl, hb⟩
 have B3 := Lib.hid (HB.out.trans (hb.mono HB.out.size))
 have q0 := (X0.out.below hb).cell (i := 1) rfl
 have q1 := (X1.out.below hb).cell (i := 1) rfl
 clear hb
 go_wp2_with fail
 go_ret
 exact ⟨by simp, B3.out⟩
set_option maxRecDepth 100000 in
theorem plain_any (s : ByteArray) (w : World) (hs : s.size <= 1000000) :
  Calls Tryd.prog 16 #[.string s] w (Says (plainS s) w) := by
 have t1 := isUp s
 have t2 := isDot s
 have u1 : (s.toList != [46, 46]) = !decide (s = sUp) := by rw [bne, t1]
 have u2 : (s.toList != [46]) = !decide (s = sDot) := by rw [bne, t2]
 have I47 := Lib.hid (fun w => in_any 47 s w (by omega))
 have I92 := Lib.hid (fun w => in_any 92 s w (by omega))
 have I0 := Lib.hid (fun w => in_any 0 s w (by omega))
 have HP := Lib.hid (show plainS s = (!decide (s = sDot) && (!decide (s = sUp) && !(memB 47 s.data.toList || (memB 92 s.data.toList || memB 0 s.data.toList)))) by
  unfold plainS badS
  simp)
 generalize plainS s = r at HP ⊢
 generalize decide (s = sDot) = b1 at *
 generalize decide (s = sUp) = b2 at *
 generalize memB 47 s.data.toList = b3 at *
 generalize memB 92 s.data.toList = b4 at *
 generalize memB 0 s.data.toList = b5 at *
 cases b1
 ·cases b2
  ·simp only [Bool.not_false] at u1 u2
   cases b3
   ·cases b4
    ·go_enter Tryd.func16, Tryd.ntmps16
     go_wp2_with fail
     refine (I47.out _).mono ?_
     rintro e w' ⟨rfl, rfl⟩
     go_wp2_with fail
     refine (I92.out _).mono ?_
     rintro e w' ⟨rfl, rfl⟩
     go_wp2_with fail
     refine (I0.out _).mono ?_
     rintro e w' ⟨rfl, rfl⟩
     go_wp2_with fail
     go_ret
     exact says_of _ (by rw [HP.out]; simp)
    ·go_enter Tryd.func16, Tryd.ntmps16
     go_wp2_with fail
     refine (I47.out _).mono ?_
     rintro e w' ⟨rfl, rfl⟩
     go_wp2_with fail
     refine (I92.out _).mono ?_
     rintro e w' ⟨rfl, rfl⟩
     go_wp2_with fail
     go_ret
     exact says_of _ (by rw [HP.out]; simp)
   ·go_enter Tryd.func16, Tryd.ntmps16
    go_wp2_with fail
    refine (I47.out _).mono ?_
    rintro e w' ⟨rfl, rfl⟩
    go_wp2_with fail
    go_ret
    exact says_of _ (by rw [HP.out]; simp)
  ·simp only [Bool.not_false, Bool.not_true] at u1 u2
   go_enter Tryd.func16, Tryd.ntmps16
   go_wp2_with fail
   go_ret
   exact says_of _ (by rw [HP.out]; simp)
 ·simp only [Bool.not_true] at u2
  go_enter Tryd.func16, Tryd.ntmps16
  go_wp2_with fail
  go_ret
  exact says_of _ (by rw [HP.out]; simp)
def fewS (L : List ByteArray) : Bool := L.all (fun f => decide (f.size <= 100)) && decide (L.length <= 30)
theorem fewS_parts {L : List ByteArray} (h : fewS L = true) : (∀ f ∈ L, f.size <= 100) /\ L.length <= 30 := by
 unfold fewS at h
 rw [Bool.and_eq_true, List.all_eq_true, decide_eq_true_eq] at h
 exact ⟨fun f hf => by simpa using h.1 f hf, h.2⟩
theorem fewS_no {L : List ByteArray} {k : Nat} (hk : k < L.length) (h : ¬ L[k].size <= 100) : fewS L = false := by
 unfold fewS
 have : L.all (fun f => decide (f.size <= 100)) = false := by
  rw [List.all_eq_false]
  exact ⟨L[k], List.getElem_mem hk, by simpa using h⟩
 rw [this]; rfl
theorem fewS_take {L : List ByteArray} {k : Nat} (hk : k < L.length) (h : (L.take k).all (fun f => decide (f.size <= 100)) = true) (h' : L[k].size <= 100) :
  (L.take (k + 1)).all (fun f => decide (f.size <= 100)) = true := by
 rw [List.take_succ_eq_append_getElem hk, List.all_append, h]
 simpa using h'
theorem StrsIn.lenMax {w : World} {v : Value} {L : List ByteArray} (h : StrsIn w v L) : L.length <= 9223372036854775807 := by
 rcases h with ⟨rfl, _⟩ | ⟨b, off, cap, _, h1, h2, _⟩
 ·simp
 ·omega
set_option maxRecDepth 100000 in
set_option maxHeartbeats 2000000 in
theorem few16_any (v : Value) (L : List ByteArray) (w : World) (h : StrsIn w v L) :
  Calls Tryd.prog 17 #[v] w (SaysIn (fewS L) w) := by
 have hl := h.lenMax
 obtain ⟨p, c, rfl⟩ := h.sliced
 obtain ⟨n, hn⟩ : ∃ n, n = L.length := ⟨_, rfl⟩
 have HI := Lib.hid h
 rw [<- hn] at HI hl ⊢
 have HN := Lib.hid hn
 clear h hn
 go_enter Tryd.func17, Tryd.ntmps17
 go_wp2
 go_loopw [3] (fun i wr => ∃ k : Nat, k <= n /\ i = .int .i64 k /\ Hid ((L.take k).all (fun f => decide (f.size <= 100)) = true) /\ Hid (Below w.heap.size w wr)) (fun i _ => (n - intOf i).toNat)
 case atStart => exact ⟨0, Nat.zero_le _, rfl, Lib.hid (by simp), Below.refl _ _⟩
 case round =>
  obtain ⟨k, hk, rfl, HA, HB⟩ := hrel
  by_cases hlt : k < n
  ·have hkL : k < L.length := by rw [<- HN.out]; exact hlt
   obtain ⟨b, o, hix, c0⟩ := (HI.out.below HB.out).at2 k hkL
   have HNo := Lib.hid (fun h => fewS_no (L := L) hkL h)
   have HYes := Lib.hid (fun h => fewS_take hkL HA.out h)
   obtain ⟨f, hfe⟩ : ∃ f, f = L[k] := ⟨_, rfl⟩
   rw [<- hfe] at c0 HNo HYes
   clear hfe hkL HA
   by_cases hA : f.size <= 100
   ·have HY := Lib.hid (HYes.out hA)
    clear HNo HYes
    go_wp2
    go_roundw
    case rel => exact ⟨k + 1, by omega, by go_num, HY, HB⟩
    case measure => simp [intOf]; omega
   ·have HY := Lib.hid (HNo.out hA)
    clear HNo HYes
    go_wp2
    go_ret
    exact saysIn_of' (by rw [HY.out]) HB.out
  ·obtain rfl : k = n := by omega
   have HE := Lib.hid (show fewS L = decide (k <= 30) by
    have h := HA.out
    rw [List.take_of_length_le (by rw [<- HN.out]; exact Nat.le_refl _)] at h
    unfold fewS
    rw [h, <- HN.out]; simp)
   clear HA
   go_wp2
   go_ret
   exact saysIn_of' (by rw [HE.out, Bool.eq_iff_iff]; simp; try omega) HB.out
set_option maxRecDepth 100000 in
set_option maxHeartbeats 1000000 in
theorem wrong16_F (k at_ : Int) (w : World) (hg : ErrType w) :
  Calls Tryd.prog 15 #[baseF 400 k, .int .i64 400, .int .i64 at_] w (SaysIn (decide (k = at_)) w) := by
 go_enter Tryd.func15, Tryd.ntmps15
 go_wp2_with fail
 refine (status_F [] _ 400 k _ hg (by decide) (Chn.one _ _)).mono ?_
 rintro e w1 ⟨rfl, B1⟩
 go_wp2_with fail
 refine (at_F [] _ 400 k _ (hg.below B1) (by decide) (Chn.one _ _)).mono ?_
 rintro e w2 ⟨rfl, h2⟩
 have B2 := B1.trans (h2.mono B1.size)
 clear h2
 go_wp2_with fail
 go_ret
 exact saysIn_of' (by rw [Bool.eq_iff_iff]; simp) B2
end Go.Proofs.YtjndnjnclmpidaaDoor
namespace Go.Proofs.YtjndnjnclmpidaaDoor
set_option linter.all false
open Go.RowKit
theorem getD_at {L : List ByteArray} {j : Nat} (hj : j < L.length) : L[j]? = some (L.getD j ByteArray.empty) := by
 rw [List.getD_eq_getElem?_getD, List.getElem?_eq_getElem hj]; rfl
theorem sliceEq_yes {w : World} {p1 p2 : Option Addr} {n c1 c2 : Nat} {L : List ByteArray} (h1 : StrsIn w (.slice p1 n c1) L) (h2 : StrsIn w (.slice p2 n c2) L) (hn : n = L.length) (hl : n <= 1000000) :
  Calls Tryd.prog 38 #[.slice p1 n c1, .slice p2 n c2] w (SaysIn true w) := by
 rcases Nat.eq_zero_or_pos n with h0 | hp
 ·subst h0
  refine (Tryd.slices_Equal_string_empty p1 p2 c1 0 c2 w (by decide)).mono ?_
  rintro e w' ⟨rfl, rfl⟩
  exact ⟨rfl, Below.refl _ _⟩
 ·have hL : L ≠ [] := by rintro rfl; simp at hn; omega
  rcases h1 with ⟨h, _⟩ | ⟨b, o, c, hv, _, _, h3⟩
  ·exact absurd h hL
  rcases h2 with ⟨h, _⟩ | ⟨b', o', c', hv', _, _, h6⟩
  ·exact absurd h hL
  injection hv with e1 e2 e3
  injection hv' with e4 e5 e6
  subst e1 e4
  refine (Tryd.slices_Equal_string b o n c1 b' o' n c2 L L w (by omega) (by omega) (by omega) (by omega) (fun j hj => h3 j _ (getD_at hj)) (fun j hj => h6 j _ (getD_at hj))).mono ?_
  rintro e w' ⟨rfl, q, rfl⟩
  exact ⟨by simp, below_drewN (Below.refl _ _) q⟩
theorem sliceEq_no {w : World} {p1 p2 : Option Addr} {n m c1 c2 : Nat} (h : n ≠ m) :
  Calls Tryd.prog 38 #[.slice p1 n c1, .slice p2 m c2] w (SaysIn false w) := by
 refine (Tryd.slices_Equal_string_lens p1 p2 n c1 m c2 w h).mono ?_
 rintro e w' ⟨rfl, rfl⟩
 exact ⟨rfl, Below.refl _ _⟩
theorem two_boxes (w : World) (x y : Value) (d d' : Bool) : ∀ W, W = (w.alloc (.cells #[x, .bool d] 25)).alloc (.cells #[y, .bool d'] 25) -> Box W w.heap.size [x, .bool d] /\ Box W (w.heap.size + 1) [y, .bool d'] /\ Below w.heap.size w W := fun W hW => by
 subst hW
 refine ⟨box_of_cells (T := 25) (by rw [heap_old (by simp), heap_new rfl]), box_of_cells (T := 25) (heap_new (by simp)), ((Below.refl _ _).alloc (Nat.le_refl _) _).alloc (by simp) _⟩
set_option maxRecDepth 100000 in
set_option maxHeartbeats 2000000 in
theorem segSame_any (p1 p2 : Option Addr) (n m c1 c2 : Nat) (d d' b : Bool) (w : World) (h : ∀ W, Below w.heap.size w W -> Calls Tryd.prog 38 #[.slice p1 n c1, .slice p2 m c2] W (SaysIn b W)) (hd : b = true -> d = d') :
  Calls Tryd.prog 23 #[.agg #[.slice p1 n c1, .bool d], .agg #[.slice p2 m c2, .bool d']] w (SaysIn b w) := by
 obtain ⟨w2, hw2⟩ : ∃ W, W = (w.alloc (.cells #[.slice p1 n c1, .bool d] 25)).alloc (.cells #[.slice p2 m c2, .bool d'] 25) := ⟨_, rfl⟩
 obtain ⟨hb0, hb1, hB⟩ := two_boxes w _ _ _ _ w2 hw2
 have HE := Lib.hid (h w2 hB)
 have HB := Lib.hid hB
 have X0 := Lib.hid hb0
 have X1 := Lib.hid hb1
 have HW := Lib.hid hw2
 have HD := Lib.hid hd
 clear h hb0 hb1 hB hw2 hd
 go_enter Tryd.func23, Tryd.ntmps23
 go_wp2_with fail
 rw [<- HW.out]
 refine HE.out.mono ?_
 rintro e w3 ⟨rfl, hb⟩
 have B3 := Lib.hid (HB.out.trans (hb.mono HB.out.size))
 have q0 := (X0.out.below hb).cell (i := 1) rfl
 have q1 := (X1.out.below hb).cell (i := 1) rfl
 clear hb
 cases b with
 | false =>
  go_wp2_with fail
  go_ret
  exact ⟨rfl, B3.out⟩
 | true =>
  obtain rfl := HD.out rfl
  go_wp2_with fail
  go_ret
  exact ⟨by simp, B3.out⟩
end Go.Proofs.YtjndnjnclmpidaaDoor
