/- ChunkedTrailers. -/
import Derived.Test.YtbjfdakanhaagaaGreatDoorChuW
import Derived.Test.YtbjfdakanhaagaaGreatDoorChuT
namespace Go.Proofs.YtbjfdakanhaagaaGreatDoor
set_option linter.all false
open Go.RowKit

set_option maxRecDepth 100000 in
theorem wp_append_grow {tx : TypeId} {o : Oper} {a : Act} {K : Act → World → Prop} {Q : Exit → Act → World → Prop} (s x : Operand)
    (ho : o.op = .call { callee := .builtin .append, args := #[s, x], argTypes := #[22, tx] })
    (W : World) (b off n : Nat) (l : List UInt8) (hs : a.eval s = .slice (some ⟨b, off, none⟩) n n) (hl : BytesIn W (.slice (some ⟨b, off, none⟩) n n) l) (hn : l.length = n)
    (v2 : Value) (m : Nat) (cs : List UInt8) (hx : a.eval x = v2) (hsrc : Src Tryz.prog 1 tx v2 m (byteVals cs) W) (hm : cs.length = m) (h0 : 0 < m) (h1 : n ≤ 1000000000) (h2 : m ≤ 1000000000)
    (h : ∀ v' w', OwnBytes w' W.heap.size v' (l ++ cs) → Below W.heap.size W w' → K (a.put o.dst v') w') : o.wp Tryz.prog a W K Q := by
  obtain ⟨i0, hi, hz0, hz1, hz2⟩ := info_parts Tryz.infoByte
  have hT := Tryz.underlying22
  have hsrc1 : Src Tryz.prog i0.size tx v2 m (byteVals cs) W := by rw [hz1]; exact hsrc
  have hcells : ∀ j u, (byteVals l)[j]? = some u → W.drew.cell? ((⟨b, off, none⟩ : Addr).add j) = some u := fun j u hj => by
    rcases hl with ⟨hz, _⟩ | ⟨b', off', cap, hv, _, _, hc⟩
    · rw [hz] at hj; simp at hj
    · injection hv with e1 e2 e3
      injection e1 with e1
      injection e1 with e1 e4 e5
      subst e1 e4
      rw [Addr.add_lit]
      exact hc j u hj
  have hold := run_firstCells_some (P := Tryz.prog) W.drew i0.size n ⟨b, off, none⟩ n n (byteVals l) (by rw [byteVals_len, hz1, hn]; omega) hcells
  have hg : n < n + m := by omega
  have hrun := run_append_grow_src (P := Tryz.prog) W 22 tx o.type 5 i0 _ hT hi hz0 (some ⟨b, off, none⟩) n n (byteVals l) hold v2 m (byteVals cs) hsrc1 hg (by omega) (growslice_fits hg (by rw [hz2]; omega))
  unfold Oper.wp
  simp only [execOp, ho, resolve, invoke, builtin, Sem.run_bind, Sem.run_pure, Result.andThen_ok, List.map_toArray, List.map_cons, List.map_nil, hs, hx, hrun]
  refine h _ _ ?_ ((Below.refl _ W).drew.alloc (Nat.le_refl _) _)
  have hge := grownCap_ge W (n + m) n 5
  have hcm := grownCap_le_maxLen W (n + m) n 5 (by unfold maxLen; omega)
  have e : byteVals l ++ byteVals cs = byteVals (l ++ cs) := by simp [byteVals]
  have hlc : (l ++ cs).length = n + m := by rw [List.length_append, hn, hm]
  show World.ownsRow _ _ _ _ _ _ _
  rw [hlc, e]
  refine ⟨by rw [byteVals_len, hlc]; omega, .inr ⟨W.heap.size, _, _, rfl, Nat.le_refl _, heap_alloc_new W.drew _, hge, hcm, ?_, ?_⟩⟩
  · simp only [Array.size_append, List.size_toArray, size_zeroCells, byteVals_len, hlc, Nat.mul_one]
    show n + m + (grownCap W (n + m) n 5 - (n + m)) * 1 = _
    omega
  · simp only [Array.toList_append]
    have := List.take_left (l₁ := byteVals (l ++ cs)) (l₂ := (Builtin.zeroCells (Value.int .u8 0).cells (grownCap W (n + m) n 5 - (n + m))).toList)
    rw [byteVals_len, hlc] at this
    simpa using this
theorem wpList_append_grow' {tx : TypeId} {ops : Array Oper} {rest : List Oper} {o : Oper} {a : Act} {Q : Exit → Act → World → Prop} (hgd : o.guard = none) (s x : Operand)
    (ho : o.op = .call { callee := .builtin .append, args := #[s, x], argTypes := #[22, tx] })
    (W : World) (b off n : Nat) (l : List UInt8) (hs : a.eval s = .slice (some ⟨b, off, none⟩) n n) (hl : BytesIn W (.slice (some ⟨b, off, none⟩) n n) l) (hn : l.length = n)
    (v2 : Value) (m : Nat) (cs : List UInt8) (hx : a.eval x = v2) (hsrc : Src Tryz.prog 1 tx v2 m (byteVals cs) W) (hm : cs.length = m) (h0 : 0 < m) (h1 : n ≤ 1000000000) (h2 : m ≤ 1000000000)
    (h : ∀ v' w', OwnBytes w' W.heap.size v' (l ++ cs) → Below W.heap.size W w' → wpList Tryz.prog ops Q rest (a.put o.dst v') w') : wpList Tryz.prog ops Q (o :: rest) a W :=
  wpList_plain hgd fun _ hK => wp_append_grow s x ho W b off n l hs hl hn v2 m cs hx hsrc hm h0 h1 h2 fun v' w' g1 g2 => hK _ _ (h v' w' g1 g2)
theorem cat_size3 (a b : ByteArray) : (a ++ ⟨#[58]⟩).size = a.size + 1 ∧ (a ++ ⟨#[58]⟩ ++ b).size = a.size + 1 + b.size ∧ (a ++ ⟨#[58]⟩ ++ b ++ ⟨#[13, 10]⟩).size = a.size + 1 + b.size + 2 := by
  refine ⟨?_, ?_, ?_⟩ <;> simp [ByteArray.size_append] <;> rfl
set_option maxRecDepth 100000 in
set_option maxHeartbeats 16000000 in
theorem chunkedTrailers_any (bv : Value) (p : List UInt8) (nm vl : ByteArray) (w : World) (hp : BytesIn w bv p) (hg : GlobC w) :
    Calls Tryz.prog 7 #[bv, .string nm, .string vl] w (SaysIn true w) := by
  obtain ⟨pa, ca, rfl⟩ := hp.slicedB
  have HY := Lib.hid hp
  have HG := Lib.hid hg
  have A1 := Lib.hid awake14_any
  obtain ⟨n, hn⟩ : ∃ n, n = p.length := ⟨_, rfl⟩
  rw [← hn] at HY
  have Hn := Lib.hid (fun (_ : Unit) => hn)
  have hq := Tryz.eqNil
  have hnn := Tryz.eqNNC
  rw [← hn]
  clear hp hg hn
  by_cases hlen : 100 < n
  · skip
    go_enter Tryz.func7, Tryz.ntmps7
    go_wp2_with fail
    refine (A1.out _ HG.out).mono ?_
    rintro e w1 ⟨rfl, h1⟩
    have B1 := Lib.hid h1
    clear h1
    go_wp2_with fail
    refine (A1.out _ (HG.out.below B1.out)).mono ?_
    rintro e w2 ⟨rfl, h2⟩
    have B2 := Lib.hid (B1.out.trans (h2.mono B1.out.size))
    clear h2
    go_wp2_with fail
    go_ret
    exact ⟨rfl, B2.out⟩
  · by_cases hnm : 50 < nm.size
    · skip
      go_enter Tryz.func7, Tryz.ntmps7
      go_wp2_with fail
      refine (A1.out _ HG.out).mono ?_
      rintro e w1 ⟨rfl, h1⟩
      have B1 := Lib.hid h1
      clear h1
      go_wp2_with fail
      refine (A1.out _ (HG.out.below B1.out)).mono ?_
      rintro e w2 ⟨rfl, h2⟩
      have B2 := Lib.hid (B1.out.trans (h2.mono B1.out.size))
      clear h2
      go_wp2_with fail
      go_ret
      exact ⟨rfl, B2.out⟩
    · by_cases hvl : 50 < vl.size
      · skip
        go_enter Tryz.func7, Tryz.ntmps7
        go_wp2_with fail
        refine (A1.out _ HG.out).mono ?_
        rintro e w1 ⟨rfl, h1⟩
        have B1 := Lib.hid h1
        clear h1
        go_wp2_with fail
        refine (A1.out _ (HG.out.below B1.out)).mono ?_
        rintro e w2 ⟨rfl, h2⟩
        have B2 := Lib.hid (B1.out.trans (h2.mono B1.out.size))
        clear h2
        go_wp2_with fail
        go_ret
        exact ⟨rfl, B2.out⟩
      · have hp3 : ∀ x ∈ [p], x.length ≤ 300 := fun x hx => by rw [List.mem_singleton] at hx; rw [hx, ← Hn.out ()]; omega
        obtain ⟨E, hE⟩ : ∃ E, E = encP [p] := ⟨_, rfl⟩
        have hEb : (encB [p]).length ≤ 1000000 := by have := encB_small [p] hp3; simp at this; omega
        have hEs : E.length ≤ 6055 := by rw [hE]; exact encP_small [p] hp3 (by simp)
        have hEp : 5 ≤ E.length := by rw [hE]; exact encP_pos [p]
        have HRe := Lib.hid (fun v W (h : PartsIn W v [p]) => refEncode14_any v [p] W h (by simp) hEb)
        rw [← hE] at HRe
        obtain ⟨k2, hk2⟩ : ∃ k2, E.length = k2 + 2 := ⟨E.length - 2, by omega⟩
        have Hk2 := Lib.hid (fun (_ : Unit) => hk2)
        have hks : k2 ≤ 6053 := by omega
        have hkp : 3 ≤ k2 := by omega
        obtain ⟨z1, z2, z3⟩ := cat_size3 nm vl
        obtain ⟨line, hline⟩ : ∃ line, line = nm ++ ⟨#[58]⟩ ++ vl ++ ⟨#[13, 10]⟩ := ⟨_, rfl⟩
        rw [← hline] at z3
        have Hline := Lib.hid hline
        have hlz : line.size ≤ 103 := by omega
        have hlp : 0 < line.size := by omega
        have Hlz := Lib.hid hlz
        have Hlp := Lib.hid hlp
        obtain ⟨Ls, hLs⟩ : ∃ Ls, Ls = line.data.toList := ⟨_, rfl⟩
        have HLl := Lib.hid (show Ls.length = line.size by rw [hLs]; simp)
        have HSr := Lib.hid (fun W => (show Src Tryz.prog 1 9 (.string (nm ++ ⟨#[58]⟩ ++ vl ++ ⟨#[13, 10]⟩)) line.size (byteVals Ls) W by rw [← hline, hLs]; exact src_text W line))
        obtain ⟨bb, hbb⟩ : ∃ bb, bb = E.take k2 ++ Ls ++ [13, 10] := ⟨_, rfl⟩
        have hbz : bb.length ≤ 1000000 := by
          have hd := HLl.out
          rw [hbb]; simp only [List.length_append, List.length_take, List.length_cons, List.length_nil]; omega
        obtain ⟨D, hD⟩ : ∃ D, D = reads greatL.line.toNat (.go (newG greatL)) bb := ⟨_, rfl⟩
        have HT := Lib.hid (show Told D by rw [hD]; exact reads_told bb _ trivial)
        have HDec := Lib.hid (fun v W (hY : BytesIn W v bb) (hG : GlobM W) => decode_any v bb greatL greatR W hY hbz hG)
        have HRd := Lib.hid (fun v W (hY : BytesIn W v bb) => refRead0_any v bb greatL greatR W hY hbz (by decide))
        rw [← hD] at HDec HRd
        have Hbb := Lib.hid hbb
        have g1 : (9223372036854775807 < nm.size + 1) = False := eq_false (by omega)
        have g2 : (9223372036854775807 < (nm ++ ⟨#[58]⟩).size + vl.size) = False := eq_false (by omega)
        have g3 : (9223372036854775807 < (nm ++ ⟨#[58]⟩ ++ vl).size + 2) = False := eq_false (by omega)
        unfold AppTo at HRe
        clear hLs hline hp3 hE hEb hEs hEp hk2 z1 z2 z3 hlz hlp hbz hD hbb
        go_enter Tryz.func7, Tryz.ntmps7
        go_wp2_with fail
        refine (A1.out _ HG.out).mono ?_
        rintro e w1 ⟨rfl, h1⟩
        have B1 := Lib.hid h1
        have Y1 := Lib.hid (show BytesIn w1 (.slice pa n ca) p from RowIn.below HY.out h1)
        clear h1 A1
        go_wp2_with fail
        have hP := partsIn_one w1 _ _ Y1.out
        have b1 := (Below.refl w1.heap.size w1).alloc (Nat.le_refl _) (.cells #[.slice pa n ca] 22)
        refine (HRe.out _ _ hP).mono ?_
        rintro e w2 ⟨v2, rfl, ho2, hb2⟩
        have hb12 := b1.trans (hb2.mono b1.size)
        have B2 := Lib.hid (B1.out.trans (hb12.mono B1.out.size))
        have E2 := Lib.hid ho2.bytesIn
        obtain ⟨a2, c2, rfl⟩ := BytesIn.slicedB ho2.bytesIn
        rw [Hk2.out ()] at E2 ⊢
        obtain ⟨b7, o7, hp7, hzz, hc7⟩ := BytesIn.place E2.out (by rw [Hk2.out ()]; omega)
        subst hp7
        clear hzz
        have HEc := Lib.hid (BytesIn.cut E2.out (k := k2) (by rw [Hk2.out ()]; omega))
        have HEl := Lib.hid (show (E.take k2).length = k2 by rw [List.length_take, Hk2.out ()]; omega)
        clear hP b1 ho2 hb2 hb12 HRe
        go_wp2_with (at_builtin; go_loud (refine wpList_append_grow' rfl _ _ rfl w2 b7 o7 k2 (E.take k2) (by rfl) HEc.out HEl.out (.string (nm ++ ⟨#[58]⟩ ++ vl ++ ⟨#[13, 10]⟩)) line.size Ls (by rfl) (HSr.out w2) HLl.out Hlp.out (Nat.le_trans hks (by decide)) (Nat.le_trans Hlz.out (by decide)) ?_))
        intro v3 w3 ho3 hb3
        have O3 := Lib.hid ho3
        have Hb3 := Lib.hid hb3
        obtain ⟨a3, n3, c3, hv3⟩ := ho3.anyS
        subst hv3
        have O4 := Lib.hid (show OwnBytes (w3.alloc (.cells #[.int .u8 13, .int .u8 10] 5)) w2.heap.size (.slice a3 n3 c3) (E.take k2 ++ Ls) from World.ownsRow.alloc O3.out _)
        have Hb4 := Lib.hid (Hb3.out.alloc Hb3.out.size (.cells #[.int .u8 13, .int .u8 10] 5))
        have I4 := Lib.hid (bytesIn_new w3 #[.int .u8 13, .int .u8 10] 5 (0, 0) [13, 10] 2 rfl (by decide) (by decide))
        have HZ4 := Lib.hid (show (E.take k2 ++ Ls).length ≤ 1000000000 by
          have hd := HLl.out
          rw [List.length_append, HEl.out, hd]; have := Hlz.out; omega)
        clear ho3 hb3
        go_wp2_with (at_builtin; go_loud (refine wpList_append_bytes rfl _ _ rfl w2.heap.size w2 (w3.alloc (.cells #[.int .u8 13, .int .u8 10] 5)) (.slice a3 n3 c3) (E.take k2 ++ Ls) (by rfl) O4.out (.slice (some ⟨w3.heap.size, 0, none⟩) 2 2) [13, 10] (by rfl) I4.out HZ4.out (by decide) Hb4.out.size Hb4.out ?_))
        intro v5 w5 ho5 hb5 _
        have O5 := Lib.hid (show BytesIn w5 v5 bb by rw [Hbb.out, List.append_assoc]; exact (show OwnBytes w5 w2.heap.size v5 (E.take k2 ++ (Ls ++ [13, 10])) from ho5).bytesIn)
        have B5 := Lib.hid (B2.out.trans (hb5.mono B2.out.size))
        clear ho5 hb5 O4 Hb4 I4 HZ4 O3 Hb3
        go_wp2_with fail
        refine (great_any _).mono ?_
        rintro e w6 ⟨rfl, h6⟩
        have B6 := Lib.hid (B5.out.trans (h6.mono B5.out.size))
        have O6 := Lib.hid (show BytesIn w6 v5 bb from RowIn.below O5.out h6)
        clear h6 O5
        go_wp2_with fail
        refine (HDec.out _ _ O6.out (HG.out.below B6.out).m).mono ?_
        rintro e wd ⟨hd, hdd⟩
        have Bd := Lib.hid (B6.out.trans (hd.mono B6.out.size))
        have Od := Lib.hid (show BytesIn wd v5 bb from RowIn.below O6.out hd)
        have B7' := Lib.hid (fun W (h : Below wd.heap.size wd W) => Bd.out.trans (h.mono Bd.out.size))
        have HH' := Lib.hid (fun W (h : Below wd.heap.size wd W) => HRd.out _ W (RowIn.below Od.out h))
        unfold ReadTo resV resL at HH'
        clear hd HDec O6
        cases D with
        | go g =>
          subst hdd
          go_wp2_with fail
          refine (great_any _).mono ?_
          rintro e w7 ⟨rfl, h7⟩
          have B7 := Lib.hid (B7'.out _ h7)
          have HH := Lib.hid (HH'.out _ h7)
          clear h7 HH' B7'
          go_wp2_with fail
          refine HH.out.mono ?_
          rintro e w8 ⟨h8, rfl⟩
          have B8 := Lib.hid (B7.out.trans (h8.mono B7.out.size))
          have b89 := (Below.refl w8.heap.size w8).alloc (Nat.le_refl _) (.cells #[.slice none 0 0, .int .i64 0, .int .i64 0, .int .i64 0, .bool false] 32)
          have Hb89 := Lib.hid b89
          have X9 := Lib.hid (Box.new w8 (resL (.slice none 0 0) 0 0 0 false) 32)
          clear h8 b89
          go_wp2_with (refine wpList_store_box (n := 5) Tryz.resSize rfl _ _ rfl (g := w8.heap.size) (vs := resL (.slice none 0 0) 0 0 0 true) rfl rfl X9.out rfl rfl (res_one _ _ _ _ _ _ _) ?_)
          intro wb b6 o6
          have hb9 := Hb89.out.trans (only_eq_below o6 (Nat.le_refl _) Hb89.out.size)
          have B9 := Lib.hid (B8.out.trans (hb9.mono B8.out.size))
          have d2 : wb.cell? ⟨w8.heap.size, 2, none⟩ = some (.int .i64 0) := b6.cell rfl
          have d4 : wb.cell? ⟨w8.heap.size, 4, none⟩ = some (.bool true) := b6.cell rfl
          have hnf := Tryz.eqNil (.agg #[.int .i64 400, .int .i64 (bb.length : Int)]) 77
          unfold baseF
          clear b6 o6 hb9
          go_wp2_with fail
          go_ret
          exact ⟨by simp, B9.out⟩
        | bad sD kD =>
          subst hdd
          have hs : sD ≠ 0 := HT.out
          have hs2 : (sD != 0) = true := by rw [bne_iff_ne]; exact hs
          go_wp2_with fail
          refine (great_any _).mono ?_
          rintro e w7 ⟨rfl, h7⟩
          have B7 := Lib.hid (B7'.out _ h7)
          have HH := Lib.hid (HH'.out _ h7)
          clear h7 HH' B7'
          go_wp2_with fail
          refine HH.out.mono ?_
          rintro e w8 ⟨h8, rfl⟩
          have B8 := Lib.hid (B7.out.trans (h8.mono B7.out.size))
          have b89 := (Below.refl w8.heap.size w8).alloc (Nat.le_refl _) (.cells #[.slice none 0 0, .int .i64 0, .int .i64 0, .int .i64 0, .bool false] 32)
          have Hb89 := Lib.hid b89
          have X9 := Lib.hid (Box.new w8 (resL (.slice none 0 0) 0 0 0 false) 32)
          clear h8 b89
          go_wp2_with (refine wpList_store_box (n := 5) Tryz.resSize rfl _ _ rfl (g := w8.heap.size) (vs := resL (.slice none 0 0) 0 sD kD false) rfl rfl X9.out rfl rfl (res_one _ _ _ _ _ _ _) ?_)
          intro wb b6 o6
          have hb9 := Hb89.out.trans (only_eq_below o6 (Nat.le_refl _) Hb89.out.size)
          have B9 := Lib.hid (B8.out.trans (hb9.mono B8.out.size))
          have d2 : wb.cell? ⟨w8.heap.size, 2, none⟩ = some (.int .i64 sD) := b6.cell rfl
          have d3 : wb.cell? ⟨w8.heap.size, 3, none⟩ = some (.int .i64 (kD : Int)) := b6.cell rfl
          clear b6 o6 hb9
          go_wp2_with fail
          refine (wrong14_at sD kD _ (HG.out.below B9.out).m.1).mono ?_
          rintro e wc ⟨rfl, hc⟩
          have Bc := Lib.hid (B9.out.trans (hc.mono B9.out.size))
          clear hc
          go_wp2_with fail
          go_ret
          exact ⟨by simp, Bc.out⟩
        | done kD d =>
          obtain ⟨v, ho, rfl⟩ := hdd
          have O3 := Lib.hid ho.bytesIn
          obtain ⟨pv, cv, rfl⟩ := BytesIn.slicedB ho.bytesIn
          obtain ⟨z, hz⟩ : ∃ z, z = d.length := ⟨_, rfl⟩
          rw [← hz] at O3 ⊢
          have Hz := Lib.hid (fun (_ : Unit) => hz)
          clear ho hz
          go_wp2_with fail
          refine (great_any _).mono ?_
          rintro e w7 ⟨rfl, h7⟩
          have B7 := Lib.hid (B7'.out _ h7)
          have HH := Lib.hid (HH'.out _ h7)
          have O7 := Lib.hid (show BytesIn w7 (.slice pv z cv) d from RowIn.below O3.out h7)
          clear h7 HH' B7' O3
          go_wp2_with fail
          refine HH.out.mono ?_
          rintro e w8 ⟨h8, v4, ho, rfl⟩
          have B8 := Lib.hid (B7.out.trans (h8.mono B7.out.size))
          have b89 := (Below.refl w8.heap.size w8).alloc (Nat.le_refl _) (.cells #[.slice none 0 0, .int .i64 0, .int .i64 0, .int .i64 0, .bool false] 32)
          have Hb89 := Lib.hid b89
          have X9 := Lib.hid (Box.new w8 (resL (.slice none 0 0) 0 0 0 false) 32)
          have O4 := Lib.hid ho.bytesIn
          have O3' := Lib.hid (show BytesIn w8 (.slice pv z cv) d from RowIn.below O7.out h8)
          obtain ⟨p4, c4, rfl⟩ := BytesIn.slicedB ho.bytesIn
          rw [← Hz.out ()] at O4 ⊢
          clear h8 b89 ho
          go_wp2_with (refine wpList_store_box (n := 5) Tryz.resSize rfl _ _ rfl (g := w8.heap.size) (vs := resL (.slice p4 z c4) kD 0 0 false) rfl rfl X9.out rfl rfl (res_one _ _ _ _ _ _ _) ?_)
          intro wb b6 o6
          have hb9 := Hb89.out.trans (only_eq_below o6 (Nat.le_refl _) Hb89.out.size)
          have B9 := Lib.hid (B8.out.trans (hb9.mono B8.out.size))
          have d4 : wb.cell? ⟨w8.heap.size, 4, none⟩ = some (.bool false) := b6.cell rfl
          have d2 : wb.cell? ⟨w8.heap.size, 2, none⟩ = some (.int .i64 0) := b6.cell rfl
          have d1 : wb.cell? ⟨w8.heap.size, 1, none⟩ = some (.int .i64 (kD : Int)) := b6.cell rfl
          have d0 : wb.cell? ⟨w8.heap.size, 0, none⟩ = some (.slice p4 z c4) := b6.cell rfl
          have hk1 : (convert 22 9 (.slice pv z cv)).run Tryz.prog wb = .ok (.string ⟨d.toArray⟩) wb := BytesIn.back (RowIn.below O3'.out hb9)
          have hk2 : (convert 22 9 (.slice p4 z c4)).run Tryz.prog wb = .ok (.string ⟨d.toArray⟩) wb := BytesIn.back (RowIn.below O4.out hb9)
          obtain ⟨sd, hsd⟩ : ∃ sd : ByteArray, sd = ⟨d.toArray⟩ := ⟨_, rfl⟩
          rw [← hsd] at hk1 hk2
          have hee : (sd.toList == sd.toList) = true := by simp
          clear b6 o6 hb9 hsd
          go_wp2_with fail
          go_ret
          exact ⟨by simp, B9.out⟩
end Go.Proofs.YtbjfdakanhaagaaGreatDoor
