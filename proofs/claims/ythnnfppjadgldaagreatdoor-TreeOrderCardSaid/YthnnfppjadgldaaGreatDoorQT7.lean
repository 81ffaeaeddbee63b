/- Texts of one seat, merged: TreS, TreW. -/
import Derived.Test.YthnnfppjadgldaaGreatDoorQV
import Derived.Test.YthnnfppjadgldaaGreatDoorQF
import Derived.Test.YthnnfppjadgldaaGreatDoorQT3
import Derived.Test.YthnnfppjadgldaaGreatDoorQT5
namespace Go.Proofs.YthnnfppjadgldaaGreatDoor
set_option linter.all false
open Go.RowKit
theorem Tryz.eStr : EInfo 35 9 (.string ByteArray.empty) 1 16 := EInfo.of (by kernel_rfl) Tryz.infoStr rfl (by decide)
theorem strs_src {W : World} {v : Value} {L : List ByteArray} (h : StrsIn W v L) : SrcAt W 1 v L.length (strVals L) := by
  rcases h with ⟨rfl, rfl | ⟨ad, cap, rfl⟩⟩ | ⟨b, off, cap, rfl, h1, h2, h3⟩
  · exact .inl ⟨rfl, rfl, rfl⟩
  · exact .inr ⟨ad, cap, rfl, rfl, fun j u hu => by simp [strVals] at hu⟩
  · refine .inr ⟨⟨b, off, none⟩, cap, rfl, by rw [strVals_len, Nat.mul_one], fun j u hu => ?_⟩
    unfold strVals at hu
    rw [List.getElem?_map, Option.map_eq_some_iff] at hu
    obtain ⟨x, hx, rfl⟩ := hu
    rw [Addr.add_lit]
    exact h3 j x hx
theorem rowIn_strs {w : World} {v : Value} {L : List ByteArray} (h : RowIn w v (strVals L)) : StrsIn w v L := by
  rcases h with ⟨h0, h⟩ | ⟨b, off, cap, rfl, h1, h2, h3⟩
  · exact .inl ⟨by simpa [strVals] using h0, h⟩
  · rw [strVals_len] at h1
    exact .inr ⟨b, off, cap, by rw [strVals_len], h1, h2, fun i u hu => h3 i _ (by simp [strVals, hu])⟩
structure InsQ (W0 W : World) (v : Value) (l : List ByteArray) (lit : Option (Nat × ByteArray)) : Prop where
  own : OwnStrs W W0.heap.size v l
  bel : Below W0.heap.size W0 W
  lit : ∀ g s, lit = some (g, s) -> W.cell? ⟨g, 0, none⟩ = some (.string s) /\ v.ownBlock ≠ some g /\ g < W.heap.size
theorem own_empty {W0 W : World} (hb : W0.heap.size <= W.heap.size) : OwnStrs (W.alloc (.cells #[] 9)) W0.heap.size (.slice (some ⟨W.heap.size, 0, none⟩) 0 0) [] := by
  refine ⟨rfl, .inr ⟨W.heap.size, 0, #[], rfl, hb, ?_, Nat.le_refl _, by unfold maxLen; omega, rfl, rfl⟩⟩
  show (W.heap.push _)[W.heap.size]? = _
  rw [Array.getElem?_push_size]
theorem InsQ.start {W0 W : World} (hb : Below W0.heap.size W0 W) : InsQ W0 (W.alloc (.cells #[] 9)) (.slice (some ⟨W.heap.size, 0, none⟩) 0 0) [] none :=
  ⟨own_empty hb.size, hb.alloc hb.size _, fun g s e => by cases e⟩
theorem InsQ.start2 {W0 W : World} (hb : Below W0.heap.size W0 W) (s : ByteArray) : InsQ W0 ((W.alloc (.cells #[.string s] 9)).alloc (.cells #[] 9)) (.slice (some ⟨(W.alloc (.cells #[.string s] 9)).heap.size, 0, none⟩) 0 0) [] (some (W.heap.size, s)) := by
  have hb1 : Below W0.heap.size W0 (W.alloc (.cells #[.string s] 9)) := hb.alloc hb.size _
  refine ⟨own_empty hb1.size, hb1.alloc hb1.size _, fun g t e => ?_⟩
  injection e with e
  injection e with e1 e2
  subst e1 e2
  refine ⟨?_, ?_, by simp; omega⟩
  · exact (Box.below (Box.new W [.string s] 9) ((Below.refl _ _).alloc (Nat.le_refl _) _)).cell rfl
  · intro e
    injection e with e
    simp at e
theorem InsQ.litNew {W0 W : World} {v : Value} {l : List ByteArray} (h : InsQ W0 W v l none) (s : ByteArray) : InsQ W0 (W.alloc (.cells #[.string s] 9)) v l (some (W.heap.size, s)) := by
  refine ⟨World.ownsRow.alloc h.own _, h.bel.alloc h.bel.size _, fun g t e => ?_⟩
  injection e with e
  injection e with e1 e2
  subst e1 e2
  refine ⟨(Box.new W [.string s] 9).cell rfl, fun e => ?_, by simp⟩
  have := (World.ownsRow.lt h.own _ e).2
  omega
theorem InsQ.drew {W0 W : World} {v : Value} {l : List ByteArray} {lit : Option (Nat × ByteArray)} (h : InsQ W0 W v l lit) : InsQ W0 W.drew v l lit := ⟨h.own, h.bel.drew, h.lit⟩
theorem InsQ.litIn {W0 W : World} {v : Value} {l : List ByteArray} {g : Nat} {s : ByteArray} (h : InsQ W0 W v l (some (g, s))) : StrsIn W (.slice (some ⟨g, 0, none⟩) 1 1) [s] :=
  .inr ⟨g, 0, 1, rfl, Nat.le_refl _, by omega, fun i x hx => by
    rcases i with _ | i
    · have e : s = x := by simpa using hx
      rw [<- e]; exact (h.lit g s rfl).1
    · simp at hx⟩
theorem step_ins {ops : Array Oper} {o : Oper} {a : Act} {K : Act -> World -> Prop} {Q : Exit -> Act -> World -> Prop} {E : Prop} (d : Option Tmp) (hd : o.dst = d) (hgd : o.guard = none) (s x : Operand)
    (ho : o.op = .call { callee := .builtin .append, args := #[s, x], argTypes := #[35, 35] })
    (W0 W : World) (v : Value) (l : List ByteArray) (lit : Option (Nat × ByteArray)) (hs : a.eval s = v) (hQ : InsQ W0 W v l lit) (v2 : Value) (cs : List ByteArray) (hx : a.eval x = v2) (hsrc : StrsIn W v2 cs)
    (hl : l.length + cs.length <= 1000000)
    (h : ∀ v' w', InsQ W0 w' v' (l ++ cs) lit -> K (a.put d v') w') : if Region.wanted o (yielded ops a.tmps) = true then Oper.wp Tryz.prog o a W K Q else E := by
  refine step_append_at Tryz.eStr d hd hgd s x ho W0.heap.size W v l.length (strVals l) hs hQ.own v2 cs.length (strVals cs) hx (strs_src hsrc) (strs_one cs) (by omega) (by omega) hQ.bel.size fun v' w' g1 g2 g3 => h v' w' ⟨?_, ?_, fun g t e => ?_⟩
  · unfold OwnStrs strVals at *
    rw [List.length_append, List.map_append]
    exact g1
  · exact hQ.bel.grown g2 hQ.bel.size fun k hk => (World.ownsRow.lt hQ.own k hk).1
  · obtain ⟨e1, e2, e3⟩ := hQ.lit g t e
    have hO : Only (fun k => v.ownBlock = some k) W w' := (Only.refl _ W).grown g2 fun k hk _ => hk
    exact ⟨hO.cell e1 e2, g3.ne e3 e2, Nat.lt_of_lt_of_le e3 g2.size⟩
theorem slice_two {w : World} {p : Option Addr} {n c : Nat} {L : List ByteArray} (h : OwnStrs w n (.slice p L.length c) L) (a : Nat) (ha : a <= L.length) :
    (∀ W, (Instr.slice 35 (.slice p L.length c) none (some (.int .i64 (a : Int))) none).run Tryz.prog W = .ok (.slice p a c) W) /\ StrsIn w (.slice p a c) (L.take a) /\
    ∃ pd cd, (∀ W, (Instr.slice 35 (.slice p L.length c) (some (.int .i64 (a : Int))) none none).run Tryz.prog W = .ok (.slice pd (L.length - a) cd) W) /\ StrsIn w (.slice pd (L.length - a) cd) (L.drop a) := by
  have hi := h.strsIn
  have hrow := hi.rowIn
  have hcap : L.length <= c := by have := hrow.cap; rw [strVals_len] at this; omega
  have hp : p.map (·.add 0) = p := by
    rcases h.2 with ⟨h1, h2⟩ | ⟨g, cap, cur, h1, h2⟩
    · injection h1 with e1; rw [e1]; rfl
    · injection h1 with e1; rw [e1]; rfl
  refine ⟨fun W => ?_, hi.uptoT a ha, ?_⟩
  · rw [slice_hi Tryz.uStrs Tryz.zStrs _ _ _ _ (by omega)]
    unfold sliced
    rw [Nat.zero_mul, hp, Nat.sub_zero, Nat.sub_zero]
    split <;> rfl
  · have hr := sliced_row hrow a L.length ha (by rw [strVals_len]; exact Nat.le_refl _)
    refine ⟨_, _, fun W => slice_lo Tryz.uStrs Tryz.zStrs _ _ _ _ ha W, ?_⟩
    refine rowIn_strs ?_
    have e : strVals (L.drop a) = ((strVals L).drop a).take (L.length - a) := by
      unfold strVals
      rw [List.map_drop, List.take_of_length_le (by simp)]
    rw [e]
    exact hr
end Go.Proofs.YthnnfppjadgldaaGreatDoor
namespace Go.Proofs.YthnnfppjadgldaaGreatDoor
set_option linter.all false
open Go.RowKit
theorem ownb_empty (W : World) : OwnBytes (W.alloc (.cells #[] 5)) W.heap.size (.slice (some ⟨W.heap.size, 0, none⟩) 0 0) [] := by
  refine ⟨rfl, .inr ⟨W.heap.size, 0, #[], rfl, Nat.le_refl _, ?_, Nat.le_refl _, by unfold maxLen; omega, rfl, rfl⟩⟩
  show (W.heap.push _)[W.heap.size]? = _
  rw [Array.getElem?_push_size]
set_option maxRecDepth 100000 in
set_option maxHeartbeats 8000000 in
theorem refCopy_any {R0 : Nat -> Prop} (v : Value) (T : List FileV) (w : World) (hv : fileK.rows R0 w v T) (hS : ∀ f ∈ T, SmallF f) (hT : T.length <= 1000000) :
    Calls Tryz.prog 27 #[v] w (CopiesTo T w) := by
  obtain ⟨p, c, rfl⟩ := fileK.rows_sliced hv
  obtain ⟨n, hn⟩ : ∃ n, n = T.length := ⟨_, rfl⟩
  have HV := Lib.hid hv
  have HSm := Lib.hid hS
  rw [<- hn] at HV hT ⊢
  have Hn := Lib.hid hn
  clear hv hS hn
  go_enter Tryz.func27, Tryz.ntmps27
  go_wp2
  go_loopw [3, 4] (fun x j wi => ∃ (q : Nat) (pv : Option Addr) (cv : Nat), q <= n /\ j = .int .i64 q /\ x = .slice pv q cv /\ Hid (CopsSt w.heap.size wi (.slice pv q cv) (T.take q)) /\ Hid (Below w.heap.size w wi)) (fun _ j _ => (n - intOf j).toNat)
  case atStart => exact ⟨0, none, 0, Nat.zero_le _, rfl, rfl, Lib.hid (by rw [List.take_zero]; exact CopsSt.nil _ _), Lib.hid (Below.refl _ _)⟩
  case round =>
    obtain ⟨q, pv, cv, hq, rfl, rfl, HC, HB⟩ := hrel
    by_cases hqn : q < n
    · have hqL : q < T.length := by rw [<- Hn.out]; exact hqn
      obtain ⟨b, o, p0, c0, p1, c1, hat, hRb, hin, hcl⟩ := file_at (fileK.rows_below HV.out HB.out) q hqL
      have HT := Lib.hid (List.take_succ_eq_append_getElem hqL)
      have hsm := HSm.out T[q] (List.getElem_mem hqL)
      obtain ⟨f, hf⟩ : ∃ f, f = T[q] := ⟨_, rfl⟩
      rw [<- hf] at hin hcl HT hsm
      have HLen := Lib.hid (show (T.take q).length = q by rw [List.length_take]; omega)
      have hwr : IntKind.i64.wrap ((q : Int) + 1) = (q : Int) + 1 := by rw [IntKind.wrap_i64] <;> omega
      obtain ⟨r0, s0, r1, s1, hcs, hkk⟩ := fileK_parts hin
      unfold fileL at hcs
      injection hcs with e1 hcs
      injection hcs with _ hcs
      injection hcs with _ hcs
      injection hcs with e4 _
      rw [<- e1, <- e4] at hkk
      have HKs := Lib.hid (fun w' (hb : Below wr.heap.size wr w') => hkk (fun _ => False) w' (Only.of_below hb) fun _ _ h => h)
      have HFi := Lib.hid (fun (R : Nat -> Prop) (W : World) (v u : Value) (B1 B2 : Nat) (h1 : OwnStrs W B1 v f.1) (h2 : OwnBytes W B2 u f.2.2.2) hv hu => fileW_in (f := f) (R := R) h1 h2 hv hu)
      obtain ⟨L, hL⟩ : ∃ L, L = f.1 := ⟨_, rfl⟩
      obtain ⟨bs, hbs⟩ : ∃ L, L = f.2.2.2 := ⟨_, rfl⟩
      obtain ⟨n0, hn0⟩ : ∃ n, n = L.length := ⟨_, rfl⟩
      obtain ⟨n1, hn1⟩ : ∃ n, n = bs.length := ⟨_, rfl⟩
      obtain ⟨d, hd⟩ : ∃ d, d = f.2.1 := ⟨_, rfl⟩
      obtain ⟨t, htt⟩ : ∃ t, t = f.2.2.1 := ⟨_, rfl⟩
      have hxp : n0 <= 1000000 := by rw [hn0, hL]; exact hsm.1
      have hxb : n1 <= 1000000 := by rw [hn1, hbs]; exact hsm.2.1
      rw [<- hL, <- hbs, <- hd, <- htt] at HFi
      rw [<- hL, <- hbs, <- hn0, <- hn1] at HKs
      rw [<- hL, <- hbs, <- hd, <- htt, <- hn0, <- hn1] at hcl
      have Hn0 := Lib.hid hn0
      have Hn1 := Lib.hid hn1
      unfold fileL at hcl
      have a0 : wr.cell? ⟨b, o, none⟩ = some (.slice p0 n0 c0) := hcl 0 _ rfl
      have a1 : wr.cell? ⟨b, o + 1, none⟩ = some (.bool d) := hcl 1 _ rfl
      have a2 : wr.cell? ⟨b, o + 2, none⟩ = some (.string t) := hcl 2 _ rfl
      have a3 : wr.cell? ⟨b, o + 3, none⟩ = some (.slice p1 n1 c1) := hcl 3 _ rfl
      have hbx : ∀ W, W = wr.alloc (.cells #[.slice p0 n0 c0, .bool d, .string t, .slice p1 n1 c1] 39) -> Box W wr.heap.size (fileL (.slice p0 n0 c0) d t (.slice p1 n1 c1)) /\ Below wr.heap.size wr W /\ W.heap.size = wr.heap.size + 1 := fun W hW => by
        subst hW
        exact ⟨Box.new wr _ _, (Below.refl _ _).alloc (Nat.le_refl _) _, by simp⟩
      obtain ⟨X0, B0, hsz⟩ := hbx _ rfl
      generalize hW : wr.alloc (.cells #[.slice p0 n0 c0, .bool d, .string t, .slice p1 n1 c1] 39) = W at *
      have HSz := Lib.hid hsz
      have HBW := Lib.hid B0
      have HX := Lib.hid X0
      have w0c := X0.cell (i := 0) rfl
      have HOE := Lib.hid (own_empty (W0 := W) (W := W) (Nat.le_refl _))
      have HBE := Lib.hid (show Below W.heap.size W (W.alloc (.cells #[] 9)) from (Below.refl _ _).alloc (Nat.le_refl _) _)
      have HKE := Lib.hid ((HKs.out _ (HBW.out.trans (HBE.out.mono HBW.out.size))).1)
      have HEz := Lib.hid (show W.heap.size <= (W.alloc (.cells #[] 9)).heap.size from HBE.out.size)
      have q0 := ((HX.out.below HBE.out)).cell (i := 0) rfl
      have z00 := ((HX.out.below HBE.out)).free 0 (by simp [fileL])
      clear hkk hin hcl hn0 hn1 hd htt hL hbs hf hRb hsm e1 e4 hbx X0 B0 hsz
      go_wp2_with (refine wpList_append_strsOf rfl _ _ rfl W.heap.size W (W.alloc (.cells #[] 9)) (.slice (some ⟨W.heap.size, 0, none⟩) 0 0) [] rfl HOE.out (.slice p0 n0 c0) L rfl HKE.out (by rw [<- Hn0.out]; simp; omega) HEz.out HBE.out ?_)
      intro v' w1 ho hb
      try rw [List.nil_append] at ho
      obtain ⟨pv2, cv2, rfl⟩ := ho.sliced
      rw [<- Hn0.out] at ho ⊢
      have hbx2 : ∀ W2, W2 = w1.setCell ⟨wr.heap.size, 0, none⟩ (.slice pv2 n0 cv2) -> Box W2 wr.heap.size (fileL (.slice pv2 n0 cv2) d t (.slice p1 n1 c1)) /\ OwnStrs W2 W.heap.size (.slice pv2 n0 cv2) L /\ Below wr.heap.size wr W2 := fun W2 hW2 => by
        have hO : Only (fun k => k = wr.heap.size) w1 (w1.setCell ⟨wr.heap.size, 0, none⟩ (.slice pv2 n0 cv2)) := Only.setCell (S := fun k => k = wr.heap.size) (p := ⟨wr.heap.size, 0, none⟩) (Only.refl _ w1) (fun _ => rfl) _
        have hb1 : Below wr.heap.size wr w1 := HBW.out.trans (hb.mono HBW.out.size)
        subst hW2
        refine ⟨(HX.out.below hb).set1 0 (by simp [fileL]) _, hO.own ho fun k hk => ?_, hb1.trans (hO.below _ hb1.size fun k hk => by rw [hk]; exact Nat.le_refl _)⟩
        have := ho.ge k hk
        have := HSz.out
        omega
      have q0 := (HX.out.below hb).cell (i := 0) rfl
      have z0 := (HX.out.below hb).free 0 (by simp [fileL])
      obtain ⟨X2, O2, B2⟩ := hbx2 _ rfl
      generalize hW2 : w1.setCell ⟨wr.heap.size, 0, none⟩ (.slice pv2 n0 cv2) = W2 at *
      have hb2e : Below W2.heap.size W2 (W2.alloc (.cells #[] 5)) := (Below.refl _ _).alloc (Nat.le_refl _) _
      have r3 := (X2.below hb2e).cell (i := 3) rfl
      have HX2 := Lib.hid X2
      have HO2 := Lib.hid O2
      have HB2 := Lib.hid B2
      have HB2e := Lib.hid hb2e
      have HKE2 := Lib.hid ((HKs.out _ (B2.trans (hb2e.mono B2.size))).2)
      clear hbx2 X2 O2 B2 hb ho hb2e
      go_wp2_with (refine wpList_append_bytes rfl _ _ rfl W2.heap.size W2 (W2.alloc (.cells #[] 5)) (.slice (some ⟨W2.heap.size, 0, none⟩) 0 0) [] rfl (ownb_empty W2) (.slice p1 n1 c1) bs rfl HKE2.out (by simp) (by rw [<- Hn1.out]; omega) HB2e.out.size HB2e.out ?_)
      intro u' w3 hob hb3 hkp
      try rw [List.nil_append] at hob
      clear hkp q0 r3 z0 hW2 z00 w0c
      obtain ⟨pu, cu, rfl⟩ : ∃ p c, u' = .slice p n1 c := by
        rcases hob.2 with ⟨rfl, hz⟩ | ⟨gb, cap, cur, rfl, _⟩
        · exact ⟨none, 0, by rw [Hn1.out, hz]⟩
        · exact ⟨_, _, by rw [Hn1.out]⟩
      have q3 := (HX2.out.below hb3).cell (i := 3) rfl
      have z3 := (HX2.out.below hb3).free 3 (by simp [fileL])
      have hbx4 : ∀ W4, W4 = w3.setCell ⟨wr.heap.size, 3, none⟩ (.slice pu n1 cu) -> Box W4 wr.heap.size (fileL (.slice pv2 n0 cv2) d t (.slice pu n1 cu)) /\ OwnStrs W4 W.heap.size (.slice pv2 n0 cv2) L /\ OwnBytes W4 W2.heap.size (.slice pu n1 cu) bs /\ Below wr.heap.size wr W4 := fun W4 hW4 => by
        have hO : Only (fun k => k = wr.heap.size) w3 (w3.setCell ⟨wr.heap.size, 3, none⟩ (.slice pu n1 cu)) := Only.setCell (S := fun k => k = wr.heap.size) (p := ⟨wr.heap.size, 3, none⟩) (Only.refl _ w3) (fun _ => rfl) _
        subst hW4
        have hwW : wr.heap.size < W2.heap.size := HX2.out.lt (by simp [fileL])
        have hb1 : Below wr.heap.size wr w3 := HB2.out.trans (hb3.mono HB2.out.size)
        refine ⟨(HX2.out.below hb3).set1 3 (by simp [fileL]) _, hO.own (HO2.out.below hb3) fun k hk => ?_, hO.own hob fun k hk => ?_, hb1.trans (hO.below _ hb1.size fun k hk => by rw [hk]; exact Nat.le_refl _)⟩
        · have := HO2.out.ge k hk
          have := HSz.out
          omega
        · have := (World.ownsRow.lt hob k hk).1
          omega
      obtain ⟨X4, O4, U4, B4⟩ := hbx4 _ rfl
      generalize hW4 : w3.setCell ⟨wr.heap.size, 3, none⟩ (.slice pu n1 cu) = W4 at *
      have HB4 := Lib.hid B4
      have HBw := Lib.hid (HB.out.trans (B4.mono HB.out.size))
      have HIn := Lib.hid (show fileW.In (fun k => W.heap.size <= k /\ k < W4.heap.size) W4 (fileL (.slice pv2 n0 cv2) d t (.slice pu n1 cu)) f from HFi.out _ _ _ _ _ _ O4 U4 (fun k hk => World.ownsRow.lt O4 k hk) fun k hk => by
        obtain ⟨k1, k2⟩ := World.ownsRow.lt U4 k hk
        have h1 := HX2.out.lt (by simp [fileL])
        have h2 := HSz.out
        exact ⟨by omega, k2⟩)
      have k0 := X4.cell (i := 0) rfl
      have k1 := X4.cell (i := 1) rfl
      have k2 := X4.cell (i := 2) rfl
      have k3 := X4.cell (i := 3) rfl
      obtain ⟨xs, hrow, hmore⟩ := HC.out.flat
      rw [HLen.out] at hrow hmore
      have HRow := Lib.hid (show W4.ownsRow w.heap.size 39 4 (.slice pv q cv) q xs from (Only.of_below (S := fun _ => False) HB4.out).own hrow fun _ _ h => h)
      have HMore := Lib.hid hmore
      have Hsz := Lib.hid (show wr.heap.size <= W.heap.size by rw [HSz.out]; omega)
      clear hrow hmore hbx4 X4 O4 U4 B4 hb3 hob a0 a1 a2 a3 hat
      go_wp2_with (refine wpList_append_at Tryz.eFile rfl _ _ rfl w.heap.size (W4.alloc (.cells #[.slice pv2 n0 cv2, .bool d, .string t, .slice pu n1 cu] 39)) (.slice pv q cv) q xs rfl (World.ownsRow.alloc HRow.out _) (.slice (some ⟨W4.heap.size, 0, none⟩) 1 1) 1 (fileL (.slice pv2 n0 cv2) d t (.slice pu n1 cu)) rfl (SrcAt.new W4 (fileL (.slice pv2 n0 cv2) d t (.slice pu n1 cu)) 39 4 rfl) fileL_one (by omega) (by omega) (by have := HBw.out.size; simp; omega) ?_)
      intro v9 w9 g1 g2 g3
      have HC3 := Lib.hid (HMore.out W4 w9 39 (fileL (.slice pv2 n0 cv2) d t (.slice pu n1 cu)) f v9 _ HB4.out Hsz.out HIn.out HB.out.size g1 g2 g3)
      obtain ⟨pv', cv', rfl⟩ := HC3.out.sliced
      have HB3 := Lib.hid (show Below w.heap.size w w9 from (HBw.out.alloc (Nat.le_trans HB.out.size HB4.out.size) _).grown g2 (by have := HBw.out.size; simp; omega) fun k hk => (World.ownsRow.lt HRow.out k hk).1)
      rw [show (T.take q ++ [f]).length = q + 1 by rw [List.length_append, HLen.out]; rfl] at HC3 ⊢
      rw [<- HT.out] at HC3
      clear g1 g2 g3 q3 z3 k0 k1 k2 k3 hW4 hW
      go_wp2_with fail
      go_roundw
      case rel => exact ⟨q + 1, pv', cv', hqn, by go_num, rfl, HC3, HB3⟩
      case measure => simp [intOf]; omega
    · obtain rfl : q = n := by omega
      go_wp2
      go_ret
      have e : T.take q = T := List.take_of_length_le (by rw [Hn.out]; exact Nat.le_refl _)
      have := HC.out
      rw [e] at this
      exact ⟨_, rfl, this.rows, HB.out⟩
end Go.Proofs.YthnnfppjadgldaaGreatDoor
