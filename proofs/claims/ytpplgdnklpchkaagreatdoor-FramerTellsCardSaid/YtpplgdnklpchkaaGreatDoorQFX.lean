/- Texts of one seat, merged: FrmV, FrmW, FrmX. -/
import Derived.Test.YtpplgdnklpchkaaGreatDoorQFrmU
namespace Go.Proofs.YtpplgdnklpchkaaGreatDoor
set_option linter.all false
open Go.RowKit
theorem runF_len {l : Lim} (hl : LimR l) : ∀ (b : List UInt8) (nx k : Nat) (L : List (Hd × List UInt8)) (r : RS) (p : FP Hd), LiveP l k r p -> (reqsF (runF (frF l) (.go nx k L r p) b)).length <= L.length + b.length
 | [], nx, k, L, r, p, hp => Nat.le_refl _
 | c :: b, nx, k, L, r, p, hp => by
  rw [runF_cons, stepF_T (frF l) nx k L r p c hp.fit]
  have hv := takeT_live hl (c := c) hp
  rw [List.length_cons]
  cases e2 : takeT (frF l) k r p c with
  | go r2 q2 => rw [e2] at hv; have := runF_len hl b nx (k + 1) L r2 q2 hv; show (reqsF (runF (frF l) (.go nx (k + 1) L r2 q2) b)).length <= _; omega
  | bad s2 =>
   show (reqsF (runF (frF l) (.bad s2 k nx L) b)).length <= _
   rw [runF_bad]
   show L.length <= _
   omega
  | comp h d r2 =>
   rw [e2] at hv
   obtain ⟨o, ⟨y, rfl⟩, _⟩ := hv
   have := runF_len hl b (k + 1) (k + 1) (L ++ [(h, d)]) (bnd y) .start ⟨.inr rfl, Nat.zero_le _⟩
   rw [List.length_append, List.length_singleton] at this
   show (reqsF (runF (frF l) (.go (k + 1) (k + 1) (L ++ [(h, d)]) (bnd y) .start) b)).length <= _
   omega
theorem runF_tk {l : Lim} (hl : LimR l) (b : List UInt8) : tkF (runF (frF l) s0F b) <= b.length := by
 have h := (run_split l b).2
 cases e : splitR (frF l) 0 b [] with
 | all nx L => rw [e] at h; exact Nat.le_of_eq h.1
 | bad s k nx L =>
  rw [e] at h
  have := runF_bad_lt hl b 0 0 [] _ _ (s0_live l) _ _ _ _ h
  have h : runF (frF l) s0F b = .bad s k nx L := h
  rw [h]
  show k + 1 <= _
  omega
theorem bytes_to {w0 : World} {v : Value} {b : List UInt8} (h : BytesIn w0 v b) (hi : Nat) (h2 : hi <= b.length) :
  ∃ x, (∀ w, (Instr.slice 22 v none (some (.int .i64 (hi : Int))) none).run Tryz.prog w = .ok x w) /\ ∀ w, BytesIn w v b -> BytesIn w x (b.take hi) := by
 obtain ⟨pa, ca, rfl⟩ := h.slicedB
 have hc := RowIn.cap h
 rw [byteVals_len] at hc
 refine ⟨_, fun w => slice_hi (T := 22) Tryz.elemByteL Tryz.sizeByteL pa b.length ca hi (by omega) w, fun w hw => ?_⟩
 have := sliced_row hw 0 hi (Nat.zero_le _) (by rw [byteVals_len]; exact h2)
 unfold BytesIn
 unfold byteVals at this ⊢
 rw [List.drop_zero, Nat.sub_zero] at this
 rwa [<- List.map_take] at this
theorem split_err {l : Lim} (hl : LimR l) (b : List UInt8) : (errFS (runF (frF l) s0F b) = .nilIface /\ stS (splitR (frF l) 0 b []) = 0) \/
  ∃ s k : Int, errFS (runF (frF l) s0F b) = baseF s k /\ stS (splitR (frF l) 0 b []) = s /\ s ≠ 0 := by
 have h := (run_split l b).2
 cases e : splitR (frF l) 0 b [] with
 | all nx L => rw [e] at h; exact .inl ⟨h.2.2, rfl⟩
 | bad s k nx L =>
  rw [e] at h
  have h : runF (frF l) s0F b = .bad s k nx L := h
  exact .inr ⟨s, (k : Int), by rw [h]; rfl, rfl, split_told hl b _ _ _ _ e⟩
end Go.Proofs.YtpplgdnklpchkaaGreatDoor
namespace Go.Proofs.YtpplgdnklpchkaaGreatDoor
set_option linter.all false
open Go.RowKit
theorem Tryz.eSl : EInfo 33 22 (.slice none 0 0) 1 24 := EInfo.of (by kernel_rfl) (by kernel_rfl) rfl (by decide)
def Pieces (w : World) (us : List Value) (L : List (List UInt8)) : Prop := us.length = L.length /\ ∀ i (h : i < L.length), ∃ u, us[i]? = some u /\ BytesIn w u L[i]
theorem Pieces.one {w : World} {u : Value} {l : List UInt8} {us : List Value} {L : List (List UInt8)} (h : Pieces w us L) (hu : BytesIn w u l) : Pieces w (us ++ [u]) (L ++ [l]) := by
 refine ⟨by rw [List.length_append, List.length_append, h.1]; rfl, fun i hi => ?_⟩
 by_cases h2 : i < L.length
 ·obtain ⟨x, hx, hb⟩ := h.2 i h2
  refine ⟨x, ?_, ?_⟩
  ·rw [List.getElem?_append_left (by rw [h.1]; exact h2)]; exact hx
  ·rw [List.getElem_append_left h2]; exact hb
 ·rw [List.length_append, List.length_singleton] at hi
  obtain rfl : i = L.length := by omega
  refine ⟨u, ?_, ?_⟩
  ·rw [List.getElem?_append_right (by rw [h.1]; exact Nat.le_refl _), h.1, Nat.sub_self]; rfl
  ·rw [List.getElem_append_right (Nat.le_refl _)]; simpa using hu
theorem row1_sliced {w : World} {base : Nat} {e : TypeId} {size n : Nat} {v : Value} {xs : List Value} (h : w.ownsRow base e size v n xs) : ∃ p c, v = .slice p n c := by
 rcases h.2 with ⟨rfl, rfl⟩ | ⟨g, cap, cur, rfl, _⟩
 ·exact ⟨none, 0, rfl⟩
 ·exact ⟨_, cap, rfl⟩
theorem bytes_hi {w : World} {pa : Option Addr} {ca : Nat} {b : List UInt8} (h : BytesIn w (.slice pa b.length ca) b) (hi : Nat) (h2 : hi <= b.length) : BytesIn w (.slice pa hi ca) (b.take hi) := by
 have := sliced_row h 0 hi (Nat.zero_le _) (by rw [byteVals_len]; exact h2)
 unfold BytesIn
 unfold byteVals at this ⊢
 rw [List.drop_zero, Nat.sub_zero] at this
 rw [<- List.map_take] at this
 cases pa with
 | none => simpa [sliced] using this
 | some a =>
  have e : a.add 0 = a := rfl
  simpa [sliced, e] using this
theorem bytes_lo {w : World} {pa : Option Addr} {ca : Nat} {b : List UInt8} (h : BytesIn w (.slice pa b.length ca) b) (lo : Nat) (h2 : lo <= b.length) : BytesIn w (sliced pa lo b.length ca 1) (b.drop lo) := by
 have := sliced_row h lo b.length h2 (by rw [byteVals_len]; exact Nat.le_refl _)
 unfold BytesIn
 unfold byteVals at this ⊢
 rw [<- List.map_drop, <- List.map_take, List.take_of_length_le (by rw [List.length_drop]; exact Nat.le_refl _)] at this
 exact this
def ChunksTo (bv : Value) (b : List UInt8) (n : Nat) (w : World) (e : Ending) (w' : World) : Prop :=
 Below w.heap.size w w' /\ ∃ v us L, e = .returned v /\ L.flatten = b /\ L.length <= n + 1 /\ us.length = L.length /\ (∀ W, BytesIn W bv b -> Pieces W us L) /\ w'.ownsRow w.heap.size 22 1 v us.length us
set_option maxRecDepth 100000 in
set_option maxHeartbeats 2000000 in
theorem chunks_any (bv sv : Value) (b sz : List UInt8) (w : World) (hb : BytesIn w bv b) (hs : BytesIn w sv sz) (hn : b.length <= 3000) (hm : sz.length <= 100) :
  Calls Tryz.prog 12 #[bv, sv] w (ChunksTo bv b sz.length w) := by
 obtain ⟨pa, ca, rfl⟩ := hb.slicedB
 obtain ⟨ps, cs, rfl⟩ := hs.slicedB
 have HY := Lib.hid hb
 obtain ⟨bv0, hbv0⟩ : ∃ x, x = Value.slice pa b.length ca := ⟨_, rfl⟩
 have HE0 := Lib.hid (show ∀ W, BytesIn W bv0 b -> BytesIn W (.slice pa b.length ca) b from fun W h => by rw [<- hbv0]; exact h)
 have HY0 := Lib.hid (show BytesIn w bv0 b by rw [hbv0]; exact hb)
 have HF0 := Lib.hid (show ∀ e w', ChunksTo bv0 b sz.length w e w' -> ChunksTo (.slice pa b.length ca) b sz.length w e w' by rw [hbv0]; exact fun _ _ h => h)
 clear hbv0
 refine Calls.mono ?_ HF0.out
 clear HF0
 have HZ := Lib.hid hs
 have HR0 := Lib.hid (show w.ownsRow w.heap.size 22 1 (.slice none 0 0) 0 [] from ⟨rfl, .inl ⟨rfl, rfl⟩⟩)
 obtain ⟨m, hm'⟩ : ∃ m, m = sz.length := ⟨_, rfl⟩
 rw [<- hm'] at hm HZ ⊢
 have Hm := Lib.hid (fun (_ : Unit) => hm')
 clear hb hs hm'
 go_enter Tryz.func12, Tryz.ntmps12
 go_wp2_with fail
 go_loopw [0, 5, 6] (fun bx ov iv wr => ∃ (j : Nat) (us : List Value) (L : List (List UInt8)) (r : List UInt8), j <= m /\ iv = .int .i64 j /\ Hid (∀ W, BytesIn W bv0 b -> BytesIn W bx r) /\ Hid (L.flatten ++ r = b) /\ Hid (∀ W, BytesIn W bv0 b -> Pieces W us L) /\ Hid (wr.ownsRow w.heap.size 22 1 ov us.length us) /\ Hid (Below w.heap.size w wr) /\ Hid (L.length = j)) (fun bx ov iv _ => m - (intOf iv).toNat)
 case atStart => exact ⟨0, [], [], b, Nat.zero_le _, rfl, HE0.out, rfl, (fun _ _ => ⟨rfl, fun i h => by cases h⟩), HR0.out, Below.refl _ _, rfl⟩
 case round =>
  obtain ⟨j, us, L, r, hj, rfl, HB, HF, HP, HO, HW, HL⟩ := hrel
  obtain ⟨pr, cr, rfl⟩ := (HB.out w HY0.out).slicedB
  have hrl : r.length <= 3000 := by have := congrArg List.length HF.out; rw [List.length_append] at this; omega
  by_cases hlt : j < m
  ·have hjz : j < sz.length := by rw [<- Hm.out ()]; exact hlt
   obtain ⟨bk, o, hix, hcell⟩ := BytesIn.at2 (RowIn.below HZ.out HW.out) j hjz
   have hc0 : 0 <= (sz[j].toNat : Int) := by omega
   have hc1 := byte_le sz[j]
   obtain ⟨po, co, rfl⟩ := row1_sliced HO.out
   obtain ⟨q, hq⟩ : ∃ q : Nat, q = min sz[j].toNat r.length := ⟨_, rfl⟩
   have hqr : q <= r.length := by omega
   have hqc : q <= cr := Nat.le_trans hqr (RowIn.cap (HB.out w HY0.out)).2
   have HH := Lib.hid (fun W h => bytes_hi (HB.out W h) q hqr)
   have HLo := Lib.hid (fun W h => bytes_lo (HB.out W h) q hqr)
   have hsl : ∀ w, (Instr.slice 22 (.slice pr r.length cr) (some (.int .i64 (q : Int))) none none).run Tryz.prog w = .ok (sliced pr q r.length cr 1) w := fun w => slice_lo (T := 22) Tryz.elemByteL Tryz.sizeByteL pr r.length cr q hqr w
   have hul : us.length = j := by rw [(HP.out w HY0.out).1]; exact HL.out
   rw [hul] at HO ⊢
   have HU := Lib.hid hul
   have hws := Lib.hid HW.out.size
   have hmin : min (sz[j].toNat : Int) (r.length : Int) = (q : Int) := by omega
   have HQ := Lib.hid (fun (_ : Unit) => hq)
   clear hul hq
   go_wp2_with (refine wpList_append_at Tryz.eSl rfl _ _ rfl w.heap.size (wr.alloc (.cells #[.slice pr q cr] 22)) (.slice po j co) j us rfl (World.ownsRow.alloc HO.out _) (.slice (some ⟨wr.heap.size, 0, none⟩) 1 1) 1 [.slice pr q cr] rfl (SrcAt.new wr [.slice pr q cr] 22 1 rfl) (by simp [Value.oneCell']) (by omega) (by omega) (by have := hws.out; simp; omega) ?_)
   intro v' w3 g1 g2 g3
   obtain ⟨pv', cv', rfl⟩ := row1_sliced g1
   have bA : Below wr.heap.size wr (wr.alloc (.cells #[.slice pr q cr] 22)) := (Below.refl _ _).alloc (Nat.le_refl _) _
   have gg := grownBy_from bA g2
   have HW3 := Lib.hid (HW.out.grown gg (by have := hws.out; omega) fun k hk => (World.ownsRow.lt HO.out k hk).1)
   have HO3 := Lib.hid g1
   have HP3 := Lib.hid (fun W h => (HP.out W h).one (HH.out W h))
   have HF3 := Lib.hid (show (L ++ [r.take q]).flatten ++ r.drop q = b by rw [List.flatten_append, List.flatten_cons, List.flatten_nil, List.append_nil, List.append_assoc, List.take_append_drop]; exact HF.out)
   clear g1 g2 g3 bA gg
   go_wp2_with fail
   go_roundw
   case rel => exact ⟨j + 1, us ++ [Value.slice pr q cr], L ++ [r.take q], r.drop q, by omega, by go_num, (by have h9 := HLo.out; simp only [sliced, Nat.mul_one] at h9; exact h9), HF3.out, HP3.out, (by rw [List.length_append, HU.out]; exact HO3.out), HW3.out, (by rw [List.length_append, HL.out]; rfl)⟩
   case measure => simp [intOf]; omega
  ·obtain rfl : j = m := by omega
   obtain ⟨po, co, rfl⟩ := row1_sliced HO.out
   have hul : us.length = j := by rw [(HP.out w HY0.out).1]; exact HL.out
   rw [hul] at HO ⊢
   have HU := Lib.hid hul
   have hws := Lib.hid HW.out.size
   clear hul
   go_wp2_with (refine wpList_append_at Tryz.eSl rfl _ _ rfl w.heap.size (wr.alloc (.cells #[.slice pr r.length cr] 22)) (.slice po j co) j us rfl (World.ownsRow.alloc HO.out _) (.slice (some ⟨wr.heap.size, 0, none⟩) 1 1) 1 [.slice pr r.length cr] rfl (SrcAt.new wr [.slice pr r.length cr] 22 1 rfl) (by simp [Value.oneCell']) (by omega) (by omega) (by have := hws.out; simp; omega) ?_)
   intro v' w3 g1 g2 g3
   have bA : Below wr.heap.size wr (wr.alloc (.cells #[.slice pr r.length cr] 22)) := (Below.refl _ _).alloc (Nat.le_refl _) _
   have gg := grownBy_from bA g2
   have HW3 := Lib.hid (HW.out.grown gg (by have := hws.out; omega) fun k hk => (World.ownsRow.lt HO.out k hk).1)
   have HO3 := Lib.hid g1
   have HP3 := Lib.hid (fun W h => (HP.out W h).one (HB.out W h))
   have HF3 := Lib.hid (show (L ++ [r]).flatten = b by rw [List.flatten_append, List.flatten_cons, List.flatten_nil, List.append_nil]; exact HF.out)
   clear g1 g2 g3 bA gg
   go_wp2_with fail
   go_ret
   exact ⟨HW3.out, v', us ++ [Value.slice pr r.length cr], L ++ [r], rfl, HF3.out, (by rw [List.length_append, HL.out]; exact Nat.le_refl _), (HP3.out w HY0.out).1, HP3.out, (by rw [List.length_append, HU.out]; exact HO3.out)⟩
end Go.Proofs.YtpplgdnklpchkaaGreatDoor
namespace Go.Proofs.YtpplgdnklpchkaaGreatDoor
set_option linter.all false
open Go.RowKit
theorem flat_take {L : List (List UInt8)} {j : Nat} (h : j < L.length) : (L.take (j + 1)).flatten = (L.take j).flatten ++ L[j] := by
 rw [List.take_succ, List.getElem?_eq_getElem h, List.flatten_append]
 simp
theorem runF_part (l : Lim) {L : List (List UInt8)} {j : Nat} (h : j < L.length) : runF (frF l) s0F (L.take (j + 1)).flatten = runF (frF l) (runF (frF l) s0F (L.take j).flatten) L[j] := by
 rw [flat_take h, runF_app]
theorem flat_len {L : List (List UInt8)} {b : List UInt8} (h : L.flatten = b) (j : Nat) : (L.take j).flatten.length <= b.length := by
 have e : b = (L.take j).flatten ++ (L.drop j).flatten := by rw [<- List.flatten_append, List.take_append_drop]; exact h.symm
 rw [e, List.length_append]
 omega
structure GotS (ρ : Nat -> Nat) (w : World) (p : Nat) (l : Lim) (s : FS Hd) (ρr : Nat -> Nat) (wr : World) (st : FS Hd) (rv : Value) (V : List RV) : Prop where
 fr : FrmP ρr wr p l st
 rq : reqsF st = reqsF s ++ V.map RV.pr
 own : OwnReqs wr w.heap.size rv V
 inn : ∀ x ∈ V, InR (fun k => w.heap.size <= k /\ k < wr.heap.size /\ ¬ Own ρr k /\ rv.ownBlock ≠ some k) wr x
 row : ∀ k, rv.ownBlock = some k -> ¬ Own ρr k
 up : Upd ρ w ρr wr
theorem GotS.more {ρ : Nat -> Nat} {w : World} {p : Nat} {l : Lim} {s : FS Hd} {ρr ρ' : Nat -> Nat} {wr w6 w7 : World} {st st' : FS Hd} {rv v6 v' : Value} {V V6 : List RV}
  (h : GotS ρ w p l s ρr wr st rv V) (u : Upd ρr wr ρ' w6) (hf : FrmP ρ' w6 p l st') (hq : reqsF st' = reqsF st ++ V6.map RV.pr) (hi : ReqsIn (fun k => wr.heap.size <= k /\ k < w6.heap.size /\ ¬ Own ρ' k) w6 v6 V6)
  (h1 : w7.ownsRow w.heap.size 48 5 v' (V.length + V6.length) (reqVals V ++ reqVals V6)) (h2 : w6.grownBy w7 rv.ownBlock) (h3 : Placed w6 rv v') :
  GotS ρ w p l s (upR ρ' w6.heap.size 0) w7 st' v' (V ++ V6) := by
 have hO : Only (fun k => rv.ownBlock = some k) w6 w7 := (Only.refl _ w6).grown h2 fun k hk _ => hk
 have hlt : ∀ k, rv.ownBlock = some k -> w.heap.size <= k /\ k < wr.heap.size := fun k hk => h.own.lt hk
 have hrow : ∀ k, rv.ownBlock = some k -> ¬ Own ρ' k := fun k hk e => h.row k hk (by unfold Own at e ⊢; rwa [u.same k (hlt k hk).2] at e)
 have hsz : wr.heap.size <= w6.heap.size := u.only.size
 have hs3 : w6.heap.size <= w7.heap.size := hO.size
 have hw : w.heap.size <= wr.heap.size := h.up.only.size
 have hnew : ∀ k, k < w6.heap.size -> (¬ Own ρ' k) -> ¬ Own (upR ρ' w6.heap.size 0) k := fun k hk hn e => hn (by unfold Own at e ⊢; rwa [upR_old hk] at e)
 have hv' : ∀ k, v'.ownBlock = some k -> ¬ Own (upR ρ' w6.heap.size 0) k := fun k hk => by
  rcases h3 with e | ⟨j, hj, hl⟩
  ·rw [e] at hk; exact hnew k (by have := (hlt k hk).2; omega) (hrow k hk)
  ·rw [hj] at hk; injection hk with hk; intro e; unfold Own at e; rw [upR_new (by omega)] at e; omega
 have hvne : ∀ k, k < w6.heap.size -> rv.ownBlock ≠ some k -> v'.ownBlock ≠ some k := fun k hk hn e => by
  rcases h3 with e2 | ⟨j, hj, hl⟩
  ·rw [e2] at e; exact hn e
  ·rw [hj] at e; injection e with e; omega
 refine ⟨hf.only hO (fun k hk => hrow k hk) fun k hk => upR_old hk, by rw [hq, h.rq, List.map_append, List.append_assoc], OwnReqs.more (M := V6) h1, ?_, hv', ⟨((h.up.trans u).only).trans hO fun i hi e => by have := (hlt i e).1; omega, fun k hk => (upR_old (by omega)).trans (((h.up.trans u).same) k hk)⟩⟩
 intro x hx
 rcases List.mem_append.1 hx with hx | hx
 ·refine (((h.inn x hx).only u.only fun k hk => hk.2.2.1).only hO fun k hk e => hk.2.2.2 e).mono fun k hk => ⟨hk.1, by have := hk.2.1; omega, hnew k (by have := hk.2.1; omega) (fun e => hk.2.2.1 (by unfold Own at e ⊢; rwa [u.same k hk.2.1] at e)), hvne k (by have := hk.2.1; omega) hk.2.2.2⟩
 ·refine ((hi.2 x hx).only hO fun k hk e => by have := (hlt k e).2; have := hk.1; omega).mono fun k hk => ⟨by have := hk.1; omega, by have := hk.2.1; omega, hnew k hk.2.1 hk.2.2, hvne k hk.2.1 fun e => by have := (hlt k e).2; have := hk.1; omega⟩
end Go.Proofs.YtpplgdnklpchkaaGreatDoor
