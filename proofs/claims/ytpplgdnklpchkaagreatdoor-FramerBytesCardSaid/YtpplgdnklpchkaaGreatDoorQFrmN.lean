/- The framer's reference: Read. -/
import Derived.Test.YtpplgdnklpchkaaGreatDoorQB
import Derived.Test.YtpplgdnklpchkaaGreatDoorQHF
import Derived.Test.YtpplgdnklpchkaaGreatDoorQFrmM
import Derived.Test.YtpplgdnklpchkaaGreatDoorQHE
import Derived.Test.YtpplgdnklpchkaaGreatDoorQReqG
namespace Go.Proofs.YtpplgdnklpchkaaGreatDoor
set_option linter.all false
open Go.RowKit
def HE.told : HE -> Prop
 | .ok => True
 | .st s => s ≠ 0
 | .at_ s _ => s ≠ 0
theorem firstE_told : ∀ (L : List (ByteArray × HE)), (∀ x ∈ L, x.2.told) -> (firstE L).2.told
 | [], _ => trivial
 | (n, .ok) :: l, h => firstE_told l fun x hx => h x (by simp [hx])
 | (n, .st s) :: l, h => h (n, .st s) (by simp)
 | (n, .at_ s k) :: l, h => h (n, .at_ s k) (by simp)
theorem chkE_told (l : Lim) (h : Hd) : (chkE l h).2.told := by
 refine firstE_told _ fun x hx => ?_
 simp only [ckL, List.mem_cons, List.not_mem_nil, or_false] at hx
 rcases hx with rfl | rfl | rfl | rfl | rfl | rfl | rfl
 ·show (ck1 _ _).told
  unfold ck1; repeat' split
  all_goals first | trivial | (show (400 : Int) ≠ 0; decide)
 ·show (ck2 _).told
  unfold ck2; repeat' split
  all_goals first | trivial | (show (400 : Int) ≠ 0; decide)
 ·show (ck3 _ _ _).told
  unfold ck3; repeat' split
  all_goals first | trivial | (show (400 : Int) ≠ 0; decide)
 ·show (ck4 _).told
  unfold ck4; repeat' split
  all_goals first | trivial | (show (400 : Int) ≠ 0; decide)
 ·show (ck5 _).told
  unfold ck5; repeat' split
  all_goals first | trivial | (show (501 : Int) ≠ 0; decide)
 ·show (ck6 _ _).told
  unfold ck6
  split
  ·trivial
  ·unfold numE
   split
   ·trivial
   ·show (400 : Int) ≠ 0; decide
   ·show (413 : Int) ≠ 0; decide
  ·show (400 : Int) ≠ 0; decide
 ·show (ck7 _).told
  unfold ck7; repeat' split
  all_goals first | trivial | (show (501 : Int) ≠ 0; decide)
def VdIs (vs : List Value) (V : World) (e : Ending) (w' : World) : Prop := e = .returned (.agg vs.toArray) /\ Below V.heap.size V w'
theorem vd_err {l : Lim} {h : Hd} {s : Int} (he : checkH l h = .error s) : s ≠ 0 /\ ∃ nm fb a, vdV (chkE l h) (chkV l h) = vdL 0 0 nm s fb a := by
 have ht := chkE_told l h
 unfold checkH at he
 cases hc : (chkE l h).2 with
 | ok => rw [hc] at he; simp only at he; split at he <;> cases he
 | st s' =>
  rw [hc] at he ht
  injection he with he
  subst he
  exact ⟨ht, _, false, 0, by unfold vdV; rw [hc]⟩
 | at_ s' n =>
  rw [hc] at he ht
  injection he with he
  subst he
  exact ⟨ht, _, true, n, by unfold vdV; rw [hc]⟩
theorem vd_ok {l : Lim} {h : Hd} (he : (chkE l h).2 = .ok) : vdV (chkE l h) (chkV l h) = vdL (chkV l h).1 (chkV l h).2 ⟨#[]⟩ 0 false 0 := by unfold vdV; rw [he]
theorem refChk_any (l : Lim) (h : Hd) (fv : Value) (V : World) (hI : FldsIn V fv h.F) (hf : FewF h.F) (hA : h.A.size <= 1000000) (hb : mx l.body <= 4611686018427387904) {vs : List Value} (hv : vdV (chkE l h) (chkV l h) = vs) :
  Calls Tryz.prog 40 #[.agg #[.string h.A, .string h.B, .int .i64 h.m, fv], .int .i64 (mx l.body)] V (VdIs vs V) := by
 subst hv
 exact refCheck_any h.A h.B h.m (mx l.body) fv h.F V hI hf hA (by unfold mx; omega) hb
theorem readB_err {l : Lim} {h : Hd} {s : Int} {k : Nat} {b : List UInt8} (e : checkH l h = .error s) : readB (frF l) h k b = .bad s (k - 1) := by
 unfold readB; rw [show (frF l).check h = checkH l h from rfl, e]
theorem readB_chk {l : Lim} {h : Hd} {k : Nat} {b : List UInt8} (e : checkH l h = .ok .chunked) : readB (frF l) h k b = match reads l.line.toNat (.go ((newG l).from_ k)) b with
  | .go _ => .open_
  | .bad s j => .bad s j
  | .done n d => .req h d n := by
 unfold readB; rw [show (frF l).check h = checkH l h from rfl, e]; rfl
theorem readB_len {l : Lim} {h : Hd} {n k : Nat} {b : List UInt8} (e : checkH l h = .ok (.len n)) : readB (frF l) h k b = if b.length < n then .open_ else .req h (b.take n) (k + n) := by
 unfold readB; rw [show (frF l).check h = checkH l h from rfl, e]
theorem scan_len {m : Nat} : ∀ (l : List UInt8) (r : RS) (k : Nat), (r.st = 0 \/ r.st = 1) -> ∀ s n, scan m r k l = .line s n -> s.size + 2 + k <= n + totR r
 | [], r, k, h, s, n, e => by unfold scan at e; cases e
 | c :: l, r, k, h, s, n, e => by
  unfold scan at e
  have hw : r.wrong = false := by rw [wrong_false]; omega
  have ht := takeR_tot (m := m) (r := r) (c := c)
  have h3 : (stepR m r c).st <= 3 := stepR_st c (by omega)
  rw [stepR_take c hw] at *
  split at e
  ·next h1 =>
   injection e with e1 e2
   have := ht.2 h1
   rw [<- e1]; omega
  ·split at e
   ·cases e
   ·split at e
    ·cases e
    ·have hz : (takeR m r c).st = 0 := by omega
     have h5 := ht.1 hz
     have := scan_len l (takeR m r c) (k + 1) (.inl hz) s n e
     omega
def Aft (l : Lim) (b : List UInt8) (R : OneR Hd) (s : ByteArray) (k : Nat) : Prop :=
 s.size ≠ 0 /\ s.size + 2 <= k /\ (∀ A B m, outO s = .line A B m -> R = nextH (frF l) ⟨A, B, m, [], 0⟩ k (b.drop k)) /\ ∀ st a, outO s = .bad st a -> R = .bad st (k - 1)
theorem rd1 {l : Lim} {b : List UInt8} {k : Nat} {x : ByteArray} {R : OneR Hd} (hk : k <= b.length) (hR : R = nextF (frF l) k (b.drop k)) :
  (∀ s n, scan l.line.toNat (bnd x) k (b.drop k) = .line s n -> k < n /\ n <= b.length /\ s.size + 2 + k <= n /\ (s.size = 0 -> R = nextF (frF l) n (b.drop n)) /\ (s.size ≠ 0 -> Aft l b R s n)) /\
  (∀ n, scan l.line.toNat (bnd x) k (b.drop k) = .bad n -> R = .bad 400 n) /\ (∀ n, scan l.line.toNat (bnd x) k (b.drop k) = .long n -> R = .bad 414 n) /\ (scan l.line.toNat (bnd x) k (b.drop k) = .open_ -> R = .open_) := by
 rw [nextF_line, show (frF l).m = l.line.toNat from rfl, scan_bnd ⟨#[]⟩ x] at hR
 refine ⟨fun s n e => ?_, fun n e => by rw [e] at hR; exact hR, fun n e => by rw [e] at hR; exact hR, fun e => by rw [e] at hR; exact hR⟩
 have h1 := scan_lt _ _ _ s n e
 have h2 := scan_len _ _ _ (.inr rfl) s n e
 rw [tot_bnd] at h2
 rw [List.length_drop] at h1
 rw [e] at hR
 simp only at hR
 rw [List.drop_drop, show k + (n - k) = n by omega] at hR
 refine ⟨h1.1, by omega, by omega, fun h0 => by rw [if_pos h0] at hR; exact hR, fun h0 => ⟨h0, by omega, fun A B m ho => ?_, fun st a ho => ?_⟩⟩
 ·rw [if_neg h0, show (frF l).first s = firstH s from rfl] at hR
  unfold firstH at hR
  rw [ho] at hR
  exact hR
 ·rw [if_neg h0, show (frF l).first s = firstH s from rfl] at hR
  unfold firstH at hR
  rw [ho] at hR
  exact hR
theorem rd2 {l : Lim} {b : List UInt8} {k : Nat} {x : ByteArray} {h : Hd} {R : OneR Hd} (hk : k <= b.length) (hR : R = nextH (frF l) h k (b.drop k)) (o : HdOk k h) :
  (∀ s n, scan l.line.toNat (bnd x) k (b.drop k) = .line s n -> k < n /\ n <= b.length /\ s.size + 2 + k <= n /\ (s.size = 0 -> R = readB (frF l) h n (b.drop n)) /\
   (s.size ≠ 0 -> (l.fields <= (h.F.length : Int) \/ l.head < (h.n : Int) + ((s.size : Int) + 2) -> R = .bad 431 (n - 1)) /\ (¬ (l.fields <= (h.F.length : Int) \/ l.head < (h.n : Int) + ((s.size : Int) + 2)) ->
    (∀ N V, outS s = .fld N V -> R = nextH (frF l) ⟨h.A, h.B, h.m, h.F ++ [(N, V)], h.n + (s.size + 2)⟩ n (b.drop n) /\ HdOk n ⟨h.A, h.B, h.m, h.F ++ [(N, V)], h.n + (s.size + 2)⟩) /\ ∀ a, outS s = .bad a -> R = .bad 400 (n - 1)))) /\
  (∀ n, scan l.line.toNat (bnd x) k (b.drop k) = .bad n -> R = .bad 400 n) /\ (∀ n, scan l.line.toNat (bnd x) k (b.drop k) = .long n -> R = .bad 431 n) /\ (scan l.line.toNat (bnd x) k (b.drop k) = .open_ -> R = .open_) := by
 rw [nextH_line, show (frF l).m = l.line.toNat from rfl, scan_bnd ⟨#[]⟩ x] at hR
 refine ⟨fun s n e => ?_, fun n e => by rw [e] at hR; exact hR, fun n e => by rw [e] at hR; exact hR, fun e => by rw [e] at hR; exact hR⟩
 have h1 := scan_lt _ _ _ s n e
 have h2 := scan_len _ _ _ (.inr rfl) s n e
 rw [tot_bnd] at h2
 rw [List.length_drop] at h1
 rw [e] at hR
 simp only at hR
 rw [List.drop_drop, show k + (n - k) = n by omega] at hR
 refine ⟨h1.1, by omega, by omega, fun h0 => by rw [if_pos h0] at hR; exact hR, fun h0 => ?_⟩
 rw [if_neg h0, show (frF l).more h s = moreH l h s from rfl] at hR
 unfold moreH at hR
 refine ⟨fun hg => by rw [if_pos hg] at hR; exact hR, fun hg => ⟨fun N V ho => ?_, fun a ho => ?_⟩⟩
 ·rw [if_neg hg, ho] at hR
  have hz := fld_size ho
  have hfw := o.few
  refine ⟨hR, ?_, ?_, by have := o.a; show h.A.size <= n; omega, by have := o.b; show h.B.size <= n; omega, by have := o.n; show h.n + (s.size + 2) <= n; omega⟩
  ·show 3 * (h.F ++ [(N, V)]).length <= h.n + (s.size + 2)
   rw [List.length_append, List.length_singleton]; omega
  ·show ∀ f ∈ h.F ++ [(N, V)], f.1.size <= h.n + (s.size + 2) /\ f.2.size <= h.n + (s.size + 2)
   intro f hf
   rcases List.mem_append.1 hf with hf | hf
   ·have := o.sz f hf; omega
   ·rw [List.mem_singleton] at hf
    subst hf
    show N.size <= _ /\ V.size <= _
    omega
 ·rw [if_neg hg, ho] at hR
  exact hR
theorem Tryz.headSize15 : (Tryz.prog.info? 90).map (·.size) = some 4 := by kernel_rfl
theorem head_one15 (A B : ByteArray) (m : Int) (p : Option Addr) (n c : Nat) : ∀ v ∈ [Value.string A, Value.string B, Value.int .i64 m, Value.slice p n c], v.oneCell' = true := by
 intro v hv
 simp only [List.mem_cons, List.not_mem_nil, or_false] at hv
 rcases hv with rfl | rfl | rfl | rfl <;> rfl
def OnReqTo (bv0 : Value) (b : List UInt8) (o : OneR Hd) (w : World) (e : Ending) (w' : World) : Prop := Below w.heap.size w w' /\ match o with
 | .open_ => e = .returned (oneQ 2 ⟨#[]⟩ ⟨#[]⟩ 0 (.slice none 0 0) (.slice none 0 0) 0 0 0)
 | .bad s k => e = .returned (wrgV s (k : Int))
 | .req h d n => ∃ fv p q c, e = .returned (oneQ 0 h.A h.B h.m fv (.slice p q c) (n : Int) 0 0) /\ OwnFlds w' w.heap.size fv h.F /\ ((∀ V, BytesIn V bv0 b -> BytesIn V (.slice p q c) d) \/ OwnBytes w' w.heap.size (.slice p q c) d)
section
variable {bv0 : Value} {b : List UInt8} {o : OneR Hd} {w w' : World}
theorem onReq_open (h : o = .open_) (hb : Below w.heap.size w w') : OnReqTo bv0 b o w (.returned (oneQ 2 ⟨#[]⟩ ⟨#[]⟩ 0 (.slice none 0 0) (.slice none 0 0) 0 0 0)) w' := by subst h; exact ⟨hb, rfl⟩
theorem onReq_bad {s z : Int} {k : Nat} (h : o = .bad s k) (hz : z = (k : Int)) (hb : Below w.heap.size w w') : OnReqTo bv0 b o w (.returned (wrgV s z)) w' := by subst h hz; exact ⟨hb, rfl⟩
theorem onReq_req {h : Hd} {d : List UInt8} {n : Nat} {z : Int} {fv : Value} {p : Option Addr} {q c : Nat} (ho : o = .req h d n) (hz : z = (n : Int)) (hf : OwnFlds w' w.heap.size fv h.F) (hd : (∀ V, BytesIn V bv0 b -> BytesIn V (.slice p q c) d) \/ OwnBytes w' w.heap.size (.slice p q c) d) (hb : Below w.heap.size w w') :
  OnReqTo bv0 b o w (.returned (oneQ 0 h.A h.B h.m fv (.slice p q c) z 0 0)) w' := by subst ho hz; exact ⟨hb, fv, p, q, c, rfl, hf, hd⟩
end
set_option maxRecDepth 100000 in
set_option maxHeartbeats 16000000 in
theorem refRead15_any (bv : Value) (b : List UInt8) (at_ : Nat) (l : Lim) (h : LimR l) (w : World) (hb : BytesIn w bv b) (hat : at_ <= b.length) (hl : b.length <= 3000) (hbody : l.body <= 2305843009213693952) :
  Calls Tryz.prog 24 #[bv, .int .i64 (at_ : Int), limV l] w (OnReqTo bv b (nextF (frF l) at_ (b.drop at_)) w) := by
 obtain ⟨pa, ca, rfl⟩ := hb.slicedB
 have la := h.a
 have V0 := ValsAt.new w [.int .i64 l.line, .int .i64 l.head, .int .i64 l.fields, .int .i64 l.body] 24
 have b0 := (Below.refl w.heap.size w).alloc (Nat.le_refl _) (.cells #[.int .i64 l.line, .int .i64 l.head, .int .i64 l.fields, .int .i64 l.body] 24)
 obtain ⟨W0, hW0⟩ : ∃ W0, W0 = w.alloc (.cells #[.int .i64 l.line, .int .i64 l.head, .int .i64 l.fields, .int .i64 l.body] 24) := ⟨_, rfl⟩
 have hz0 : W0.heap.size = w.heap.size + 1 := by rw [hW0, World.size_alloc]
 have V1 := Box.new W0 (oneL 0 ⟨#[]⟩ ⟨#[]⟩ 0 (.slice none 0 0) (.slice none 0 0) 0 0 0) 57
 have b1 := (Below.refl W0.heap.size W0).alloc (Nat.le_refl _) (.cells #[.int .i64 0, .string ⟨#[]⟩, .string ⟨#[]⟩, .int .i64 0, .slice none 0 0, .slice none 0 0, .int .i64 0, .int .i64 0, .int .i64 0] 57)
 obtain ⟨W, hW⟩ : ∃ W, W = W0.alloc (.cells #[.int .i64 0, .string ⟨#[]⟩, .string ⟨#[]⟩, .int .i64 0, .slice none 0 0, .slice none 0 0, .int .i64 0, .int .i64 0, .int .i64 0] 57) := ⟨_, rfl⟩
 have hz1 : W.heap.size = w.heap.size + 2 := by rw [hW, World.size_alloc, hz0]
 have VL := Lib.hid (show ValsAt W w.heap.size [.int .i64 l.line, .int .i64 l.head, .int .i64 l.fields, .int .i64 l.body] by rw [hW]; exact ValsAt.below (by rw [hW0]; exact V0) b1)
 obtain ⟨rb, hrb⟩ : ∃ rb, rb = w.heap.size + 1 := ⟨_, rfl⟩
 have VB := Lib.hid (show Box W rb (oneL 0 ⟨#[]⟩ ⟨#[]⟩ 0 (.slice none 0 0) (.slice none 0 0) 0 0 0) by rw [hW, hrb, <- hz0]; exact V1)
 have HBW := Lib.hid (show Below w.heap.size w W by rw [hW]; exact (show Below w.heap.size w W0 by rw [hW0]; exact b0).trans (b1.mono (by omega)))
 have Hrb := Lib.hid (show w.heap.size <= rb by omega)
 have Hrb2 := Lib.hid (show rb < W.heap.size by omega)
 have Hlb2 := Lib.hid (show w.heap.size < W.heap.size by omega)
 have HW := Lib.hid hW
 have HW0 := Lib.hid hW0
 have HY := Lib.hid (RowIn.below hb HBW.out)
 have HY0 := Lib.hid hb
 have Hrq := Lib.hid (fun (_ : Unit) => hrb)
 obtain ⟨R, hR⟩ : ∃ R, R = nextF (frF l) at_ (b.drop at_) := ⟨_, rfl⟩
 rw [<- hR]
 have HR := Lib.hid hR
 have HLM := Lib.hid h
 have HLn0 := Lib.hid (fun V => refLimit_any l.line V)
 have HLh := Lib.hid (fun V => refLimit_any l.head V)
 have HLf := Lib.hid (fun V => refLimit_any l.fields V)
 have HLb := Lib.hid (fun V => refLimit_any l.body V)
 rw [mx_nat l.line] at HLn0
 have HLine := Lib.hid (fun (k : Nat) V (hY : BytesIn V (.slice pa b.length ca) b) (hk : k <= b.length) => refLine15_any (.slice pa b.length ca) b k l.line.toNat ⟨#[]⟩ V hY hk (by omega) (by omega))
 obtain ⟨M, hM⟩ : ∃ M, M = l.line.toNat := ⟨_, rfl⟩
 have HM := Lib.hid (fun (_ : Unit) => hM)
 rw [<- hM] at HLn0 HLine
 have HRq := Lib.hid (fun (s : ByteArray) V (hs : s.size <= 4000000) => refReq_any (outO_is s) V hs)
 have HPar := Lib.hid (fun (s : ByteArray) V (hs : s.size <= 4000000) => refParse_huge s V (by omega))
 have HWg := Lib.hid (fun (st k : Int) V => refWrong15_any st k V)
 have HBd := Lib.hid hbody
 unfold WrgTo at HWg
 clear hb V0 b0 V1 b1 hW hW0 hz0 hz1 hrb h hR la hM hbody
 unfold limV
 go_enter Tryz.func24, Tryz.ntmps24
 go_wp2_with fail
 rw [<- HW0.out, <- HW.out, <- Hrq.out ()]
 have c0 : W.cell? ⟨w.heap.size, 0, none⟩ = some (.int .i64 l.line) := VL.out 0 _ rfl
 go_wp2_with fail
 refine (HLn0.out _).mono ?_
 rintro e w1 ⟨rfl, rfl⟩
 go_wp2_with fail
 go_loopw [1, 8, 9] (fun i sv zv wr => ∃ (k : Nat) (s : ByteArray), k <= b.length /\ i = .int .i64 k /\ sv = .string s /\ zv = .int .i64 0 /\ wr = W /\ Hid (s.size = 0 /\ R = nextF (frF l) k (b.drop k) \/ Aft l b R s k)) (fun i _ _ _ => b.length - (intOf i).toNat)
 case atStart => exact ⟨at_, ⟨#[]⟩, hat, rfl, rfl, rfl, rfl, .inl ⟨rfl, HR.out⟩⟩
 case round =>
  clear HR
  obtain ⟨k, s, hk, rfl, rfl, rfl, rfl, HS⟩ := hrel
  rcases HS.out with ⟨hs0, hRk⟩ | hA
  ·have he2 : s.toList.isEmpty = true := by rw [bytesEmpty_bool, decide_eq_true hs0]
   have HL := Lib.hid (rd1 (x := ⟨#[]⟩) hk hRk)
   rw [<- HM.out ()] at HL
   have HLn := Lib.hid (HLine.out k wr HY.out hk)
   have HBx := VB
   have HBB := HBW
   clear HS hs0 hRk
   go_wp2_with fail
   refine HLn.out.mono ?_
   rintro e w1 ⟨rfl, hc⟩
   clear HLn
   rcases hc with ⟨s2, n, hc, rfl⟩ | ⟨n, hc, rfl⟩ | ⟨n, hc, rfl⟩ | ⟨i, hc, rfl⟩
   rotate_left
   ·have HE := Lib.hid (HL.out.2.1 n hc)
    clear HL hc
    go_wp2_with fail
    refine (HWg.out 400 ((n : Int)) _).mono ?_
    rintro e wg ⟨rfl, bg⟩
    have HBxg := Lib.hid (HBx.out.below bg)
    have HBBg := Lib.hid (HBB.out.trans (bg.mono HBB.out.size))
    clear bg
    go_wp2_with (refine wpList_store_box (n := 9) Tryz.oneSize rfl _ _ rfl (g := rb) (vs := oneL 1 ⟨#[]⟩ ⟨#[]⟩ 0 (.slice none 0 0) (.slice none 0 0) 0 400 ((n : Int))) rfl rfl HBxg.out rfl rfl (one_one _ _ _ _ _ _ _ _ _ _ _ _ _) ?_)
    intro wz bz oz
    go_wp2
    have HBz := Lib.hid (HBBg.out.trans (only_eq_below oz Hrb.out HBBg.out.size))
    refine bodyPost_ret (v := .agg (oneL 1 ⟨#[]⟩ ⟨#[]⟩ 0 (.slice none 0 0) (.slice none 0 0) 0 400 ((n : Int))).toArray) ?_ rfl (onReq_bad HE.out (rfl) HBz.out)
    exact results_cellC Tryz.oneSize Tryz.oneAgg Tryz.results24 _ _ rfl bz.vals rfl
   ·have HE := Lib.hid (HL.out.2.2.1 n hc)
    clear HL hc
    go_wp2_with fail
    refine (HWg.out 414 ((n : Int)) _).mono ?_
    rintro e wg ⟨rfl, bg⟩
    have HBxg := Lib.hid (HBx.out.below bg)
    have HBBg := Lib.hid (HBB.out.trans (bg.mono HBB.out.size))
    clear bg
    go_wp2_with (refine wpList_store_box (n := 9) Tryz.oneSize rfl _ _ rfl (g := rb) (vs := oneL 1 ⟨#[]⟩ ⟨#[]⟩ 0 (.slice none 0 0) (.slice none 0 0) 0 414 ((n : Int))) rfl rfl HBxg.out rfl rfl (one_one _ _ _ _ _ _ _ _ _ _ _ _ _) ?_)
    intro wz bz oz
    go_wp2
    have HBz := Lib.hid (HBBg.out.trans (only_eq_below oz Hrb.out HBBg.out.size))
    refine bodyPost_ret (v := .agg (oneL 1 ⟨#[]⟩ ⟨#[]⟩ 0 (.slice none 0 0) (.slice none 0 0) 0 414 ((n : Int))).toArray) ?_ rfl (onReq_bad HE.out (rfl) HBz.out)
    exact results_cellC Tryz.oneSize Tryz.oneAgg Tryz.results24 _ _ rfl bz.vals rfl
   ·have HE := Lib.hid (HL.out.2.2.2 hc)
    clear HL hc
    go_wp2_with (refine wpList_store_box (n := 9) Tryz.oneSize rfl _ _ rfl (g := rb) (vs := oneL 2 ⟨#[]⟩ ⟨#[]⟩ 0 (.slice none 0 0) (.slice none 0 0) 0 0 0) rfl rfl HBx.out rfl rfl (one_one _ _ _ _ _ _ _ _ _ _ _ _ _) ?_)
    intro wz bz oz
    go_wp2
    have HBz := Lib.hid (HBB.out.trans (only_eq_below oz Hrb.out HBB.out.size))
    refine bodyPost_ret (v := .agg (oneL 2 ⟨#[]⟩ ⟨#[]⟩ 0 (.slice none 0 0) (.slice none 0 0) 0 0 0).toArray) ?_ rfl (onReq_open HE.out HBz.out)
    exact results_cellC Tryz.oneSize Tryz.oneAgg Tryz.results24 _ _ rfl bz.vals rfl
   ·obtain ⟨q1, q2, q3, q4, q5⟩ := HL.out.1 s2 n hc
    have HN : Hid (s2.size = 0 /\ R = nextF (frF l) n (b.drop n) \/ Aft l b R s2 n) := Lib.hid (by
     by_cases h0 : s2.size = 0
     ·exact .inl ⟨h0, q4 h0⟩
     ·exact .inr (q5 h0))
    clear HL hc q4 q5
    go_wp2_with fail
    go_roundw
    case rel => exact ⟨n, s2, q2, (by first | rfl | trivial), (by first | rfl | trivial), (by first | rfl | trivial), (by first | rfl | trivial), HN.out⟩
    case measure => simp [intOf]; omega
  ·have he2 : s.toList.isEmpty = false := by rw [bytesEmpty_bool, decide_eq_false hA.1]
   have hsk := hA.2.1
   have HQ := Lib.hid (HRq.out s wr (by omega))
   have HBx := VB
   have HBB := HBW
   cases ho : outO s with
   | bad st a =>
    have hi := outO_is s
    rw [ho] at HQ hi
    have hst : st ≠ 0 := by rcases is_status hi with h | h <;> rw [h] <;> decide
    have hst2 : (st != 0) = true := by rw [bne_iff_ne]; exact hst
    have HE := Lib.hid (hA.2.2.2 st a ho)
    unfold RefToR refVR lineV at HQ
    clear HS hA ho hi hst
    go_wp2_with fail
    refine HQ.out.mono ?_
    rintro e w2 ⟨rfl, b2⟩
    have HBx2 := Lib.hid (HBx.out.below b2)
    have HBB2 := Lib.hid (HBB.out.trans (b2.mono HBB.out.size))
    have H0 := Lib.hid (Box.new w2 (lineL ⟨#[]⟩ ⟨#[]⟩ 0) 82)
    clear b2
    go_wp2_with (refine wpList_store_box (n := 3) Tryz.refLineSize rfl _ _ rfl (g := w2.heap.size) (vs := lineL ⟨#[]⟩ ⟨#[]⟩ 0) rfl rfl H0.out rfl rfl (line_one _ _ _) ?_)
    intro w3 b3 o3
    have B3 := (show Below w2.heap.size w2 w3 from ((Below.refl _ _).alloc (Nat.le_refl _) _).trans (only_eq_below o3 (Nat.le_refl _) (by simp)))
    have HBx3 := Lib.hid (HBx2.out.below B3)
    have HBB3 := Lib.hid (HBB2.out.trans (B3.mono HBB2.out.size))
    clear b3 o3 B3
    go_wp2_with fail
    refine (HWg.out st ((k : Int) - 1) _).mono ?_
    rintro e wg ⟨rfl, bg⟩
    have HBxg := Lib.hid (HBx3.out.below bg)
    have HBBg := Lib.hid (HBB3.out.trans (bg.mono HBB3.out.size))
    clear bg
    go_wp2_with (refine wpList_store_box (n := 9) Tryz.oneSize rfl _ _ rfl (g := rb) (vs := oneL 1 ⟨#[]⟩ ⟨#[]⟩ 0 (.slice none 0 0) (.slice none 0 0) 0 st ((k : Int) - 1)) rfl rfl HBxg.out rfl rfl (one_one _ _ _ _ _ _ _ _ _ _ _ _ _) ?_)
    intro wz bz oz
    go_wp2
    have HBz := Lib.hid (HBBg.out.trans (only_eq_below oz Hrb.out HBBg.out.size))
    refine bodyPost_ret (v := .agg (oneL 1 ⟨#[]⟩ ⟨#[]⟩ 0 (.slice none 0 0) (.slice none 0 0) 0 st ((k : Int) - 1)).toArray) ?_ rfl (onReq_bad HE.out (by omega) HBz.out)
    exact results_cellC Tryz.oneSize Tryz.oneAgg Tryz.results24 _ _ rfl bz.vals rfl
   | line A B m =>
    rw [ho] at HQ
    have HE := Lib.hid (hA.2.2.1 A B m ho)
    have hAB : A.size + B.size <= s.size := by
     have hi := outO_is s
     rw [ho] at hi
     obtain ⟨_, C, h3, _⟩ := is_text hi
     have := h3.size
     omega
    have HOk := Lib.hid (show HdOk k ⟨A, B, m, [], 0⟩ from ⟨by simp, (by intro f hf; cases hf), (show A.size <= k by omega), (show B.size <= k by omega), Nat.zero_le _⟩)
    unfold RefToR refVR lineV at HQ
    clear HS hA ho hAB
    go_wp2_with fail
    refine HQ.out.mono ?_
    rintro e w2 ⟨rfl, b2⟩
    have HBx2 := Lib.hid (HBx.out.below b2)
    have HBW2 := Lib.hid b2
    have H0 := Lib.hid (Box.new w2 (lineL ⟨#[]⟩ ⟨#[]⟩ 0) 82)
    clear b2
    go_wp2_with (refine wpList_store_box (n := 3) Tryz.refLineSize rfl _ _ rfl (g := w2.heap.size) (vs := lineL A B m) rfl rfl H0.out rfl rfl (line_one _ _ _) ?_)
    intro w3 b3 o3
    have B3 := (show Below w2.heap.size w2 w3 from ((Below.refl _ _).alloc (Nat.le_refl _) _).trans (only_eq_below o3 (Nat.le_refl _) (by simp)))
    have hz3 : w2.heap.size < w3.heap.size := b3.lt (by simp [lineL])
    have HBW3 := Lib.hid (HBW2.out.trans (B3.mono HBW2.out.size))
    have HV3 := Lib.hid b3.vals
    have t0 : w3.cell? ⟨w2.heap.size, 0, none⟩ = some (.string A) := b3.cell rfl
    have t1 : w3.cell? ⟨w2.heap.size, 1, none⟩ = some (.string B) := b3.cell rfl
    have t2 : w3.cell? ⟨w2.heap.size, 2, none⟩ = some (.int .i64 m) := b3.cell rfl
    obtain ⟨gl, hgl⟩ : ∃ gl, gl = w2.heap.size := ⟨_, rfl⟩
    rw [<- hgl] at HV3 hz3 t0 t1 t2 ⊢
    have H4 := Lib.hid (Box.new w3 [.string ⟨#[]⟩, .string ⟨#[]⟩, .int .i64 0, .slice none 0 0] 90)
    have hgW := Lib.hid (show wr.heap.size <= gl by rw [hgl]; exact HBW2.out.size)
    clear b3 o3 B3 hgl
    go_wp2_with (refine wpList_store_box (n := 4) Tryz.headSize15 rfl _ _ rfl (g := w3.heap.size) (vs := [.string A, .string B, .int .i64 m, .slice none 0 0]) rfl rfl H4.out rfl rfl (head_one15 _ _ _ _ _ _) ?_)
    intro w4 b4 o4
    have B4 := Lib.hid (show Below w3.heap.size w3 w4 from ((Below.refl _ _).alloc (Nat.le_refl _) _).trans (only_eq_below o4 (Nat.le_refl _) (by simp)))
    have HB4 := Lib.hid b4
    obtain ⟨gh, hgh⟩ : ∃ gh, gh = w3.heap.size := ⟨_, rfl⟩
    rw [<- hgh] at B4 HB4 hz3 ⊢
    have Hgh := Lib.hid (fun (_ : Unit) => hgh)
    have Hglh := Lib.hid (show gl < gh from hz3)
    clear b4 o4 H4 t0 t1 t2 c0 hgh hz3 HRq HLn0 he2
    obtain ⟨FL, hFL⟩ : ∃ FL, FL = mx l.fields := ⟨_, rfl⟩
    obtain ⟨HD, hHD⟩ : ∃ HD, HD = mx l.head := ⟨_, rfl⟩
    have HFL := Lib.hid (fun (_ : Unit) => hFL)
    have HHD := Lib.hid (fun (_ : Unit) => hHD)
    rw [<- hFL] at HLf
    rw [<- hHD] at HLh
    clear hFL hHD
    go_wp2_with fail
    obtain ⟨W9, hW9⟩ : ∃ W9, W9 = wr := ⟨_, rfl⟩
    subst hW9
    go_loopw [1, 14] (fun i nv wr => ∃ (k2 : Nat) (F : List FB) (n2 : Nat) (fv : Value), k2 <= b.length /\ i = .int .i64 k2 /\ nv = .int .i64 n2 /\ Hid (R = nextH (frF l) ⟨A, B, m, F, n2⟩ k2 (b.drop k2)) /\ Hid (HdOk k2 ⟨A, B, m, F, n2⟩) /\ Hid (Box wr gh [.string A, .string B, .int .i64 m, fv]) /\ Hid (OwnFlds wr (gh + 1) fv F) /\ Hid (Below gh w3 wr)) (fun i _ _ => b.length - (intOf i).toNat)
    case atStart => exact ⟨k, [], 0, .slice none 0 0, hk, rfl, rfl, HE.out, HOk.out, HB4.out, OwnFlds.nil _ _, B4.out⟩
    case round =>
     clear HE HOk HB4 B4
     obtain ⟨k2, F, n2, fv, hk2, rfl, rfl, HS, HOk, HBh, HF, HBl⟩ := hrel
     obtain ⟨pf, cf, rfl⟩ := HF.out.sliced
     have HL := Lib.hid (rd2 (x := ⟨#[]⟩) hk2 HS.out HOk.out)
     rw [<- HM.out ()] at HL
     have hgw3 := Hgh.out ()
     have HBl2 := Lib.hid (HBW3.out.trans (HBl.out.mono (by rw [hgw3]; exact HBW3.out.size)))
     have HLn := Lib.hid (HLine.out k2 wr (RowIn.below HY.out HBl2.out) hk2)
     have HBx2 := Lib.hid (VB.out.below HBl2.out)
     have HBB2 := Lib.hid (HBW.out.trans (HBl2.out.mono HBW.out.size))
     have d1 : wr.cell? ⟨w.heap.size, 1, none⟩ = some (.int .i64 l.head) := (VL.out.below HBl2.out) 1 _ rfl
     have d2 : wr.cell? ⟨w.heap.size, 2, none⟩ = some (.int .i64 l.fields) := (VL.out.below HBl2.out) 2 _ rfl
     have e3 : wr.cell? ⟨gh, 3, none⟩ = some (.slice pf F.length cf) := HBh.out.cell rfl
     have hnk := HOk.out.n
     have hfew := HOk.out.few
     have hnk2 : n2 <= k2 := hnk
     have hfew2 : 3 * F.length <= n2 := hfew
     clear HS hgw3 hnk hfew
     go_wp2_with fail
     refine HLn.out.mono ?_
     rintro e w1 ⟨rfl, hc⟩
     clear HLn
     rcases hc with ⟨s2, n, hc, rfl⟩ | ⟨n, hc, rfl⟩ | ⟨n, hc, rfl⟩ | ⟨i, hc, rfl⟩
     rotate_left
     ·have HE := Lib.hid (HL.out.2.1 n hc)
      clear HL hc
      go_wp2_with fail
      refine (HWg.out 400 ((n : Int)) _).mono ?_
      rintro e wg ⟨rfl, bg⟩
      have HBxg := Lib.hid (HBx2.out.below bg)
      have HBBg := Lib.hid (HBB2.out.trans (bg.mono HBB2.out.size))
      clear bg
      go_wp2_with (refine wpList_store_box (n := 9) Tryz.oneSize rfl _ _ rfl (g := rb) (vs := oneL 1 ⟨#[]⟩ ⟨#[]⟩ 0 (.slice none 0 0) (.slice none 0 0) 0 400 ((n : Int))) rfl rfl HBxg.out rfl rfl (one_one _ _ _ _ _ _ _ _ _ _ _ _ _) ?_)
      intro wz bz oz
      go_wp2
      have HBz := Lib.hid (HBBg.out.trans (only_eq_below oz Hrb.out HBBg.out.size))
      refine bodyPost_ret (v := .agg (oneL 1 ⟨#[]⟩ ⟨#[]⟩ 0 (.slice none 0 0) (.slice none 0 0) 0 400 ((n : Int))).toArray) ?_ rfl (onReq_bad HE.out (rfl) HBz.out)
      exact results_cellC Tryz.oneSize Tryz.oneAgg Tryz.results24 _ _ rfl bz.vals rfl
     ·have HE := Lib.hid (HL.out.2.2.1 n hc)
      clear HL hc
      go_wp2_with fail
      refine (HWg.out 431 ((n : Int)) _).mono ?_
      rintro e wg ⟨rfl, bg⟩
      have HBxg := Lib.hid (HBx2.out.below bg)
      have HBBg := Lib.hid (HBB2.out.trans (bg.mono HBB2.out.size))
      clear bg
      go_wp2_with (refine wpList_store_box (n := 9) Tryz.oneSize rfl _ _ rfl (g := rb) (vs := oneL 1 ⟨#[]⟩ ⟨#[]⟩ 0 (.slice none 0 0) (.slice none 0 0) 0 431 ((n : Int))) rfl rfl HBxg.out rfl rfl (one_one _ _ _ _ _ _ _ _ _ _ _ _ _) ?_)
      intro wz bz oz
      go_wp2
      have HBz := Lib.hid (HBBg.out.trans (only_eq_below oz Hrb.out HBBg.out.size))
      refine bodyPost_ret (v := .agg (oneL 1 ⟨#[]⟩ ⟨#[]⟩ 0 (.slice none 0 0) (.slice none 0 0) 0 431 ((n : Int))).toArray) ?_ rfl (onReq_bad HE.out (rfl) HBz.out)
      exact results_cellC Tryz.oneSize Tryz.oneAgg Tryz.results24 _ _ rfl bz.vals rfl
     ·have HE := Lib.hid (HL.out.2.2.2 hc)
      clear HL hc
      go_wp2_with (refine wpList_store_box (n := 9) Tryz.oneSize rfl _ _ rfl (g := rb) (vs := oneL 2 ⟨#[]⟩ ⟨#[]⟩ 0 (.slice none 0 0) (.slice none 0 0) 0 0 0) rfl rfl HBx2.out rfl rfl (one_one _ _ _ _ _ _ _ _ _ _ _ _ _) ?_)
      intro wz bz oz
      go_wp2
      have HBz := Lib.hid (HBB2.out.trans (only_eq_below oz Hrb.out HBB2.out.size))
      refine bodyPost_ret (v := .agg (oneL 2 ⟨#[]⟩ ⟨#[]⟩ 0 (.slice none 0 0) (.slice none 0 0) 0 0 0).toArray) ?_ rfl (onReq_open HE.out HBz.out)
      exact results_cellC Tryz.oneSize Tryz.oneAgg Tryz.results24 _ _ rfl bz.vals rfl
     ·obtain ⟨q1, q2, q3, q4, q5⟩ := HL.out.1 s2 n hc
      have hss := bytesEmpty_bool s2
      clear HL hc
      by_cases hs0 : s2.size = 0
      ·rw [decide_eq_true hs0] at hss
       have HE := Lib.hid (q4 hs0)
       clear q5 q4
       have hfew := HOk.out.fewF (show k2 <= 3000 by omega)
       have hA1 : A.size <= 1000000 := by have h9 : A.size <= k2 := HOk.out.a; omega
       have hbm : mx l.body <= 4611686018427387904 := by have := HBd.out; unfold mx; omega
       have HC0 := Lib.hid (fun vs (hv : vdV (chkE l ⟨A, B, m, F, n2⟩) (chkV l ⟨A, B, m, F, n2⟩) = vs) V (hb : Below wr.heap.size wr V) => show Calls Tryz.prog 40 #[.agg #[.string A, .string B, .int .i64 m, .slice pf F.length cf], .int .i64 (mx l.body)] V (fun e w' => e = .returned (.agg vs.toArray) /\ Below V.heap.size V w') from refChk_any l ⟨A, B, m, F, n2⟩ (.slice pf F.length cf) V ((HF.out.below hb).fldsIn) hfew hA1 hbm hv)
       have hn0 : 0 < n := by omega
       have hx := frameV_range (valsH F nTE) (valsH F nCL) (mx l.body) (by unfold mx; omega)
       have hxr : 0 <= (chkV l ⟨A, B, m, F, n2⟩).2 /\ (chkV l ⟨A, B, m, F, n2⟩).2 <= 2305843009213693952 := ⟨hx.1, Int.le_trans hx.2 (by have := HBd.out; unfold mx; omega)⟩
       have HY5 := Lib.hid (RowIn.below HY.out HBl2.out)
       have HVl := Lib.hid (VL.out.below HBl2.out)
       have HVg := Lib.hid (HV3.out.below (show Below w3.heap.size w3 wr by rw [<- Hgh.out ()]; exact HBl.out))
       clear hfew hA1 hbm hx
       cases hc : checkH l ⟨A, B, m, F, n2⟩ with
       | error st =>
        have HE2 := Lib.hid (HE.out.trans (readB_err hc))
        obtain ⟨hst, nm, fb, a9, hv⟩ := vd_err hc
        have hst2 : (st != 0) = true := by rw [bne_iff_ne]; exact hst
        have HC := Lib.hid (HC0.out _ hv)
        unfold vdL at HC
        clear HC0 HE hc hst hv hxr
        have bD : Below wr.heap.size wr wr.drew := (Below.refl _ _).drew
        have bA : Below wr.heap.size wr (wr.alloc (.cells #[.int .i64 0, .int .i64 0, .string ⟨#[]⟩, .int .i64 0, .bool false, .int .i64 0] 94)).drew := ((Below.refl wr.heap.size wr).alloc (Nat.le_refl _) _).drew
        have y0 : wr.drew.cell? ⟨gh, 0, none⟩ = some (.string A) := HBh.out.cell rfl
        have y1 : wr.drew.cell? ⟨gh, 1, none⟩ = some (.string B) := HBh.out.cell rfl
        have y2 : wr.drew.cell? ⟨gh, 2, none⟩ = some (.int .i64 m) := HBh.out.cell rfl
        have y3 : wr.drew.cell? ⟨gh, 3, none⟩ = some (.slice pf F.length cf) := HBh.out.cell rfl
        have y4 : wr.drew.cell? ⟨w.heap.size, 3, none⟩ = some (.int .i64 l.body) := (VL.out.below HBl2.out) 3 _ rfl
        have HSx := Lib.hid (fun V (hb : Below wr.heap.size wr V) => show V.cell? ⟨gh, 0, none⟩ = some (.string A) /\ V.cell? ⟨gh, 1, none⟩ = some (.string B) /\ V.cell? ⟨gh, 2, none⟩ = some (.int .i64 m) /\ V.cell? ⟨gh, 3, none⟩ = some (.slice pf F.length cf) /\ V.cell? ⟨w.heap.size, 3, none⟩ = some (.int .i64 l.body) from ⟨(HBh.out.below hb).cell rfl, (HBh.out.below hb).cell rfl, (HBh.out.below hb).cell rfl, (HBh.out.below hb).cell rfl, ((VL.out.below HBl2.out).below hb) 3 _ rfl⟩)
        clear d1 d2 e3
        go_wp2_with fail
        go_region_held3 (fun V => V.cell? ⟨gh, 0, none⟩ = some (.string A) /\ V.cell? ⟨gh, 1, none⟩ = some (.string B) /\ V.cell? ⟨gh, 2, none⟩ = some (.int .i64 m) /\ V.cell? ⟨gh, 3, none⟩ = some (.slice pf F.length cf) /\ V.cell? ⟨w.heap.size, 3, none⟩ = some (.int .i64 l.body))
         (first | with_reducible exact ⟨y0, y1, y2, y3, y4⟩ | with_reducible exact HSx.out _ bD | with_reducible exact HSx.out _ bA | with_reducible exact HSx.out _ HB1.out | with_reducible exact HSx.out _ (HB1.out.alloc HB1.out.size _) | with_reducible exact HSx.out _ ((((((HB1.out.setCell (p := ⟨wr.heap.size, 0, none⟩) (Nat.le_refl _) _).setCell (p := ⟨wr.heap.size, 1, none⟩) (Nat.le_refl _) _).setCell (p := ⟨wr.heap.size, 2, none⟩) (Nat.le_refl _) _).setCell (p := ⟨wr.heap.size, 3, none⟩) (Nat.le_refl _) _).setCell (p := ⟨wr.heap.size, 4, none⟩) (Nat.le_refl _) _).setCell (p := ⟨wr.heap.size, 5, none⟩) (Nat.le_refl _) _))
         (first
          | (go_at_call 35; refine (HLb.out _).mono ?_; rintro e wq ⟨rfl, rfl⟩)
          | (go_at_call 40; refine (HC.out _ (by first | exact bA | exact bD)).mono ?_; rintro e w1 ⟨rfl, b1⟩; have HB1 : Hid (Below wr.heap.size wr w1) := Lib.hid (by first | exact bA.trans (b1.mono bA.size) | exact bD.trans (b1.mono bD.size)); first | (have HBX : Box w1 wr.heap.size [.int .i64 0, .int .i64 0, .string ⟨#[]⟩, .int .i64 0, .bool false, .int .i64 0] := ((Box.new wr [.int .i64 0, .int .i64 0, .string ⟨#[]⟩, .int .i64 0, .bool false, .int .i64 0] _).drew.below b1); have k0 : w1.cell? ⟨wr.heap.size, 0, none⟩ = some (.int .i64 0) := HBX.cell rfl; have k1 : w1.cell? ⟨wr.heap.size, 1, none⟩ = some (.int .i64 0) := HBX.cell rfl; have k2' : w1.cell? ⟨wr.heap.size, 2, none⟩ = some (.string ⟨#[]⟩) := HBX.cell rfl; have k3 : w1.cell? ⟨wr.heap.size, 3, none⟩ = some (.int .i64 0) := HBX.cell rfl; have k4 : w1.cell? ⟨wr.heap.size, 4, none⟩ = some (.bool false) := HBX.cell rfl; have k5 : w1.cell? ⟨wr.heap.size, 5, none⟩ = some (.int .i64 0) := HBX.cell rfl; have z0 := HBX.free 0 (by simp); have z1 := HBX.free 1 (by simp); have z2 := HBX.free 2 (by simp); have z3 := HBX.free 3 (by simp); have z4 := HBX.free 4 (by simp); have z5 := HBX.free 5 (by simp); have HBY := Lib.hid HBX; clear b1 HBX) | clear b1))
        all_goals
         first
          | (have hk0 := k0; have B3 := ((((((HB1.out.setCell (p := ⟨wr.heap.size, 0, none⟩) (Nat.le_refl _) (.int .i64 0)).setCell (p := ⟨wr.heap.size, 1, none⟩) (Nat.le_refl _) (.int .i64 0)).setCell (p := ⟨wr.heap.size, 2, none⟩) (Nat.le_refl _) (.string nm)).setCell (p := ⟨wr.heap.size, 3, none⟩) (Nat.le_refl _) (.int .i64 st)).setCell (p := ⟨wr.heap.size, 4, none⟩) (Nat.le_refl _) (.bool fb)).setCell (p := ⟨wr.heap.size, 5, none⟩) (Nat.le_refl _) (.int .i64 a9)); have b3 : Box ((((((w1.setCell ⟨wr.heap.size, 0, none⟩ (.int .i64 0)).setCell ⟨wr.heap.size, 1, none⟩ (.int .i64 0)).setCell ⟨wr.heap.size, 2, none⟩ (.string nm)).setCell ⟨wr.heap.size, 3, none⟩ (.int .i64 st)).setCell ⟨wr.heap.size, 4, none⟩ (.bool fb)).setCell ⟨wr.heap.size, 5, none⟩ (.int .i64 a9)) wr.heap.size [(.int .i64 0), (.int .i64 0), (.string nm), (.int .i64 st), (.bool fb), (.int .i64 a9)] := HBY.out.setCells [(.int .i64 0), (.int .i64 0), (.string nm), (.int .i64 st), (.bool fb), (.int .i64 a9)] rfl; generalize ((((((w1.setCell ⟨wr.heap.size, 0, none⟩ (.int .i64 0)).setCell ⟨wr.heap.size, 1, none⟩ (.int .i64 0)).setCell ⟨wr.heap.size, 2, none⟩ (.string nm)).setCell ⟨wr.heap.size, 3, none⟩ (.int .i64 st)).setCell ⟨wr.heap.size, 4, none⟩ (.bool fb)).setCell ⟨wr.heap.size, 5, none⟩ (.int .i64 a9)) = w5 at B3 b3 ⊢; have t0 : w5.cell? ⟨wr.heap.size, 0, none⟩ = some (.int .i64 0) := b3.cell rfl; have t1 : w5.cell? ⟨wr.heap.size, 1, none⟩ = some (.int .i64 0) := b3.cell rfl; have t3 : w5.cell? ⟨wr.heap.size, 3, none⟩ = some (.int .i64 st) := b3.cell rfl; have VV := Lib.hid (show ∀ V, Below w5.heap.size w5 V -> V.cell? ⟨wr.heap.size, 0, none⟩ = some (.int .i64 0) /\ V.cell? ⟨wr.heap.size, 1, none⟩ = some (.int .i64 0) from fun V hb => ⟨(b3.below hb).cell rfl, (b3.below hb).cell rfl⟩); have VN := Lib.hid (b3.lt (by simp)); clear hk0 k0 k1 k2' k3 k4 k5 z0 z1 z2 z3 z4 z5 b3)
          | (have B3 := HB1.out.alloc HB1.out.size (.cells #[(.int .i64 0), (.int .i64 0), (.string nm), (.int .i64 st), (.bool fb), (.int .i64 a9)] 94); have b3 := Box.new w1 [(.int .i64 0), (.int .i64 0), (.string nm), (.int .i64 st), (.bool fb), (.int .i64 a9)] 94; generalize w1.alloc (.cells #[(.int .i64 0), (.int .i64 0), (.string nm), (.int .i64 st), (.bool fb), (.int .i64 a9)] 94) = w5 at B3 b3 ⊢; have t0 : w5.cell? ⟨w1.heap.size, 0, none⟩ = some (.int .i64 0) := b3.cell rfl; have t1 : w5.cell? ⟨w1.heap.size, 1, none⟩ = some (.int .i64 0) := b3.cell rfl; have t3 : w5.cell? ⟨w1.heap.size, 3, none⟩ = some (.int .i64 st) := b3.cell rfl; have VV := Lib.hid (show ∀ V, Below w5.heap.size w5 V -> V.cell? ⟨w1.heap.size, 0, none⟩ = some (.int .i64 0) /\ V.cell? ⟨w1.heap.size, 1, none⟩ = some (.int .i64 0) from fun V hb => ⟨(b3.below hb).cell rfl, (b3.below hb).cell rfl⟩); have VN := Lib.hid (b3.lt (by simp)); clear b3)
         have HBx5 := Lib.hid (HBx2.out.below B3)
         have HBB5 := Lib.hid (HBB2.out.trans (B3.mono HBB2.out.size))
         have HB5 := Lib.hid B3
         clear B3 y0 y1 y2 y3 y4 bD bA
         go_wp2_with fail
         refine (HWg.out st ((n : Int) - 1) _).mono ?_
         rintro e wg ⟨rfl, bg⟩
         have HBxg := Lib.hid (HBx5.out.below bg)
         have HBBg := Lib.hid (HBB5.out.trans (bg.mono HBB5.out.size))
         clear bg
         go_wp2_with (refine wpList_store_box (n := 9) Tryz.oneSize rfl _ _ rfl (g := rb) (vs := oneL 1 ⟨#[]⟩ ⟨#[]⟩ 0 (.slice none 0 0) (.slice none 0 0) 0 st ((n : Int) - 1)) rfl rfl HBxg.out rfl rfl (one_one _ _ _ _ _ _ _ _ _ _ _ _ _) ?_)
         intro wz bz oz
         go_wp2
         have HBz := Lib.hid (HBBg.out.trans (only_eq_below oz Hrb.out HBBg.out.size))
         refine bodyPost_ret (v := .agg (oneL 1 ⟨#[]⟩ ⟨#[]⟩ 0 (.slice none 0 0) (.slice none 0 0) 0 st ((n : Int) - 1)).toArray) ?_ rfl (onReq_bad HE2.out (by omega) HBz.out)
         exact results_cellC Tryz.oneSize Tryz.oneAgg Tryz.results24 _ _ rfl bz.vals rfl
       | ok qq =>
        have he : (chkE l ⟨A, B, m, F, n2⟩).2 = .ok := by
         unfold checkH at hc
         split at hc
         ·next e => exact e
         ·cases hc
         ·cases hc
        have hck := checkH_ok he
        have HC := Lib.hid (HC0.out _ (vd_ok he))
        obtain ⟨xa, hxa⟩ : ∃ xa, xa = (chkV l ⟨A, B, m, F, n2⟩).1 := ⟨_, rfl⟩
        obtain ⟨xb, hxb⟩ : ∃ xb, xb = (chkV l ⟨A, B, m, F, n2⟩).2 := ⟨_, rfl⟩
        rw [<- hxa, <- hxb] at HC hck
        rw [<- hxb] at hxr
        unfold vdL at HC
        have hx0 := hxr.1
        have hx1 := hxr.2
        clear HC0 hc he hxa hxb hxr
        by_cases ha : xa = 2
        ·subst ha
         have HE2 := HE.out.trans (readB_chk (hck.trans (if_pos rfl)))
         have HRd := Lib.hid (fun V (hb : Below wr.heap.size wr V) => refRead_any (.slice pa b.length ca) b n l HLM.out V (RowIn.below HY5.out hb) q2 (by omega) HBd.out)
         have HTd := Lib.hid (reads_told (m := l.line.toNat) (b.drop n) (.go ((newG l).from_ n)) trivial)
         have hfr : (newG l).from_ n = ⟨0, n, mx l.head, mx l.fields, mx l.body, bnd ⟨#[]⟩, 0, []⟩ := rfl
         rw [hfr] at HE2 HTd
         generalize reads l.line.toNat (.go ⟨0, n, mx l.head, mx l.fields, mx l.body, bnd ⟨#[]⟩, 0, []⟩) (b.drop n) = D at HE2 HTd HRd
         replace HE2 := Lib.hid HE2
         clear HE hck hfr
         unfold limV at HRd
         have bD : Below wr.heap.size wr wr.drew := (Below.refl _ _).drew
         have bA : Below wr.heap.size wr (wr.alloc (.cells #[.int .i64 0, .int .i64 0, .string ⟨#[]⟩, .int .i64 0, .bool false, .int .i64 0] 94)).drew := ((Below.refl wr.heap.size wr).alloc (Nat.le_refl _) _).drew
         have y0 : wr.drew.cell? ⟨gh, 0, none⟩ = some (.string A) := HBh.out.cell rfl
         have y1 : wr.drew.cell? ⟨gh, 1, none⟩ = some (.string B) := HBh.out.cell rfl
         have y2 : wr.drew.cell? ⟨gh, 2, none⟩ = some (.int .i64 m) := HBh.out.cell rfl
         have y3 : wr.drew.cell? ⟨gh, 3, none⟩ = some (.slice pf F.length cf) := HBh.out.cell rfl
         have y4 : wr.drew.cell? ⟨w.heap.size, 3, none⟩ = some (.int .i64 l.body) := (VL.out.below HBl2.out) 3 _ rfl
         have HSx := Lib.hid (fun V (hb : Below wr.heap.size wr V) => show V.cell? ⟨gh, 0, none⟩ = some (.string A) /\ V.cell? ⟨gh, 1, none⟩ = some (.string B) /\ V.cell? ⟨gh, 2, none⟩ = some (.int .i64 m) /\ V.cell? ⟨gh, 3, none⟩ = some (.slice pf F.length cf) /\ V.cell? ⟨w.heap.size, 3, none⟩ = some (.int .i64 l.body) from ⟨(HBh.out.below hb).cell rfl, (HBh.out.below hb).cell rfl, (HBh.out.below hb).cell rfl, (HBh.out.below hb).cell rfl, ((VL.out.below HBl2.out).below hb) 3 _ rfl⟩)
         clear d1 d2 e3
         go_wp2_with fail
         go_region_held3 (fun V => V.cell? ⟨gh, 0, none⟩ = some (.string A) /\ V.cell? ⟨gh, 1, none⟩ = some (.string B) /\ V.cell? ⟨gh, 2, none⟩ = some (.int .i64 m) /\ V.cell? ⟨gh, 3, none⟩ = some (.slice pf F.length cf) /\ V.cell? ⟨w.heap.size, 3, none⟩ = some (.int .i64 l.body))
          (first | with_reducible exact ⟨y0, y1, y2, y3, y4⟩ | with_reducible exact HSx.out _ bD | with_reducible exact HSx.out _ bA | with_reducible exact HSx.out _ HB1.out | with_reducible exact HSx.out _ (HB1.out.alloc HB1.out.size _) | with_reducible exact HSx.out _ ((((((HB1.out.setCell (p := ⟨wr.heap.size, 0, none⟩) (Nat.le_refl _) _).setCell (p := ⟨wr.heap.size, 1, none⟩) (Nat.le_refl _) _).setCell (p := ⟨wr.heap.size, 2, none⟩) (Nat.le_refl _) _).setCell (p := ⟨wr.heap.size, 3, none⟩) (Nat.le_refl _) _).setCell (p := ⟨wr.heap.size, 4, none⟩) (Nat.le_refl _) _).setCell (p := ⟨wr.heap.size, 5, none⟩) (Nat.le_refl _) _))
          (first
           | (go_at_call 35; refine (HLb.out _).mono ?_; rintro e wq ⟨rfl, rfl⟩)
           | (go_at_call 40; refine (HC.out _ (by first | exact bA | exact bD)).mono ?_; rintro e w1 ⟨rfl, b1⟩; have HB1 : Hid (Below wr.heap.size wr w1) := Lib.hid (by first | exact bA.trans (b1.mono bA.size) | exact bD.trans (b1.mono bD.size)); first | (have HBX : Box w1 wr.heap.size [.int .i64 0, .int .i64 0, .string ⟨#[]⟩, .int .i64 0, .bool false, .int .i64 0] := ((Box.new wr [.int .i64 0, .int .i64 0, .string ⟨#[]⟩, .int .i64 0, .bool false, .int .i64 0] _).drew.below b1); have k0 : w1.cell? ⟨wr.heap.size, 0, none⟩ = some (.int .i64 0) := HBX.cell rfl; have k1 : w1.cell? ⟨wr.heap.size, 1, none⟩ = some (.int .i64 0) := HBX.cell rfl; have k2' : w1.cell? ⟨wr.heap.size, 2, none⟩ = some (.string ⟨#[]⟩) := HBX.cell rfl; have k3 : w1.cell? ⟨wr.heap.size, 3, none⟩ = some (.int .i64 0) := HBX.cell rfl; have k4 : w1.cell? ⟨wr.heap.size, 4, none⟩ = some (.bool false) := HBX.cell rfl; have k5 : w1.cell? ⟨wr.heap.size, 5, none⟩ = some (.int .i64 0) := HBX.cell rfl; have z0 := HBX.free 0 (by simp); have z1 := HBX.free 1 (by simp); have z2 := HBX.free 2 (by simp); have z3 := HBX.free 3 (by simp); have z4 := HBX.free 4 (by simp); have z5 := HBX.free 5 (by simp); have HBY := Lib.hid HBX; clear b1 HBX) | clear b1))
         all_goals
          first
           | (have hk0 := k0; have B3 := ((((((HB1.out.setCell (p := ⟨wr.heap.size, 0, none⟩) (Nat.le_refl _) (.int .i64 2)).setCell (p := ⟨wr.heap.size, 1, none⟩) (Nat.le_refl _) (.int .i64 xb)).setCell (p := ⟨wr.heap.size, 2, none⟩) (Nat.le_refl _) (.string ⟨#[]⟩)).setCell (p := ⟨wr.heap.size, 3, none⟩) (Nat.le_refl _) (.int .i64 0)).setCell (p := ⟨wr.heap.size, 4, none⟩) (Nat.le_refl _) (.bool false)).setCell (p := ⟨wr.heap.size, 5, none⟩) (Nat.le_refl _) (.int .i64 0)); have b3 : Box ((((((w1.setCell ⟨wr.heap.size, 0, none⟩ (.int .i64 2)).setCell ⟨wr.heap.size, 1, none⟩ (.int .i64 xb)).setCell ⟨wr.heap.size, 2, none⟩ (.string ⟨#[]⟩)).setCell ⟨wr.heap.size, 3, none⟩ (.int .i64 0)).setCell ⟨wr.heap.size, 4, none⟩ (.bool false)).setCell ⟨wr.heap.size, 5, none⟩ (.int .i64 0)) wr.heap.size [(.int .i64 2), (.int .i64 xb), (.string ⟨#[]⟩), (.int .i64 0), (.bool false), (.int .i64 0)] := HBY.out.setCells [(.int .i64 2), (.int .i64 xb), (.string ⟨#[]⟩), (.int .i64 0), (.bool false), (.int .i64 0)] rfl; generalize ((((((w1.setCell ⟨wr.heap.size, 0, none⟩ (.int .i64 2)).setCell ⟨wr.heap.size, 1, none⟩ (.int .i64 xb)).setCell ⟨wr.heap.size, 2, none⟩ (.string ⟨#[]⟩)).setCell ⟨wr.heap.size, 3, none⟩ (.int .i64 0)).setCell ⟨wr.heap.size, 4, none⟩ (.bool false)).setCell ⟨wr.heap.size, 5, none⟩ (.int .i64 0)) = w5 at B3 b3 ⊢; have t0 : w5.cell? ⟨wr.heap.size, 0, none⟩ = some (.int .i64 2) := b3.cell rfl; have t1 : w5.cell? ⟨wr.heap.size, 1, none⟩ = some (.int .i64 xb) := b3.cell rfl; have t3 : w5.cell? ⟨wr.heap.size, 3, none⟩ = some (.int .i64 0) := b3.cell rfl; have VV := Lib.hid (show ∀ V, Below w5.heap.size w5 V -> V.cell? ⟨wr.heap.size, 0, none⟩ = some (.int .i64 2) /\ V.cell? ⟨wr.heap.size, 1, none⟩ = some (.int .i64 xb) from fun V hb => ⟨(b3.below hb).cell rfl, (b3.below hb).cell rfl⟩); have VN := Lib.hid (b3.lt (by simp)); clear hk0 k0 k1 k2' k3 k4 k5 z0 z1 z2 z3 z4 z5 b3)
           | (have B3 := HB1.out.alloc HB1.out.size (.cells #[(.int .i64 2), (.int .i64 xb), (.string ⟨#[]⟩), (.int .i64 0), (.bool false), (.int .i64 0)] 94); have b3 := Box.new w1 [(.int .i64 2), (.int .i64 xb), (.string ⟨#[]⟩), (.int .i64 0), (.bool false), (.int .i64 0)] 94; generalize w1.alloc (.cells #[(.int .i64 2), (.int .i64 xb), (.string ⟨#[]⟩), (.int .i64 0), (.bool false), (.int .i64 0)] 94) = w5 at B3 b3 ⊢; have t0 : w5.cell? ⟨w1.heap.size, 0, none⟩ = some (.int .i64 2) := b3.cell rfl; have t1 : w5.cell? ⟨w1.heap.size, 1, none⟩ = some (.int .i64 xb) := b3.cell rfl; have t3 : w5.cell? ⟨w1.heap.size, 3, none⟩ = some (.int .i64 0) := b3.cell rfl; have VV := Lib.hid (show ∀ V, Below w5.heap.size w5 V -> V.cell? ⟨w1.heap.size, 0, none⟩ = some (.int .i64 2) /\ V.cell? ⟨w1.heap.size, 1, none⟩ = some (.int .i64 xb) from fun V hb => ⟨(b3.below hb).cell rfl, (b3.below hb).cell rfl⟩); have VN := Lib.hid (b3.lt (by simp)); clear b3)
          have HBx5 := Lib.hid (HBx2.out.below B3)
          have HBB5 := Lib.hid (HBB2.out.trans (B3.mono HBB2.out.size))
          have HB5 := Lib.hid B3
          clear B3 y0 y1 y2 y3 y4 bD bA
          have u0 : w5.cell? ⟨gl, 0, none⟩ = some (.string A) := (HVg.out.below HB5.out) 0 _ rfl
          have u1 : w5.cell? ⟨gl, 1, none⟩ = some (.string B) := (HVg.out.below HB5.out) 1 _ rfl
          have u2 : w5.cell? ⟨gl, 2, none⟩ = some (.int .i64 m) := (HVg.out.below HB5.out) 2 _ rfl
          have u3 : w5.cell? ⟨gh, 3, none⟩ = some (.slice pf F.length cf) := (HBh.out.below HB5.out).cell rfl
          have H6 := Lib.hid (Box.new w5 (reqL ⟨#[]⟩ ⟨#[]⟩ 0 (.slice none 0 0) (.slice none 0 0)) 48)
          go_wp2_with (refine wpList_store_box (n := 5) Tryz.reqSize rfl _ _ rfl (g := w5.heap.size) (vs := reqL A B m (.slice pf F.length cf) (.slice none 0 0)) rfl rfl H6.out rfl rfl (reqL_one _ _ _ _ _ _ _ _ _) ?_)
          intro w6 b6 o6
          have B6 := (show Below w5.heap.size w5 w6 from ((Below.refl _ _).alloc (Nat.le_refl _) _).trans (only_eq_below o6 (Nat.le_refl _) (by simp)))
          have x0 := (VV.out _ B6).1
          have HB6 := Lib.hid (HB5.out.trans (B6.mono HB5.out.size))
          have HBr6 := Lib.hid b6
          have v0 : w6.cell? ⟨w.heap.size, 0, none⟩ = some (.int .i64 l.line) := (HVl.out.below HB6.out) 0 _ rfl
          have v1 : w6.cell? ⟨w.heap.size, 1, none⟩ = some (.int .i64 l.head) := (HVl.out.below HB6.out) 1 _ rfl
          have v2 : w6.cell? ⟨w.heap.size, 2, none⟩ = some (.int .i64 l.fields) := (HVl.out.below HB6.out) 2 _ rfl
          have v3 : w6.cell? ⟨w.heap.size, 3, none⟩ = some (.int .i64 l.body) := (HVl.out.below HB6.out) 3 _ rfl
          obtain ⟨g6, hg6⟩ : ∃ g6, g6 = w5.heap.size := ⟨_, rfl⟩
          rw [<- hg6] at HBr6 ⊢
          have Hg6 := Lib.hid (show wr.heap.size <= g6 by rw [hg6]; exact HB5.out.size)
          clear b6 o6 B6 t0 t1 t3 u0 u1 u2 u3 H6 hg6
          go_wp2_with fail
          refine (HRd.out _ HB6.out).mono ?_
          rintro e w7 ⟨b7, hD⟩
          have HBx7 := Lib.hid ((HBx2.out.below HB6.out).below b7)
          have HBB7 := Lib.hid ((HBB2.out.trans (HB6.out.mono HBB2.out.size)).trans (b7.mono (Nat.le_trans HBB2.out.size HB6.out.size)))
          have HBr7 := Lib.hid (HBr6.out.below b7)
          have HB7 := Lib.hid (HB6.out.trans (b7.mono HB6.out.size))
          have H8 := Lib.hid (Box.new w7 (resL (.slice none 0 0) 0 0 0 false) 97)
          have hg67 : g6 < w6.heap.size := HBr6.out.lt (by simp [reqL])
          have hs67 := b7.size
          have Hg67 := Lib.hid hg67
          have Hs67 := Lib.hid hs67
          clear v0 v1 v2 v3 x0 b7 hg67 hs67
          cases D with
          | go g =>
           subst hD
           unfold resV resL
           go_wp2_with (refine wpList_store_box (n := 5) Tryz.resSize rfl _ _ rfl (g := w7.heap.size) (vs := resL (.slice none 0 0) 0 0 0 true) rfl rfl H8.out rfl rfl (res_one _ _ _ _ _ _ _) ?_)
           intro w8 b8 o8
           have B8 := (show Below w7.heap.size w7 w8 from ((Below.refl _ _).alloc (Nat.le_refl _) _).trans (only_eq_below o8 (Nat.le_refl _) (by simp)))
           have HBx8 := Lib.hid (HBx7.out.below B8)
           have HBB8 := Lib.hid (HBB7.out.trans (B8.mono HBB7.out.size))
           have r4 : w8.cell? ⟨w7.heap.size, 4, none⟩ = some (.bool true) := b8.cell rfl
           clear b8 o8 B8
           go_wp2_with (refine wpList_store_box (n := 9) Tryz.oneSize rfl _ _ rfl (g := rb) (vs := oneL 2 ⟨#[]⟩ ⟨#[]⟩ 0 (.slice none 0 0) (.slice none 0 0) 0 0 0) rfl rfl HBx8.out rfl rfl (one_one _ _ _ _ _ _ _ _ _ _ _ _ _) ?_)
           intro wz bz oz
           go_wp2
           have HBz := Lib.hid (HBB8.out.trans (only_eq_below oz Hrb.out HBB8.out.size))
           refine bodyPost_ret (v := .agg (oneL 2 ⟨#[]⟩ ⟨#[]⟩ 0 (.slice none 0 0) (.slice none 0 0) 0 0 0).toArray) ?_ rfl (onReq_open HE2.out HBz.out)
           exact results_cellC Tryz.oneSize Tryz.oneAgg Tryz.results24 _ _ rfl bz.vals rfl
          | bad s9 j9 =>
           subst hD
           have hs9 : (s9 != 0) = true := by rw [bne_iff_ne]; exact HTd.out
           unfold resV resL
           go_wp2_with (refine wpList_store_box (n := 5) Tryz.resSize rfl _ _ rfl (g := w7.heap.size) (vs := resL (.slice none 0 0) 0 s9 (j9 : Int) false) rfl rfl H8.out rfl rfl (res_one _ _ _ _ _ _ _) ?_)
           intro w8 b8 o8
           have B8 := (show Below w7.heap.size w7 w8 from ((Below.refl _ _).alloc (Nat.le_refl _) _).trans (only_eq_below o8 (Nat.le_refl _) (by simp)))
           have HBx8 := Lib.hid (HBx7.out.below B8)
           have HBB8 := Lib.hid (HBB7.out.trans (B8.mono HBB7.out.size))
           have r4 : w8.cell? ⟨w7.heap.size, 4, none⟩ = some (.bool false) := b8.cell rfl
           have r2 : w8.cell? ⟨w7.heap.size, 2, none⟩ = some (.int .i64 s9) := b8.cell rfl
           have r3 : w8.cell? ⟨w7.heap.size, 3, none⟩ = some (.int .i64 (j9 : Int)) := b8.cell rfl
           clear b8 o8 B8
           go_wp2_with fail
           refine (HWg.out s9 ((j9 : Int)) _).mono ?_
           rintro e wg ⟨rfl, bg⟩
           have HBxg := Lib.hid (HBx8.out.below bg)
           have HBBg := Lib.hid (HBB8.out.trans (bg.mono HBB8.out.size))
           clear bg
           go_wp2_with (refine wpList_store_box (n := 9) Tryz.oneSize rfl _ _ rfl (g := rb) (vs := oneL 1 ⟨#[]⟩ ⟨#[]⟩ 0 (.slice none 0 0) (.slice none 0 0) 0 s9 ((j9 : Int))) rfl rfl HBxg.out rfl rfl (one_one _ _ _ _ _ _ _ _ _ _ _ _ _) ?_)
           intro wz bz oz
           go_wp2
           have HBz := Lib.hid (HBBg.out.trans (only_eq_below oz Hrb.out HBBg.out.size))
           refine bodyPost_ret (v := .agg (oneL 1 ⟨#[]⟩ ⟨#[]⟩ 0 (.slice none 0 0) (.slice none 0 0) 0 s9 ((j9 : Int))).toArray) ?_ rfl (onReq_bad HE2.out (rfl) HBz.out)
           exact results_cellC Tryz.oneSize Tryz.oneAgg Tryz.results24 _ _ rfl bz.vals rfl
          | done n9 d9 =>
           obtain ⟨v9, hv9, rfl⟩ := hD
           obtain ⟨p9, c9, rfl⟩ := hv9.slicedF
           have HV9 := Lib.hid hv9
           unfold resV resL
           go_wp2_with (refine wpList_store_box (n := 5) Tryz.resSize rfl _ _ rfl (g := w7.heap.size) (vs := resL (.slice p9 d9.length c9) (n9 : Int) 0 0 false) rfl rfl H8.out rfl rfl (res_one _ _ _ _ _ _ _) ?_)
           intro w8 b8 o8
           have B8 := (show Below w7.heap.size w7 w8 from ((Below.refl _ _).alloc (Nat.le_refl _) _).trans (only_eq_below o8 (Nat.le_refl _) (by simp)))
           have HBx8 := Lib.hid (HBx7.out.below B8)
           have HBB8 := Lib.hid (HBB7.out.trans (B8.mono HBB7.out.size))
           have HBr8 := Lib.hid (HBr7.out.below B8)
           have HV8 := Lib.hid (own_below HV9.out B8)
           have HF8 := Lib.hid ((HF.out.below HB7.out).below B8)
           have r4 : w8.cell? ⟨w7.heap.size, 4, none⟩ = some (.bool false) := b8.cell rfl
           have r2 : w8.cell? ⟨w7.heap.size, 2, none⟩ = some (.int .i64 0) := b8.cell rfl
           have r0 : w8.cell? ⟨w7.heap.size, 0, none⟩ = some (.slice p9 d9.length c9) := b8.cell rfl
           have r1 : w8.cell? ⟨w7.heap.size, 1, none⟩ = some (.int .i64 (n9 : Int)) := b8.cell rfl
           have m0 : w8.cell? ⟨g6, 0, none⟩ = some (.string A) := HBr8.out.cell rfl
           have m1 : w8.cell? ⟨g6, 1, none⟩ = some (.string B) := HBr8.out.cell rfl
           have m2 : w8.cell? ⟨g6, 2, none⟩ = some (.int .i64 m) := HBr8.out.cell rfl
           have m3 : w8.cell? ⟨g6, 3, none⟩ = some (.slice pf F.length cf) := HBr8.out.cell rfl
           have m4 : w8.cell? ⟨g6, 4, none⟩ = some (.slice none 0 0) := HBr8.out.cell rfl
           have f4 := HBr8.out.free 4 (by simp [reqL])
           have hg7 : g6 ≠ w7.heap.size := by have := Hg67.out; have := Hs67.out; omega
           have hgr : rb ≠ g6 := by have := Hrb2.out; have := HBl2.out.size; have := Hg6.out; omega
           have hghr : rb < gh := by have := Hrb2.out; have := HBW3.out.size; rw [Hgh.out ()]; omega
           have Ho8 := (Only.refl (fun j => j = g6) w8).setCell (p := ⟨g6, 4, none⟩) (fun _ => rfl) (.slice p9 d9.length c9)
           have HBx9 := Lib.hid (HBx8.out.only Ho8 hgr)
           have HBB9 := Lib.hid (HBB8.out.trans (only_eq_below Ho8 (show w.heap.size <= g6 by have := Hg6.out; have := HBB2.out.size; omega) HBB8.out.size))
           have HF9 := Lib.hid (Ho8.own HF8.out fun j hj e => by have h9 := HF.out.lt hj; have := Hg6.out; omega)
           have HV9' := Lib.hid (Ho8.own HV8.out fun j hj e => by have := own_ge HV8.out j hj; have := Hg67.out; omega)
           have Hghr := Lib.hid hghr
           have H67r := Lib.hid (show rb < w6.heap.size by have := Hg67.out; have := Hrb2.out; have := HBl2.out.size; have := Hg6.out; omega)
           clear Ho8 hghr
           go_wp2_with (refine wpList_store_box (n := 9) Tryz.oneSize rfl _ _ rfl (g := rb) (vs := oneL 0 A B m (.slice pf F.length cf) (.slice p9 d9.length c9) (n9 : Int) 0 0) rfl rfl HBx9.out rfl rfl (one_one _ _ _ _ _ _ _ _ _ _ _ _ _) ?_)
           intro wz bz oz
           go_wp2
           have HBz := Lib.hid (HBB9.out.trans (only_eq_below oz Hrb.out HBB9.out.size))
           refine bodyPost_ret (v := .agg (oneL 0 A B m (.slice pf F.length cf) (.slice p9 d9.length c9) (n9 : Int) 0 0).toArray) ?_ rfl (onReq_req (h := ⟨A, B, m, F, n2⟩) HE2.out rfl (own_lower (oz.own HF9.out fun j hj e => by have := own_ge HF9.out j hj; have := Hghr.out; omega) (by have := Hghr.out; have := Hrb.out; omega)) (.inr (own_lower (oz.own HV9'.out fun j hj e => by have := own_ge HV9'.out j hj; have := H67r.out; omega) (by have := H67r.out; have := Hrb.out; omega))) HBz.out)
           exact results_cellC Tryz.oneSize Tryz.oneAgg Tryz.results24 _ _ rfl bz.vals rfl
        ·obtain ⟨y, rfl⟩ : ∃ y : Nat, xb = (y : Int) := ⟨xb.toNat, by omega⟩
         have HE2 := HE.out.trans (readB_len (hck.trans (if_neg ha)))
         rw [Int.toNat_natCast, List.length_drop] at HE2
         have hxa2 : (xa == 2) = false := by rw [beq_eq_false_iff_ne]; exact ha
         have hy9 : (y : Int) <= 2305843009213693952 := hx1
         clear HE hck hx0 hx1 ha
         by_cases hlen : b.length < n + y
         ·rw [if_pos (by omega)] at HE2
          replace HE2 := Lib.hid HE2
          have hlt9 : (b.length : Int) < (n : Int) + (y : Int) := by omega
          have bD : Below wr.heap.size wr wr.drew := (Below.refl _ _).drew
          have bA : Below wr.heap.size wr (wr.alloc (.cells #[.int .i64 0, .int .i64 0, .string ⟨#[]⟩, .int .i64 0, .bool false, .int .i64 0] 94)).drew := ((Below.refl wr.heap.size wr).alloc (Nat.le_refl _) _).drew
          have y0 : wr.drew.cell? ⟨gh, 0, none⟩ = some (.string A) := HBh.out.cell rfl
          have y1 : wr.drew.cell? ⟨gh, 1, none⟩ = some (.string B) := HBh.out.cell rfl
          have y2 : wr.drew.cell? ⟨gh, 2, none⟩ = some (.int .i64 m) := HBh.out.cell rfl
          have y3 : wr.drew.cell? ⟨gh, 3, none⟩ = some (.slice pf F.length cf) := HBh.out.cell rfl
          have y4 : wr.drew.cell? ⟨w.heap.size, 3, none⟩ = some (.int .i64 l.body) := (VL.out.below HBl2.out) 3 _ rfl
          have HSx := Lib.hid (fun V (hb : Below wr.heap.size wr V) => show V.cell? ⟨gh, 0, none⟩ = some (.string A) /\ V.cell? ⟨gh, 1, none⟩ = some (.string B) /\ V.cell? ⟨gh, 2, none⟩ = some (.int .i64 m) /\ V.cell? ⟨gh, 3, none⟩ = some (.slice pf F.length cf) /\ V.cell? ⟨w.heap.size, 3, none⟩ = some (.int .i64 l.body) from ⟨(HBh.out.below hb).cell rfl, (HBh.out.below hb).cell rfl, (HBh.out.below hb).cell rfl, (HBh.out.below hb).cell rfl, ((VL.out.below HBl2.out).below hb) 3 _ rfl⟩)
          clear d1 d2 e3
          go_wp2_with fail
          go_region_held3 (fun V => V.cell? ⟨gh, 0, none⟩ = some (.string A) /\ V.cell? ⟨gh, 1, none⟩ = some (.string B) /\ V.cell? ⟨gh, 2, none⟩ = some (.int .i64 m) /\ V.cell? ⟨gh, 3, none⟩ = some (.slice pf F.length cf) /\ V.cell? ⟨w.heap.size, 3, none⟩ = some (.int .i64 l.body))
           (first | with_reducible exact ⟨y0, y1, y2, y3, y4⟩ | with_reducible exact HSx.out _ bD | with_reducible exact HSx.out _ bA | with_reducible exact HSx.out _ HB1.out | with_reducible exact HSx.out _ (HB1.out.alloc HB1.out.size _) | with_reducible exact HSx.out _ ((((((HB1.out.setCell (p := ⟨wr.heap.size, 0, none⟩) (Nat.le_refl _) _).setCell (p := ⟨wr.heap.size, 1, none⟩) (Nat.le_refl _) _).setCell (p := ⟨wr.heap.size, 2, none⟩) (Nat.le_refl _) _).setCell (p := ⟨wr.heap.size, 3, none⟩) (Nat.le_refl _) _).setCell (p := ⟨wr.heap.size, 4, none⟩) (Nat.le_refl _) _).setCell (p := ⟨wr.heap.size, 5, none⟩) (Nat.le_refl _) _))
           (first
            | (go_at_call 35; refine (HLb.out _).mono ?_; rintro e wq ⟨rfl, rfl⟩)
            | (go_at_call 40; refine (HC.out _ (by first | exact bA | exact bD)).mono ?_; rintro e w1 ⟨rfl, b1⟩; have HB1 : Hid (Below wr.heap.size wr w1) := Lib.hid (by first | exact bA.trans (b1.mono bA.size) | exact bD.trans (b1.mono bD.size)); first | (have HBX : Box w1 wr.heap.size [.int .i64 0, .int .i64 0, .string ⟨#[]⟩, .int .i64 0, .bool false, .int .i64 0] := ((Box.new wr [.int .i64 0, .int .i64 0, .string ⟨#[]⟩, .int .i64 0, .bool false, .int .i64 0] _).drew.below b1); have k0 : w1.cell? ⟨wr.heap.size, 0, none⟩ = some (.int .i64 0) := HBX.cell rfl; have k1 : w1.cell? ⟨wr.heap.size, 1, none⟩ = some (.int .i64 0) := HBX.cell rfl; have k2' : w1.cell? ⟨wr.heap.size, 2, none⟩ = some (.string ⟨#[]⟩) := HBX.cell rfl; have k3 : w1.cell? ⟨wr.heap.size, 3, none⟩ = some (.int .i64 0) := HBX.cell rfl; have k4 : w1.cell? ⟨wr.heap.size, 4, none⟩ = some (.bool false) := HBX.cell rfl; have k5 : w1.cell? ⟨wr.heap.size, 5, none⟩ = some (.int .i64 0) := HBX.cell rfl; have z0 := HBX.free 0 (by simp); have z1 := HBX.free 1 (by simp); have z2 := HBX.free 2 (by simp); have z3 := HBX.free 3 (by simp); have z4 := HBX.free 4 (by simp); have z5 := HBX.free 5 (by simp); have HBY := Lib.hid HBX; clear b1 HBX) | clear b1))
          all_goals
           first
            | (have hk0 := k0; have B3 := ((((((HB1.out.setCell (p := ⟨wr.heap.size, 0, none⟩) (Nat.le_refl _) (.int .i64 xa)).setCell (p := ⟨wr.heap.size, 1, none⟩) (Nat.le_refl _) (.int .i64 (y : Int))).setCell (p := ⟨wr.heap.size, 2, none⟩) (Nat.le_refl _) (.string ⟨#[]⟩)).setCell (p := ⟨wr.heap.size, 3, none⟩) (Nat.le_refl _) (.int .i64 0)).setCell (p := ⟨wr.heap.size, 4, none⟩) (Nat.le_refl _) (.bool false)).setCell (p := ⟨wr.heap.size, 5, none⟩) (Nat.le_refl _) (.int .i64 0)); have b3 : Box ((((((w1.setCell ⟨wr.heap.size, 0, none⟩ (.int .i64 xa)).setCell ⟨wr.heap.size, 1, none⟩ (.int .i64 (y : Int))).setCell ⟨wr.heap.size, 2, none⟩ (.string ⟨#[]⟩)).setCell ⟨wr.heap.size, 3, none⟩ (.int .i64 0)).setCell ⟨wr.heap.size, 4, none⟩ (.bool false)).setCell ⟨wr.heap.size, 5, none⟩ (.int .i64 0)) wr.heap.size [(.int .i64 xa), (.int .i64 (y : Int)), (.string ⟨#[]⟩), (.int .i64 0), (.bool false), (.int .i64 0)] := HBY.out.setCells [(.int .i64 xa), (.int .i64 (y : Int)), (.string ⟨#[]⟩), (.int .i64 0), (.bool false), (.int .i64 0)] rfl; generalize ((((((w1.setCell ⟨wr.heap.size, 0, none⟩ (.int .i64 xa)).setCell ⟨wr.heap.size, 1, none⟩ (.int .i64 (y : Int))).setCell ⟨wr.heap.size, 2, none⟩ (.string ⟨#[]⟩)).setCell ⟨wr.heap.size, 3, none⟩ (.int .i64 0)).setCell ⟨wr.heap.size, 4, none⟩ (.bool false)).setCell ⟨wr.heap.size, 5, none⟩ (.int .i64 0)) = w5 at B3 b3 ⊢; have t0 : w5.cell? ⟨wr.heap.size, 0, none⟩ = some (.int .i64 xa) := b3.cell rfl; have t1 : w5.cell? ⟨wr.heap.size, 1, none⟩ = some (.int .i64 (y : Int)) := b3.cell rfl; have t3 : w5.cell? ⟨wr.heap.size, 3, none⟩ = some (.int .i64 0) := b3.cell rfl; have VV := Lib.hid (show ∀ V, Below w5.heap.size w5 V -> V.cell? ⟨wr.heap.size, 0, none⟩ = some (.int .i64 xa) /\ V.cell? ⟨wr.heap.size, 1, none⟩ = some (.int .i64 (y : Int)) from fun V hb => ⟨(b3.below hb).cell rfl, (b3.below hb).cell rfl⟩); have VN := Lib.hid (b3.lt (by simp)); clear hk0 k0 k1 k2' k3 k4 k5 z0 z1 z2 z3 z4 z5 b3)
            | (have B3 := HB1.out.alloc HB1.out.size (.cells #[(.int .i64 xa), (.int .i64 (y : Int)), (.string ⟨#[]⟩), (.int .i64 0), (.bool false), (.int .i64 0)] 94); have b3 := Box.new w1 [(.int .i64 xa), (.int .i64 (y : Int)), (.string ⟨#[]⟩), (.int .i64 0), (.bool false), (.int .i64 0)] 94; generalize w1.alloc (.cells #[(.int .i64 xa), (.int .i64 (y : Int)), (.string ⟨#[]⟩), (.int .i64 0), (.bool false), (.int .i64 0)] 94) = w5 at B3 b3 ⊢; have t0 : w5.cell? ⟨w1.heap.size, 0, none⟩ = some (.int .i64 xa) := b3.cell rfl; have t1 : w5.cell? ⟨w1.heap.size, 1, none⟩ = some (.int .i64 (y : Int)) := b3.cell rfl; have t3 : w5.cell? ⟨w1.heap.size, 3, none⟩ = some (.int .i64 0) := b3.cell rfl; have VV := Lib.hid (show ∀ V, Below w5.heap.size w5 V -> V.cell? ⟨w1.heap.size, 0, none⟩ = some (.int .i64 xa) /\ V.cell? ⟨w1.heap.size, 1, none⟩ = some (.int .i64 (y : Int)) from fun V hb => ⟨(b3.below hb).cell rfl, (b3.below hb).cell rfl⟩); have VN := Lib.hid (b3.lt (by simp)); clear b3)
           have HBx5 := Lib.hid (HBx2.out.below B3)
           have HBB5 := Lib.hid (HBB2.out.trans (B3.mono HBB2.out.size))
           have HB5 := Lib.hid B3
           clear B3 y0 y1 y2 y3 y4 bD bA
           have u0 : w5.cell? ⟨gl, 0, none⟩ = some (.string A) := (HVg.out.below HB5.out) 0 _ rfl
           have u1 : w5.cell? ⟨gl, 1, none⟩ = some (.string B) := (HVg.out.below HB5.out) 1 _ rfl
           have u2 : w5.cell? ⟨gl, 2, none⟩ = some (.int .i64 m) := (HVg.out.below HB5.out) 2 _ rfl
           have u3 : w5.cell? ⟨gh, 3, none⟩ = some (.slice pf F.length cf) := (HBh.out.below HB5.out).cell rfl
           have H6 := Lib.hid (Box.new w5 (reqL ⟨#[]⟩ ⟨#[]⟩ 0 (.slice none 0 0) (.slice none 0 0)) 48)
           go_wp2_with (refine wpList_store_box (n := 5) Tryz.reqSize rfl _ _ rfl (g := w5.heap.size) (vs := reqL A B m (.slice pf F.length cf) (.slice none 0 0)) rfl rfl H6.out rfl rfl (reqL_one _ _ _ _ _ _ _ _ _) ?_)
           intro w6 b6 o6
           have B6 := (show Below w5.heap.size w5 w6 from ((Below.refl _ _).alloc (Nat.le_refl _) _).trans (only_eq_below o6 (Nat.le_refl _) (by simp)))
           have x0 := (VV.out _ B6).1
           have x1 := (VV.out _ B6).2
           have HB6 := Lib.hid (HB5.out.trans (B6.mono HB5.out.size))
           have HBx6 := Lib.hid (HBx5.out.below B6)
           have HBB6 := Lib.hid (HBB5.out.trans (B6.mono HBB5.out.size))
           have HBr6 := Lib.hid b6
           have hv6 := Nat.ne_of_lt VN.out
           obtain ⟨g6, hg6⟩ : ∃ g6, g6 = w5.heap.size := ⟨_, rfl⟩
           rw [<- hg6] at HBr6 hv6 ⊢
           have Hg6 := Lib.hid (show wr.heap.size <= g6 by rw [hg6]; exact HB5.out.size)
           have Hg67 := Lib.hid (HBr6.out.lt (by simp [reqL]))
           clear b6 o6 B6 t0 t1 t3 u0 u1 u2 u3 H6 hg6
           go_wp2_with (refine wpList_store_box (n := 9) Tryz.oneSize rfl _ _ rfl (g := rb) (vs := oneL 2 ⟨#[]⟩ ⟨#[]⟩ 0 (.slice none 0 0) (.slice none 0 0) 0 0 0) rfl rfl HBx6.out rfl rfl (one_one _ _ _ _ _ _ _ _ _ _ _ _ _) ?_)
           intro wz bz oz
           go_wp2
           have HBz := Lib.hid (HBB6.out.trans (only_eq_below oz Hrb.out HBB6.out.size))
           refine bodyPost_ret (v := .agg (oneL 2 ⟨#[]⟩ ⟨#[]⟩ 0 (.slice none 0 0) (.slice none 0 0) 0 0 0).toArray) ?_ rfl (onReq_open HE2.out HBz.out)
           exact results_cellC Tryz.oneSize Tryz.oneAgg Tryz.results24 _ _ rfl bz.vals rfl
         ·rw [if_neg (by omega)] at HE2
          replace HE2 := Lib.hid HE2
          have hlt9 : ¬ (b.length : Int) < (n : Int) + (y : Int) := by omega
          obtain ⟨sv, hsl, hsr⟩ := bytes_part HY5.out n (n + y) (by omega) (by omega)
          rw [Nat.add_sub_cancel_left] at hsr
          push_cast at hsl
          have HSr := Lib.hid hsr
          obtain ⟨ps, cs, hsv⟩ := (hsr wr HY5.out).slicedB
          obtain ⟨ny, hny⟩ : ∃ ny, ny = ((b.drop n).take y).length := ⟨_, rfl⟩
          rw [<- hny] at hsv
          subst hsv
          clear hsr hny
          have bD : Below wr.heap.size wr wr.drew := (Below.refl _ _).drew
          have bA : Below wr.heap.size wr (wr.alloc (.cells #[.int .i64 0, .int .i64 0, .string ⟨#[]⟩, .int .i64 0, .bool false, .int .i64 0] 94)).drew := ((Below.refl wr.heap.size wr).alloc (Nat.le_refl _) _).drew
          have y0 : wr.drew.cell? ⟨gh, 0, none⟩ = some (.string A) := HBh.out.cell rfl
          have y1 : wr.drew.cell? ⟨gh, 1, none⟩ = some (.string B) := HBh.out.cell rfl
          have y2 : wr.drew.cell? ⟨gh, 2, none⟩ = some (.int .i64 m) := HBh.out.cell rfl
          have y3 : wr.drew.cell? ⟨gh, 3, none⟩ = some (.slice pf F.length cf) := HBh.out.cell rfl
          have y4 : wr.drew.cell? ⟨w.heap.size, 3, none⟩ = some (.int .i64 l.body) := (VL.out.below HBl2.out) 3 _ rfl
          have HSx := Lib.hid (fun V (hb : Below wr.heap.size wr V) => show V.cell? ⟨gh, 0, none⟩ = some (.string A) /\ V.cell? ⟨gh, 1, none⟩ = some (.string B) /\ V.cell? ⟨gh, 2, none⟩ = some (.int .i64 m) /\ V.cell? ⟨gh, 3, none⟩ = some (.slice pf F.length cf) /\ V.cell? ⟨w.heap.size, 3, none⟩ = some (.int .i64 l.body) from ⟨(HBh.out.below hb).cell rfl, (HBh.out.below hb).cell rfl, (HBh.out.below hb).cell rfl, (HBh.out.below hb).cell rfl, ((VL.out.below HBl2.out).below hb) 3 _ rfl⟩)
          clear d1 d2 e3
          go_wp2_with fail
          go_region_held3 (fun V => V.cell? ⟨gh, 0, none⟩ = some (.string A) /\ V.cell? ⟨gh, 1, none⟩ = some (.string B) /\ V.cell? ⟨gh, 2, none⟩ = some (.int .i64 m) /\ V.cell? ⟨gh, 3, none⟩ = some (.slice pf F.length cf) /\ V.cell? ⟨w.heap.size, 3, none⟩ = some (.int .i64 l.body))
           (first | with_reducible exact ⟨y0, y1, y2, y3, y4⟩ | with_reducible exact HSx.out _ bD | with_reducible exact HSx.out _ bA | with_reducible exact HSx.out _ HB1.out | with_reducible exact HSx.out _ (HB1.out.alloc HB1.out.size _) | with_reducible exact HSx.out _ ((((((HB1.out.setCell (p := ⟨wr.heap.size, 0, none⟩) (Nat.le_refl _) _).setCell (p := ⟨wr.heap.size, 1, none⟩) (Nat.le_refl _) _).setCell (p := ⟨wr.heap.size, 2, none⟩) (Nat.le_refl _) _).setCell (p := ⟨wr.heap.size, 3, none⟩) (Nat.le_refl _) _).setCell (p := ⟨wr.heap.size, 4, none⟩) (Nat.le_refl _) _).setCell (p := ⟨wr.heap.size, 5, none⟩) (Nat.le_refl _) _))
           (first
            | (go_at_call 35; refine (HLb.out _).mono ?_; rintro e wq ⟨rfl, rfl⟩)
            | (go_at_call 40; refine (HC.out _ (by first | exact bA | exact bD)).mono ?_; rintro e w1 ⟨rfl, b1⟩; have HB1 : Hid (Below wr.heap.size wr w1) := Lib.hid (by first | exact bA.trans (b1.mono bA.size) | exact bD.trans (b1.mono bD.size)); first | (have HBX : Box w1 wr.heap.size [.int .i64 0, .int .i64 0, .string ⟨#[]⟩, .int .i64 0, .bool false, .int .i64 0] := ((Box.new wr [.int .i64 0, .int .i64 0, .string ⟨#[]⟩, .int .i64 0, .bool false, .int .i64 0] _).drew.below b1); have k0 : w1.cell? ⟨wr.heap.size, 0, none⟩ = some (.int .i64 0) := HBX.cell rfl; have k1 : w1.cell? ⟨wr.heap.size, 1, none⟩ = some (.int .i64 0) := HBX.cell rfl; have k2' : w1.cell? ⟨wr.heap.size, 2, none⟩ = some (.string ⟨#[]⟩) := HBX.cell rfl; have k3 : w1.cell? ⟨wr.heap.size, 3, none⟩ = some (.int .i64 0) := HBX.cell rfl; have k4 : w1.cell? ⟨wr.heap.size, 4, none⟩ = some (.bool false) := HBX.cell rfl; have k5 : w1.cell? ⟨wr.heap.size, 5, none⟩ = some (.int .i64 0) := HBX.cell rfl; have z0 := HBX.free 0 (by simp); have z1 := HBX.free 1 (by simp); have z2 := HBX.free 2 (by simp); have z3 := HBX.free 3 (by simp); have z4 := HBX.free 4 (by simp); have z5 := HBX.free 5 (by simp); have HBY := Lib.hid HBX; clear b1 HBX) | clear b1))
          all_goals
           first
            | (have hk0 := k0; have B3 := ((((((HB1.out.setCell (p := ⟨wr.heap.size, 0, none⟩) (Nat.le_refl _) (.int .i64 xa)).setCell (p := ⟨wr.heap.size, 1, none⟩) (Nat.le_refl _) (.int .i64 (y : Int))).setCell (p := ⟨wr.heap.size, 2, none⟩) (Nat.le_refl _) (.string ⟨#[]⟩)).setCell (p := ⟨wr.heap.size, 3, none⟩) (Nat.le_refl _) (.int .i64 0)).setCell (p := ⟨wr.heap.size, 4, none⟩) (Nat.le_refl _) (.bool false)).setCell (p := ⟨wr.heap.size, 5, none⟩) (Nat.le_refl _) (.int .i64 0)); have b3 : Box ((((((w1.setCell ⟨wr.heap.size, 0, none⟩ (.int .i64 xa)).setCell ⟨wr.heap.size, 1, none⟩ (.int .i64 (y : Int))).setCell ⟨wr.heap.size, 2, none⟩ (.string ⟨#[]⟩)).setCell ⟨wr.heap.size, 3, none⟩ (.int .i64 0)).setCell ⟨wr.heap.size, 4, none⟩ (.bool false)).setCell ⟨wr.heap.size, 5, none⟩ (.int .i64 0)) wr.heap.size [(.int .i64 xa), (.int .i64 (y : Int)), (.string ⟨#[]⟩), (.int .i64 0), (.bool false), (.int .i64 0)] := HBY.out.setCells [(.int .i64 xa), (.int .i64 (y : Int)), (.string ⟨#[]⟩), (.int .i64 0), (.bool false), (.int .i64 0)] rfl; generalize ((((((w1.setCell ⟨wr.heap.size, 0, none⟩ (.int .i64 xa)).setCell ⟨wr.heap.size, 1, none⟩ (.int .i64 (y : Int))).setCell ⟨wr.heap.size, 2, none⟩ (.string ⟨#[]⟩)).setCell ⟨wr.heap.size, 3, none⟩ (.int .i64 0)).setCell ⟨wr.heap.size, 4, none⟩ (.bool false)).setCell ⟨wr.heap.size, 5, none⟩ (.int .i64 0)) = w5 at B3 b3 ⊢; have t0 : w5.cell? ⟨wr.heap.size, 0, none⟩ = some (.int .i64 xa) := b3.cell rfl; have t1 : w5.cell? ⟨wr.heap.size, 1, none⟩ = some (.int .i64 (y : Int)) := b3.cell rfl; have t3 : w5.cell? ⟨wr.heap.size, 3, none⟩ = some (.int .i64 0) := b3.cell rfl; have VV := Lib.hid (show ∀ V, Below w5.heap.size w5 V -> V.cell? ⟨wr.heap.size, 0, none⟩ = some (.int .i64 xa) /\ V.cell? ⟨wr.heap.size, 1, none⟩ = some (.int .i64 (y : Int)) from fun V hb => ⟨(b3.below hb).cell rfl, (b3.below hb).cell rfl⟩); have VN := Lib.hid (b3.lt (by simp)); clear hk0 k0 k1 k2' k3 k4 k5 z0 z1 z2 z3 z4 z5 b3)
            | (have B3 := HB1.out.alloc HB1.out.size (.cells #[(.int .i64 xa), (.int .i64 (y : Int)), (.string ⟨#[]⟩), (.int .i64 0), (.bool false), (.int .i64 0)] 94); have b3 := Box.new w1 [(.int .i64 xa), (.int .i64 (y : Int)), (.string ⟨#[]⟩), (.int .i64 0), (.bool false), (.int .i64 0)] 94; generalize w1.alloc (.cells #[(.int .i64 xa), (.int .i64 (y : Int)), (.string ⟨#[]⟩), (.int .i64 0), (.bool false), (.int .i64 0)] 94) = w5 at B3 b3 ⊢; have t0 : w5.cell? ⟨w1.heap.size, 0, none⟩ = some (.int .i64 xa) := b3.cell rfl; have t1 : w5.cell? ⟨w1.heap.size, 1, none⟩ = some (.int .i64 (y : Int)) := b3.cell rfl; have t3 : w5.cell? ⟨w1.heap.size, 3, none⟩ = some (.int .i64 0) := b3.cell rfl; have VV := Lib.hid (show ∀ V, Below w5.heap.size w5 V -> V.cell? ⟨w1.heap.size, 0, none⟩ = some (.int .i64 xa) /\ V.cell? ⟨w1.heap.size, 1, none⟩ = some (.int .i64 (y : Int)) from fun V hb => ⟨(b3.below hb).cell rfl, (b3.below hb).cell rfl⟩); have VN := Lib.hid (b3.lt (by simp)); clear b3)
           have HBx5 := Lib.hid (HBx2.out.below B3)
           have HBB5 := Lib.hid (HBB2.out.trans (B3.mono HBB2.out.size))
           have HB5 := Lib.hid B3
           clear B3 y0 y1 y2 y3 y4 bD bA
           have u0 : w5.cell? ⟨gl, 0, none⟩ = some (.string A) := (HVg.out.below HB5.out) 0 _ rfl
           have u1 : w5.cell? ⟨gl, 1, none⟩ = some (.string B) := (HVg.out.below HB5.out) 1 _ rfl
           have u2 : w5.cell? ⟨gl, 2, none⟩ = some (.int .i64 m) := (HVg.out.below HB5.out) 2 _ rfl
           have u3 : w5.cell? ⟨gh, 3, none⟩ = some (.slice pf F.length cf) := (HBh.out.below HB5.out).cell rfl
           have H6 := Lib.hid (Box.new w5 (reqL ⟨#[]⟩ ⟨#[]⟩ 0 (.slice none 0 0) (.slice none 0 0)) 48)
           go_wp2_with (refine wpList_store_box (n := 5) Tryz.reqSize rfl _ _ rfl (g := w5.heap.size) (vs := reqL A B m (.slice pf F.length cf) (.slice none 0 0)) rfl rfl H6.out rfl rfl (reqL_one _ _ _ _ _ _ _ _ _) ?_)
           intro w6 b6 o6
           have B6 := (show Below w5.heap.size w5 w6 from ((Below.refl _ _).alloc (Nat.le_refl _) _).trans (only_eq_below o6 (Nat.le_refl _) (by simp)))
           have x0 := (VV.out _ B6).1
           have x1 := (VV.out _ B6).2
           have HB6 := Lib.hid (HB5.out.trans (B6.mono HB5.out.size))
           have HBx6 := Lib.hid (HBx5.out.below B6)
           have HBB6 := Lib.hid (HBB5.out.trans (B6.mono HBB5.out.size))
           have HBr6 := Lib.hid b6
           have hv6 := Nat.ne_of_lt VN.out
           obtain ⟨g6, hg6⟩ : ∃ g6, g6 = w5.heap.size := ⟨_, rfl⟩
           rw [<- hg6] at HBr6 hv6 ⊢
           have Hg6 := Lib.hid (show wr.heap.size <= g6 by rw [hg6]; exact HB5.out.size)
           have Hg67 := Lib.hid (HBr6.out.lt (by simp [reqL]))
           clear b6 o6 B6 t0 t1 t3 u0 u1 u2 u3 H6 hg6
           have HF8 := Lib.hid (HF.out.below HB6.out)
           have m0 : w6.cell? ⟨g6, 0, none⟩ = some (.string A) := HBr6.out.cell rfl
           have m1 : w6.cell? ⟨g6, 1, none⟩ = some (.string B) := HBr6.out.cell rfl
           have m2 : w6.cell? ⟨g6, 2, none⟩ = some (.int .i64 m) := HBr6.out.cell rfl
           have m3 : w6.cell? ⟨g6, 3, none⟩ = some (.slice pf F.length cf) := HBr6.out.cell rfl
           have m4 : w6.cell? ⟨g6, 4, none⟩ = some (.slice none 0 0) := HBr6.out.cell rfl
           have f4 := HBr6.out.free 4 (by simp [reqL])
           have hgr : rb ≠ g6 := by have := Hrb2.out; have := HBl2.out.size; have := Hg6.out; omega
           have hghr : rb < gh := by have := Hrb2.out; have := HBW3.out.size; rw [Hgh.out ()]; omega
           have Ho8 := (Only.refl (fun j => j = g6) w6).setCell (p := ⟨g6, 4, none⟩) (fun _ => rfl) (.slice ps ny cs)
           have HBx9 := Lib.hid (HBx6.out.only Ho8 hgr)
           have HBB9 := Lib.hid (HBB6.out.trans (only_eq_below Ho8 (show w.heap.size <= g6 by have := Hg6.out; have := HBB2.out.size; omega) HBB6.out.size))
           have HF9 := Lib.hid (Ho8.own HF8.out fun j hj e => by have h9 := HF.out.lt hj; have := Hg6.out; omega)
           have Hghr := Lib.hid hghr
           have H67r := Lib.hid (show rb < w6.heap.size by have := Hg67.out; have := Hrb2.out; have := HBl2.out.size; have := Hg6.out; omega)
           clear Ho8 hghr
           go_wp2_with (refine wpList_store_box (n := 9) Tryz.oneSize rfl _ _ rfl (g := rb) (vs := oneL 0 A B m (.slice pf F.length cf) (.slice ps ny cs) ((n : Int) + (y : Int)) 0 0) rfl rfl HBx9.out rfl rfl (one_one _ _ _ _ _ _ _ _ _ _ _ _ _) ?_)
           intro wz bz oz
           go_wp2
           have HBz := Lib.hid (HBB9.out.trans (only_eq_below oz Hrb.out HBB9.out.size))
           refine bodyPost_ret (v := .agg (oneL 0 A B m (.slice pf F.length cf) (.slice ps ny cs) ((n : Int) + (y : Int)) 0 0).toArray) ?_ rfl (onReq_req (h := ⟨A, B, m, F, n2⟩) HE2.out (by push_cast; rfl) (own_lower (oz.own HF9.out fun j hj e => by have := own_ge HF9.out j hj; have := Hghr.out; omega) (by have := Hghr.out; have := Hrb.out; omega)) (.inl HSr.out) HBz.out)
           exact results_cellC Tryz.oneSize Tryz.oneAgg Tryz.results24 _ _ rfl bz.vals rfl
      ·rw [decide_eq_false hs0] at hss
       have HQ5 := Lib.hid (q5 hs0)
       have hsz0 : (0 : Int) <= (s2.size : Int) := by omega
       have hsz1 : (s2.size : Int) <= 3000 := by omega
       obtain ⟨sz, hsz⟩ : ∃ sz : Int, sz = (s2.size : Int) := ⟨_, rfl⟩
       have Hsz := Lib.hid (fun (_ : Unit) => hsz)
       have hn0 : 0 < n := by omega
       clear q4 q5
       by_cases c1 : l.fields <= (F.length : Int)
       ·have HE := Lib.hid (HQ5.out.1 (.inl c1))
        have hcmp : FL < (F.length : Int) + 1 := by rw [HFL.out ()]; unfold mx; omega
        clear HQ5 hsz
        go_wp2_with fail
        go_quiet ((go_at_call 35; first | exact Calls.quiet_of_same ((HLf.out _).mono fun e w' h => ⟨h.1, h.2.symm⟩) | exact Calls.quiet_of_same ((HLh.out _).mono fun e w' h => ⟨h.1, h.2.symm⟩)))
        have HBx3 := Lib.hid (HBx2.out.drewN nq)
        have HBB3 := Lib.hid (below_drewN HBB2.out nq)
        go_wp2_with fail
        refine (HWg.out 431 ((n : Int) - 1) _).mono ?_
        rintro e wg ⟨rfl, bg⟩
        have HBxg := Lib.hid (HBx3.out.below bg)
        have HBBg := Lib.hid (HBB3.out.trans (bg.mono HBB3.out.size))
        clear bg
        go_wp2_with (refine wpList_store_box (n := 9) Tryz.oneSize rfl _ _ rfl (g := rb) (vs := oneL 1 ⟨#[]⟩ ⟨#[]⟩ 0 (.slice none 0 0) (.slice none 0 0) 0 431 ((n : Int) - 1)) rfl rfl HBxg.out rfl rfl (one_one _ _ _ _ _ _ _ _ _ _ _ _ _) ?_)
        intro wz bz oz
        go_wp2
        have HBz := Lib.hid (HBBg.out.trans (only_eq_below oz Hrb.out HBBg.out.size))
        refine bodyPost_ret (v := .agg (oneL 1 ⟨#[]⟩ ⟨#[]⟩ 0 (.slice none 0 0) (.slice none 0 0) 0 431 ((n : Int) - 1)).toArray) ?_ rfl (onReq_bad HE.out (by omega) HBz.out)
        exact results_cellC Tryz.oneSize Tryz.oneAgg Tryz.results24 _ _ rfl bz.vals rfl
       ·have hcmp : decide (FL < (F.length : Int) + 1) = false := decide_eq_false (by rw [HFL.out ()]; unfold mx; omega)
        by_cases c2 : l.head < (n2 : Int) + ((s2.size : Int) + 2)
        ·have HE := Lib.hid (HQ5.out.1 (.inr c2))
         have hcmp2 : decide (HD < (n2 : Int) + (s2.size : Int) + 2) = true := decide_eq_true (by rw [HHD.out ()]; unfold mx; omega)
         clear HQ5 hsz
         go_wp2_with fail
         go_quiet ((go_at_call 35; first | exact Calls.quiet_of_same ((HLf.out _).mono fun e w' h => ⟨h.1, h.2.symm⟩) | exact Calls.quiet_of_same ((HLh.out _).mono fun e w' h => ⟨h.1, h.2.symm⟩)))
         have HBx3 := Lib.hid (HBx2.out.drewN nq)
         have HBB3 := Lib.hid (below_drewN HBB2.out nq)
         go_wp2_with fail
         refine (HWg.out 431 ((n : Int) - 1) _).mono ?_
         rintro e wg ⟨rfl, bg⟩
         have HBxg := Lib.hid (HBx3.out.below bg)
         have HBBg := Lib.hid (HBB3.out.trans (bg.mono HBB3.out.size))
         clear bg
         go_wp2_with (refine wpList_store_box (n := 9) Tryz.oneSize rfl _ _ rfl (g := rb) (vs := oneL 1 ⟨#[]⟩ ⟨#[]⟩ 0 (.slice none 0 0) (.slice none 0 0) 0 431 ((n : Int) - 1)) rfl rfl HBxg.out rfl rfl (one_one _ _ _ _ _ _ _ _ _ _ _ _ _) ?_)
         intro wz bz oz
         go_wp2
         have HBz := Lib.hid (HBBg.out.trans (only_eq_below oz Hrb.out HBBg.out.size))
         refine bodyPost_ret (v := .agg (oneL 1 ⟨#[]⟩ ⟨#[]⟩ 0 (.slice none 0 0) (.slice none 0 0) 0 431 ((n : Int) - 1)).toArray) ?_ rfl (onReq_bad HE.out (by omega) HBz.out)
         exact results_cellC Tryz.oneSize Tryz.oneAgg Tryz.results24 _ _ rfl bz.vals rfl
        ·have hcmp2 : decide (HD < (n2 : Int) + (s2.size : Int) + 2) = false := decide_eq_false (by rw [HHD.out ()]; unfold mx; omega)
         have HQ6 := Lib.hid (HQ5.out.2 (fun a => a.elim c1 c2))
         have HPx := Lib.hid (fun V => HPar.out s2 V (by omega))
         have Hn3 := Lib.hid (show (n2 : Int) + (s2.size : Int) + 2 = ((n2 + (s2.size + 2) : Nat) : Int) by omega)
         clear HQ5 hsz
         cases ho : outS s2 with
         | bad a =>
          have HE := Lib.hid (HQ6.out.2 a ho)
          have ha := outS_bad_ge ho
          rw [ho] at HPx
          unfold RefTo refV fldV at HPx
          clear HQ6 ho
          go_wp2_with fail
          go_quiet ((go_at_call 35; first | exact Calls.quiet_of_same ((HLf.out _).mono fun e w' h => ⟨h.1, h.2.symm⟩) | exact Calls.quiet_of_same ((HLh.out _).mono fun e w' h => ⟨h.1, h.2.symm⟩)))
          have HBx3 := Lib.hid (HBx2.out.drewN nq)
          have HBB3 := Lib.hid (below_drewN HBB2.out nq)
          go_wp2_with fail
          refine (HPx.out _).mono ?_
          rintro e w5 ⟨rfl, b5⟩
          have HBx4 := Lib.hid (HBx3.out.below b5)
          have HBB4 := Lib.hid (HBB3.out.trans (b5.mono HBB3.out.size))
          have H5 := Lib.hid (Box.new w5 (fldL ⟨#[]⟩ ⟨#[]⟩) 53)
          clear b5
          go_wp2_with (refine wpList_store_box (n := 2) Tryz.fldSize rfl _ _ rfl (g := w5.heap.size) (vs := fldL ⟨#[]⟩ ⟨#[]⟩) rfl rfl H5.out rfl rfl (fld_one _ _) ?_)
          intro w6 b6 o6
          have B6 := (show Below w5.heap.size w5 w6 from ((Below.refl _ _).alloc (Nat.le_refl _) _).trans (only_eq_below o6 (Nat.le_refl _) (by simp)))
          have HBx5 := Lib.hid (HBx4.out.below B6)
          have HBB5 := Lib.hid (HBB4.out.trans (B6.mono HBB4.out.size))
          clear b6 o6 B6
          go_wp2_with fail
          refine (HWg.out 400 ((n : Int) - 1) _).mono ?_
          rintro e wg ⟨rfl, bg⟩
          have HBxg := Lib.hid (HBx5.out.below bg)
          have HBBg := Lib.hid (HBB5.out.trans (bg.mono HBB5.out.size))
          clear bg
          go_wp2_with (refine wpList_store_box (n := 9) Tryz.oneSize rfl _ _ rfl (g := rb) (vs := oneL 1 ⟨#[]⟩ ⟨#[]⟩ 0 (.slice none 0 0) (.slice none 0 0) 0 400 ((n : Int) - 1)) rfl rfl HBxg.out rfl rfl (one_one _ _ _ _ _ _ _ _ _ _ _ _ _) ?_)
          intro wz bz oz
          go_wp2
          have HBz := Lib.hid (HBBg.out.trans (only_eq_below oz Hrb.out HBBg.out.size))
          refine bodyPost_ret (v := .agg (oneL 1 ⟨#[]⟩ ⟨#[]⟩ 0 (.slice none 0 0) (.slice none 0 0) 0 400 ((n : Int) - 1)).toArray) ?_ rfl (onReq_bad HE.out (by omega) HBz.out)
          exact results_cellC Tryz.oneSize Tryz.oneAgg Tryz.results24 _ _ rfl bz.vals rfl
         | fld N V =>
          have HE := Lib.hid (HQ6.out.1 N V ho)
          rw [ho] at HPx
          unfold RefTo refV fldV at HPx
          clear HQ6 ho
          go_wp2_with fail
          go_quiet ((go_at_call 35; first | exact Calls.quiet_of_same ((HLf.out _).mono fun e w' h => ⟨h.1, h.2.symm⟩) | exact Calls.quiet_of_same ((HLh.out _).mono fun e w' h => ⟨h.1, h.2.symm⟩)))
          have HBh3 := Lib.hid (HBh.out.drewN nq)
          have HF3 := Lib.hid (show OwnFlds (wr.drewN nq) (gh + 1) (.slice pf F.length cf) F from HF.out)
          have HB3 := Lib.hid (below_drewN HBl.out nq)
          go_wp2_with fail
          refine (HPx.out _).mono ?_
          rintro e w5 ⟨rfl, b5⟩
          have HBh4 := Lib.hid (HBh3.out.below b5)
          have HF4 := Lib.hid (HF3.out.below b5)
          have hsl := HBh.out.lt (by simp)
          have HB4 := Lib.hid (HB3.out.trans (b5.mono (show gh <= wr.heap.size by omega)))
          have H5 := Lib.hid (Box.new w5 (fldL ⟨#[]⟩ ⟨#[]⟩) 53)
          have hsz5 : wr.heap.size <= w5.heap.size := b5.size
          clear b5
          go_wp2_with (refine wpList_store_box (n := 2) Tryz.fldSize rfl _ _ rfl (g := w5.heap.size) (vs := fldL N V) rfl rfl H5.out rfl rfl (fld_one _ _) ?_)
          intro w6 b6 o6
          have B6 := (show Below w5.heap.size w5 w6 from ((Below.refl _ _).alloc (Nat.le_refl _) _).trans (only_eq_below o6 (Nat.le_refl _) (by simp)))
          have HBh5 := Lib.hid (HBh4.out.below B6)
          have HF5 := Lib.hid (HF4.out.below B6)
          have HB5 := Lib.hid (HB4.out.trans (B6.mono (show gh <= w5.heap.size by omega)))
          have g0 : w6.cell? ⟨w5.heap.size, 0, none⟩ = some (.string N) := b6.cell rfl
          have g1 : w6.cell? ⟨w5.heap.size, 1, none⟩ = some (.string V) := b6.cell rfl
          have e36 : w6.cell? ⟨gh, 3, none⟩ = some (.slice pf F.length cf) := HBh5.out.cell rfl
          have hghw : gh < w6.heap.size := HBh5.out.lt (by simp)
          have Hghw := Lib.hid hghw
          clear b6 o6 B6 d1 d2 e3 hsl hsz5
          go_wp2_with (refine wpList_append_at Tryz.eFld rfl _ _ rfl (gh + 1) (w6.alloc (.cells #[.string N, .string V] 53)) (.slice pf F.length cf) F.length (fldVals F) rfl (World.ownsRow.alloc HF5.out _) (.slice (some ⟨w6.heap.size, 0, none⟩) 1 1) 1 (fldL N V) rfl (SrcAt.new w6 (fldL N V) 53 2 rfl) (fld_one N V) (by omega) (by omega) (by have := Hghw.out; simp; omega) ?_)
          intro v' w7 h1 h2 h3
          have hB7 := HBh5.out.only (S := fun j => (Value.slice pf F.length cf).ownBlock = some j) ((Only.refl _ w6).grown (grownBy_from ((Below.refl _ _).alloc (Nat.le_refl _) _) h2) fun j hj _ => hj) (fun e => by have := own_ge HF5.out gh e; omega)
          have ho7 := ownFlds_more h1
          obtain ⟨pv, cv, hv'⟩ := ho7.sliced
          rw [List.length_append, List.length_cons, List.length_nil, Nat.zero_add] at hv'
          subst hv'
          have HO8 := Lib.hid (own_keep ho7 ((Only.refl (fun j => j = gh) w7).setCell (p := ⟨gh, 3, none⟩) (fun _ => rfl) (.slice pv (F.length + 1) cv)) (by omega))
          have HB8 := Lib.hid (hB7.set 3 (.slice pv (F.length + 1) cv) (by simp))
          have B8 := Lib.hid (show Below gh w3 (w7.setCell ⟨gh, 3, none⟩ (.slice pv (F.length + 1) cv)) from ((HB5.out.grown (grownBy_from ((Below.refl _ _).alloc (Nat.le_refl _) _) h2) (by omega) fun j hj => by have := own_ge HF5.out j hj; omega)).setCell (p := ⟨gh, 3, none⟩) (Nat.le_refl _) _)
          have e37 : w7.cell? ⟨gh, 3, none⟩ = some (.slice pf F.length cf) := hB7.cell rfl
          have q37 : w7.frozen? ⟨gh, 3, none⟩ = false := hB7.free 3 (by simp)
          clear h1 h2 h3 hB7 ho7 e36 g0 g1
          go_wp2_with fail
          go_roundw
          case rel => exact ⟨n, F ++ [(N, V)], n2 + (s2.size + 2), .slice pv (F.length + 1) cv, q2, by go_num, by first | go_num | (rw [Hn3.out]), HE.out.1, HE.out.2, HB8.out, HO8.out, B8.out⟩
          case measure => simp [intOf]; omega
end Go.Proofs.YtpplgdnklpchkaaGreatDoor
