/- Texts of one seat, merged: FrmI, FrmA, FrmB. -/
import Derived.Test.YtpplgdnklpchkaaGreatDoorQB
import Derived.Test.YtpplgdnklpchkaaGreatDoorQB2
import Derived.Test.YtpplgdnklpchkaaGreatDoorQHedC
import Derived.Test.YtpplgdnklpchkaaGreatDoorQCG
namespace Go.Proofs.YtpplgdnklpchkaaGreatDoor
set_option linter.all false
open Go.RowKit
structure Hd where
 A : ByteArray
 B : ByteArray
 m : Int
 F : List FB
 n : Nat
noncomputable def outO (s : ByteArray) : OutR := Classical.choose (is_some s)
theorem outO_is (s : ByteArray) : Is s (outO s) := Classical.choose_spec (is_some s)
noncomputable def firstH (s : ByteArray) : Except Int Hd := match outO s with
 | .line A B m => .ok ⟨A, B, m, [], 0⟩
 | .bad st _ => .error st
def moreH (l : Lim) (h : Hd) (s : ByteArray) : Except Int Hd :=
 if l.fields <= (h.F.length : Int) \/ l.head < (h.n : Int) + ((s.size : Int) + 2) then .error 431
 else match outS s with
  | .fld N V => .ok ⟨h.A, h.B, h.m, h.F ++ [(N, V)], h.n + (s.size + 2)⟩
  | .bad _ => .error 400
def chkE (l : Lim) (h : Hd) : ByteArray × HE := firstE (ckL h.m h.F h.A (mx l.body))
def chkV (l : Lim) (h : Hd) : Int × Int := frameV (valsH h.F nTE) (valsH h.F nCL) (mx l.body)
def checkH (l : Lim) (h : Hd) : Except Int FrK := match (chkE l h).2 with
 | .ok => if (chkV l h).1 = 2 then .ok .chunked else .ok (.len (chkV l h).2.toNat)
 | .st s => .error s
 | .at_ s _ => .error s
noncomputable def frF (l : Lim) : Fr Hd := ⟨l.line.toNat, firstH, moreH l, checkH l, newG l⟩
theorem frF_taken (l : Lim) : (frF l).chunk.taken = 0 := rfl
theorem frameV_range (T C : List ByteArray) (most : Int) (h0 : 0 <= most) : 0 <= (frameV T C most).2 /\ (frameV T C most).2 <= most := by
 unfold frameV
 split
 ·exact ⟨Int.le_refl _, h0⟩
 ·split
  ·next y =>
   cases hn : num digV 10 most y.data.toList with
   | ok n => exact num_range digits10 hn
   | bad k => exact ⟨Int.le_refl _, h0⟩
   | great => exact ⟨Int.le_refl _, h0⟩
  ·exact ⟨Int.le_refl _, h0⟩
inductive TR (H : Type)
 | go (r : RS) (p : FP H)
 | comp (h : H) (d : List UInt8) (r : RS)
 | bad (s : Int)
variable {H : Type}
def headT (F : Fr H) (k : Nat) (r : RS) (h : H) : TR H := match F.check h with
 | .error s => .bad s
 | .ok (.len n) => if n = 0 then .comp h [] r else .go r (.len h n [])
 | .ok .chunked => .go r (.chk h (F.chunk.from_ k))
def lineT (F : Fr H) (p : FP H) (s : ByteArray) (k : Nat) : TR H := match p with
 | .flds h => if s.size = 0 then headT F k (bnd s) h else match F.more h s with
  | .ok h' => .go (bnd s) (.flds h')
  | .error st => .bad st
 | _ => if s.size = 0 then .go (bnd s) .start else match F.first s with
  | .ok h => .go (bnd s) (.flds h)
  | .error st => .bad st
def textT (F : Fr H) (k : Nat) (r : RS) (p : FP H) (c : UInt8) : TR H :=
 if (stepR F.m r c).st = 1 then lineT F p (stepR F.m r c).last (k + 1)
 else if (stepR F.m r c).st = 2 then .bad 400
 else if (stepR F.m r c).st = 3 then .bad (longF p)
 else .go (stepR F.m r c) p
def takeT (F : Fr H) (k : Nat) (r : RS) : FP H -> UInt8 -> TR H
 | .start, c => textT F k r .start c
 | .flds h, c => textT F k r (.flds h) c
 | .len h n d, c => if n = 1 then .comp h (d ++ [c]) r else .go r (.len h (n - 1) (d ++ [c]))
 | .chk h g, c => match stepG F.m (g.from_ 0) c with
  | .go g' => .go r (.chk h g')
  | .done _ d => .comp h d r
  | .bad s _ => .bad s
def ofT (nx k : Nat) (L : List (H × List UInt8)) : TR H -> FS H
 | .go r p => .go nx (k + 1) L r p
 | .comp h d r => .go (k + 1) (k + 1) (L ++ [(h, d)]) r .start
 | .bad s => .bad s k nx L
theorem from_zero (g : GS) : g.from_ 0 = g := by unfold GS.from_; rw [Nat.zero_add]
theorem headF_T (F : Fr H) (nx k : Nat) (L : List (H × List UInt8)) (r : RS) (h : H) : headF F nx (k + 1) L r h = ofT nx k L (headT F (k + 1) r h) := by
 unfold headF headT
 cases F.check h with
 | error s => rfl
 | ok q =>
  cases q with
  | len n =>
   simp only
   split
   ·rfl
   ·rfl
  | chunked => rfl
theorem lineF_T (F : Fr H) (nx k : Nat) (L : List (H × List UInt8)) (p : FP H) (s : ByteArray) : lineF F nx L p s (k + 1) = ofT nx k L (lineT F p s (k + 1)) := by
 cases p with
 | flds h =>
  unfold lineF lineT
  simp only
  split
  ·exact headF_T F nx k L _ h
  ·cases F.more h s <;> rfl
 | start =>
  unfold lineF lineT
  simp only
  split
  ·rfl
  ·cases F.first s <;> rfl
 | len h n d =>
  unfold lineF lineT
  simp only
  split
  ·rfl
  ·cases F.first s <;> rfl
 | chk h g =>
  unfold lineF lineT
  simp only
  split
  ·rfl
  ·cases F.first s <;> rfl
theorem textF_T (F : Fr H) (nx k : Nat) (L : List (H × List UInt8)) (r : RS) (p : FP H) (c : UInt8) : txtF F nx k L r p c = ofT nx k L (textT F k r p c) := by
 unfold txtF textT
 split
 ·exact lineF_T F nx k L p _
 ·split
  ·rfl
  ·split
   ·rfl
   ·rfl
def Fit (k : Nat) : FP H -> Prop
 | .chk _ g => g.taken = k
 | _ => True
theorem stepF_T (F : Fr H) (nx k : Nat) (L : List (H × List UInt8)) (r : RS) (p : FP H) (c : UInt8) (hk : Fit k p) : stepF F (.go nx k L r p) c = ofT nx k L (takeT F k r p c) := by
 cases p with
 | start => exact textF_T F nx k L r .start c
 | flds h => exact textF_T F nx k L r (.flds h) c
 | len h n d =>
  show (if n = 1 then _ else _) = ofT nx k L (if n = 1 then _ else _)
  split <;> rfl
 | chk h g =>
  have hk : g.taken = k := hk
  have hf := stepG_fits (m := F.m) (g := g) (c := c)
  show (match stepG F.m g c with | .go g' => _ | .done _ d => _ | .bad s j => _) = ofT nx k L (match stepG F.m (g.from_ 0) c with | .go g' => _ | .done _ d => _ | .bad s _ => _)
  rw [from_zero]
  cases e : stepG F.m g c with
  | go g' => rfl
  | done n d => rfl
  | bad s j =>
   rw [e] at hf
   have : j = g.taken := hf
   show FS.bad s j nx L = FS.bad s k nx L
   rw [this, hk]
def totR (r : RS) : Nat := r.text.length + if r.ends = true then 1 else 0
theorem takeR_tot {m : Nat} {r : RS} {c : UInt8} : ((takeR m r c).st = 0 -> totR (takeR m r c) <= totR r + 1) /\ ((takeR m r c).st = 1 -> (takeR m r c).last.size + 2 <= totR r + 1) := by
 unfold takeR totR
 split
 ·next he =>
  split
  ·refine ⟨(fun h => by cases h), fun _ => ?_⟩
   show r.text.toArray.size + 2 <= _
   simp [he]
  ·exact ⟨(fun h => by cases h), (fun h => by cases h)⟩
 ·next he =>
  split
  ·exact ⟨(fun h => by cases h), (fun h => by cases h)⟩
  ·split
   ·refine ⟨fun _ => ?_, (fun h => by cases h)⟩
    simp [he]
   ·split
    ·exact ⟨(fun h => by cases h), (fun h => by cases h)⟩
    ·refine ⟨fun _ => ?_, (fun h => by cases h)⟩
     simp [he]
structure HdOk (k : Nat) (h : Hd) : Prop where
 few : 3 * h.F.length <= h.n
 sz : ∀ f ∈ h.F, f.1.size <= h.n /\ f.2.size <= h.n
 a : h.A.size <= k
 b : h.B.size <= k
 n : h.n <= k
theorem HdOk.more {k j : Nat} {h : Hd} (o : HdOk k h) (hk : k <= j) : HdOk j h := ⟨o.few, o.sz, by have := o.a; omega, by have := o.b; omega, by have := o.n; omega⟩
theorem HdOk.fewF {k : Nat} {h : Hd} (o : HdOk k h) (hk : k <= 3000) : FewF h.F := by
 have := o.few
 have := o.n
 exact ⟨by omega, fun f hf => by have := o.sz f hf; omega⟩
def LiveP (l : Lim) (k : Nat) (r : RS) : FP Hd -> Prop
 | .start => (r.st = 0 \/ r.st = 1) /\ totR r <= k
 | .flds h => (r.st = 0 \/ r.st = 1) /\ h.n + totR r <= k /\ HdOk k h
 | .len h n d => (∃ x, r = bnd x) /\ HdOk k h /\ 0 < n /\ (n : Int) <= mx l.body /\ d.length <= k
 | .chk h g => (∃ x, r = bnd x) /\ HdOk k h /\ g.taken = k /\ Live g
theorem LiveP.fit {l : Lim} {k : Nat} {r : RS} {p : FP Hd} (h : LiveP l k r p) : Fit k p := by
 cases p with
 | chk hd g => exact h.2.2.1
 | _ => trivial
theorem LiveP.len {l : Lim} {k : Nat} {r : RS} {p : FP Hd} (h : LiveP l k r p) : r.text.length <= k := by
 cases p with
 | start => have := h.2; unfold totR at this; omega
 | flds hd => have := h.2.1; unfold totR at this; omega
 | len hd n d => obtain ⟨x, rfl⟩ := h.1; exact Nat.zero_le _
 | chk hd g => obtain ⟨x, rfl⟩ := h.1; exact Nat.zero_le _
def LiveT (l : Lim) (k : Nat) : TR Hd -> Prop
 | .go r p => LiveP l (k + 1) r p
 | .comp h d r => HdOk (k + 1) h /\ (∃ x, r = bnd x) /\ d.length <= k + 1
 | .bad _ => True
theorem tot_bnd (x : ByteArray) : totR (bnd x) = 0 := rfl
theorem headT_live {l : Lim} (hl : LimR l) {k : Nat} {x : ByteArray} {h : Hd} (o : HdOk (k + 1) h) : LiveT l k (headT (frF l) (k + 1) (bnd x) h) := by
 unfold headT
 show LiveT l k (match checkH l h with | .error s => _ | .ok (.len n) => _ | .ok .chunked => _)
 have hr := frameV_range (valsH h.F nTE) (valsH h.F nCL) (mx l.body) (by unfold mx; omega)
 cases e : checkH l h with
 | error s => trivial
 | ok q =>
  cases q with
  | len n =>
   have hn : n = (chkV l h).2.toNat := by
    unfold checkH at e
    split at e
    ·split at e
     ·cases e
     ·injection e with e; injection e with e; exact e.symm
    ·cases e
    ·cases e
   simp only
   split
   ·exact ⟨o, ⟨x, rfl⟩, Nat.zero_le _⟩
   ·refine ⟨⟨x, rfl⟩, o, by omega, ?_, Nat.zero_le _⟩
    have h2 : (chkV l h).2 = (frameV (valsH h.F nTE) (valsH h.F nCL) (mx l.body)).2 := rfl
    omega
  | chunked =>
   refine ⟨⟨x, rfl⟩, o, rfl, ?_⟩
   have := newG_live hl
   exact ⟨this.st, this.rd, Nat.zero_le _, this.sz, this.szt, this.b0, this.b1, this.f0, this.f1, this.h0, this.h1, Nat.zero_le _⟩
theorem firstH_ok {s : ByteArray} {h : Hd} (e : firstH s = .ok h) : h.F = [] /\ h.n = 0 /\ h.A.size + h.B.size <= s.size := by
 unfold firstH at e
 have hi := outO_is s
 cases ho : outO s with
 | bad st a => rw [ho] at e; cases e
 | line A B m =>
  rw [ho] at e hi
  injection e with e
  subst e
  obtain ⟨_, C, h3, _⟩ := is_text hi
  have := h3.size
  exact ⟨rfl, rfl, by show A.size + B.size <= s.size; omega⟩
theorem moreH_ok {l : Lim} {h h' : Hd} {s : ByteArray} (e : moreH l h s = .ok h') : ∃ N V, outS s = .fld N V /\ h' = ⟨h.A, h.B, h.m, h.F ++ [(N, V)], h.n + (s.size + 2)⟩ /\ ¬ (l.fields <= (h.F.length : Int) \/ l.head < (h.n : Int) + ((s.size : Int) + 2)) := by
 unfold moreH at e
 split at e
 ·cases e
 ·next hn =>
  cases ho : outS s with
  | bad a => rw [ho] at e; cases e
  | fld N V => rw [ho] at e; injection e with e; exact ⟨N, V, rfl, e.symm, hn⟩
theorem lineT_live {l : Lim} (hl : LimR l) {k : Nat} {s : ByteArray} {p : FP Hd} (hp : p = .start /\ s.size + 2 <= k + 1 \/ ∃ h, p = .flds h /\ h.n + (s.size + 2) <= k + 1 /\ HdOk k h) : LiveT l k (lineT (frF l) p s (k + 1)) := by
 rcases hp with ⟨rfl, hs⟩ | ⟨h, rfl, hs, o⟩
 ·unfold lineT
  simp only
  split
  ·exact ⟨.inr rfl, Nat.zero_le _⟩
  ·rw [show (frF l).first s = firstH s from rfl]
   cases e : firstH s with
   | error st => trivial
   | ok h =>
    obtain ⟨e1, e2, e3⟩ := firstH_ok e
    refine ⟨.inr rfl, by rw [tot_bnd, e2]; omega, ?_⟩
    exact ⟨by rw [e1]; simp, (by rw [e1]; intro f hf; cases hf), by omega, by omega, by omega⟩
 ·unfold lineT
  simp only
  split
  ·exact headT_live hl (o.more (Nat.le_succ _))
  ·rw [show (frF l).more h s = moreH l h s from rfl]
   cases e : moreH l h s with
   | error st => trivial
   | ok h' =>
    obtain ⟨N, V, e1, rfl, _⟩ := moreH_ok e
    have hz := fld_size e1
    have hfw := o.few
    refine ⟨.inr rfl, by show h.n + (s.size + 2) + totR (bnd s) <= k + 1; rw [tot_bnd]; omega, ?_⟩
    refine ⟨?_, ?_, by have := o.a; show h.A.size <= k + 1; omega, by have := o.b; show h.B.size <= k + 1; omega, hs⟩
    ·show 3 * (h.F ++ [(N, V)]).length <= h.n + (s.size + 2)
     rw [List.length_append, List.length_singleton]; omega
    ·show ∀ f ∈ h.F ++ [(N, V)], f.1.size <= h.n + (s.size + 2) /\ f.2.size <= h.n + (s.size + 2)
     intro f hf
     rcases List.mem_append.1 hf with hf | hf
     ·have := o.sz f hf; omega
     ·rw [List.mem_singleton] at hf
      subst hf
      show N.size <= _ /\ V.size <= _
      omega
theorem textT_live {l : Lim} (hl : LimR l) {k : Nat} {r : RS} {p : FP Hd} {c : UInt8} (hp : p = .start \/ ∃ h, p = .flds h) (h : LiveP l k r p) : LiveT l k (textT (frF l) k r p c) := by
 have hr : r.st = 0 \/ r.st = 1 := by rcases hp with rfl | ⟨h', rfl⟩ <;> exact h.1
 have hw : r.wrong = false := by rw [wrong_false]; omega
 have ht := takeR_tot (m := l.line.toNat) (r := r) (c := c)
 have h3 : (stepR l.line.toNat r c).st <= 3 := stepR_st c (by omega)
 unfold textT
 rw [show (frF l).m = l.line.toNat from rfl]
 rw [stepR_take c hw] at *
 split
 ·next h1 =>
  refine lineT_live hl ?_
  rcases hp with rfl | ⟨h', rfl⟩
  ·have := h.2; have := ht.2 h1; exact .inl ⟨rfl, by omega⟩
  ·have := h.2.1; have := ht.2 h1; exact .inr ⟨h', rfl, by omega, h.2.2⟩
 ·split
  ·trivial
  ·split
   ·trivial
   ·have hz : (takeR l.line.toNat r c).st = 0 := by omega
    have h5 := ht.1 hz
    rcases hp with rfl | ⟨h', rfl⟩
    ·have := h.2; exact ⟨.inl hz, by omega⟩
    ·have := h.2.1; exact ⟨.inl hz, by omega, h.2.2.more (Nat.le_succ _)⟩
theorem takeT_live {l : Lim} (hl : LimR l) {k : Nat} {r : RS} {p : FP Hd} {c : UInt8} (h : LiveP l k r p) : LiveT l k (takeT (frF l) k r p c) := by
 cases p with
 | start => exact textT_live hl (.inl rfl) h
 | flds hd => exact textT_live hl (.inr ⟨hd, rfl⟩) h
 | len hd n d =>
  obtain ⟨hx, o, h0, hm, hd'⟩ := h
  show LiveT l k (if n = 1 then _ else _)
  split
  ·exact ⟨o.more (Nat.le_succ _), hx, by simp; omega⟩
  ·exact ⟨hx, o.more (Nat.le_succ _), by omega, by omega, by simp; omega⟩
 | chk hd g =>
  obtain ⟨hx, o, hk, hg⟩ := h
  have hf := stepG_fits (m := l.line.toNat) (g := g) (c := c)
  show LiveT l k (match stepG l.line.toNat (g.from_ 0) c with | .go g' => _ | .done _ d => _ | .bad s _ => _)
  rw [from_zero]
  cases e : stepG l.line.toNat g c with
  | go g' =>
   rw [e] at hf
   have : g'.taken = g.taken + 1 := hf
   exact ⟨hx, o.more (Nat.le_succ _), by omega, stepG_live hg e⟩
  | done n d =>
   have := stepG_data hg e
   exact ⟨o.more (Nat.le_succ _), hx, by omega⟩
  | bad s j => trivial
end Go.Proofs.YtpplgdnklpchkaaGreatDoor
namespace Go.Proofs.YtpplgdnklpchkaaGreatDoor
set_option linter.all false
open Go.RowKit
def Own (ρ : Nat -> Nat) (k : Nat) : Prop := 1 <= ρ k /\ ρ k <= 6
structure Upd (ρ : Nat -> Nat) (w : World) (ρ' : Nat -> Nat) (w' : World) : Prop where
 only : Only (Own ρ) w w'
 same : ∀ k, k < w.heap.size -> ρ' k = ρ k
theorem Upd.refl (ρ : Nat -> Nat) (w : World) : Upd ρ w ρ w := ⟨Only.refl _ _, fun _ _ => rfl⟩
theorem Upd.trans {ρ ρ1 ρ2 : Nat -> Nat} {a b c : World} (h : Upd ρ a ρ1 b) (k : Upd ρ1 b ρ2 c) : Upd ρ a ρ2 c :=
 ⟨h.only.trans k.only fun i hi ho => by unfold Own at *; rw [h.same i hi] at ho; exact ho, fun i hi => (k.same i (Nat.lt_of_lt_of_le hi h.only.size)).trans (h.same i hi)⟩
theorem Upd.drew {ρ ρ' : Nat -> Nat} {a b : World} (h : Upd ρ a ρ' b) : Upd ρ a ρ' b.drew := ⟨h.only.drew, h.same⟩
theorem Upd.below {ρ : Nat -> Nat} {a b : World} (h : Below a.heap.size a b) : Upd ρ a ρ b := ⟨Only.of_below h, fun _ _ => rfl⟩
theorem Upd.put {ρ ρ' : Nat -> Nat} {a b : World} (h : Upd ρ a ρ' b) {p : Nat} (i : Nat) (u : Value) (hp : ρ' p = 1) : Upd ρ a ρ' (b.setCell ⟨p, i, none⟩ u) :=
 ⟨h.only.setCell (p := ⟨p, i, none⟩) (fun hl => by unfold Own; rw [<- h.same p hl, hp]; omega) u, h.same⟩
def upR (ρ : Nat -> Nat) (N j : Nat) : Nat -> Nat := fun k => if N <= k then j else ρ k
theorem upR_old {ρ : Nat -> Nat} {N j k : Nat} (h : k < N) : upR ρ N j k = ρ k := if_neg (by omega)
theorem upR_new {ρ : Nat -> Nat} {N j k : Nat} (h : N <= k) : upR ρ N j k = j := if_pos h
def frmL (l : Lim) (rp : Nat) (st : Int) (A B : ByteArray) (m : Int) (fv : Value) (n : Nat) (lk : Int) (bv dv : Value) (tk en : Nat) : List Value :=
 [.int .i64 l.line, .int .i64 l.head, .int .i64 l.fields, .int .i64 l.body, .pointer (some ⟨rp, 0, none⟩), .int .i64 st, .string A, .string B, .int .i64 m, fv, .int .i64 (n : Int), .int .i64 lk, bv, dv, .int .i64 (tk : Int), .int .i64 (en : Int), .nilIface]
structure GlobR (ρ : Nat -> Nat) : Prop where
 g0 : ρ 0 = 0
 g1 : ρ 1 = 0
 g2 : ρ 4 = 0
structure GlobW (w : World) : Prop where
 gm : GlobM w
 ms : Missing w
theorem Missing.only {S : Nat -> Prop} {w w' : World} (h : Missing w) (ho : Only S w w') (hf : ¬ S 4) : Missing w' := by
 obtain ⟨q, hq⟩ := h
 exact ⟨q, ho.cell hq hf⟩
theorem GlobW.below {w w' : World} (h : GlobW w) (hb : Below w.heap.size w w') : GlobW w' := ⟨h.gm.below hb, h.ms.below hb⟩
theorem GlobW.lt {w : World} (h : GlobW w) : 0 < w.heap.size /\ 1 < w.heap.size /\ 4 < w.heap.size := by
 obtain ⟨⟨h1, m, h2⟩, q, h3⟩ := h
 exact ⟨World.block_lt_of_cell? w _ h1, World.block_lt_of_cell? w _ h2, World.block_lt_of_cell? w _ h3⟩
theorem GlobW.upd {ρ ρ' : Nat -> Nat} {w w' : World} (h : GlobW w) (g : GlobR ρ) (u : Upd ρ w ρ' w') : GlobW w' :=
 ⟨h.gm.only u.only ⟨by unfold Own; rw [g.g0]; omega, by unfold Own; rw [g.g1]; omega⟩, h.ms.only u.only (by unfold Own; rw [g.g2]; omega)⟩
theorem GlobR.upd {ρ ρ' : Nat -> Nat} {w w' : World} (g : GlobR ρ) (h : GlobW w) (u : Upd ρ w ρ' w') : GlobR ρ' := by
 obtain ⟨a, b, c⟩ := h.lt
 exact ⟨(u.same _ a).trans g.g0, (u.same _ b).trans g.g1, (u.same _ c).trans g.g2⟩
structure FrmX (ρ : Nat -> Nat) (w : World) (p : Nat) (l : Lim) (tk en : Nat) (r : RS) (st : Int) (h : Hd) (lk : Int) (d : List UInt8) (rp : Nat) (v fv bv dv : Value) : Prop where
 box : Box w p (frmL l rp st h.A h.B h.m fv h.n lk bv dv tk en)
 rdr : RdrAt 0 w rp l.line.toNat r v
 fld : OwnFlds w 0 fv h.F
 own : OwnBytes w 0 bv d
 rp1 : ρ p = 1
 rr : ρ rp = 2
 rv : ∀ k, v.ownBlock = some k -> ρ k = 3
 rf : ∀ k, fv.ownBlock = some k -> ρ k = 4
 rb : ∀ k, bv.ownBlock = some k -> ρ k = 5
theorem OwnFlds.lt {w : World} {B : Nat} {v : Value} {L : List FB} (h : OwnFlds w B v L) {k : Nat} (hk : v.ownBlock = some k) : k < w.heap.size := (World.ownsRow.lt h k hk).2
section
variable {ρ ρ' : Nat -> Nat} {w w' : World} {p : Nat} {l : Lim} {tk en : Nat} {r : RS} {st : Int} {h : Hd} {lk : Int} {d : List UInt8} {rp : Nat} {v fv bv dv : Value}
theorem FrmX.lt (x : FrmX ρ w p l tk en r st h lk d rp v fv bv dv) : p < w.heap.size := x.box.lt (by simp [frmL])
theorem FrmX.only {S : Nat -> Prop} (x : FrmX ρ w p l tk en r st h lk d rp v fv bv dv) (ho : Only S w w') (hS : ∀ k, k < w.heap.size -> S k -> ¬ (1 <= ρ k /\ ρ k <= 5)) (hs : ∀ k, k < w.heap.size -> ρ' k = ρ k) : FrmX ρ' w' p l tk en r st h lk d rp v fv bv dv := by
 have hp := x.lt
 have hr : rp < w.heap.size := x.rdr.cells.lt
 have hv : ∀ k, v.ownBlock = some k -> k < w.heap.size := fun k hk => own_lt0 x.rdr.own hk
 have hf : ∀ k, fv.ownBlock = some k -> k < w.heap.size := fun k hk => x.fld.lt hk
 have hb : ∀ k, bv.ownBlock = some k -> k < w.heap.size := fun k hk => own_lt0 x.own hk
 refine ⟨x.box.only ho fun e => hS _ hp e (by rw [x.rp1]; omega), x.rdr.only ho (fun e => hS _ hr e (by rw [x.rr]; omega)) fun k hk e => hS _ (hv k hk) e (by rw [x.rv k hk]; omega),
  ho.own x.fld fun k hk e => hS _ (hf k hk) e (by rw [x.rf k hk]; omega), ho.own x.own fun k hk e => hS _ (hb k hk) e (by rw [x.rb k hk]; omega), (hs p hp).trans x.rp1, (hs rp hr).trans x.rr,
  fun k hk => (hs k (hv k hk)).trans (x.rv k hk), fun k hk => (hs k (hf k hk)).trans (x.rf k hk), fun k hk => (hs k (hb k hk)).trans (x.rb k hk)⟩
theorem FrmX.below (x : FrmX ρ w p l tk en r st h lk d rp v fv bv dv) (hb : Below w.heap.size w w') : FrmX ρ w' p l tk en r st h lk d rp v fv bv dv :=
 x.only (S := fun _ => False) (Only.of_below hb) (fun _ _ h => h.elim) fun _ _ => rfl
theorem FrmX.re (x : FrmX ρ w p l tk en r st h lk d rp v fv bv dv) (hs : ∀ k, k < w.heap.size -> ρ' k = ρ k) : FrmX ρ' w p l tk en r st h lk d rp v fv bv dv :=
 x.only (S := fun _ => False) (Only.refl _ _) (fun _ _ h => h.elim) hs
theorem FrmX.drew (x : FrmX ρ w p l tk en r st h lk d rp v fv bv dv) : FrmX ρ w.drew p l tk en r st h lk d rp v fv bv dv :=
 x.only (S := fun _ => False) (Only.refl _ _).drew (fun _ _ h => h.elim) fun _ _ => rfl
theorem FrmX.drewN (x : FrmX ρ w p l tk en r st h lk d rp v fv bv dv) (n : Nat) : FrmX ρ (w.drewN n) p l tk en r st h lk d rp v fv bv dv :=
 x.only (S := fun _ => False) ((Only.refl _ _).drewN n) (fun _ _ h => h.elim) fun _ _ => rfl
theorem FrmX.put (x : FrmX ρ w p l tk en r st h lk d rp v fv bv dv) (i : Nat) (u : Value) (hi : i < 17) {tk' en' : Nat} {st' : Int} {h' : Hd} {lk' : Int} {dv' : Value}
  (hg : (frmL l rp st h.A h.B h.m fv h.n lk bv dv tk en).set i u = frmL l rp st' h'.A h'.B h'.m fv h'.n lk' bv dv' tk' en') (hF : h'.F = h.F) :
  FrmX ρ (w.setCell ⟨p, i, none⟩ u) p l tk' en' r st' h' lk' d rp v fv bv dv' := by
 have hO : Only (fun k => k = p) w (w.setCell ⟨p, i, none⟩ u) := (Only.refl (fun k => k = p) w).setCell (p := ⟨p, i, none⟩) (fun _ => rfl) u
 have hb := x.box.set i u (by simpa [frmL] using hi)
 rw [hg] at hb
 have hne : ∀ k, 2 <= ρ k -> k ≠ p := fun k hk e => by subst e; rw [x.rp1] at hk; omega
 refine ⟨hb, x.rdr.only hO (hne _ (by rw [x.rr]; omega)) fun k hk => hne _ (by rw [x.rv k hk]; omega), ?_, hO.own x.own fun k hk => hne _ (by rw [x.rb k hk]; omega), x.rp1, x.rr, x.rv, x.rf, x.rb⟩
 rw [hF]
 exact hO.own x.fld fun k hk => hne _ (by rw [x.rf k hk]; omega)
theorem FrmX.moved (x : FrmX ρ w p l tk en r st h lk d rp v fv bv dv) {r' : RS} (hm : Moved 0 w w' rp l.line.toNat r' v) :
  ∃ ρ' v', FrmX ρ' w' p l tk en r' st h lk d rp v' fv bv dv /\ Upd ρ w ρ' w' /\ ∀ k, w.heap.size <= k -> ρ' k = 3 := by
 obtain ⟨v', hA, hO, hP⟩ := hm
 have hp := x.lt
 have hr : rp < w.heap.size := x.rdr.cells.lt
 have hv : ∀ k, v.ownBlock = some k -> k < w.heap.size := fun k hk => own_lt0 x.rdr.own hk
 have hf : ∀ k, fv.ownBlock = some k -> k < w.heap.size := fun k hk => x.fld.lt hk
 have hb : ∀ k, bv.ownBlock = some k -> k < w.heap.size := fun k hk => own_lt0 x.own hk
 have hne : ∀ k, ρ k ≠ 2 -> ρ k ≠ 3 -> ¬ (k = rp \/ v.ownBlock = some k) := by
  rintro k h2 h3 (e | e)
  ·exact h2 (by rw [e, x.rr])
  ·exact h3 (x.rv k e)
 refine ⟨upR ρ w.heap.size 3, v', ⟨x.box.only hO (hne _ (by rw [x.rp1]; omega) (by rw [x.rp1]; omega)), hA, hO.own x.fld fun k hk => hne _ (by rw [x.rf k hk]; omega) (by rw [x.rf k hk]; omega), hO.own x.own fun k hk => hne _ (by rw [x.rb k hk]; omega) (by rw [x.rb k hk]; omega),
  (upR_old hp).trans x.rp1, (upR_old hr).trans x.rr, ?_, fun k hk => (upR_old (hf k hk)).trans (x.rf k hk), fun k hk => (upR_old (hb k hk)).trans (x.rb k hk)⟩, ⟨hO.more ?_, fun k hk => upR_old hk⟩, fun k hk => upR_new hk⟩
 ·intro k hk
  rcases hP with hP | ⟨j, hj, hl⟩
  ·rw [hP] at hk; exact (upR_old (hv k hk)).trans (x.rv k hk)
  ·rw [hj] at hk; injection hk with hk; exact upR_new (by omega)
 ·rintro k (rfl | e)
  ·unfold Own; rw [x.rr]; omega
  ·unfold Own; rw [x.rv k e]; omega
theorem FrmX.more {w1 : World} {bv' : Value} {d' : List UInt8} (x : FrmX ρ w p l tk en r st h lk d rp v fv bv dv) (hown : OwnBytes w1 0 bv' d') (hg : w.grownBy w1 bv.ownBlock) (hpl : Placed w bv bv') :
  ∃ ρ', FrmX ρ' (w1.setCell ⟨p, 12, none⟩ bv') p l tk en r st h lk d' rp v fv bv' dv /\ Upd ρ w ρ' (w1.setCell ⟨p, 12, none⟩ bv') := by
 have hO : Only (fun k => bv.ownBlock = some k) w w1 := (Only.refl _ w).grown hg fun k hk _ => hk
 have hp := x.lt
 have hr : rp < w.heap.size := x.rdr.cells.lt
 have hv : ∀ k, v.ownBlock = some k -> k < w.heap.size := fun k hk => own_lt0 x.rdr.own hk
 have hf : ∀ k, fv.ownBlock = some k -> k < w.heap.size := fun k hk => x.fld.lt hk
 have hb : ∀ k, bv.ownBlock = some k -> k < w.heap.size := fun k hk => own_lt0 x.own hk
 have hne : ∀ k, ρ k ≠ 5 -> ¬ bv.ownBlock = some k := fun k h5 e => h5 (x.rb k e)
 have hnb : bv.ownBlock ≠ some p := hne p (by rw [x.rp1]; omega)
 have h3 : bv'.ownBlock ≠ some p := hpl.ne hp hnb
 have hb1 := (x.box.only hO hnb).set 12 bv' (by simp [frmL])
 have hO2 : Only (fun k => k = p) w1 (w1.setCell ⟨p, 12, none⟩ bv') := (Only.refl (fun k => k = p) w1).setCell (p := ⟨p, 12, none⟩) (fun _ => rfl) bv'
 have hnp : ∀ k, 2 <= ρ k -> k ≠ p := fun k hk e => by subst e; rw [x.rp1] at hk; omega
 refine ⟨upR ρ w.heap.size 5, ⟨hb1, (x.rdr.only hO (hne _ (by rw [x.rr]; omega)) fun k hk => hne _ (by rw [x.rv k hk]; omega)).only hO2 (hnp _ (by rw [x.rr]; omega)) fun k hk => hnp _ (by rw [x.rv k hk]; omega),
  hO2.own (hO.own x.fld fun k hk => hne _ (by rw [x.rf k hk]; omega)) fun k hk => hnp _ (by rw [x.rf k hk]; omega), hO2.own hown fun k hk e => h3 (by rw [hk, e]),
  (upR_old hp).trans x.rp1, (upR_old hr).trans x.rr, fun k hk => (upR_old (hv k hk)).trans (x.rv k hk), fun k hk => (upR_old (hf k hk)).trans (x.rf k hk), ?_⟩, ?_, fun k hk => upR_old hk⟩
 ·intro k hk
  rcases hpl with e | ⟨j, hj, hl⟩
  ·rw [e] at hk; exact (upR_old (hb k hk)).trans (x.rb k hk)
  ·rw [hj] at hk; injection hk with hk; exact upR_new (by omega)
 ·exact (hO.more fun k hk => by unfold Own; rw [x.rb k hk]; omega).setCell (p := ⟨p, 12, none⟩) (fun _ => by unfold Own; rw [x.rp1]; omega) bv'
theorem FrmX.body {w1 : World} {bv' : Value} {d' : List UInt8} (x : FrmX ρ w p l tk en r st h lk d rp v fv bv dv) (hown : OwnBytes w1 w.heap.size bv' d') (hb1 : Below w.heap.size w w1) :
  ∃ ρ', FrmX ρ' (w1.setCell ⟨p, 12, none⟩ bv') p l tk en r st h lk d' rp v fv bv' dv /\ Upd ρ w ρ' (w1.setCell ⟨p, 12, none⟩ bv') := by
 have hp := x.lt
 have hp1 : p < w1.heap.size := Nat.lt_of_lt_of_le hp hb1.size
 have hge : ∀ k, bv'.ownBlock = some k -> w.heap.size <= k := fun k hk => by
  have h0 : w1.ownsRow w.heap.size 5 1 bv' d'.length (byteVals d') := hown
  exact (World.ownsRow.lt h0 k hk).1
 have x1 := x.below hb1
 have hb2 := x1.box.set 12 bv' (by simp [frmL])
 have hO2 : Only (fun k => k = p) w1 (w1.setCell ⟨p, 12, none⟩ bv') := (Only.refl (fun k => k = p) w1).setCell (p := ⟨p, 12, none⟩) (fun _ => rfl) bv'
 have hr : rp < w.heap.size := x.rdr.cells.lt
 have hv : ∀ k, v.ownBlock = some k -> k < w.heap.size := fun k hk => own_lt0 x.rdr.own hk
 have hf : ∀ k, fv.ownBlock = some k -> k < w.heap.size := fun k hk => x.fld.lt hk
 have hnp : ∀ k, 2 <= ρ k -> k ≠ p := fun k hk e => by subst e; rw [x.rp1] at hk; omega
 refine ⟨upR ρ w.heap.size 5, ⟨hb2, x1.rdr.only hO2 (hnp _ (by rw [x.rr]; omega)) fun k hk => hnp _ (by rw [x.rv k hk]; omega), hO2.own x1.fld fun k hk => hnp _ (by rw [x.rf k hk]; omega),
  hO2.own (own_baseL hown (Nat.zero_le _)) fun k hk e => by have := hge k hk; omega,
  (upR_old hp).trans x.rp1, (upR_old hr).trans x.rr, fun k hk => (upR_old (hv k hk)).trans (x.rv k hk), fun k hk => (upR_old (hf k hk)).trans (x.rf k hk), fun k hk => upR_new (hge k hk)⟩, ?_, fun k hk => upR_old hk⟩
 exact (Only.of_below (S := Own ρ) hb1).setCell (p := ⟨p, 12, none⟩) (fun _ => by unfold Own; rw [x.rp1]; omega) bv'
theorem FrmX.fields {w1 : World} {fv' : Value} {F' : List FB} (x : FrmX ρ w p l tk en r st h lk d rp v fv bv dv) (hown : OwnFlds w1 0 fv' F') (hg : w.grownBy w1 fv.ownBlock) (hpl : Placed w fv fv') :
  ∃ ρ', FrmX ρ' (w1.setCell ⟨p, 9, none⟩ fv') p l tk en r st ⟨h.A, h.B, h.m, F', h.n⟩ lk d rp v fv' bv dv /\ Upd ρ w ρ' (w1.setCell ⟨p, 9, none⟩ fv') := by
 have hO : Only (fun k => fv.ownBlock = some k) w w1 := (Only.refl _ w).grown hg fun k hk _ => hk
 have hp := x.lt
 have hr : rp < w.heap.size := x.rdr.cells.lt
 have hv : ∀ k, v.ownBlock = some k -> k < w.heap.size := fun k hk => own_lt0 x.rdr.own hk
 have hf : ∀ k, fv.ownBlock = some k -> k < w.heap.size := fun k hk => x.fld.lt hk
 have hb : ∀ k, bv.ownBlock = some k -> k < w.heap.size := fun k hk => own_lt0 x.own hk
 have hne : ∀ k, ρ k ≠ 4 -> ¬ fv.ownBlock = some k := fun k h5 e => h5 (x.rf k e)
 have hnb : fv.ownBlock ≠ some p := hne p (by rw [x.rp1]; omega)
 have h3 : fv'.ownBlock ≠ some p := hpl.ne hp hnb
 have hb1 := (x.box.only hO hnb).set 9 fv' (by simp [frmL])
 have hO2 : Only (fun k => k = p) w1 (w1.setCell ⟨p, 9, none⟩ fv') := (Only.refl (fun k => k = p) w1).setCell (p := ⟨p, 9, none⟩) (fun _ => rfl) fv'
 have hnp : ∀ k, 2 <= ρ k -> k ≠ p := fun k hk e => by subst e; rw [x.rp1] at hk; omega
 refine ⟨upR ρ w.heap.size 4, ⟨hb1, (x.rdr.only hO (hne _ (by rw [x.rr]; omega)) fun k hk => hne _ (by rw [x.rv k hk]; omega)).only hO2 (hnp _ (by rw [x.rr]; omega)) fun k hk => hnp _ (by rw [x.rv k hk]; omega),
  hO2.own hown fun k hk e => h3 (by rw [hk, e]), hO2.own (hO.own x.own fun k hk => hne _ (by rw [x.rb k hk]; omega)) fun k hk => hnp _ (by rw [x.rb k hk]; omega),
  (upR_old hp).trans x.rp1, (upR_old hr).trans x.rr, fun k hk => (upR_old (hv k hk)).trans (x.rv k hk), ?_, fun k hk => (upR_old (hb k hk)).trans (x.rb k hk)⟩, ?_, fun k hk => upR_old hk⟩
 ·intro k hk
  rcases hpl with e | ⟨j, hj, hl⟩
  ·rw [e] at hk; exact (upR_old (hf k hk)).trans (x.rf k hk)
  ·rw [hj] at hk; injection hk with hk; exact upR_new (by omega)
 ·exact (hO.more fun k hk => by unfold Own; rw [x.rf k hk]; omega).setCell (p := ⟨p, 9, none⟩) (fun _ => by unfold Own; rw [x.rp1]; omega) fv'
structure FrmC (w : World) (p : Nat) (l : Lim) (rp : Nat) (st : Int) (h : Hd) (fv : Value) (lk : Int) (bv dv : Value) (tk en : Nat) : Prop where
 c0 : w.cell? ⟨p, 0, none⟩ = some (.int .i64 l.line)
 c1 : w.cell? ⟨p, 1, none⟩ = some (.int .i64 l.head)
 c2 : w.cell? ⟨p, 2, none⟩ = some (.int .i64 l.fields)
 c3 : w.cell? ⟨p, 3, none⟩ = some (.int .i64 l.body)
 c4 : w.cell? ⟨p, 4, none⟩ = some (.pointer (some ⟨rp, 0, none⟩))
 c5 : w.cell? ⟨p, 5, none⟩ = some (.int .i64 st)
 c6 : w.cell? ⟨p, 6, none⟩ = some (.string h.A)
 c7 : w.cell? ⟨p, 7, none⟩ = some (.string h.B)
 c8 : w.cell? ⟨p, 8, none⟩ = some (.int .i64 h.m)
 c9 : w.cell? ⟨p, 9, none⟩ = some fv
 c10 : w.cell? ⟨p, 10, none⟩ = some (.int .i64 (h.n : Int))
 c11 : w.cell? ⟨p, 11, none⟩ = some (.int .i64 lk)
 c12 : w.cell? ⟨p, 12, none⟩ = some bv
 c13 : w.cell? ⟨p, 13, none⟩ = some dv
 c14 : w.cell? ⟨p, 14, none⟩ = some (.int .i64 (tk : Int))
 c15 : w.cell? ⟨p, 15, none⟩ = some (.int .i64 (en : Int))
 c16 : w.cell? ⟨p, 16, none⟩ = some .nilIface
 f : ∀ i, i < 17 -> w.frozen? ⟨p, i, none⟩ = false
theorem FrmX.cells (x : FrmX ρ w p l tk en r st h lk d rp v fv bv dv) : FrmC w p l rp st h fv lk bv dv tk en :=
 ⟨x.box.cell rfl, x.box.cell rfl, x.box.cell rfl, x.box.cell rfl, x.box.cell rfl, x.box.cell rfl, x.box.cell rfl, x.box.cell rfl, x.box.cell rfl, x.box.cell rfl, x.box.cell rfl, x.box.cell rfl, x.box.cell rfl, x.box.cell rfl, x.box.cell rfl, x.box.cell rfl, x.box.cell rfl, x.box.free⟩
end
theorem DecAt.re {S S' : Nat -> Prop} {w : World} {p rp m : Nat} {g : GS} {v bv : Value} (h : DecAt S w p rp m g v bv) (hs : ∀ k, k < w.heap.size -> S k -> S' k) : DecAt S' w p rp m g v bv :=
 ⟨h.box, h.rdr, h.own, h.n1, h.n2, h.n3, h.n4, h.n5, hs _ (h.box.lt (by simp [decL])) h.sp, hs _ h.rdr.cells.lt h.sr, fun k hk => hs _ (own_lt0 h.rdr.own hk) (h.sv k hk), fun k hk => hs _ (own_lt0 h.own hk) (h.sb k hk)⟩
def DecGo (S : Nat -> Prop) (w : World) (p m : Nat) (g : GS) : Prop := ∃ rp v bv, DecAt S w p rp m g v bv
theorem DecGo.re {S S' : Nat -> Prop} {w : World} {p m : Nat} {g : GS} (h : DecGo S w p m g) (hs : ∀ k, k < w.heap.size -> S k -> S' k) : DecGo S' w p m g := by
 obtain ⟨rp, v, bv, h⟩ := h; exact ⟨rp, v, bv, h.re hs⟩
theorem DecGo.only {S T : Nat -> Prop} {w w' : World} {p m : Nat} {g : GS} (h : DecGo S w p m g) (ho : Only T w w') (hT : ∀ k, S k -> ¬ T k) : DecGo S w' p m g := by
 obtain ⟨rp, v, bv, h⟩ := h; exact ⟨rp, v, bv, h.only ho hT⟩
def hd0 : Hd := ⟨⟨#[]⟩, ⟨#[]⟩, 0, [], 0⟩
def FrmS (ρ : Nat -> Nat) (w : World) (p : Nat) (l : Lim) (tk en : Nat) (r : RS) : FP Hd -> Prop
 | .start => ∃ rp v, FrmX ρ w p l tk en r 0 hd0 0 [] rp v (.slice none 0 0) (.slice none 0 0) (.pointer none)
 | .flds h => ∃ rp v fv, FrmX ρ w p l tk en r 1 h 0 [] rp v fv (.slice none 0 0) (.pointer none)
 | .len h n d => ∃ rp v fv bv, FrmX ρ w p l tk en r 2 h (n : Int) d rp v fv bv (.pointer none)
 | .chk h g => ∃ rp v fv dp b g0, FrmX ρ w p l tk en r 3 h 0 [] rp v fv (.slice none 0 0) (.pointer (some ⟨dp, 0, none⟩)) /\ DecGo (fun k => ρ k = 6) w dp l.line.toNat g0 /\ g = g0.from_ b /\ Live g0
def FrmD (ρ : Nat -> Nat) (w : World) (p : Nat) (l : Lim) (tk en : Nat) (r : RS) (h : Hd) (d : List UInt8) : Prop := ∃ rp v fv bv dv lk, FrmX ρ w p l tk en r 4 h lk d rp v fv bv dv
def FrmB (ρ : Nat -> Nat) (w : World) (p : Nat) (tk en : Nat) : Prop := ∃ L, Box w p L /\ L.length = 17 /\ L[14]? = some (.int .i64 (tk : Int)) /\ L[15]? = some (.int .i64 (en : Int)) /\ ρ p = 1
theorem FrmX.bad {ρ : Nat -> Nat} {w : World} {p : Nat} {l : Lim} {tk en : Nat} {r : RS} {st : Int} {h : Hd} {lk : Int} {d : List UInt8} {rp : Nat} {v fv bv dv : Value} (x : FrmX ρ w p l tk en r st h lk d rp v fv bv dv) : FrmB ρ w p tk en := ⟨_, x.box, rfl, rfl, rfl, x.rp1⟩
theorem FrmS.x {ρ : Nat -> Nat} {w : World} {p : Nat} {l : Lim} {tk en : Nat} {r : RS} {q : FP Hd} (s : FrmS ρ w p l tk en r q) : ∃ st h lk d rp v fv bv dv, FrmX ρ w p l tk en r st h lk d rp v fv bv dv := by
 cases q with
 | start => obtain ⟨rp, v, x⟩ := s; exact ⟨_, _, _, _, _, _, _, _, _, x⟩
 | flds h => obtain ⟨rp, v, fv, x⟩ := s; exact ⟨_, _, _, _, _, _, _, _, _, x⟩
 | len h n d => obtain ⟨rp, v, fv, bv, x⟩ := s; exact ⟨_, _, _, _, _, _, _, _, _, x⟩
 | chk h g => obtain ⟨rp, v, fv, dp, b, g0, x, _⟩ := s; exact ⟨_, _, _, _, _, _, _, _, _, x⟩
theorem FrmS.only {ρ ρ' : Nat -> Nat} {S : Nat -> Prop} {w w' : World} {p : Nat} {l : Lim} {tk en : Nat} {r : RS} {q : FP Hd} (s : FrmS ρ w p l tk en r q) (ho : Only S w w') (hS : ∀ k, S k -> ¬ Own ρ k) (hs : ∀ k, k < w.heap.size -> ρ' k = ρ k) : FrmS ρ' w' p l tk en r q := by
 have h5 : ∀ k, k < w.heap.size -> S k -> ¬ (1 <= ρ k /\ ρ k <= 5) := fun k _ hk h => hS k hk ⟨h.1, by omega⟩
 cases q with
 | start => obtain ⟨rp, v, x⟩ := s; exact ⟨rp, v, x.only ho h5 hs⟩
 | flds h => obtain ⟨rp, v, fv, x⟩ := s; exact ⟨rp, v, fv, x.only ho h5 hs⟩
 | len h n d => obtain ⟨rp, v, fv, bv, x⟩ := s; exact ⟨rp, v, fv, bv, x.only ho h5 hs⟩
 | chk h g =>
  obtain ⟨rp, v, fv, dp, b, g0, x, y, e, L⟩ := s
  have y0 : DecGo (fun k => ρ k = 6 /\ k < w.heap.size) w dp l.line.toNat g0 := y.re fun k hk e => ⟨e, hk⟩
  have y1 := y0.only ho fun k hk hk2 => hS k hk2 ⟨by omega, by omega⟩
  exact ⟨rp, v, fv, dp, b, g0, x.only ho h5 hs, y1.re fun k _ hk => (hs k hk.2).trans hk.1, e, L⟩
end Go.Proofs.YtpplgdnklpchkaaGreatDoor
namespace Go.Proofs.YtpplgdnklpchkaaGreatDoor
set_option linter.all false
open Go.RowKit
def ErrC (w : World) (s : Int) (er : Value) : Prop := ∃ (ps : List ByteArray) (base : Value) (T : TypeId) (v : Value), ps.length <= 1 /\ (base = baseS s \/ ∃ k, base = baseF s k) /\ er = .iface T v /\ Chn w ps base er
theorem errC_S (w : World) (s : Int) : ErrC w s (baseS s) := ⟨[], _, _, _, Nat.zero_le _, .inl rfl, rfl, rfl⟩
theorem errC_F (w : World) (s k : Int) : ErrC w s (baseF s k) := ⟨[], _, _, _, Nat.zero_le _, .inr ⟨k, rfl⟩, rfl, rfl⟩
def HalfF (ρ : Nat -> Nat) (w : World) (p : Nat) (l : Lim) (tk en : Nat) (T : TR Hd) (e : Ending) (w' : World) : Prop := ∃ ρ', Upd ρ w ρ' w' /\ ∃ val, e = .returned val /\ match T with
 | .go r q => val = .nilIface /\ FrmS ρ' w' p l tk en r q
 | .comp h d r => val = .nilIface /\ FrmD ρ' w' p l tk en r h d
 | .bad s => ErrC w' s val /\ FrmB ρ' w' p tk en
section
variable {ρ ρ' : Nat -> Nat} {w w' : World} {p : Nat} {l : Lim} {tk en : Nat} {T : TR Hd}
theorem halfF_go {r : RS} {q : FP Hd} (hT : T = .go r q) (u : Upd ρ w ρ' w') (s : FrmS ρ' w' p l tk en r q) : HalfF ρ w p l tk en T (.returned .nilIface) w' := by subst hT; exact ⟨ρ', u, _, rfl, rfl, s⟩
theorem halfF_comp {r : RS} {h : Hd} {d : List UInt8} (hT : T = .comp h d r) (u : Upd ρ w ρ' w') (s : FrmD ρ' w' p l tk en r h d) : HalfF ρ w p l tk en T (.returned .nilIface) w' := by subst hT; exact ⟨ρ', u, _, rfl, rfl, s⟩
theorem halfF_bad {s : Int} {er : Value} (hT : T = .bad s) (u : Upd ρ w ρ' w') (he : ErrC w' s er) (b : FrmB ρ' w' p tk en) : HalfF ρ w p l tk en T (.returned er) w' := by subst hT; exact ⟨ρ', u, _, rfl, he, b⟩
theorem HalfF.behind {ρ0 : Nat -> Nat} {w0 : World} {e : Ending} (h : HalfF ρ w p l tk en T e w') (u : Upd ρ0 w0 ρ w) : HalfF ρ0 w0 p l tk en T e w' := by
 obtain ⟨ρ', u', r⟩ := h
 exact ⟨ρ', u.trans u', r⟩
theorem HalfF.ends {e : Ending} (h : HalfF ρ w p l tk en T e w') : ∃ val, e = .returned val /\ HalfF ρ w p l tk en T (.returned val) w' := by
 obtain ⟨ρ', u, val, rfl, r⟩ := h
 exact ⟨val, rfl, ρ', u, val, rfl, r⟩
end
def flineV (r : RS) (long : Int) : Value :=
 if r.st = 1 then .tuple #[.string r.last, .bool true, .nilIface]
 else if r.st = 2 then .tuple #[.string ⟨#[]⟩, .bool false, baseS 400]
 else if r.st = 3 then .tuple #[.string ⟨#[]⟩, .bool false, baseS long]
 else .tuple #[.string ⟨#[]⟩, .bool false, .nilIface]
def LineF (ρ : Nat -> Nat) (w : World) (p : Nat) (l : Lim) (tk en : Nat) (r' : RS) (st : Int) (h : Hd) (lk : Int) (d : List UInt8) (rp : Nat) (fv bv dv : Value) (long : Int) (e : Ending) (w' : World) : Prop :=
 e = .returned (flineV r' long) /\ ∃ ρ' v', FrmX ρ' w' p l tk en r' st h lk d rp v' fv bv dv /\ Upd ρ w ρ' w'
theorem lineF_of {ρ ρ' : Nat -> Nat} {w w' : World} {p : Nat} {l : Lim} {tk en : Nat} {r' : RS} {st : Int} {h : Hd} {lk : Int} {d : List UInt8} {rp : Nat} {v' fv bv dv : Value} {long : Int} {val : Value} (hv : val = flineV r' long) (x : FrmX ρ' w' p l tk en r' st h lk d rp v' fv bv dv) (u : Upd ρ w ρ' w') :
  LineF ρ w p l tk en r' st h lk d rp fv bv dv long (.returned val) w' := ⟨by rw [hv], ρ', v', x, u⟩
set_option maxRecDepth 100000 in
set_option maxHeartbeats 2000000 in
theorem fline_any {ρ : Nat -> Nat} {w : World} {p : Nat} {l : Lim} {tk en : Nat} {r : RS} {st : Int} {h : Hd} {lk : Int} {d : List UInt8} {rp : Nat} {v fv bv dv : Value} (c : UInt8) (long : Int) (x : FrmX ρ w p l tk en r st h lk d rp v fv bv dv)
  (hr : r.st = 0 \/ r.st = 1) (hl : r.text.length <= 1000000) (hm : l.line <= 4611686018427387904) :
  Calls Tryz.prog 75 #[.pointer (some ⟨p, 0, none⟩), .int .u8 (c.toNat : Int), .int .i64 long] w (LineF ρ w p l tk en (stepR l.line.toNat r c) st h lk d rp fv bv dv long) := by
 have c4 := x.cells.c4
 have HP := Lib.hid (put_any c x.rdr (by omega) (Nat.zero_le _) (by omega))
 have X := Lib.hid x
 have hst3 : (stepR l.line.toNat r c).st <= 3 := stepR_st c (by omega)
 unfold MovedE at HP
 generalize stepR l.line.toNat r c = R at *
 have hcase : R.st = 0 \/ R.st = 1 \/ R.st = 2 \/ R.st = 3 := by omega
 clear hst3 hr x hl hm
 rcases hcase with hc | hc | hc | hc
 ·rw [hc] at HP
  have HV := Lib.hid (show Value.tuple #[.string ⟨#[]⟩, .bool false, .nilIface] = flineV R long by unfold flineV; rw [hc]; rfl)
  clear hc
  go_enter Tryz.func75, Tryz.ntmps75
  go_wp2_with fail
  refine HP.out.mono ?_
  rintro e w1 ⟨rfl, hM⟩
  obtain ⟨ρ', v', Y, U, _⟩ := X.out.moved hM
  have Y := Lib.hid Y
  have U := Lib.hid U
  clear hM
  go_wp2_with fail
  go_ret3
  exact lineF_of HV.out Y.out U.out
 ·rw [hc] at HP
  have HV := Lib.hid (show Value.tuple #[.string R.last, .bool true, .nilIface] = flineV R long by unfold flineV; rw [hc]; rfl)
  clear hc
  go_enter Tryz.func75, Tryz.ntmps75
  go_wp2_with fail
  refine HP.out.mono ?_
  rintro e w1 ⟨rfl, hM⟩
  obtain ⟨ρ', v', Y, U, _⟩ := X.out.moved hM
  have d4 := Y.cells.c4
  have Y := Lib.hid Y
  have U := Lib.hid U
  clear hM c4
  go_wp2_with fail
  refine (line_any Y.out.rdr.cells).mono ?_
  rintro e w2 ⟨rfl, rfl⟩
  go_wp2_with fail
  go_ret3
  exact lineF_of HV.out Y.out U.out
 ·rw [hc] at HP
  have HV := Lib.hid (show Value.tuple #[.string ⟨#[]⟩, .bool false, .iface 73 (.int .i64 400)] = flineV R long by unfold flineV; rw [hc]; rfl)
  clear hc
  go_enter Tryz.func75, Tryz.ntmps75
  go_wp2_with fail
  refine HP.out.mono ?_
  rintro e w1 ⟨rfl, hM⟩
  obtain ⟨ρ', v', Y, U, _⟩ := X.out.moved hM
  have Y := Lib.hid Y
  have U := Lib.hid U
  clear hM
  go_wp2_with fail
  go_ret3
  exact lineF_of HV.out Y.out U.out
 ·rw [hc] at HP
  have HV := Lib.hid (show Value.tuple #[.string ⟨#[]⟩, .bool false, .iface 73 (.int .i64 long)] = flineV R long by unfold flineV; rw [hc]; rfl)
  clear hc
  go_enter Tryz.func75, Tryz.ntmps75
  go_wp2_with fail
  refine HP.out.mono ?_
  rintro e w1 ⟨rfl, hM⟩
  obtain ⟨ρ', v', Y, U, _⟩ := X.out.moved hM
  have Y := Lib.hid Y
  have U := Lib.hid U
  clear hM
  go_wp2_with fail
  go_ret3
  exact lineF_of HV.out Y.out U.out
theorem FrmX.lk_eq {ρ : Nat -> Nat} {w : World} {p : Nat} {l : Lim} {tk en : Nat} {r : RS} {st : Int} {h : Hd} {lk lk' : Int} {d : List UInt8} {rp : Nat} {v fv bv dv : Value} (x : FrmX ρ w p l tk en r st h lk d rp v fv bv dv) (e : lk = lk') : FrmX ρ w p l tk en r st h lk' d rp v fv bv dv := by subst e; exact x
theorem takeT_len1 {H : Type} (F : Fr H) (k : Nat) (r : RS) (h : H) (n : Nat) (d : List UInt8) (c : UInt8) (hn : n = 1) : takeT F k r (.len h n d) c = .comp h (d ++ [c]) r := if_pos hn
theorem takeT_len2 {H : Type} (F : Fr H) (k : Nat) (r : RS) (h : H) (n : Nat) (d : List UInt8) (c : UInt8) (hn : n ≠ 1) : takeT F k r (.len h n d) c = .go r (.len h (n - 1) (d ++ [c])) := if_neg hn
set_option maxRecDepth 100000 in
set_option maxHeartbeats 2000000 in
theorem takePlain_any {ρ : Nat -> Nat} {w : World} {p : Nat} {l : Lim} {tk en : Nat} {r : RS} {h : Hd} {n : Nat} {d : List UInt8} {rp : Nat} {v fv bv : Value} (c : UInt8) (x : FrmX ρ w p l tk en r 2 h (n : Int) d rp v fv bv (.pointer none))
  (h0 : 0 < n) (hn : (n : Int) <= 4611686018427387904) (hd : d.length <= 1000000) (k : Nat) :
  Calls Tryz.prog 61 #[.pointer (some ⟨p, 0, none⟩), .int .u8 (c.toNat : Int)] w (HalfF ρ w p l tk en (takeT (frF l) k r (.len h n d) c)) := by
 have c12 := x.cells.c12
 have X := Lib.hid x
 obtain ⟨z, hz⟩ : ∃ z : Int, z = (n : Int) := ⟨_, rfl⟩
 have hnp : bv.ownBlock ≠ some p := fun e => by have h5 := x.rb p e; have h1 := x.rp1; omega
 obtain ⟨a, cap, rfl, _, _⟩ := x.own.slicedL
 obtain ⟨dl, hdl⟩ : ∃ dl, dl = d.length := ⟨_, rfl⟩
 rw [<- hdl] at c12 X hnp
 have Hdl := Lib.hid (fun (_ : Unit) => hdl)
 have Hd := Lib.hid hd
 by_cases h1 : n = 1
 ·subst h1
  have HT := Lib.hid (takeT_len1 (frF l) k r h 1 d c rfl)
  generalize takeT (frF l) k r (.len h 1 d) c = T at *
  clear x hdl hd hz h0 hn
  go_enter Tryz.func61, Tryz.ntmps61
  go_wp2_with (at_builtin; go_loud (refine wpList_append_byteAt rfl _ _ rfl 0 w (.slice a dl cap) d c rfl X.out.own rfl (by have := Hd.out; omega) (Nat.zero_le _) ?_))
  intro v' w' hown hg hpl
  obtain ⟨a', cap', hv', _, _⟩ := hown.slicedL
  subst hv'
  have hB := X.out.box.only (S := fun k => (Value.slice a dl cap).ownBlock = some k) ((Only.refl _ w).grown hg fun k hk _ => hk) hnp
  obtain ⟨ρ', Y, U⟩ := X.out.more hown hg hpl
  rw [List.length_append, List.length_cons, List.length_nil, Nat.zero_add] at Y U
  have Y2 := Y.put (st' := 2) (lk' := 0) (h' := h) (tk' := tk) (en' := en) (dv' := .pointer none) 11 (.int .i64 0) (by omega) rfl rfl
  have Y3 := Lib.hid (Y2.put (st' := 4) (lk' := 0) (h' := h) (tk' := tk) (en' := en) (dv' := .pointer none) 5 (.int .i64 4) (by omega) rfl rfl)
  have U3 := Lib.hid ((U.put 11 (.int .i64 0) Y.rp1).put 5 (.int .i64 4) Y.rp1)
  have d5 : w'.cell? ⟨p, 5, none⟩ = some (.int .i64 2) := hB.cell rfl
  have d11 : w'.cell? ⟨p, 11, none⟩ = some (.int .i64 1) := hB.cell rfl
  have d12 : w'.cell? ⟨p, 12, none⟩ = some (.slice a dl cap) := hB.cell rfl
  have g5 : w'.frozen? ⟨p, 5, none⟩ = false := hB.free 5 (by simp [frmL])
  have g11 : w'.frozen? ⟨p, 11, none⟩ = false := hB.free 11 (by simp [frmL])
  have g12 : w'.frozen? ⟨p, 12, none⟩ = false := hB.free 12 (by simp [frmL])
  clear hown hg hpl c12 Y Y2 U hB
  go_wp2_with fail
  go_ret
  exact halfF_comp HT.out U3.out ⟨_, _, _, _, _, _, Y3.out⟩
 ·have HT := Lib.hid (takeT_len2 (frF l) k r h n d c h1)
  generalize takeT (frF l) k r (.len h n d) c = T at *
  have hz2 : (2 : Int) <= z := by omega
  have hz9 : z <= 4611686018427387904 := by omega
  have Hz := Lib.hid (show z - 1 = ((n - 1 : Nat) : Int) by omega)
  rw [<- hz] at X
  clear x hdl hd hz h0 hn h1
  go_enter Tryz.func61, Tryz.ntmps61
  go_wp2_with (at_builtin; go_loud (refine wpList_append_byteAt rfl _ _ rfl 0 w (.slice a dl cap) d c rfl X.out.own rfl (by have := Hd.out; omega) (Nat.zero_le _) ?_))
  intro v' w' hown hg hpl
  obtain ⟨a', cap', hv', _, _⟩ := hown.slicedL
  subst hv'
  have hB := X.out.box.only (S := fun k => (Value.slice a dl cap).ownBlock = some k) ((Only.refl _ w).grown hg fun k hk _ => hk) hnp
  obtain ⟨ρ', Y, U⟩ := X.out.more hown hg hpl
  rw [List.length_append, List.length_cons, List.length_nil, Nat.zero_add] at Y U
  have Y2 := Lib.hid (Y.put (st' := 2) (lk' := z - 1) (h' := h) (tk' := tk) (en' := en) (dv' := .pointer none) 11 (.int .i64 (z - 1)) (by omega) rfl rfl)
  have U3 := Lib.hid (U.put 11 (.int .i64 (z - 1)) Y.rp1)
  have d11 : w'.cell? ⟨p, 11, none⟩ = some (.int .i64 z) := hB.cell rfl
  have d12 : w'.cell? ⟨p, 12, none⟩ = some (.slice a dl cap) := hB.cell rfl
  have g11 : w'.frozen? ⟨p, 11, none⟩ = false := hB.free 11 (by simp [frmL])
  have g12 : w'.frozen? ⟨p, 12, none⟩ = false := hB.free 12 (by simp [frmL])
  have hne : (z - 1 == 0) = false := by rw [beq_eq_false_iff_ne]; omega
  clear hown hg hpl c12 Y U hB
  go_wp2_with fail
  go_ret
  exact halfF_go HT.out U3.out ⟨_, _, _, _, Y2.out.lk_eq Hz.out⟩
theorem Only.moreLt {S S' : Nat -> Prop} {a b : World} (h : Only S a b) (hs : ∀ i, i < a.heap.size -> S i -> S' i) : Only S' a b := (Only.refl S' a).trans h hs
theorem free6 {ρ : Nat -> Nat} {w : World} (gr : GlobR ρ) (gw : GlobW w) : Free (fun k => ρ k = 6 /\ k < w.heap.size \/ w.heap.size <= k) := by
 obtain ⟨a1, a2, a3⟩ := gw.lt
 constructor
 ·rintro (⟨e, _⟩ | e)
  ·rw [gr.g0] at e; omega
  ·omega
 ·rintro (⟨e, _⟩ | e)
  ·rw [gr.g1] at e; omega
  ·omega
theorem takeT_chk {l : Lim} {k : Nat} {r : RS} {h : Hd} {b : Nat} {g0 : GS} {c : UInt8} : takeT (frF l) k r (.chk h (g0.from_ b)) c = match stepG l.line.toNat g0 c with
  | .go g' => .go r (.chk h (g'.from_ b))
  | .done _ d => .comp h d r
  | .bad s _ => .bad s := by
 show (match stepG l.line.toNat ((g0.from_ b).from_ 0) c with | .go g' => _ | .done _ d => _ | .bad s _ => _) = _
 rw [from_zero, stepG_from]
 cases stepG l.line.toNat g0 c <;> rfl
set_option maxRecDepth 100000 in
set_option maxHeartbeats 2000000 in
theorem takeChunked_any {ρ : Nat -> Nat} {w : World} {p : Nat} {l : Lim} {tk en : Nat} {r : RS} {h : Hd} {rp : Nat} {v fv : Value} {dp b : Nat} {g0 : GS} (c : UInt8) (x : FrmX ρ w p l tk en r 3 h 0 [] rp v fv (.slice none 0 0) (.pointer (some ⟨dp, 0, none⟩)))
  (hd : DecGo (fun k => ρ k = 6) w dp l.line.toNat g0) (hL : Live g0) (ht : g0.taken <= 1000000) (hm : l.line <= 4611686018427387904) (gr : GlobR ρ) (gw : GlobW w) (k : Nat) :
  Calls Tryz.prog 62 #[.pointer (some ⟨p, 0, none⟩), .int .u8 (c.toNat : Int)] w (HalfF ρ w p l tk en (takeT (frF l) k r (.chk h (g0.from_ b)) c)) := by
 have c13 := x.cells.c13
 have X := Lib.hid x
 obtain ⟨a1, a2, a3⟩ := gw.lt
 have hd2 : DecS (fun k => ρ k = 6 /\ k < w.heap.size \/ w.heap.size <= k) w dp l.line.toNat (.go g0) := hd.re fun k hk e => .inl ⟨e, hk⟩
 have HP := Lib.hid (decPut_any c hd2 (show LiveD (.go g0) from hL) (fun k hk => .inr hk) (free6 gr gw) gw.gm (show g0.taken <= 4000000 by omega) (show l.line.toNat <= 9223372036854775807 by omega))
 have HT := Lib.hid (takeT_chk (l := l) (k := k) (r := r) (h := h) (b := b) (g0 := g0) (c := c))
 generalize takeT (frF l) k r (.chk h (g0.from_ b)) c = T at *
 have HLv := Lib.hid (fun g' (e : stepG l.line.toNat g0 c = .go g') => stepG_live hL e)
 have Hdl := Lib.hid (show ∀ n d, stepG l.line.toNat g0 c = .done n d -> d.length <= g0.taken from fun n d e => stepG_data hL e)
 have hDs : stepD l.line.toNat (.go g0) c = stepG l.line.toNat g0 c := rfl
 rw [hDs] at HP
 generalize stepG l.line.toNat g0 c = D2 at HP HT HLv Hdl
 have HO := Lib.hid (fun w1 (hO : Only (fun k => ρ k = 6 /\ k < w.heap.size \/ w.heap.size <= k) w w1) => show FrmX (upR ρ w.heap.size 6) w1 p l tk en r 3 h 0 [] rp v fv (.slice none 0 0) (.pointer (some ⟨dp, 0, none⟩)) /\ Upd ρ w (upR ρ w.heap.size 6) w1 from
  ⟨x.only hO (fun k hk e => by rcases e with e | e <;> omega) fun k hk => upR_old hk, hO.moreLt (fun k hk e => by unfold Own; rcases e with e | e <;> omega), fun k hk => upR_old hk⟩)
 have HR := Lib.hid (fun w1 g1 (hg : DecS (fun k => ρ k = 6 /\ k < w.heap.size \/ w.heap.size <= k) w1 dp l.line.toNat (.go g1)) => show DecGo (fun k => upR ρ w.heap.size 6 k = 6) w1 dp l.line.toNat g1 from
  DecGo.re (show DecGo _ _ _ _ _ from hg) fun k _ e => by
   rcases e with ⟨e, hk⟩ | e
   ·exact (upR_old hk).trans e
   ·exact upR_new e)
 unfold PutD at HP
 clear x hd hd2 hL hm gr gw hDs a1 a2 a3
 cases D2 with
 | go g2 =>
  have HL2 := Lib.hid (HLv.out g2 rfl)
  have HT2 := Lib.hid (show T = .go r (.chk h (g2.from_ b)) from HT.out)
  unfold stI at HP
  clear HT HLv Hdl
  go_enter Tryz.func62, Tryz.ntmps62
  go_wp2_with fail
  refine HP.out.mono ?_
  rintro e w1 ⟨rfl, hO, hD⟩
  have Y := Lib.hid (HO.out w1 hO)
  have HD := Lib.hid (HR.out w1 g2 hD)
  clear hO hD HO HR
  go_wp2_with fail
  go_ret
  exact halfF_go HT2.out Y.out.2 ⟨_, _, _, _, _, _, Y.out.1, HD.out, rfl, HL2.out⟩
 | done n d =>
  have HT2 := Lib.hid (show T = .comp h d r from HT.out)
  have hdl : d.length <= 1000000000 := by have := Hdl.out n d rfl; omega
  unfold stI at HP
  clear HT HLv Hdl
  go_enter Tryz.func62, Tryz.ntmps62
  go_wp2_with fail
  refine HP.out.mono ?_
  rintro e w1 ⟨rfl, hO, hD⟩
  have Y := Lib.hid (HO.out w1 hO)
  have HDa := Lib.hid (decData_any hD trivial hdl)
  have d13 := Y.out.1.cells.c13
  clear hO hD HO HR hdl c13
  go_wp2_with fail
  refine HDa.out.mono ?_
  rintro e w2 ⟨bv, rfl, hv, b2⟩
  have Y2 := Y.out.1.below b2
  have e5 := Y2.cells.c5
  have f5 := Y2.cells.f 5 (by omega)
  have e12 := Y2.cells.c12
  have f12 := Y2.cells.f 12 (by omega)
  obtain ⟨ρ', Z, U⟩ := Y.out.1.body hv b2
  have Z2 := Lib.hid (Z.put (st' := 4) (lk' := 0) (h' := h) (tk' := tk) (en' := en) (dv' := .pointer (some ⟨dp, 0, none⟩)) 5 (.int .i64 4) (by omega) rfl rfl)
  have U2 := Lib.hid (Y.out.2.trans (U.put 5 (.int .i64 4) Z.rp1))
  obtain ⟨ba, bc, rfl, _, _⟩ := hv.slicedL
  clear hv b2 Y2 Z U d13
  go_wp2_with fail
  go_ret
  exact halfF_comp HT2.out U2.out ⟨_, _, _, _, _, _, Z2.out⟩
 | bad s j =>
  have HT2 := Lib.hid (show T = .bad s from HT.out)
  unfold stI at HP
  clear HT HLv Hdl
  go_enter Tryz.func62, Tryz.ntmps62
  go_wp2_with fail
  refine HP.out.mono ?_
  rintro e w1 ⟨rfl, hO, hD⟩
  have Y := Lib.hid (HO.out w1 hO)
  have HEr := Lib.hid (decErr_any hD)
  have d13 := Y.out.1.cells.c13
  unfold errD baseF at HEr
  clear hO hD HO HR c13
  go_wp2_with fail
  refine HEr.out.mono ?_
  rintro e w2 ⟨rfl, rfl⟩
  go_wp2_with fail
  go_ret
  exact halfF_bad HT2.out Y.out.2 (errC_F _ s j) Y.out.1.bad
end Go.Proofs.YtpplgdnklpchkaaGreatDoor
