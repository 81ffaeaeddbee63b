/- Texts of one seat, merged: Rqs, FrmJ, FrmK, FrmL, FrmR, FrmBt. -/
import Derived.Test.YtpplgdnklpchkaaGreatDoorQHF
import Derived.Test.YtpplgdnklpchkaaGreatDoorQFE
namespace Go.Proofs.YtpplgdnklpchkaaGreatDoor
set_option linter.all false
open Go.RowKit
structure RV where
 h : Hd
 d : List UInt8
 fv : Value
 bv : Value
def RV.pr (x : RV) : Hd × List UInt8 := (x.h, x.d)
def reqVals : List RV -> List Value
 | [] => []
 | x :: l => .string x.h.A :: .string x.h.B :: .int .i64 x.h.m :: x.fv :: x.bv :: reqVals l
theorem reqVals_len : ∀ L : List RV, (reqVals L).length = 5 * L.length
 | [] => rfl
 | x :: l => by simp [reqVals, reqVals_len l]; omega
theorem reqVals_append : ∀ a b : List RV, reqVals (a ++ b) = reqVals a ++ reqVals b
 | [], _ => rfl
 | x :: l, b => by simp [reqVals, reqVals_append l b]
theorem reqVals_at : ∀ (L : List RV) (i : Nat) (x : RV), L[i]? = some x -> (reqVals L)[i * 5]? = some (.string x.h.A) /\ (reqVals L)[i * 5 + 1]? = some (.string x.h.B) /\ (reqVals L)[i * 5 + 2]? = some (.int .i64 x.h.m) /\ (reqVals L)[i * 5 + 3]? = some x.fv /\ (reqVals L)[i * 5 + 4]? = some x.bv
 | [], i, x, h => by simp at h
 | y :: l, 0, x, h => by
  simp at h; subst h
  exact ⟨rfl, rfl, rfl, rfl, rfl⟩
 | y :: l, i + 1, x, h => by
  have := reqVals_at l i x (by simpa using h)
  have e : (i + 1) * 5 = i * 5 + 1 + 1 + 1 + 1 + 1 := by omega
  rw [e]
  simpa [reqVals] using this
structure InR (R : Nat -> Prop) (w : World) (x : RV) : Prop where
 f : FldsIn w x.fv x.h.F
 b : BytesIn w x.bv x.d
 rf : ∀ k, x.fv.ownBlock = some k -> R k
 rb : ∀ k, x.bv.ownBlock = some k -> R k
theorem FldsIn.only {S : Nat -> Prop} {w w' : World} {v : Value} {L : List FB} (h : FldsIn w v L) (ho : Only S w w') (hv : ∀ k, v.ownBlock = some k -> ¬ S k) : FldsIn w' v L := by
 rcases h with h | ⟨b, off, cap, rfl, h1, h2, h3⟩
 ·exact .inl h
 ·exact .inr ⟨b, off, cap, rfl, h1, h2, fun i f hf => ⟨ho.cell (h3 i f hf).1 (hv b rfl), ho.cell (h3 i f hf).2 (hv b rfl)⟩⟩
theorem BytesIn.only {S : Nat -> Prop} {w w' : World} {v : Value} {l : List UInt8} (h : BytesIn w v l) (ho : Only S w w') (hv : ∀ k, v.ownBlock = some k -> ¬ S k) : BytesIn w' v l := by
 rcases h with h | ⟨b, off, cap, rfl, h1, h2, h3⟩
 ·exact .inl h
 ·exact .inr ⟨b, off, cap, rfl, h1, h2, fun i u hu => ho.cell (h3 i u hu) (hv b rfl)⟩
theorem BytesIn.only0 {S : Nat -> Prop} {w w' : World} {v : Value} {l : List UInt8} (h : BytesIn w v l) (ho : Only S w w') (hv : l ≠ [] -> ∀ k, v.ownBlock = some k -> ¬ S k) : BytesIn w' v l := by
 by_cases h0 : l = []
 ·subst h0
  rcases h with h | ⟨b, off, cap, rfl, h1, h2, h3⟩
  ·exact .inl h
  ·exact .inr ⟨b, off, cap, rfl, h1, h2, fun i u hu => by simp [byteVals] at hu⟩
 ·exact h.only ho (hv h0)
theorem BytesIn.ltB {w : World} {v : Value} {l : List UInt8} (h : BytesIn w v l) (hl : l ≠ []) : ∀ k, v.ownBlock = some k -> k < w.heap.size := by
 intro k hk
 rcases h with ⟨h0, _⟩ | ⟨b, off, cap, rfl, h1, h2, h3⟩
 ·exact absurd (by simpa [byteVals] using h0) hl
 ·injection hk with hk
  subst hk
  have h0 : 0 < (byteVals l).length := by rw [byteVals_len]; exact List.length_pos_iff.2 hl
  exact World.block_lt_of_cell? w ⟨b, off + 0, none⟩ (h3 0 _ (List.getElem?_eq_getElem h0))
theorem InR.only {R S : Nat -> Prop} {w w' : World} {x : RV} (h : InR R w x) (ho : Only S w w') (hR : ∀ k, R k -> ¬ S k) : InR R w' x :=
 ⟨h.f.only ho fun k hk => hR k (h.rf k hk), h.b.only ho fun k hk => hR k (h.rb k hk), h.rf, h.rb⟩
theorem InR.mono {R R' : Nat -> Prop} {w : World} {x : RV} (h : InR R w x) (hR : ∀ k, R k -> R' k) : InR R' w x := ⟨h.f, h.b, fun k hk => hR k (h.rf k hk), fun k hk => hR k (h.rb k hk)⟩
theorem InR.one {R : Nat -> Prop} {w : World} {x : RV} (h : InR R w x) : x.fv.oneCell' = true /\ x.bv.oneCell' = true := by
 obtain ⟨p, c, e⟩ := h.f.sliced
 obtain ⟨q, d, e2⟩ := h.b.slicedB
 rw [e, e2]
 exact ⟨rfl, rfl⟩
theorem reqVals_one {R : Nat -> Prop} {w : World} : ∀ (L : List RV), (∀ x ∈ L, InR R w x) -> ∀ v ∈ reqVals L, v.oneCell' = true
 | [], _, v, h => by simp [reqVals] at h
 | x :: l, hL, v, h => by
  have h1 := (hL x (by simp)).one
  simp only [reqVals, List.mem_cons] at h
  rcases h with rfl | rfl | rfl | rfl | rfl | h
  ·rfl
  ·rfl
  ·rfl
  ·exact h1.1
  ·exact h1.2
  ·exact reqVals_one l (fun y hy => hL y (by simp [hy])) v h
def ReqsIn (R : Nat -> Prop) (w : World) (v : Value) (L : List RV) : Prop :=
 ((L = [] /\ (v = .slice none 0 0 \/ ∃ ad cap, v = .slice (some ad) 0 cap)) \/
 ∃ b off cap, v = .slice (some ⟨b, off, none⟩) L.length cap /\ L.length <= cap /\ cap <= 9223372036854775807 /\ R b /\ ∀ j u, (reqVals L)[j]? = some u -> w.cell? ⟨b, off + j, none⟩ = some u) /\ ∀ x ∈ L, InR R w x
theorem ReqsIn.only {R S : Nat -> Prop} {w w' : World} {v : Value} {L : List RV} (h : ReqsIn R w v L) (ho : Only S w w') (hR : ∀ k, R k -> ¬ S k) : ReqsIn R w' v L := by
 refine ⟨?_, fun x hx => (h.2 x hx).only ho hR⟩
 rcases h.1 with h | ⟨b, off, cap, rfl, h1, h2, hb, h3⟩
 ·exact .inl h
 ·exact .inr ⟨b, off, cap, rfl, h1, h2, hb, fun j u hu => ho.cell (h3 j u hu) (hR b hb)⟩
theorem ReqsIn.below {R : Nat -> Prop} {w w' : World} {v : Value} {L : List RV} (h : ReqsIn R w v L) (hb : Below w.heap.size w w') : ReqsIn R w' v L := h.only (S := fun _ => False) (Only.of_below hb) fun _ _ h => h
theorem ReqsIn.mono {R R' : Nat -> Prop} {w : World} {v : Value} {L : List RV} (h : ReqsIn R w v L) (hR : ∀ k, R k -> R' k) : ReqsIn R' w v L := by
 refine ⟨?_, fun x hx => (h.2 x hx).mono hR⟩
 rcases h.1 with h | ⟨b, off, cap, rfl, h1, h2, hb, h3⟩
 ·exact .inl h
 ·exact .inr ⟨b, off, cap, rfl, h1, h2, hR b hb, h3⟩
theorem ReqsIn.sliced {R : Nat -> Prop} {w : World} {v : Value} {L : List RV} (h : ReqsIn R w v L) : ∃ p c, v = .slice p L.length c := by
 rcases h.1 with ⟨rfl, rfl | ⟨ad, cap, rfl⟩⟩ | ⟨b, off, cap, rfl, _⟩
 ·exact ⟨none, 0, rfl⟩
 ·exact ⟨_, _, rfl⟩
 ·exact ⟨_, _, rfl⟩
theorem ReqsIn.len {R : Nat -> Prop} {w : World} {v : Value} {L : List RV} (h : ReqsIn R w v L) : L.length <= 9223372036854775807 := by
 rcases h.1 with ⟨rfl, _⟩ | ⟨b, off, cap, rfl, h1, h2, _⟩
 ·simp
 ·omega
theorem ReqsIn.src {R : Nat -> Prop} {w : World} {v : Value} {L : List RV} (h : ReqsIn R w v L) : SrcAt w 5 v L.length (reqVals L) := by
 rcases h.1 with ⟨rfl, rfl | ⟨ad, cap, rfl⟩⟩ | ⟨b, off, cap, rfl, h1, h2, hb, h3⟩
 ·exact .inl ⟨rfl, rfl, rfl⟩
 ·exact .inr ⟨ad, cap, rfl, rfl, fun j u hu => by simp [reqVals] at hu⟩
 ·exact .inr ⟨_, _, rfl, by rw [reqVals_len]; omega, fun j u hu => by rw [Addr.add_lit]; exact h3 j u hu⟩
theorem Tryz.uReqs : Tryz.prog.underlying 27 = some (.slice (Tryz.prog.elem 27)) := by kernel_rfl
theorem Tryz.zReq (w : World) : (sizeOf (Tryz.prog.elem 27)).run Tryz.prog w = .ok 5 w := by kernel_rfl
structure ReqAt (w : World) (b o : Nat) (x : RV) : Prop where
 a0 : w.cell? ⟨b, o, none⟩ = some (.string x.h.A)
 a1 : w.cell? ⟨b, o + 1, none⟩ = some (.string x.h.B)
 a2 : w.cell? ⟨b, o + 2, none⟩ = some (.int .i64 x.h.m)
 a3 : w.cell? ⟨b, o + 3, none⟩ = some x.fv
 a4 : w.cell? ⟨b, o + 4, none⟩ = some x.bv
theorem ReqsIn.at_ {R : Nat -> Prop} {w : World} {p : Option Addr} {n c : Nat} {L : List RV} (h : ReqsIn R w (.slice p n c) L) (k : Nat) (hk : k < L.length) :
  ∃ b o, (∀ W, (Instr.indexAt 27 (.slice p n c) (.int .i64 (k : Int))).run Tryz.prog W = .ok (.pointer (some ⟨b, o, none⟩)) W) /\ ReqAt w b o L[k] := by
 rcases h.1 with ⟨rfl, _⟩ | ⟨b, off, cap, hv, h1, h2, hb, h3⟩
 ·simp at hk
 ·injection hv with e1 e2 e3
  subst e1 e2 e3
  obtain ⟨c0, c1, c2, c3, c4⟩ := reqVals_at L k L[k] (List.getElem?_eq_getElem hk)
  refine ⟨b, off + k * 5, fun W => ?_, h3 _ _ c0, h3 _ _ c1, h3 _ _ c2, h3 _ _ c3, h3 _ _ c4⟩
  rw [run_indexAt_slice (h := Tryz.uReqs), if_pos ⟨by omega, by omega⟩, Tryz.zReq]
  simp [Result.andThen, Addr.add_lit]
def OwnReqs (w : World) (B : Nat) (v : Value) (L : List RV) : Prop := w.ownsRow B 48 5 v L.length (reqVals L)
theorem OwnReqs.nil (w : World) (B : Nat) : OwnReqs w B (.slice none 0 0) [] := World.ownsRow_nil _ _ _ _
theorem OwnReqs.reqsIn {R : Nat -> Prop} {w : World} {B : Nat} {v : Value} {L : List RV} (h : OwnReqs w B v L) (hi : ∀ x ∈ L, InR R w x) (hv : ∀ k, v.ownBlock = some k -> R k) : ReqsIn R w v L := by
 have h0 : w.ownsRow B 48 5 v L.length (reqVals L) := h
 refine ⟨?_, hi⟩
 rcases h0.2 with ⟨rfl, hn⟩ | ⟨g, cap, cur, rfl, _, hh, hn, hm, hc, ht⟩
 ·exact .inl ⟨List.length_eq_zero_iff.1 hn, .inl rfl⟩
 ·refine .inr ⟨g, 0, cap, rfl, hn, by unfold maxLen at hm; exact hm, hv g rfl, fun j u hu => ?_⟩
  have := h0.cells (g := g) rfl j u hu
  rwa [Addr.add_lit] at this
theorem OwnReqs.sliced {w : World} {B : Nat} {v : Value} {L : List RV} (h : OwnReqs w B v L) : ∃ p c, v = .slice p L.length c := by
 have h0 : w.ownsRow B 48 5 v L.length (reqVals L) := h
 rcases h0.2 with ⟨rfl, hn⟩ | ⟨g, cap, cur, rfl, _⟩
 ·rw [hn]; exact ⟨none, 0, rfl⟩
 ·exact ⟨_, cap, rfl⟩
theorem OwnReqs.lt {w : World} {B : Nat} {v : Value} {L : List RV} (h : OwnReqs w B v L) {k : Nat} (hk : v.ownBlock = some k) : B <= k /\ k < w.heap.size := World.ownsRow.lt h k hk
theorem OwnReqs.more {w : World} {B : Nat} {v : Value} {L M : List RV} (h : w.ownsRow B 48 5 v (L.length + M.length) (reqVals L ++ reqVals M)) : OwnReqs w B v (L ++ M) := by
 unfold OwnReqs
 rw [List.length_append, reqVals_append]
 exact h
theorem Tryz.eReq : EInfo 27 48 (.agg #[.string ByteArray.empty, .string ByteArray.empty, .int .i64 0, .slice none 0 0, .slice none 0 0]) 5 88 := EInfo.of (by kernel_rfl) (by kernel_rfl) rfl (by decide)
end Go.Proofs.YtpplgdnklpchkaaGreatDoor
namespace Go.Proofs.YtpplgdnklpchkaaGreatDoor
set_option linter.all false
open Go.RowKit Go.Extern.Stop Go.Stop Go.Extern
def reqsF : FS Hd -> List (Hd × List UInt8)
 | .go _ _ L _ _ => L
 | .bad _ _ _ L => L
def tkF : FS Hd -> Nat
 | .go _ k _ _ _ => k
 | .bad _ k _ _ => k + 1
def nxF : FS Hd -> Nat
 | .go nx _ _ _ _ => nx
 | .bad _ _ nx _ => nx
def errFS : FS Hd -> Value
 | .go _ _ _ _ _ => .nilIface
 | .bad s k _ _ => baseF s (k : Int)
def FrmP (ρ : Nat -> Nat) (w : World) (p : Nat) (l : Lim) : FS Hd -> Prop
 | .go nx k _ r q => FrmS ρ w p l k nx r q /\ LiveP l k r q
 | .bad s k nx _ => FrmE ρ w p ((k + 1 : Nat) : Int) (nx : Int) (baseF s (k : Int))
theorem FrmS.stage {ρ : Nat -> Nat} {w : World} {p : Nat} {l : Lim} {tk en : Nat} {r : RS} {q : FP Hd} (s : FrmS ρ w p l tk en r q) : ∃ st : Int, st < 4 /\ w.cell? ⟨p, 5, none⟩ = some (.int .i64 st) := by
 cases q with
 | start => obtain ⟨rp, v, x⟩ := s; exact ⟨_, by omega, x.cells.c5⟩
 | flds h => obtain ⟨rp, v, fv, x⟩ := s; exact ⟨_, by omega, x.cells.c5⟩
 | len h n d => obtain ⟨rp, v, fv, bv, x⟩ := s; exact ⟨_, by omega, x.cells.c5⟩
 | chk h g => obtain ⟨rp, v, fv, dp, b, g0, x, _⟩ := s; exact ⟨_, by omega, x.cells.c5⟩
theorem FrmP.cells {ρ : Nat -> Nat} {w : World} {p : Nat} {l : Lim} {s : FS Hd} (h : FrmP ρ w p l s) : w.cell? ⟨p, 14, none⟩ = some (.int .i64 (tkF s : Int)) /\ w.cell? ⟨p, 15, none⟩ = some (.int .i64 (nxF s : Int)) /\ w.cell? ⟨p, 16, none⟩ = some (errFS s) /\ ρ p = 1 /\ p < w.heap.size := by
 cases s with
 | go nx k L r q =>
  obtain ⟨st, hh, lk, d, rp, v, fv, bv, dv, x⟩ := h.1.x
  exact ⟨x.cells.c14, x.cells.c15, x.cells.c16, x.rp1, x.lt⟩
 | bad s k nx L => exact ⟨h.1.cell rfl, h.1.cell rfl, h.1.cell rfl, h.2, h.1.lt (by simp [frmZ])⟩
theorem FrmP.only {ρ ρ' : Nat -> Nat} {S : Nat -> Prop} {w w' : World} {p : Nat} {l : Lim} {s : FS Hd} (h : FrmP ρ w p l s) (ho : Only S w w') (hS : ∀ k, S k -> ¬ Own ρ k) (hs : ∀ k, k < w.heap.size -> ρ' k = ρ k) : FrmP ρ' w' p l s := by
 cases s with
 | go nx k L r q => exact ⟨h.1.only ho hS hs, h.2⟩
 | bad s k nx L =>
  have hp : p < w.heap.size := h.1.lt (by simp [frmZ])
  exact ⟨h.1.only ho fun e => hS p e (by unfold Own; rw [h.2]; omega), (hs p hp).trans h.2⟩
theorem ferr_any {ρ : Nat -> Nat} {w : World} {p : Nat} {l : Lim} {s : FS Hd} (h : FrmP ρ w p l s) : Calls Tryz.prog 16 #[.pointer (some ⟨p, 0, none⟩)] w (fun e w' => e = .returned (errFS s) /\ w = w') := by
 have c := h.cells.2.2.1
 generalize errFS s = x at *
 clear h
 go_enter Tryz.func16, Tryz.ntmps16
 go_wp2
 go_ret
 exact ⟨rfl, rfl⟩
theorem ftaken_any {ρ : Nat -> Nat} {w : World} {p : Nat} {l : Lim} {s : FS Hd} (h : FrmP ρ w p l s) : Calls Tryz.prog 17 #[.pointer (some ⟨p, 0, none⟩)] w (fun e w' => e = .returned (.int .i64 (tkF s : Int)) /\ w = w') := by
 have c := h.cells.1
 generalize tkF s = x at *
 clear h
 go_enter Tryz.func17, Tryz.ntmps17
 go_wp2
 go_ret
 exact ⟨rfl, rfl⟩
theorem ferr_nil (w : World) : Calls Tryz.prog 16 #[.pointer none] w (fun e w' => e = .returned .nilIface /\ w = w') := by
 go_enter Tryz.func16, Tryz.ntmps16
 go_wp2
 go_ret
 exact ⟨rfl, rfl⟩
theorem ftaken_nil (w : World) : Calls Tryz.prog 17 #[.pointer none] w (fun e w' => e = .returned (.int .i64 0) /\ w = w') := by
 go_enter Tryz.func17, Tryz.ntmps17
 go_wp2
 go_ret
 exact ⟨rfl, rfl⟩
theorem fopen_nil (w : World) : Calls Tryz.prog 18 #[.pointer none] w (SaysIn false w) := by
 go_enter Tryz.func18, Tryz.ntmps18
 go_wp2_with fail
 go_quiet (fail)
 go_wp2_with fail
 go_ret
 exact ⟨rfl, below_drewN (Below.refl _ _) _⟩
theorem ffeed_nil (v : Value) (w : World) : Calls Tryz.prog 13 #[.pointer none, v] w (fun e w' => e = .returned (.slice none 0 0) /\ w = w') := by
 go_enter Tryz.func13, Tryz.ntmps13
 go_wp2
 go_ret
 exact ⟨rfl, rfl⟩
end Go.Proofs.YtpplgdnklpchkaaGreatDoor
namespace Go.Proofs.YtpplgdnklpchkaaGreatDoor
set_option linter.all false
open Go.RowKit Go.Extern.Stop Go.Stop Go.Extern
def FeedTo (ρ : Nat -> Nat) (w : World) (p : Nat) (l : Lim) (s s' : FS Hd) (e : Ending) (w' : World) : Prop :=
 ∃ ρ' v V, e = .returned v /\ FrmP ρ' w' p l s' /\ reqsF s' = reqsF s ++ V.map RV.pr /\ ReqsIn (fun k => w.heap.size <= k /\ k < w'.heap.size /\ ¬ Own ρ' k) w' v V /\ Upd ρ w ρ' w'
structure FeedS (ρ : Nat -> Nat) (w : World) (p : Nat) (l : Lim) (s : FS Hd) (ρr : Nat -> Nat) (wr : World) (st : FS Hd) (rv : Value) (V : List RV) : Prop where
 fr : FrmP ρr wr p l st
 rq : reqsF st = reqsF s ++ V.map RV.pr
 own : OwnReqs wr w.heap.size rv V
 inn : ∀ x ∈ V, InR (fun k => w.heap.size <= k /\ k < wr.heap.size /\ ρr k = 0) wr x
 row : ∀ k, rv.ownBlock = some k -> ρr k = 7
 up : Upd ρ w ρr wr
section
variable {ρ : Nat -> Nat} {w : World} {p : Nat} {l : Lim} {s : FS Hd} {ρr ρ' : Nat -> Nat} {wr w' : World} {st st' s' : FS Hd} {rv : Value} {V : List RV}
theorem FeedS.done (h : FeedS ρ w p l s ρr wr st rv V) (he : s' = st) : FeedTo ρ w p l s s' (.returned rv) wr := by
 subst he
 exact ⟨ρr, rv, V, rfl, h.fr, h.rq, h.own.reqsIn (fun x hx => (h.inn x hx).mono fun k hk => ⟨hk.1, hk.2.1, by unfold Own; rw [hk.2.2]; omega⟩) (fun k hk => ⟨(h.own.lt hk).1, (h.own.lt hk).2, by unfold Own; rw [h.row k hk]; omega⟩), h.up⟩
theorem FeedS.step (h : FeedS ρ w p l s ρr wr st rv V) (u : Upd ρr wr ρ' w') (hf : FrmP ρ' w' p l st') (hq : reqsF st' = reqsF st) : FeedS ρ w p l s ρ' w' st' rv V :=
 ⟨hf, hq.trans h.rq, u.only.own h.own fun k hk => by unfold Own; rw [h.row k hk]; omega,
  fun x hx => ((h.inn x hx).only u.only fun k hk => by unfold Own; rw [hk.2.2]; omega).mono fun k hk => ⟨hk.1, Nat.lt_of_lt_of_le hk.2.1 u.only.size, (u.same k hk.2.1).trans hk.2.2⟩,
  fun k hk => (u.same k (h.own.lt hk).2).trans (h.row k hk), h.up.trans u⟩
theorem FeedS.more {hd : Hd} {d : List UInt8} {fs bs v' : Value} {w2 w3 : World} {vs : List Value} {T : TypeId} {N : Nat} (hN : wr.heap.size <= N) (h : FeedS ρ w p l s ρr wr st rv V) (u : Upd ρr wr ρ' w2) (hf : FrmP ρ' w2 p l st') (hq : reqsF st' = reqsF st ++ [(hd, d)])
  (h0 : ∀ k, N <= k -> ρ' k = 0) (ofs : OwnFlds w2 N fs hd.F) (obs : OwnBytes w2 N bs d)
  (h1 : w3.ownsRow w.heap.size 48 5 v' (V.length + 1) (reqVals V ++ [.string hd.A, .string hd.B, .int .i64 hd.m, fs, bs])) (h2 : (w2.alloc (.cells vs.toArray T)).grownBy w3 rv.ownBlock) (h3 : Placed (w2.alloc (.cells vs.toArray T)) rv v') :
  FeedS ρ w p l s (upR ρ' w2.heap.size 7) w3 st' v' (V ++ [⟨hd, d, fs, bs⟩]) := by
 have bA : Below w2.heap.size w2 (w2.alloc (.cells vs.toArray T)) := (Below.refl _ _).alloc (Nat.le_refl _) _
 have g := grownBy_from bA h2
 have hO : Only (fun k => rv.ownBlock = some k) w2 w3 := (Only.refl _ w2).grown g fun k hk _ => hk
 have hlt : ∀ k, rv.ownBlock = some k -> w.heap.size <= k /\ k < wr.heap.size := fun k hk => h.own.lt hk
 have hrow : ∀ k, rv.ownBlock = some k -> ρ' k = 7 := fun k hk => (u.same k (hlt k hk).2).trans (h.row k hk)
 have hsz : wr.heap.size <= w2.heap.size := u.only.size
 have hs3 : w2.heap.size <= w3.heap.size := hO.size
 have hw : w.heap.size <= wr.heap.size := h.up.only.size
 have hfs : ∀ k, fs.ownBlock = some k -> N <= k /\ k < w2.heap.size := fun k hk => by
  have h0 : w2.ownsRow N 53 2 fs hd.F.length (fldVals hd.F) := ofs
  exact World.ownsRow.lt h0 k hk
 have hbs : ∀ k, bs.ownBlock = some k -> N <= k /\ k < w2.heap.size := fun k hk => by
  have h0 : w2.ownsRow N 5 1 bs d.length (byteVals d) := obs
  exact World.ownsRow.lt h0 k hk
 have hv' : ∀ k, v'.ownBlock = some k -> upR ρ' w2.heap.size 7 k = 7 := fun k hk => by
  rcases h3 with e | ⟨j, hj, hl⟩
  ·rw [e] at hk; exact (upR_old (by have := (hlt k hk).2; omega)).trans (hrow k hk)
  ·rw [hj] at hk; injection hk with hk; exact upR_new (by have := bA.size; omega)
 refine ⟨hf.only hO (fun k hk => by unfold Own; rw [hrow k hk]; omega) fun k hk => upR_old hk, ?_, OwnReqs.more (M := [⟨hd, d, fs, bs⟩]) h1, ?_, hv', ⟨((h.up.trans u).only).trans hO fun i hi e => by have := (hlt i e).1; omega, fun k hk => (upR_old (by omega)).trans (((h.up.trans u).same) k hk)⟩⟩
 ·rw [hq, h.rq, List.map_append, List.append_assoc]; rfl
 ·intro x hx
  rcases List.mem_append.1 hx with hx | hx
  ·refine (((h.inn x hx).only u.only fun k hk => by unfold Own; rw [hk.2.2]; omega).only hO fun k hk e => ?_).mono fun k hk => ⟨hk.1, by omega, (upR_old (by omega)).trans ((u.same k hk.2.1).trans hk.2.2)⟩
   have := h.row k e
   omega
  ·rw [List.mem_singleton] at hx
   subst hx
   refine ⟨ofs.fldsIn.only hO fun k hk e => ?_, obs.bytesIn.only hO fun k hk e => ?_, fun k hk => ⟨?_, ?_, (upR_old (hfs k hk).2).trans (h0 k (hfs k hk).1)⟩, fun k hk => ⟨?_, ?_, (upR_old (hbs k hk).2).trans (h0 k (hbs k hk).1)⟩⟩
   ·have := (hlt k e).2; have := (hfs k hk).1; omega
   ·have := (hlt k e).2; have := (hbs k hk).1; omega
   ·have := (hfs k hk).1; omega
   ·have := (hfs k hk).2; omega
   ·have := (hbs k hk).1; omega
   ·have := (hbs k hk).2; omega
end
set_option maxRecDepth 100000 in
set_option maxHeartbeats 8000000 in
theorem feed_any {ρ : Nat -> Nat} {w : World} {p : Nat} {l : Lim} {s : FS Hd} (bv : Value) (b : List UInt8) (h : FrmP ρ w p l s) (hl : LimR l) (hb : BytesIn w bv b) (hbr : b ≠ [] -> ∀ k, bv.ownBlock = some k -> ¬ Own ρ k) (hn : tkF s + b.length <= 3000) (gr : GlobR ρ) (gw : GlobW w) :
  Calls Tryz.prog 13 #[.pointer (some ⟨p, 0, none⟩), bv] w (FeedTo ρ w p l s (runF (frF l) s b)) := by
 obtain ⟨pa, ca, rfl⟩ := hb.slicedB
 have HY := Lib.hid hb
 have HYr := Lib.hid hbr
 have HL := Lib.hid hl
 have HG := Lib.hid gw
 have HGR := Lib.hid gr
 have H0 := Lib.hid (show FeedS ρ w p l s ρ w s (.slice none 0 0) [] from ⟨h, by simp, OwnReqs.nil _ _, (fun x hx => by cases hx), (fun k hk => by cases hk), Upd.refl _ _⟩)
 have hq := Tryz.eqNil
 have Hn := Lib.hid hn
 have hbl : b.length <= 3000 := by omega
 clear h hl hb hbr gr gw hn
 go_enter Tryz.func13, Tryz.ntmps13
 go_wp2_with fail
 go_loopw [5, 12] (fun rv i wr => ∃ (j : Nat) (ρr : Nat -> Nat) (V : List RV) (st : FS Hd), j <= b.length /\ i = .int .i64 j /\ Hid (FeedS ρ w p l s ρr wr st rv V) /\ Hid (runF (frF l) s b = runF (frF l) st (b.drop j)) /\ Hid (tkF st <= tkF s + j) /\ Hid (V.length <= j)) (fun rv i _ => b.length - (intOf i).toNat)
 case atStart => exact ⟨0, ρ, [], s, Nat.zero_le _, rfl, H0.out, rfl, Nat.le_refl _, Nat.le_refl _⟩
 case round =>
  clear H0
  obtain ⟨j, ρr, V, st, hj, rfl, HS, HR, HT, HVn⟩ := hrel
  obtain ⟨pv, cv, rfl⟩ := HS.out.own.sliced
  by_cases hlt : j < b.length
  ·obtain ⟨bk, o, hix, hcell⟩ := BytesIn.at2 (HY.out.only0 HS.out.up.only HYr.out) j hlt
   have hc0 : 0 <= (b[j].toNat : Int) := by omega
   have hc1 := byte_le b[j]
   have c16 := HS.out.fr.cells.2.2.1
   have HG2 := Lib.hid (HG.out.upd HGR.out HS.out.up)
   have HGR2 := Lib.hid (HGR.out.upd HG.out HS.out.up)
   have HR2 := Lib.hid (HR.out.trans (show runF (frF l) st (b.drop j) = runF (frF l) (stepF (frF l) st b[j]) (b.drop (j + 1)) by rw [List.drop_eq_getElem_cons hlt, runF_cons]))
   cases st with
   | bad sb kb nxb Lb =>
    have HE := Lib.hid (show runF (frF l) s b = .bad sb kb nxb Lb by rw [HR.out, runF_bad])
    unfold errFS baseF at c16
    clear HR HR2
    go_wp2_with fail
    go_ret
    exact HS.out.done HE.out
   | go nx k L r q =>
    unfold errFS at c16
    have htk := HT.out
    have hk3 : k <= 3000 := by have h1 : tkF (.go nx k L r q) = k := rfl; rw [h1] at htk; have := Hn.out; omega
    have hfr : FrmS ρr wr p l k nx r q /\ LiveP l k r q := HS.out.fr
    have HTk := Lib.hid (ftake_any b[j] hfr.1 HL.out k hk3 hk3 hfr.2 HGR2.out HG2.out)
    have HLv := Lib.hid (takeT_live HL.out (c := b[j]) hfr.2)
    have HSt := Lib.hid (stepF_T (frF l) nx k L r q b[j] hfr.2.fit)
    generalize takeT (frF l) k r q b[j] = T at HTk HLv HSt
    unfold TookF at HTk
    clear hfr HR
    cases T with
    | go r2 q2 =>
     go_wp2_with fail
     refine HTk.out.mono ?_
     rintro e w1 ⟨rfl, ρ', u, hs⟩
     have X := Lib.hid (HS.out.step u (st' := .go nx (k + 1) L r2 q2) ⟨hs, HLv.out⟩ rfl)
     obtain ⟨stn, h4, c5⟩ := hs.stage
     have hne : (stn == 4) = false := by rw [beq_eq_false_iff_ne]; omega
     clear u hs h4 HTk c16 hcell HS
     go_wp2_with fail
     go_roundw
     case rel => exact ⟨j + 1, ρ', V, .go nx (k + 1) L r2 q2, by omega, by go_num, X.out, HR2.out.trans (by rw [HSt.out]; rfl), (show k + 1 <= tkF s + (j + 1) by have h1 : k <= tkF s + j := HT.out; omega), (show V.length <= j + 1 by have := HVn.out; omega)⟩
     case measure => simp [intOf]; omega
    | bad sb =>
     go_wp2_with fail
     refine HTk.out.mono ?_
     rintro e w1 ⟨rfl, ρ', u, hs⟩
     have X := Lib.hid (HS.out.step u (st' := .bad sb k nx L) hs rfl)
     have c5 : w1.cell? ⟨p, 5, none⟩ = some (.int .i64 0) := hs.1.cell rfl
     clear u hs HTk c16 hcell HS
     go_wp2_with fail
     go_roundw
     case rel => exact ⟨j + 1, ρ', V, .bad sb k nx L, by omega, by go_num, X.out, HR2.out.trans (by rw [HSt.out]; rfl), (show k + 1 <= tkF s + (j + 1) by have h1 : k <= tkF s + j := HT.out; omega), (show V.length <= j + 1 by have := HVn.out; omega)⟩
     case measure => simp [intOf]; omega
    | comp h d r2 =>
     go_wp2_with fail
     refine HTk.out.mono ?_
     rintro e w1 ⟨rfl, ρ', u, hs⟩
     have hlv := HLv.out
     have hfew := hlv.1.few
     have hnn := hlv.1.n
     have HFi := Lib.hid (finish_any hs (by omega) (by have := hlv.2.2; omega))
     have c5 : w1.cell? ⟨p, 5, none⟩ = some (.int .i64 4) := by obtain ⟨rp, v, fv, bv, dv, lk, x⟩ := hs; exact x.cells.c5
     have HU := Lib.hid u
     unfold FinTo reqL at HFi
     clear u hs hlv hfew hnn HTk c16 hcell
     go_wp2_with fail
     refine HFi.out.mono ?_
     rintro e w2 ⟨ρ2, fs, bs, rfl, ofs, obs, hs2, u2, h00⟩
     have HU2 := Lib.hid (HU.out.trans u2)
     have hown2 : OwnReqs w2 w.heap.size (.slice pv V.length cv) V := HU2.out.only.own HS.out.own fun k hk => by unfold Own; rw [HS.out.row k hk]; omega
     have HO2 := Lib.hid hown2
     obtain ⟨pf, cf, rfl⟩ := ofs.sliced
     obtain ⟨pb, cb, rfl⟩ := obs.slicedF
     have HFS := Lib.hid ofs
     have HBS := Lib.hid obs
     have HS2 := Lib.hid hs2
     have H00 := Lib.hid h00
     have hVn := HVn.out
     have HB2 := Lib.hid (Nat.le_trans HS.out.up.only.size HU2.out.only.size)
     clear hown2 ofs obs hs2 h00 u2 HFi c5
     go_wp2_with (refine wpList_append_at Tryz.eReq rfl _ _ rfl w.heap.size (w2.alloc (.cells #[.string h.A, .string h.B, .int .i64 h.m, .slice pf h.F.length cf, .slice pb d.length cb] 48)) (.slice pv V.length cv) V.length (reqVals V) rfl (World.ownsRow.alloc HO2.out _) (.slice (some ⟨w2.heap.size, 0, none⟩) 1 1) 1 (reqL h.A h.B h.m (.slice pf h.F.length cf) (.slice pb d.length cb)) rfl (SrcAt.new w2 (reqL h.A h.B h.m (.slice pf h.F.length cf) (.slice pb d.length cb)) 48 5 rfl) (reqL_one _ _ _ _ _ _ _ _ _) (by omega) (by omega) (by have := HB2.out; simp; omega) ?_)
     intro v' w3 h1 h2 h3
     have X := Lib.hid (HS.out.more (T := 48) (vs := reqL h.A h.B h.m (.slice pf h.F.length cf) (.slice pb d.length cb)) HU.out.only.size HU2.out (st' := .go (k + 1) (k + 1) (L ++ [(h, d)]) r2 .start) ⟨HS2.out, by obtain ⟨x, hx⟩ := HLv.out.2.1; rw [hx]; exact ⟨.inr rfl, Nat.zero_le _⟩⟩ rfl H00.out HFS.out HBS.out h1 h2 h3)
     obtain ⟨pv', cv', rfl⟩ := X.out.own.sliced
     clear h1 h2 h3 hVn
     go_wp2_with fail
     go_roundw
     case rel => exact ⟨j + 1, _, V ++ [(⟨h, d, .slice pf h.F.length cf, .slice pb d.length cb⟩ : RV)], .go (k + 1) (k + 1) (L ++ [(h, d)]) r2 .start, by omega, by go_num, X.out, HR2.out.trans (by rw [HSt.out]; rfl), (show k + 1 <= tkF s + (j + 1) by have h1 : k <= tkF s + j := HT.out; omega), (by have := HVn.out; simp; omega)⟩
     case measure => simp [intOf]; omega
  ·obtain rfl : j = b.length := by omega
   have HE := Lib.hid (show runF (frF l) s b = st by rw [HR.out, List.drop_of_length_le (Nat.le_refl _)]; rfl)
   clear HR hlt
   go_wp2_with fail
   go_ret
   exact HS.out.done HE.out
end Go.Proofs.YtpplgdnklpchkaaGreatDoor
namespace Go.Proofs.YtpplgdnklpchkaaGreatDoor
set_option linter.all false
open Go.RowKit Go.Extern.Stop Go.Stop Go.Extern
noncomputable def s0F : FS Hd := .go 0 0 [] (bnd ⟨#[]⟩) .start
def FNewTo (l : Lim) (w : World) (e : Ending) (w' : World) : Prop := ∃ p ρ, e = .returned (.pointer (some ⟨p, 0, none⟩)) /\ Below w.heap.size w w' /\ FrmP ρ w' p l s0F /\ ∀ k, k < w.heap.size -> ρ k = 0
theorem fnewTo_of (l : Lim) {w w1 : World} {rp B : Nat} (hA : RdrAt B w1 rp l.line.toNat (bnd ⟨#[]⟩) (.slice none 0 0)) (hrp : w.heap.size <= rp) (hb : Below w.heap.size w w1) :
  FNewTo l w (.returned (.pointer (some ⟨w1.heap.size, 0, none⟩))) (w1.alloc (.cells (frmL l rp 0 ⟨#[]⟩ ⟨#[]⟩ 0 (.slice none 0 0) 0 0 (.slice none 0 0) (.pointer none) 0 0).toArray 69)) := by
 have bb := (Below.refl w1.heap.size w1).alloc (Nat.le_refl _) (.cells (frmL l rp 0 ⟨#[]⟩ ⟨#[]⟩ 0 (.slice none 0 0) 0 0 (.slice none 0 0) (.pointer none) 0 0).toArray 69)
 have hlt := hA.cells.lt
 have hsz := hb.size
 refine ⟨_, fun k => if k = w1.heap.size then 1 else if k = rp then 2 else 0, rfl, hb.alloc hb.size _, ⟨⟨rp, .slice none 0 0, ?_⟩, ⟨.inr rfl, Nat.le_refl _⟩⟩, fun k hk => ?_⟩
 ·refine ⟨Box.new w1 _ _, ⟨hA.cells.only (Only.of_below (S := fun _ => False) bb) (fun h => h), OwnBytes.nil _ _, by simp [Value.ownBlock], Nat.zero_le _⟩, OwnFlds.nil _ _, OwnBytes.nil _ _, if_pos rfl, ?_, (fun k hk => by cases hk), (fun k hk => by cases hk), fun k hk => by cases hk⟩
  show (if rp = w1.heap.size then 1 else if rp = rp then 2 else 0) = 2
  rw [if_neg (by omega), if_pos rfl]
 ·show (if k = w1.heap.size then 1 else if k = rp then 2 else 0) = 0
  rw [if_neg (by omega), if_neg (by omega)]
set_option maxRecDepth 100000 in
set_option maxHeartbeats 4000000 in
theorem fnew_any (l : Lim) (h : LimR l) (w : World) : Calls Tryz.prog 11 #[limV l] w (FNewTo l w) := by
 unfold limV
 have h1 := h.a
 have b0 := (Below.refl w.heap.size w).alloc (Nat.le_refl _) (.cells #[.int .i64 l.line, .int .i64 l.head, .int .i64 l.fields, .int .i64 l.body] 24)
 have V0 := ValsAt.new w [.int .i64 l.line, .int .i64 l.head, .int .i64 l.fields, .int .i64 l.body] 24
 obtain ⟨W, hW⟩ : ∃ W, W = w.alloc (.cells #[.int .i64 l.line, .int .i64 l.head, .int .i64 l.fields, .int .i64 l.body] 24) := ⟨_, rfl⟩
 have V0' : ValsAt W w.heap.size [.int .i64 l.line, .int .i64 l.head, .int .i64 l.fields, .int .i64 l.body] := by rw [hW]; exact V0
 have HBW := Lib.hid (show Below w.heap.size w W by rw [hW]; exact b0)
 have HL := Lib.hid (fun V => linNew_any l.line V (by omega))
 have HW := Lib.hid hW
 clear b0 V0 hW h
 go_enter Tryz.func11, Tryz.ntmps11
 go_wp2_with fail
 rw [<- HW.out]
 have c0 : W.drew.cell? ⟨w.heap.size, 0, none⟩ = some (.int .i64 l.line) := V0' 0 _ rfl
 have c1 : W.drew.cell? ⟨w.heap.size, 1, none⟩ = some (.int .i64 l.head) := V0' 1 _ rfl
 have c2 : W.drew.cell? ⟨w.heap.size, 2, none⟩ = some (.int .i64 l.fields) := V0' 2 _ rfl
 have c3 : W.drew.cell? ⟨w.heap.size, 3, none⟩ = some (.int .i64 l.body) := V0' 3 _ rfl
 have HV := Lib.hid V0'
 clear V0'
 unfold NewE at HL
 go_region_with (first
  | (go_at_call 25; refine (HL.out _).mono ?_; rintro e w1 ⟨rfl, hA, hb⟩; have hb1 : Below W.heap.size W w1 := (Below.refl _ W).drew.trans hb; have V2 := HV.out.below hb1; have g0 : w1.cell? ⟨w.heap.size, 0, none⟩ = some (.int .i64 l.line) := V2 0 _ rfl; have g1 : w1.cell? ⟨w.heap.size, 1, none⟩ = some (.int .i64 l.head) := V2 1 _ rfl; have g2 : w1.cell? ⟨w.heap.size, 2, none⟩ = some (.int .i64 l.fields) := V2 2 _ rfl; have g3 : w1.cell? ⟨w.heap.size, 3, none⟩ = some (.int .i64 l.body) := V2 3 _ rfl; have HA := Lib.hid hA; have HB1 := Lib.hid (HBW.out.trans (hb1.mono HBW.out.size)); clear hA hb hb1 V2))
 all_goals
  clear c0 c1 c2 c3 g0 g1 g2 g3
  go_wp2
  go_ret
  exact fnewTo_of l HA.out HBW.out.size HB1.out
theorem ownR_from {ρ : Nat -> Nat} {N : Nat} (h : ∀ k, k < N -> ρ k = 0) (k : Nat) (hk : Own ρ k) : N <= k := by
 rcases Nat.lt_or_ge k N with h2 | h2
 ·unfold Own at hk; rw [h k h2] at hk; omega
 ·exact h2
def FSplitTo (l : Lim) (b : List UInt8) (w : World) (e : Ending) (w' : World) : Prop :=
 ∃ v V, e = .returned (.tuple #[v, errFS (runF (frF l) s0F b)]) /\ reqsF (runF (frF l) s0F b) = V.map RV.pr /\ ReqsIn (fun k => w.heap.size <= k /\ k < w'.heap.size) w' v V /\ Below w.heap.size w w'
set_option maxRecDepth 100000 in
set_option maxHeartbeats 4000000 in
theorem fsplit_any (l : Lim) (h : LimR l) (bv : Value) (b : List UInt8) (w : World) (hb : BytesIn w bv b) (hn : b.length <= 3000) (gw : GlobW w) :
  Calls Tryz.prog 14 #[bv, limV l] w (FSplitTo l b w) := by
 obtain ⟨pa, ca, rfl⟩ := hb.slicedB
 unfold limV
 have b0 := (Below.refl w.heap.size w).alloc (Nat.le_refl _) (.cells #[.int .i64 l.line, .int .i64 l.head, .int .i64 l.fields, .int .i64 l.body] 24)
 have HN := Lib.hid (fun V => fnew_any l h V)
 unfold limV FNewTo at HN
 have HB0 := Lib.hid b0
 have HY := Lib.hid hb
 have HYr := Lib.hid hb.ltB
 have HG := Lib.hid gw
 have HLm := Lib.hid h
 obtain ⟨a1, a2, a3⟩ := gw.lt
 have Ha := Lib.hid a1
 have Hb := Lib.hid a2
 have Hc := Lib.hid a3
 have Hn := Lib.hid hn
 clear hb gw h b0 hn a1 a2 a3
 go_enter Tryz.func14, Tryz.ntmps14
 go_wp2_with fail
 refine (HN.out _).mono ?_
 rintro e w1 ⟨p, ρ, rfl, b1, hF, hρ⟩
 have hsz := HB0.out.size
 have HB1 := HB0.out.trans (b1.mono HB0.out.size)
 have hρ0 : ∀ k, k < w.heap.size -> ρ k = 0 := fun k hk => hρ k (by omega)
 have hgr : GlobR ρ := ⟨hρ0 _ Ha.out, hρ0 _ Hb.out, hρ0 _ Hc.out⟩
 have HFd := Lib.hid (feed_any (.slice pa b.length ca) b hF HLm.out (RowIn.below HY.out HB1) (fun h0 k hk => by unfold Own; rw [hρ0 k (HYr.out h0 k hk)]; omega) (by show 0 + b.length <= 3000; have := Hn.out; omega) hgr (HG.out.below HB1))
 have Hρ := Lib.hid hρ0
 have HB1 := Lib.hid HB1
 unfold FeedTo at HFd
 clear b1 hF hρ hρ0 hgr hsz HN HB0
 go_wp2_with fail
 refine HFd.out.mono ?_
 rintro e w2 ⟨ρ', v, V, rfl, hF, hq, hV, u⟩
 have HEr := Lib.hid (ferr_any hF)
 have HE := Lib.hid (show FSplitTo l b w (.returned (.tuple #[v, errFS (runF (frF l) s0F b)])) w2 from
  ⟨v, V, rfl, hq, hV.mono fun k hk => ⟨Nat.le_trans HB1.out.size hk.1, hk.2.1⟩, HB1.out.trans (u.only.below w.heap.size HB1.out.size (ownR_from Hρ.out))⟩)
 obtain ⟨pv, cv, rfl⟩ := hV.sliced
 clear hF hq hV u HFd
 generalize errFS (runF (frF l) s0F b) = er at *
 go_wp2_with fail
 refine HEr.out.mono ?_
 rintro e w3 ⟨rfl, rfl⟩
 go_wp2_with fail
 go_ret2
 exact HE.out
end Go.Proofs.YtpplgdnklpchkaaGreatDoor
namespace Go.Proofs.YtpplgdnklpchkaaGreatDoor
set_option linter.all false
open Go.RowKit
theorem stepF_few {l : Lim} (hl : LimR l) {nx k : Nat} {L : List (Hd × List UInt8)} {r : RS} {p : FP Hd} (c : UInt8) (hp : LiveP l k r p) (hL : ∀ x ∈ L, 3 * x.1.F.length <= k) :
  match stepF (frF l) (.go nx k L r p) c with
  | .go _ k' L' r' p' => k' = k + 1 /\ LiveP l k' r' p' /\ ∀ x ∈ L', 3 * x.1.F.length <= k'
  | .bad _ k' _ L' => k' = k /\ ∀ x ∈ L', 3 * x.1.F.length <= k' := by
 rw [stepF_T (frF l) nx k L r p c hp.fit]
 have hv := takeT_live hl (c := c) hp
 cases e : takeT (frF l) k r p c with
 | go r2 q2 =>
  rw [e] at hv
  exact ⟨rfl, hv, fun x hx => by have := hL x hx; omega⟩
 | bad s => exact ⟨rfl, hL⟩
 | comp h d r2 =>
  rw [e] at hv
  obtain ⟨o, ⟨y, rfl⟩, _⟩ := hv
  refine ⟨rfl, ⟨.inr rfl, Nat.zero_le _⟩, fun x hx => ?_⟩
  rcases List.mem_append.1 hx with hx | hx
  ·have := hL x hx; omega
  ·rw [List.mem_singleton] at hx
   subst hx
   have := o.few
   have := o.n
   show 3 * h.F.length <= k + 1
   omega
theorem runF_few {l : Lim} (hl : LimR l) : ∀ (b : List UInt8) (nx k : Nat) (L : List (Hd × List UInt8)) (r : RS) (p : FP Hd), LiveP l k r p -> (∀ x ∈ L, 3 * x.1.F.length <= k) -> ∀ x ∈ reqsF (runF (frF l) (.go nx k L r p) b), 3 * x.1.F.length <= k + b.length
 | [], nx, k, L, r, p, hp, hL => fun x hx => hL x hx
 | c :: b, nx, k, L, r, p, hp, hL => by
  intro x hx
  rw [runF_cons] at hx
  have hs := stepF_few hl (nx := nx) c hp hL
  rw [List.length_cons]
  cases e : stepF (frF l) (.go nx k L r p) c with
  | go nx' k' L' r' p' =>
   rw [e] at hs hx
   obtain ⟨h1, h2, h3⟩ := hs
   have := runF_few hl b nx' k' L' r' p' h2 h3 x hx
   omega
  | bad s k' nx' L' =>
   rw [e] at hs hx
   obtain ⟨h1, h3⟩ := hs
   rw [runF_bad] at hx
   have := h3 x hx
   omega
set_option maxRecDepth 100000 in
set_option maxHeartbeats 4000000 in
theorem refSame15_any {R1 R2 : Nat -> Prop} (a b : Value) (V1 V2 : List RV) (w : World) (h1 : ReqsIn R1 w a V1) (h2 : ReqsIn R2 w b V2) (he : V1.map RV.pr = V2.map RV.pr) (hf : ∀ x ∈ V1, x.h.F.length <= 1000000) :
  Calls Tryz.prog 15 #[a, b] w (SaysIn true w) := by
 obtain ⟨p1, c1, rfl⟩ := h1.sliced
 obtain ⟨p2, c2, rfl⟩ := h2.sliced
 have hlen : V2.length = V1.length := by have := congrArg List.length he; simpa using this.symm
 rw [hlen] at h2 ⊢
 have hn9 := h1.len
 have H1 := Lib.hid h1
 have H2 := Lib.hid h2
 have HE := Lib.hid he
 have Hf := Lib.hid hf
 obtain ⟨n, hn⟩ : ∃ n, n = V1.length := ⟨_, rfl⟩
 rw [<- hn] at H1 H2 hn9 ⊢
 have Hn := Lib.hid (fun (_ : Unit) => hn)
 have Hl := Lib.hid (hlen.trans hn.symm)
 clear h1 h2 he hf hlen hn
 go_enter Tryz.func15, Tryz.ntmps15
 go_wp2_with fail
 go_loopw [5] (fun i wr => ∃ k : Nat, k <= n /\ i = .int .i64 k /\ Hid (Below w.heap.size w wr)) (fun i _ => n - (intOf i).toNat)
 case atStart => exact ⟨0, Nat.zero_le _, rfl, Below.refl _ _⟩
 case round =>
  obtain ⟨k, hk, rfl, HB⟩ := hrel
  by_cases hlt : k < n
  ·have hk1 : k < V1.length := by rw [<- Hn.out ()]; exact hlt
   have hk2 : k < V2.length := by rw [Hl.out]; exact hlt
   have R1x := H1.out.below HB.out
   have R2x := H2.out.below HB.out
   obtain ⟨b1, o1, hi1, A1⟩ := R1x.at_ k hk1
   obtain ⟨b2, o2, hi2, A2⟩ := R2x.at_ k hk2
   have hpr : (V1[k].h, V1[k].d) = (V2[k].h, V2[k].d) := by
    have := congrArg (fun L => L[k]?) HE.out
    simp only [List.getElem?_map, List.getElem?_eq_getElem hk1, List.getElem?_eq_getElem hk2, Option.map_some] at this
    exact Option.some.inj this
   injection hpr with e1 e2
   have i1 := R1x.2 _ (List.getElem_mem hk1)
   have i2 := R2x.2 _ (List.getElem_mem hk2)
   have hfl := Hf.out _ (List.getElem_mem hk1)
   generalize V1[k] = x at A1 i1 e1 e2 hfl
   generalize V2[k] = y at A2 i2 e1 e2
   obtain ⟨xh, xd, xf, xb⟩ := x
   obtain ⟨yh, yd, yf, yb⟩ := y
   simp only at e1 e2 hfl
   subst e1 e2
   have HS := Lib.hid (fun W (hb : Below wr.heap.size wr W) => hSame_any xh.A xh.B xh.m xf yf xb yb xh.F xd W (i1.f.below hb) (i2.f.below hb) (RowIn.below i1.b hb) (RowIn.below i2.b hb) hfl)
   have a0 : wr.drew.cell? ⟨b1, o1, none⟩ = some (.string xh.A) := A1.a0
   have a1 : wr.drew.cell? ⟨b1, o1 + 1, none⟩ = some (.string xh.B) := A1.a1
   have a2 : wr.drew.cell? ⟨b1, o1 + 2, none⟩ = some (.int .i64 xh.m) := A1.a2
   have a3 : wr.drew.cell? ⟨b1, o1 + 3, none⟩ = some xf := A1.a3
   have a4 : wr.drew.cell? ⟨b1, o1 + 4, none⟩ = some xb := A1.a4
   have d0 : wr.drew.cell? ⟨b2, o2, none⟩ = some (.string xh.A) := A2.a0
   have d1 : wr.drew.cell? ⟨b2, o2 + 1, none⟩ = some (.string xh.B) := A2.a1
   have d2 : wr.drew.cell? ⟨b2, o2 + 2, none⟩ = some (.int .i64 xh.m) := A2.a2
   have d3 : wr.drew.cell? ⟨b2, o2 + 3, none⟩ = some yf := A2.a3
   have d4 : wr.drew.cell? ⟨b2, o2 + 4, none⟩ = some yb := A2.a4
   clear A1 A2 i1 i2 R1x R2x hfl
   unfold SaysIn at HS
   go_wp2_with fail
   go_region_with (first | (go_at_call 28; refine (HS.out _ ((Below.refl _ _).drew)).mono ?_; rintro e w1 ⟨rfl, b0⟩; have HB1 := Lib.hid (HB.out.trans (((Below.refl wr.heap.size wr).drew.trans b0).mono HB.out.size)); clear b0))
   all_goals
    clear a0 a1 a2 a3 a4 d0 d1 d2 d3 d4 hi1 hi2
    go_wp2_with fail
    go_roundw
    case rel => exact ⟨k + 1, by omega, by go_num, HB1.out⟩
    case measure => simp [intOf]; omega
  ·go_wp2_with fail
   go_ret
   exact ⟨rfl, HB.out⟩
end Go.Proofs.YtpplgdnklpchkaaGreatDoor
namespace Go.Proofs.YtpplgdnklpchkaaGreatDoor
set_option linter.all false
open Go.RowKit
def fldTx (f : FB) : List UInt8 := (textF f.1 f.2).data.toList
def fldsTx : List FB -> List UInt8
 | [] => []
 | f :: l => fldTx f ++ 13 :: 10 :: fldsTx l
def sumF : List FB -> Nat
 | [] => 0
 | f :: l => f.1.size + f.2.size + 3 + sumF l
def sumT : List FB -> Nat
 | [] => 0
 | f :: l => f.1.size + f.2.size + 4 + sumT l
def bytesTx (h : Hd) (d : List UInt8) : List UInt8 := (textP h.A h.B h.m).data.toList ++ 13 :: 10 :: (fldsTx h.F ++ 13 :: 10 :: d)
theorem fldTx_eq (f : FB) : fldTx f = f.1.data.toList ++ 58 :: 32 :: f.2.data.toList := by
 unfold fldTx textF
 rw [text_cat, text_cat, text_cat]
 simp
theorem fldTx_len (f : FB) : (fldTx f).length = f.1.size + f.2.size + 2 := by rw [fldTx_eq]; simp; omega
theorem fldsTx_len : ∀ F, (fldsTx F).length = sumT F
 | [] => rfl
 | f :: l => by simp [fldsTx, sumT, fldTx_len, fldsTx_len l]; omega
theorem sumF_app : ∀ a b, sumF (a ++ b) = sumF a + sumF b
 | [], b => by simp [sumF]
 | f :: l, b => by simp [sumF, sumF_app l b]; omega
theorem sumT_le : ∀ F, sumT F <= 2 * sumF F
 | [] => Nat.le_refl _
 | f :: l => by have := sumT_le l; simp only [sumT, sumF]; omega
theorem sumF_len : ∀ F : List FB, 3 * F.length <= sumF F
 | [] => Nat.le_refl _
 | f :: l => by have := sumF_len l; simp only [sumF, List.length_cons]; omega
theorem bytesTx_len (h : Hd) (d : List UInt8) : (bytesTx h d).length = (textP h.A h.B h.m).size + 2 + sumT h.F + 2 + d.length := by
 unfold bytesTx
 rw [List.length_append, List.length_cons, List.length_cons, List.length_append, List.length_cons, List.length_cons, fldsTx_len, show (textP h.A h.B h.m).data.toList.length = (textP h.A h.B h.m).size from (Lib.size_eq _).symm]
 omega
theorem fldsTx_app : ∀ a b, fldsTx (a ++ b) = fldsTx a ++ fldsTx b
 | [], b => rfl
 | f :: l, b => by simp [fldsTx, fldsTx_app l b]
theorem fldsTx_snoc (F : List FB) (k : Nat) (hk : k < F.length) : fldsTx (F.take (k + 1)) = fldsTx (F.take k) ++ (fldTx F[k] ++ [13, 10]) := by
 rw [List.take_succ_eq_append_getElem hk, fldsTx_app]
 simp [fldsTx]
theorem sumT_app : ∀ a b, sumT (a ++ b) = sumT a + sumT b
 | [], b => by simp [sumT]
 | f :: l, b => by simp [sumT, sumT_app l b]; omega
theorem sumT_take (F : List FB) (k : Nat) : sumT (F.take k) <= sumT F := by
 have := sumT_app (F.take k) (F.drop k)
 rw [List.take_append_drop] at this
 omega
theorem sumT_few : ∀ (F : List FB), (∀ f ∈ F, f.1.size <= 20000 /\ f.2.size <= 20000) -> sumT F <= 40004 * F.length
 | [], _ => Nat.le_refl _
 | f :: l, h => by
  have h1 := h f (by simp)
  have h2 := sumT_few l fun g hg => h g (by simp [hg])
  simp only [sumT, List.length_cons]
  omega
end Go.Proofs.YtpplgdnklpchkaaGreatDoor
