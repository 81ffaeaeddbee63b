/- FramerSplits. -/
import Derived.Test.YtpplgdnklpchkaaGreatDoorQFX
namespace Go.Proofs.YtpplgdnklpchkaaGreatDoor
set_option linter.all false
open Go.RowKit
theorem runF_bad_nx {l : Lim} (hl : LimR l) : ∀ (b : List UInt8) (nx k : Nat) (L : List (Hd × List UInt8)) (r : RS) (p : FP Hd), LiveP l k r p -> nx <= k -> ∀ s j nx' L', runF (frF l) (.go nx k L r p) b = .bad s j nx' L' -> nx' <= j
 | [], nx, k, L, r, p, hp, hn => fun s j nx' L' e => by cases e
 | c :: b, nx, k, L, r, p, hp, hn => by
  intro s j nx' L' e
  rw [runF_cons, stepF_T (frF l) nx k L r p c hp.fit] at e
  have hv := takeT_live hl (c := c) hp
  cases e2 : takeT (frF l) k r p c with
  | go r2 q2 => rw [e2] at e hv; exact runF_bad_nx hl b _ _ _ _ _ hv (by omega) _ _ _ _ e
  | bad s2 =>
   rw [e2] at e
   have e : runF (frF l) (.bad s2 k nx L) b = .bad s j nx' L' := e
   rw [runF_bad] at e
   injection e with _ e1 e2
   omega
  | comp h d r2 =>
   rw [e2] at e hv
   obtain ⟨o, ⟨y, rfl⟩, _⟩ := hv
   exact runF_bad_nx hl b _ _ _ _ _ (show LiveP l (k + 1) (bnd y) .start from ⟨.inr rfl, Nat.zero_le _⟩) (Nat.le_refl _) _ _ _ _ e
theorem split_says {l : Lim} (hl : LimR l) (b : List UInt8) :
  (∃ nx : Nat, errFS (runF (frF l) s0F b) = .nilIface /\ tkF (runF (frF l) s0F b) = b.length /\ nxF (runF (frF l) s0F b) = nx /\ stS (splitR (frF l) 0 b []) = 0 /\ nxS (splitR (frF l) 0 b []) = nx) \/
  ∃ (s : Int) (k nx : Nat), errFS (runF (frF l) s0F b) = baseF s (k : Int) /\ tkF (runF (frF l) s0F b) = k + 1 /\ nxF (runF (frF l) s0F b) = nx /\ stS (splitR (frF l) 0 b []) = s /\ atS (splitR (frF l) 0 b []) = k /\ s ≠ 0 /\ nx <= k /\ k < b.length := by
 have h := (run_split l b).2
 cases e : splitR (frF l) 0 b [] with
 | all nx L => rw [e] at h; exact .inl ⟨nx, h.2.2, h.1, h.2.1, rfl, rfl⟩
 | bad s k nx L =>
  rw [e] at h
  have h : runF (frF l) s0F b = .bad s k nx L := h
  have h1 := runF_bad_nx hl b 0 0 [] _ _ (s0_live l) (Nat.le_refl _) _ _ _ _ h
  have h2 := runF_bad_lt hl b 0 0 [] _ _ (s0_live l) _ _ _ _ h
  exact .inr ⟨s, k, nx, by rw [h]; rfl, by rw [h]; rfl, by rw [h]; rfl, rfl, rfl, split_told hl b _ _ _ _ e, h1, by omega⟩
theorem fopen_q {ρ : Nat -> Nat} {w : World} {p : Nat} {l : Lim} {s : FS Hd} (h : FrmP ρ w p l s) : Calls Tryz.prog 18 #[.pointer (some ⟨p, 0, none⟩)] w (fun e w' => e = .returned (.bool (decide (nxF s < tkF s))) /\ ∃ m, w' = w.drewN m) := by
 have c := h.cells.1
 have c2 := h.cells.2.1
 generalize tkF s = x at *
 generalize nxF s = y at *
 have hd : decide ((y : Int) < (x : Int)) = decide (y < x) := by rw [Bool.eq_iff_iff]; simp
 have Hd := Lib.hid hd
 obtain ⟨b, hb⟩ : ∃ b, b = decide ((y : Int) < (x : Int)) := ⟨_, rfl⟩
 have Hb := Lib.hid hb
 have hb2 := hb.symm
 clear h hd hb
 go_enter Tryz.func18, Tryz.ntmps18
 go_wp2_with fail
 go_quiet (fail)
 go_wp2_with fail
 go_ret
 exact ⟨by first | rfl | rw [<- Hd.out, <- Hb.out], _, rfl⟩
theorem row_at {w : World} {B : Nat} {p : Option Addr} {n c : Nat} {us : List Value} (h : w.ownsRow B 22 1 (.slice p n c) n us) (k : Nat) (hk : k < n) (u : Value) (hu : us[k]? = some u) :
  ∃ g, B <= g /\ g < w.heap.size /\ (∀ W, (Instr.indexAt 33 (.slice p n c) (.int .i64 (k : Int))).run Tryz.prog W = .ok (.pointer (some ⟨g, k, none⟩)) W) /\ w.cell? ⟨g, k, none⟩ = some u := by
 have h0 := h
 rcases h.2 with ⟨e, hn⟩ | ⟨g, cap, cur, e, hB, hh, hn, hm, hc, ht⟩
 ·omega
 ·injection e with e1 e2 e3
  subst e1
  subst e3
  have := h0.cells (g := g) rfl k u hu
  rw [Addr.add_lit, Nat.zero_add] at this
  refine ⟨g, hB, World.block_lt_of_cell? w _ this, fun W => ?_, this⟩
  rw [run_indexAt_slice (h := Tryz.elemBytes2), if_pos ⟨by omega, by omega⟩, Tryz.sizeBytes2]
  simp [Result.andThen, Addr.add_lit]
theorem GotS.reqsIn {ρ : Nat -> Nat} {w : World} {p : Nat} {l : Lim} {s : FS Hd} {ρr : Nat -> Nat} {wr : World} {st : FS Hd} {rv : Value} {V : List RV} (h : GotS ρ w p l s ρr wr st rv V) : ReqsIn (fun _ => True) wr rv V :=
 h.own.reqsIn (fun x hx => (h.inn x hx).mono fun _ _ => trivial) fun _ _ => trivial
end Go.Proofs.YtpplgdnklpchkaaGreatDoor
