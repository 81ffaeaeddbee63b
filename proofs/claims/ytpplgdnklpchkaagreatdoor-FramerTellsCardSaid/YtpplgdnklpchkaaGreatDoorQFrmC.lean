/- The framer: addField. -/
import Derived.BigQuiet
import Derived.Test.YtpplgdnklpchkaaGreatDoorQB2
import Derived.Test.YtpplgdnklpchkaaGreatDoorQFA
namespace Go.Proofs.YtpplgdnklpchkaaGreatDoor
set_option linter.all false
open Go.RowKit
def moreT (l : Lim) (h : Hd) (s : ByteArray) : TR Hd := match moreH l h s with
 | .ok h' => .go (bnd s) (.flds h')
 | .error st => .bad st
theorem moreT_great {l : Lim} {h : Hd} {s : ByteArray} (e : l.fields <= (h.F.length : Int) \/ l.head < (h.n : Int) + ((s.size : Int) + 2)) : moreT l h s = .bad 431 := by unfold moreT moreH; rw [if_pos e]
theorem moreT_fld {l : Lim} {h : Hd} {s N V : ByteArray} (e : ¬ (l.fields <= (h.F.length : Int) \/ l.head < (h.n : Int) + ((s.size : Int) + 2))) (ho : outS s = .fld N V) : moreT l h s = .go (bnd s) (.flds ⟨h.A, h.B, h.m, h.F ++ [(N, V)], h.n + (s.size + 2)⟩) := by unfold moreT moreH; rw [if_neg e, ho]
theorem moreT_bad {l : Lim} {h : Hd} {s : ByteArray} {k : Int} (e : ¬ (l.fields <= (h.F.length : Int) \/ l.head < (h.n : Int) + ((s.size : Int) + 2))) (ho : outS s = .bad k) : moreT l h s = .bad 400 := by unfold moreT moreH; rw [if_neg e, ho]
def Hd.size (h : Hd) (n : Nat) : Hd := ⟨h.A, h.B, h.m, h.F, n⟩
theorem FrmX.addF {ρ : Nat -> Nat} {w w' : World} {p : Nat} {l : Lim} {tk en : Nat} {r : RS} {st : Int} {h : Hd} {lk : Int} {d : List UInt8} {rp : Nat} {v fv bv dv v' : Value} {N V : ByteArray} {T : TypeId} (x : FrmX ρ w p l tk en r st h lk d rp v fv bv dv)
  (h1 : w'.ownsRow 0 53 2 v' (h.F.length + 1) (fldVals h.F ++ [.string N, .string V])) (h2 : (w.alloc (.cells #[.string N, .string V] T)).grownBy w' fv.ownBlock) (h3 : Placed (w.alloc (.cells #[.string N, .string V] T)) fv v') :
  (∃ ρ', FrmX ρ' (w'.setCell ⟨p, 9, none⟩ v') p l tk en r st ⟨h.A, h.B, h.m, h.F ++ [(N, V)], h.n⟩ lk d rp v v' bv dv /\ Upd ρ w ρ' (w'.setCell ⟨p, 9, none⟩ v')) /\ w'.cell? ⟨p, 9, none⟩ = some fv /\ w'.frozen? ⟨p, 9, none⟩ = false /\ ∃ pa ca, v' = .slice pa (h.F.length + 1) ca := by
 have bA : Below w.heap.size w (w.alloc (.cells #[.string N, .string V] T)) := (Below.refl _ _).alloc (Nat.le_refl _) _
 have g := grownBy_from bA h2
 have hnp : fv.ownBlock ≠ some p := fun e => by have h5 := x.rf p e; have h1 := x.rp1; omega
 have hB := x.box.only (S := fun k => fv.ownBlock = some k) ((Only.refl _ w).grown g fun k hk _ => hk) hnp
 have ho := ownFlds_more h1
 obtain ⟨pa, ca, e⟩ := ho.sliced
 rw [List.length_append] at e
 exact ⟨x.fields ho g (placed_from bA.size h3), hB.cell rfl, hB.free 9 (by simp [frmL]), pa, ca, e⟩
set_option maxRecDepth 100000 in
set_option maxHeartbeats 4000000 in
theorem addField_any {ρ : Nat -> Nat} {w : World} {p : Nat} {l : Lim} {tk en : Nat} {r : RS} {h : Hd} {rp : Nat} {v fv : Value} (s : ByteArray) (x : FrmX ρ w p l tk en (bnd s) 1 h 0 [] rp v fv (.slice none 0 0) (.pointer none))
  (hs : s.size <= 1000000) (hn : h.n <= 1000000) (hF : h.F.length <= 1000000) (gr : GlobR ρ) (gw : GlobW w) :
  Calls Tryz.prog 78 #[.pointer (some ⟨p, 0, none⟩), .string s] w (HalfF ρ w p l tk en (moreT l h s)) := by
 have c1 := x.cells.c1
 have c2 := x.cells.c2
 have c9 := x.cells.c9
 have c10 := x.cells.c10
 have f9 := x.cells.f 9 (by omega)
 have f10 := x.cells.f 10 (by omega)
 obtain ⟨pF, cF, rfl⟩ := x.fld.sliced
 obtain ⟨z, hz⟩ : ∃ z : Int, z = (h.n : Int) := ⟨_, rfl⟩
 obtain ⟨sz, hsz⟩ : ∃ sz : Int, sz = (s.size : Int) := ⟨_, rfl⟩
 have X1 := Lib.hid (x.put (st' := 1) (lk' := 0) (h' := h.size (h.n + (s.size + 2))) (tk' := tk) (en' := en) (dv' := .pointer none) 10 (.int .i64 (z + (sz + 2))) (by omega) (by rw [hz, hsz]; rfl) rfl)
 have U1 := Lib.hid ((Upd.refl ρ w).put 10 (.int .i64 (z + (sz + 2))) x.rp1)
 have G1 := Lib.hid (gw.upd gr U1.out)
 have H1 := Lib.hid (fun a => moreT_great (l := l) (h := h) (s := s) a)
 have H2 := Lib.hid (fun a N V b => moreT_fld (l := l) (h := h) (s := s) (N := N) (V := V) a b)
 have H3 := Lib.hid (fun a k b => moreT_bad (l := l) (h := h) (s := s) (k := k) a b)
 have HP := Lib.hid (fun W (hm : GlobM W) => parse_any s W hm.2 (by omega))
 rw [<- hz, <- hsz] at H1 H2 H3
 rw [<- hz] at c10
 have hz0 : 0 <= z := by omega
 have hz1 : z <= 1000000 := by omega
 have hsz0 : 0 <= sz := by omega
 have hsz1 : sz <= 1000000 := by omega
 have hsz2 : (s.size : Int) = sz := hsz.symm
 have HX := Lib.hid x
 generalize moreT l h s = T at *
 clear x hz hsz hs hn gr gw
 by_cases hA : l.fields <= (h.F.length : Int)
 ·have HT := Lib.hid (H1.out (.inl hA))
  clear H1 H2 H3 HP
  go_enter Tryz.func78, Tryz.ntmps78
  go_wp2_with fail
  go_quiet (fail)
  go_wp2_with fail
  go_ret
  exact halfF_bad HT.out ⟨U1.out.only.drewN _, U1.out.same⟩ (errC_S _ _) (X1.out.drewN _).bad
 ·by_cases hH : l.head < z + (sz + 2)
  ·have HT := Lib.hid (H1.out (.inr hH))
   clear H1 H2 H3 HP
   go_enter Tryz.func78, Tryz.ntmps78
   go_wp2_with fail
   go_quiet (fail)
   go_wp2_with fail
   go_ret
   exact halfF_bad HT.out ⟨U1.out.only.drewN _, U1.out.same⟩ (errC_S _ _) (X1.out.drewN _).bad
  ·have H2' := Lib.hid (H2.out (fun a => a.elim hA hH))
   have H3' := Lib.hid (H3.out (fun a => a.elim hA hH))
   clear H1 H2 H3
   have HPx := Lib.hid (fun n => HP.out ((w.setCell ⟨p, 10, none⟩ (.int .i64 (z + (sz + 2)))).drewN n) G1.out.gm)
   clear HP
   cases ho : outS s with
   | bad k =>
    have HT := Lib.hid (H3'.out k ho)
    rw [ho] at HPx
    unfold ParsesTo outV baseF at HPx
    clear H2' H3' ho
    go_enter Tryz.func78, Tryz.ntmps78
    go_wp2_with fail
    go_quiet (fail)
    go_wp2_with fail
    refine (HPx.out _).mono ?_
    rintro e w1 ⟨rfl, b1⟩
    have H0 := Lib.hid (Box.new w1 (fldL ⟨#[]⟩ ⟨#[]⟩) 53)
    have X3 := Lib.hid ((X1.out.drewN _).below b1)
    have U3 := Lib.hid ((show Upd ρ w ρ _ from ⟨U1.out.only.drewN _, U1.out.same⟩).trans (Upd.below b1))
    clear b1
    go_wp2_with (refine wpList_store_box (n := 2) Tryz.fldSize rfl _ _ rfl (g := w1.heap.size) (vs := fldL ⟨#[]⟩ ⟨#[]⟩) rfl rfl H0.out rfl rfl (fld_one _ _) ?_)
    intro w2 b2 o2
    have B2 := (show Below w1.heap.size w1 w2 from ((Below.refl _ _).alloc (Nat.le_refl _) _).trans (only_eq_below o2 (Nat.le_refl _) (by simp)))
    have X4 := Lib.hid (X3.out.below B2)
    have U4 := Lib.hid (U3.out.trans (Upd.below B2))
    clear b2 o2 B2
    go_wp2_with fail
    go_ret
    exact halfF_bad HT.out U4.out (errC_F _ _ k) X4.out.bad
   | fld N V =>
    have HT := Lib.hid (H2'.out N V ho)
    rw [ho] at HPx
    unfold ParsesTo outV at HPx
    clear H2' H3' ho
    go_enter Tryz.func78, Tryz.ntmps78
    go_wp2_with fail
    go_quiet (fail)
    go_wp2_with fail
    refine (HPx.out _).mono ?_
    rintro e w1 ⟨rfl, b1⟩
    have H0 := Lib.hid (Box.new w1 (fldL ⟨#[]⟩ ⟨#[]⟩) 53)
    have X3 := Lib.hid ((X1.out.drewN _).below b1)
    have U3 := Lib.hid ((show Upd ρ w ρ _ from ⟨U1.out.only.drewN _, U1.out.same⟩).trans (Upd.below b1))
    clear b1
    go_wp2_with (refine wpList_store_box (n := 2) Tryz.fldSize rfl _ _ rfl (g := w1.heap.size) (vs := fldL N V) rfl rfl H0.out rfl rfl (fld_one _ _) ?_)
    intro w2 b2 o2
    have B2 := (show Below w1.heap.size w1 w2 from ((Below.refl _ _).alloc (Nat.le_refl _) _).trans (only_eq_below o2 (Nat.le_refl _) (by simp)))
    have X4 := Lib.hid (X3.out.below B2)
    have U4 := Lib.hid (U3.out.trans (Upd.below B2))
    have t0 : w2.drew.cell? ⟨w1.heap.size, 0, none⟩ = some (.string N) := b2.cell rfl
    have t1 : w2.drew.cell? ⟨w1.heap.size, 1, none⟩ = some (.string V) := b2.cell rfl
    have d9 : w2.drew.cell? ⟨p, 9, none⟩ = some (.slice pF h.F.length cF) := X4.out.cells.c9
    have e9 : w2.drew.frozen? ⟨p, 9, none⟩ = false := X4.out.cells.f 9 (by omega)
    have bA : Below w2.heap.size w2 (w2.alloc (.cells #[.string N, .string V] 53)) := (Below.refl _ _).alloc (Nat.le_refl _) _
    have k9 : (w2.alloc (.cells #[.string N, .string V] 53)).drew.cell? ⟨p, 9, none⟩ = some (.slice pF h.F.length cF) := (X4.out.below bA).cells.c9
    have q9 : (w2.alloc (.cells #[.string N, .string V] 53)).drew.frozen? ⟨p, 9, none⟩ = false := (X4.out.below bA).cells.f 9 (by omega)
    clear b2 o2 B2 c1 c2 c9 c10 f9 f10 bA
    go_wp2_with fail
    go_region_law (first | (refine step_append_at Tryz.eFld (some 63) rfl rfl _ _ rfl 0 (w2.drew.alloc (.cells #[.string N, .string V] 53)) (.slice pF h.F.length cF) h.F.length (fldVals h.F) rfl (World.ownsRow.alloc X4.out.drew.fld _) (.slice (some ⟨w2.heap.size, 0, none⟩) 1 1) 1 [.string N, .string V] rfl (SrcAt.new w2.drew [.string N, .string V] 53 2 rfl) (fld_one N V) (by omega) (by omega) (Nat.zero_le _) ?_; intro v' w' h1 h2 h3; obtain ⟨⟨ρ5, Y, U5⟩, k9, q9, pa, ca, rfl⟩ := X4.out.drew.addF h1 h2 h3; have Y5 := Lib.hid Y; have U6 := Lib.hid ((U4.out.drew).trans U5); clear Y U5 h1 h2 h3) | (refine step_append_at Tryz.eFld (some 63) rfl rfl _ _ rfl 0 (w2.alloc (.cells #[.string N, .string V] 53)).drew (.slice pF h.F.length cF) h.F.length (fldVals h.F) rfl (World.ownsRow.alloc X4.out.drew.fld _) (.slice (some ⟨w2.heap.size, 0, none⟩) 1 1) 1 [.string N, .string V] rfl (SrcAt.new w2.drew [.string N, .string V] 53 2 rfl) (fld_one N V) (by omega) (by omega) (Nat.zero_le _) ?_; intro v' w' h1 h2 h3; obtain ⟨⟨ρ5, Y, U5⟩, k9, q9, pa, ca, rfl⟩ := X4.out.drew.addF h1 h2 h3; have Y5 := Lib.hid Y; have U6 := Lib.hid ((U4.out.drew).trans U5); clear Y U5 h1 h2 h3))
    all_goals
     go_wp2_with fail
     go_ret
     exact halfF_go HT.out U6.out ⟨_, _, _, Y5.out⟩
end Go.Proofs.YtpplgdnklpchkaaGreatDoor
