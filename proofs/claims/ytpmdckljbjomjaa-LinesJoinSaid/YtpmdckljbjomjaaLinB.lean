/- Package lines: complete, take, Put, New. -/
import Derived.Test.YtpmdckljbjomjaaLinA
import Derived.Deep.QuietTactic
namespace Go.Proofs.Ytpmdckljbjomjaa
set_option linter.all false
open Go.RowKit

theorem moved_of {B : Nat} {w w' : World} {p m : Nat} {r' : RS} {v v' : Value} (hC : RdrC w' p m r' v') (hO : OwnBytes w' B v' r'.text) (ha : v'.ownBlock ≠ some p) (hB : B ≤ p)
    (ho : Only (fun k => k = p ∨ v.ownBlock = some k) w w') (hp : Placed w v v') : Moved B w w' p m r' v := ⟨v', ⟨hC, hO, ha, hB⟩, ho, hp⟩
theorem rs_eta (r : RS) : (⟨r.st, r.text, r.ends, r.last⟩ : RS) = r := rfl
theorem Try.sizeByteL (w : World) : (sizeOf (Try.prog.elem 36)).run Try.prog w = .ok 1 w := by kernel_rfl
theorem Try.elemByteL : Try.prog.underlying 36 = some (.slice (Try.prog.elem 36)) := by kernel_rfl
theorem slice_zero (a : Option Addr) (n cap : Nat) (w : World) : (Instr.slice 36 (.slice a n cap) none (some (.int .i64 0)) none).run Try.prog w = .ok (.slice a 0 cap) w := by
  rw [run_slice_h w 36 a n cap Try.elemByteL .i64 0 (by omega) (by omega), Try.sizeByteL]
  have h : (if cap = 0 then a else a.map (·.add (0 * 1))) = a := by
    split
    · rfl
    · cases a <;> rfl
  show Result.ok (Value.slice (if cap = 0 then a else a.map (·.add (0 * 1))) (0 - 0) (cap - 0)) w = _
  rw [h]; rfl
set_option maxHeartbeats 1000000 in
theorem complete_any {B : Nat} {w : World} {p m : Nat} {r : RS} {v : Value} (h : RdrAt B w p m r v) :
    Calls Try.prog 18 #[.pointer (some ⟨p, 0, none⟩)] w (fun e w' => e = .returned (.tuple #[]) ∧ Moved B w w' p m ⟨r.st, [], false, ⟨r.text.toArray⟩⟩ v) := by
  obtain ⟨a, cap, hv, hc, h0⟩ := h.own.slicedL
  have hback := h.own.back
  subst hv
  have hsl := slice_zero a r.text.length cap
  have c2 := h.cells.c2
  have c3 := h.cells.c3
  have c4 := h.cells.c4
  have f2 := h.cells.f2
  have f3 := h.cells.f3
  have f4 := h.cells.f4
  obtain ⟨x, hx⟩ : ∃ x : ByteArray, x = ⟨r.text.toArray⟩ := ⟨_, rfl⟩
  rw [← hx] at hback ⊢
  have hE : Moved B w (((w.setCell ⟨p, 4, none⟩ (.string x)).setCell ⟨p, 2, none⟩ (.slice a 0 cap)).setCell ⟨p, 3, none⟩ (.bool false)) p m ⟨r.st, [], false, x⟩ (.slice a r.text.length cap) := by
    have hob : (Value.slice a 0 cap).ownBlock = (Value.slice a r.text.length cap).ownBlock := by cases a <;> rfl
    have hap : (Value.slice a 0 cap).ownBlock ≠ some p := by rw [hob]; exact h.apart
    refine moved_of (((h.cells.putLast x).putText [] (.slice a 0 cap)).putEnds false) (own_past (own_past (own_past h0 _ hap) _ hap) _ hap) hap h.base ?_ (.inl hob)
    exact (((Only.refl _ w).setCell (p := ⟨p, 4, none⟩) (fun _ => .inl rfl) _).setCell (p := ⟨p, 2, none⟩) (fun _ => .inl rfl) _).setCell (p := ⟨p, 3, none⟩) (fun _ => .inl rfl) _
  have HE := Lib.hid hE
  generalize r.text.length = n at *
  generalize r.ends = b at *
  generalize r.last = y at *
  clear h h0 hx hE
  go_enter Try.func18, Try.ntmps18
  go_wp2
  go_end0
  exact ⟨rfl, HE.out⟩
theorem takeR_lf {m : Nat} {r : RS} (h : r.ends = true) : takeR m r 10 = ⟨1, [], false, ⟨r.text.toArray⟩⟩ := by unfold takeR; rw [if_pos h, if_pos rfl]
theorem takeR_bad1 {m : Nat} {r : RS} {c : UInt8} (h : r.ends = true) (hc : c ≠ 10) : takeR m r c = ⟨2, r.text, r.ends, r.last⟩ := by unfold takeR; rw [if_pos h, if_neg hc]
theorem takeR_bad2 {m : Nat} {r : RS} (h : r.ends = false) : takeR m r 10 = ⟨2, r.text, r.ends, r.last⟩ := by unfold takeR; rw [if_neg (by rw [h]; decide), if_pos rfl]
theorem takeR_cr {m : Nat} {r : RS} (h : r.ends = false) : takeR m r 13 = ⟨0, r.text, true, r.last⟩ := by unfold takeR; rw [if_neg (by rw [h]; decide), if_neg (by decide), if_pos rfl]
theorem takeR_long {m : Nat} {r : RS} {c : UInt8} (h : r.ends = false) (h1 : c ≠ 10) (h2 : c ≠ 13) (hl : m ≤ r.text.length) : takeR m r c = ⟨3, r.text, r.ends, r.last⟩ := by unfold takeR; rw [if_neg (by rw [h]; decide), if_neg h1, if_neg h2, if_pos hl]
theorem takeR_more {m : Nat} {r : RS} {c : UInt8} (h : r.ends = false) (h1 : c ≠ 10) (h2 : c ≠ 13) (hl : r.text.length < m) : takeR m r c = ⟨0, r.text ++ [c], r.ends, r.last⟩ := by unfold takeR; rw [if_neg (by rw [h]; decide), if_neg h1, if_neg h2, if_neg (by omega)]
theorem byte_of {c : UInt8} {n : Nat} (hn : n < 256) (h : (c.toNat : Int) = n) : c = UInt8.ofNat n := byte_is hn h
/-- What take leaves: all but the state. -/
def TookE (B : Nat) (w : World) (p m : Nat) (r : RS) (c : UInt8) (v : Value) (e : Ending) (w' : World) : Prop :=
  e = .returned (.int .i64 ((takeR m r c).st : Int)) ∧ Moved B w w' p m ⟨r.st, (takeR m r c).text, (takeR m r c).ends, (takeR m r c).last⟩ v
theorem tookE_of {B : Nat} {w w' : World} {p m : Nat} {r r' : RS} {c : UInt8} {v : Value} {k : Int} (hr : takeR m r c = r') (hk : k = (r'.st : Int)) (h : Moved B w w' p m ⟨r.st, r'.text, r'.ends, r'.last⟩ v) : TookE B w p m r c v (.returned (.int .i64 k)) w' := by
  subst hr hk; exact ⟨rfl, h⟩
theorem moved_refl {B : Nat} {w : World} {p m : Nat} {r : RS} {v : Value} (h : RdrAt B w p m r v) : Moved B w w p m r v := ⟨v, h, Only.refl _ _, Placed.refl _ _⟩
theorem Moved.drew {B : Nat} {w : World} {p m : Nat} {r : RS} {v : Value} (h : RdrAt B w p m r v) : Moved B w w.drew p m r v := ⟨v, h.drew, (Only.refl _ _).drew, Placed.refl _ _⟩
theorem Only.drewN {S : Nat → Prop} {a b : World} (h : Only S a b) (n : Nat) : Only S a (b.drewN n) := ⟨h.os, h.tape, h.output, h.size, h.block⟩
theorem RdrC.drewN {w : World} {p m : Nat} {r : RS} {v : Value} (h : RdrC w p m r v) (n : Nat) : RdrC (w.drewN n) p m r v := ⟨h.c0, h.c1, h.c2, h.c3, h.c4, h.f1, h.f2, h.f3, h.f4⟩
theorem Moved.drewN {B : Nat} {w : World} {p m : Nat} {r : RS} {v : Value} (h : RdrAt B w p m r v) (n : Nat) : Moved B w (w.drewN n) p m r v := ⟨v, ⟨h.cells.drewN n, h.own, h.apart, h.base⟩, (Only.refl _ _).drewN n, Placed.refl _ _⟩
set_option maxHeartbeats 2000000 in
theorem take_any {B : Nat} {w : World} {p m : Nat} {r : RS} {v : Value} (c : UInt8) (h : RdrAt B w p m r v) (hl : r.text.length ≤ 1000000000) (hB : B ≤ w.heap.size) (hm : m ≤ 9223372036854775807) :
    Calls Try.prog 17 #[.pointer (some ⟨p, 0, none⟩), .int .u8 (c.toNat : Int)] w (TookE B w p m r c v) := by
  have H := Lib.hid h
  have Hl := Lib.hid hl
  have HB := Lib.hid hB
  have c0 := h.cells.c0
  have c2 := h.cells.c2
  have c3 := h.cells.c3
  have f3 := h.cells.f3
  cases he : r.ends
  · rw [he] at c3
    by_cases h10 : (c.toNat : Int) = 10
    · obtain rfl : c = 10 := byte_of (by decide) h10
      have HR := Lib.hid (takeR_bad2 (m := m) he)
      clear h hl hB h10 he
      go_enter Try.func17, Try.ntmps17
      go_wp2
      go_ret
      exact tookE_of HR.out rfl (moved_refl H.out)
    · by_cases h13 : (c.toNat : Int) = 13
      · obtain rfl : c = 13 := byte_of (by decide) h13
        have HR := Lib.hid (takeR_cr (m := m) he)
        clear h hl hB h10 h13 he
        go_enter Try.func17, Try.ntmps17
        go_wp2
        go_ret
        refine tookE_of HR.out rfl (moved_of (H.out.cells.putEnds true) (own_past H.out.own _ H.out.apart) H.out.apart H.out.base ?_ (Placed.refl _ _))
        exact (Only.refl _ w).setCell (p := ⟨p, 3, none⟩) (fun _ => .inl rfl) _
      · have n10 : c ≠ 10 := byte_not (n := 10) (by decide) h10
        have n13 : c ≠ 13 := byte_not (n := 13) (by decide) h13
        obtain ⟨a, cap, hv, hc, h0⟩ := h.own.slicedL
        by_cases hlen : m ≤ r.text.length
        · have HR := Lib.hid (takeR_long (m := m) he n10 n13 hlen)
          subst hv
          generalize r.text.length = n at *
          clear h hl hB he n10 n13 h0 hc
          go_enter Try.func17, Try.ntmps17
          go_wp2
          go_quiet (fail)
          go_wp2
          go_ret
          exact tookE_of HR.out rfl (Moved.drewN H.out _)
        · have hlen2 : r.text.length < m := by omega
          have HR := Lib.hid (takeR_more (m := m) he n10 n13 hlen2)
          subst hv
          obtain ⟨n, hn⟩ : ∃ n, n = r.text.length := ⟨_, rfl⟩
          rw [← hn] at c2 H hlen hlen2 ⊢
          have Hn := Lib.hid (fun (_ : Unit) => hn)
          have hl9 : r.text.length ≤ 1000000000 := hl
          clear h hB he n10 n13 h0 hc hn hl c0
          have c0 := H.out.cells.c0
          go_enter Try.func17, Try.ntmps17
          go_wp2
          go_quiet (fail)
          go_wp2_with (at_builtin; go_loud (refine wpList_append_byteAt rfl _ _ rfl B (w.drewN nq) (.slice a n cap) r.text c rfl (H.out.own) rfl hl9 HB.out ?_))
          intro v' w' hown hg hpl
          have hO1 : Only (fun k => k = p ∨ (Value.slice a n cap).ownBlock = some k) w w' := ((Only.refl _ w).drewN nq).grown hg fun k hk _ => .inr hk
          have hC1 : RdrC w' p m r (.slice a n cap) := (H.out.cells.drewN nq).only (S := fun k => (Value.slice a n cap).ownBlock = some k) ((Only.refl _ _).grown hg fun k hk _ => hk) H.out.apart
          have hap : v'.ownBlock ≠ some p := hpl.ne (by show p < w.heap.size; exact H.out.cells.lt) H.out.apart
          obtain ⟨a', cap', hv', _, _⟩ := hown.slicedL
          subst hv'
          have HE := Lib.hid (moved_of (hC1.putText (r.text ++ [c]) (.slice a' (r.text ++ [c]).length cap')) (own_past hown _ hap) hap H.out.base (hO1.setCell (p := ⟨p, 2, none⟩) (fun _ => .inl rfl) _) hpl)
          rw [List.length_append, List.length_cons, List.length_nil, Nat.zero_add] at HE
          have d2 := hC1.c2
          have g2 := hC1.f2
          clear hO1 hC1 hap hown hg hpl c0 c2 c3 f3
          go_wp2
          go_ret
          exact tookE_of HR.out rfl HE.out
  · rw [he] at c3
    by_cases h10 : (c.toNat : Int) = 10
    · obtain rfl : c = 10 := byte_of (by decide) h10
      have HR := Lib.hid (takeR_lf (m := m) he)
      have HC := Lib.hid (complete_any h)
      clear h hl hB h10 he
      go_enter Try.func17, Try.ntmps17
      go_wp2_with fail
      refine HC.out.mono ?_
      rintro e w1 ⟨rfl, hM⟩
      have HM := Lib.hid hM
      clear hM
      go_wp2_with fail
      go_ret
      exact tookE_of HR.out rfl HM.out
    · have n10 : c ≠ 10 := byte_not (n := 10) (by decide) h10
      have HR := Lib.hid (takeR_bad1 (m := m) he n10)
      clear h hl hB he n10
      go_enter Try.func17, Try.ntmps17
      go_wp2
      go_ret
      exact tookE_of HR.out rfl (moved_refl H.out)
set_option maxHeartbeats 2000000 in
theorem put_any {B : Nat} {w : World} {p m : Nat} {r : RS} {v : Value} (c : UInt8) (h : RdrAt B w p m r v) (hl : r.text.length ≤ 1000000000) (hB : B ≤ w.heap.size) (hm : m ≤ 9223372036854775807) :
    Calls Try.prog 12 #[.pointer (some ⟨p, 0, none⟩), .int .u8 (c.toNat : Int)] w (MovedE (stepR m r c).st B w p m (stepR m r c) v) := by
  have HW := Lib.hid (wrong_any h.cells)
  cases hw : r.wrong
  · rw [hw] at HW
    have HR := Lib.hid (stepR_take (m := m) c hw)
    have HT := Lib.hid (take_any c h hl hB hm)
    clear h hl hB hw
    go_enter Try.func12, Try.ntmps12
    go_wp2_with fail
    refine HW.out.mono ?_
    rintro e w1 ⟨rfl, rfl⟩
    go_wp2_with fail
    refine HT.out.mono ?_
    rintro e w1 ⟨rfl, v', hA, hO, hP⟩
    have c1 := hA.cells.c1
    have f1 := hA.cells.f1
    have HE := Lib.hid (show Moved B w (w1.setCell ⟨p, 1, none⟩ (.int .i64 ((takeR m r c).st : Int))) p m (takeR m r c) v from
      ⟨v', ⟨hA.cells.putSt _, own_past hA.own _ hA.apart, hA.apart, hA.base⟩, hO.setCell (p := ⟨p, 1, none⟩) (fun _ => .inl rfl) _, hP⟩)
    have e1 : (w1.setCell ⟨p, 1, none⟩ (.int .i64 ((takeR m r c).st : Int))).cell? ⟨p, 1, none⟩ = some (.int .i64 ((takeR m r c).st : Int)) := cell_eq _ c1
    obtain ⟨R, hR⟩ : ∃ R, R = takeR m r c := ⟨_, rfl⟩
    rw [← hR] at HE HR e1
    rw [← hR]
    generalize r.st = n at c1
    clear hA hO hP hR HT HW
    go_wp2_with fail
    go_ret
    exact movedE_of (by rw [HR.out]) HR.out.symm HE.out
  · rw [hw] at HW
    have HR := Lib.hid (stepR_wrong (m := m) c hw)
    have c1 := h.cells.c1
    have H := Lib.hid h
    clear h hl hB hw
    generalize hn : r.st = n at c1
    have Hn := Lib.hid (fun (_ : Unit) => hn)
    clear hn
    go_enter Try.func12, Try.ntmps12
    go_wp2_with fail
    refine HW.out.mono ?_
    rintro e w1 ⟨rfl, rfl⟩
    go_wp2_with fail
    go_ret
    exact movedE_of (by rw [HR.out, Hn.out ()]) HR.out.symm (moved_refl H.out)
/-- New: a reader that has taken nothing. -/
def NewE (B m : Nat) (w : World) (e : Ending) (w' : World) : Prop := e = .returned (.pointer (some ⟨w.heap.size, 0, none⟩)) ∧ RdrAt B w' w.heap.size m (bnd ⟨#[]⟩) (.slice none 0 0) ∧ Below w.heap.size w w'
theorem new_of (q : Int) (m : Nat) (hq : q = (m : Int)) (w : World) : NewE w.heap.size m w (.returned (.pointer (some ⟨w.heap.size, 0, none⟩))) (w.alloc (.cells #[.int .i64 q, .int .i64 1, .slice none 0 0, .bool false, .string ⟨#[]⟩] 38)) := by
  subst hq
  refine ⟨rfl, ⟨⟨?_, ?_, ?_, ?_, ?_, ?_, ?_, ?_, ?_⟩, OwnBytes.nil _ _, by simp [Value.ownBlock], Nat.le_refl _⟩, (Below.refl _ _).alloc (Nat.le_refl _) _⟩
  all_goals first | (rw [World.cell?_alloc_mark]; simp [bnd]) | (rw [World.frozen?_alloc_mark]; simp)
theorem new_any (z : Int) (w : World) (hz : z ≤ 9223372036854775807) : Calls Try.prog 11 #[.int .i64 z] w (NewE w.heap.size z.toNat w) := by
  go_enter Try.func11, Try.ntmps11
  go_wp2
  all_goals
    go_ret
    exact new_of _ _ (by omega) w
end Go.Proofs.Ytpmdckljbjomjaa
