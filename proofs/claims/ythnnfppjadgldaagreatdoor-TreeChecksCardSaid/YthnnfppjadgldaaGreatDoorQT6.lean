/- Texts of one seat, merged: TreU, TreV. -/
import Derived.Test.YthnnfppjadgldaaGreatDoorQT5
import Derived.Test.YthnnfppjadgldaaGreatDoorQTreR
namespace Go.Proofs.YthnnfppjadgldaaGreatDoor
set_option linter.all false
open Go.RowKit
def rightT (T : List FileV) : Bool := fewT T && decide (checkT T < 0)
theorem ansI_neg (o : Option Nat) : decide (ansI o < 0) = o.isNone := by
  cases o with
  | none => rfl
  | some i => exact decide_eq_false (by show ¬ ((i : Nat) : Int) < 0; omega)
theorem rightT_parts {T : List FileV} (h : rightT T = true) : (∀ f ∈ T, SmallF f /\ f.1.length <= 1000) /\ T.length <= 30 /\ (∀ f ∈ T, fewSW f.1 = true) /\ RightG okT (T.map tfOf) /\ badT T = none := by
  unfold rightT at h
  rw [Bool.and_eq_true] at h
  obtain ⟨h1, h2, h3⟩ := fewT_parts h.1
  have hc : checkG okT (T.map tfOf) = none := by
    have := h.2
    unfold checkT at this
    rw [ansI_neg] at this
    exact Option.isNone_iff_eq_none.1 this
  exact ⟨h1, h2, h3, right_of_check hc, by unfold badT; rw [badR_check]; exact hc⟩
theorem badT_check (T : List FileV) : badT T = checkG okT (T.map tfOf) := badR_check _
set_option maxRecDepth 100000 in
theorem rightT_any {R : Nat -> Prop} (v : Value) (T : List FileV) (w : World) (h : fileK.rows R w v T) :
    Calls Tryz.prog 15 #[v] w (SaysIn (rightT T) w) := by
  have HF := Lib.hid (fewT_any v T w h)
  have HX := Lib.hid (show rightT T = (fewT T && decide (checkT T < 0)) from rfl)
  cases hf : fewT T
  · rw [hf] at HF HX
    generalize rightT T = X at HX ⊢
    clear h hf
    go_enter Tryz.func15, Tryz.ntmps15
    go_wp2_with fail
    refine HF.out.mono ?_
    rintro e w1 ⟨rfl, hb⟩
    have HB := Lib.hid hb
    clear hb
    go_wp2_with fail
    go_ret
    exact ⟨by rw [HX.out]; rfl, HB.out⟩
  · obtain ⟨h1, h2, _⟩ := fewT_parts hf
    have HC := Lib.hid (fun W (hb : Below w.heap.size w W) => refCheckT_any v T W (fileK.rows_below h hb) (fun f hf => (h1 f hf).1) (by omega))
    rw [hf] at HF HX
    generalize rightT T = X at HX ⊢
    generalize checkT T = z at HX HC
    clear h hf h1 h2
    go_enter Tryz.func15, Tryz.ntmps15
    go_wp2_with fail
    refine HF.out.mono ?_
    rintro e w1 ⟨rfl, hb⟩
    have HB := Lib.hid hb
    clear hb
    go_wp2_with fail
    refine (HC.out _ HB.out).mono ?_
    rintro e w2 ⟨rfl, hb⟩
    have HB2 := Lib.hid (HB.out.trans (hb.mono HB.out.size))
    clear hb
    go_wp2_with fail
    go_ret
    exact ⟨by rw [HX.out]; rfl, HB2.out⟩
set_option maxRecDepth 100000 in
set_option maxHeartbeats 1000000 in
theorem wrong19_F (k at_ : Int) (w : World) (hg : ErrType w) :
    Calls Tryz.prog 14 #[baseF 400 k, .int .i64 400, .int .i64 at_] w (SaysIn (decide (k = at_)) w) := by
  go_enter Tryz.func14, Tryz.ntmps14
  go_wp2_with fail
  refine (status_F [] _ 400 k _ hg (by decide) (Chn.one _ _)).mono ?_
  rintro e w1 ⟨rfl, B1⟩
  go_wp2_with fail
  refine (at_F [] _ 400 k _ (hg.below B1) (by decide) (Chn.one _ _)).mono ?_
  rintro e w2 ⟨rfl, h2⟩
  have B2 := B1.trans (h2.mono B1.size)
  clear h2
  go_wp2_with fail
  go_ret
  exact saysIn_ofW (by rw [Bool.eq_iff_iff]; simp) B2
end Go.Proofs.YthnnfppjadgldaaGreatDoor
namespace Go.Proofs.YthnnfppjadgldaaGreatDoor
set_option linter.all false
open Go.RowKit
def LikeV (u u' : Value) : Prop := u' = u \/ (∃ s s', u = .string s /\ u' = .string s') \/ ∃ n n' : Int, u = .int .u8 n /\ u' = .int .u8 n'
theorem LikeV.trans {a b c : Value} (h : LikeV a b) (k : LikeV b c) : LikeV a c := by
  rcases h with rfl | ⟨s, s', rfl, rfl⟩ | ⟨n, n', rfl, rfl⟩
  · exact k
  · rcases k with rfl | ⟨t, t', e, rfl⟩ | ⟨m, m', e, rfl⟩
    · exact .inr (.inl ⟨s, s', rfl, rfl⟩)
    · exact .inr (.inl ⟨s, t', rfl, rfl⟩)
    · cases e
  · rcases k with rfl | ⟨t, t', e, rfl⟩ | ⟨m, m', e, rfl⟩
    · exact .inr (.inr ⟨n, n', rfl, rfl⟩)
    · cases e
    · exact .inr (.inr ⟨n, m', rfl, rfl⟩)
structure Shp (R : Nat -> Prop) (w w' : World) : Prop where
  only : Only R w w'
  cell : ∀ p u, w.cell? p = some u -> ∃ u', w'.cell? p = some u' /\ LikeV u u'
  froz : ∀ p, w'.frozen? p = w.frozen? p
theorem Shp.refl (R : Nat -> Prop) (w : World) : Shp R w w := ⟨Only.refl _ _, fun p u h => ⟨u, h, .inl rfl⟩, fun _ => rfl⟩
theorem Shp.set {R : Nat -> Prop} {w w' : World} (h : Shp R w w') {p : Addr} {u u' : Value} (hc : w'.cell? p = some u) (hl : LikeV u u') (hR : R p.block) : Shp R w (w'.setCell p u') := by
  refine ⟨h.only.setCell (fun _ => hR) u', fun q x hx => ?_, fun q => by rw [World.frozen?_setCell]; exact h.froz q⟩
  obtain ⟨y, hy, hxy⟩ := h.cell q x hx
  by_cases e : q = p
  · subst e
    rw [hy] at hc
    injection hc with hc
    subst hc
    exact ⟨u', World.cell?_setCell_same _ _ _ hy, hxy.trans hl⟩
  · exact ⟨y, by rw [World.cell?_setCell_other _ _ _ _ (fun h => e h.symm)]; exact hy, hxy⟩
theorem Shp.slice {R : Nat -> Prop} {w w' : World} (h : Shp R w w') {p : Addr} {a : Option Addr} {n c : Nat} (hc : w.cell? p = some (.slice a n c)) : w'.cell? p = some (.slice a n c) := by
  obtain ⟨u', h1, h2⟩ := h.cell p _ hc
  rcases h2 with rfl | ⟨_, _, e, _⟩ | ⟨_, _, e, _⟩
  · exact h1
  · cases e
  · cases e
theorem Shp.str {R : Nat -> Prop} {w w' : World} (h : Shp R w w') {p : Addr} {s : ByteArray} (hc : w.cell? p = some (.string s)) : ∃ s', w'.cell? p = some (.string s') := by
  obtain ⟨u', h1, h2⟩ := h.cell p _ hc
  rcases h2 with rfl | ⟨_, s', _, rfl⟩ | ⟨_, _, e, _⟩
  · exact ⟨s, h1⟩
  · exact ⟨s', h1⟩
  · cases e
theorem Shp.byte {R : Nat -> Prop} {w w' : World} (h : Shp R w w') {p : Addr} {n : Int} (hc : w.cell? p = some (.int .u8 n)) : ∃ n', w'.cell? p = some (.int .u8 n') := by
  obtain ⟨u', h1, h2⟩ := h.cell p _ hc
  rcases h2 with rfl | ⟨_, _, e, _⟩ | ⟨_, n', _, rfl⟩
  · exact ⟨n, h1⟩
  · cases e
  · exact ⟨n', h1⟩
theorem idx_one {T : TypeId} (hT : Tryz.prog.underlying T = some (.slice (Tryz.prog.elem T))) (hz : ∀ w, (sizeOf (Tryz.prog.elem T)).run Tryz.prog w = .ok 1 w) (b off n c k : Nat) (hk : k < n) (W : World) :
    (Instr.indexAt T (.slice (some ⟨b, off, none⟩) n c) (.int .i64 (k : Int))).run Tryz.prog W = .ok (.pointer (some ⟨b, off + k, none⟩)) W := by
  rw [run_indexAt_slice (h := hT), if_pos ⟨by omega, by omega⟩, hz]
  simp [Result.andThen, Addr.add_lit]
theorem Tryz.uBytT : Tryz.prog.underlying 37 = some (.slice (Tryz.prog.elem 37)) := by kernel_rfl
theorem Tryz.zBytT (w : World) : (sizeOf (Tryz.prog.elem 37)).run Tryz.prog w = .ok 1 w := by kernel_rfl
structure SpoilE (R : Nat -> Prop) (w : World) (p : Option Addr) (n c q b o : Nat) (p0 : Option Addr) (n0 c0 : Nat) (p1 : Option Addr) (n1 c1 : Nat) : Prop where
  at_ : ∀ W, (Instr.indexAt 23 (.slice p n c) (.int .i64 (q : Int))).run Tryz.prog W = .ok (.pointer (some ⟨b, o, none⟩)) W
  path : w.cell? ⟨b, o, none⟩ = some (.slice p0 n0 c0)
  body : w.cell? ⟨b, o + 3, none⟩ = some (.slice p1 n1 c1)
  seg : ∀ k, k < n0 -> ∃ b' o', (∀ W, (Instr.indexAt 35 (.slice p0 n0 c0) (.int .i64 (k : Int))).run Tryz.prog W = .ok (.pointer (some ⟨b', o', none⟩)) W) /\ (∃ s, w.cell? ⟨b', o', none⟩ = some (.string s)) /\ w.frozen? ⟨b', o', none⟩ = false /\ R b'
  byte : ∀ k, k < n1 -> ∃ b' o', (∀ W, (Instr.indexAt 37 (.slice p1 n1 c1) (.int .i64 (k : Int))).run Tryz.prog W = .ok (.pointer (some ⟨b', o', none⟩)) W) /\ (∃ z, w.cell? ⟨b', o', none⟩ = some (.int .u8 z)) /\ w.frozen? ⟨b', o', none⟩ = false /\ R b'
theorem spoilE_at {R : Nat -> Prop} {w : World} {p : Option Addr} {n c : Nat} {T : List FileV} (h : fileW.rows R w (.slice p n c) T) (hS : ∀ f ∈ T, SmallF f) (q : Nat) (hq : q < T.length) : ∃ b o p0 n0 c0 p1 n1 c1, SpoilE R w p n c q b o p0 n0 c0 p1 n1 c1 /\ n0 <= 1000000 /\ n1 <= 1000000 := by
  obtain ⟨b, o, cs, h1, h2, ⟨h3, hfr⟩, h4⟩ := fileW.rows_at Tryz.uFiles Tryz.zFiles h q hq
  obtain ⟨p0, c0, p1, c1, rfl, hst, hby⟩ := fileK_cells h3
  have hsm := hS _ (List.getElem_mem hq)
  refine ⟨b, o, p0, _, c0, p1, _, c1, ⟨h1, h4 0 _ rfl, h4 3 _ rfl, fun k hk => ?_, fun k hk => ?_⟩, hsm.1, hsm.2.1⟩
  · obtain ⟨b', off, rfl, hc⟩ := hst.at_ k hk
    obtain ⟨_, k2, k3⟩ := hfr (.slice (some ⟨b', off, none⟩) T[q].1.length c0) (by simp) b' off _ c0 rfl (by omega)
    exact ⟨b', off + k, idx_one Tryz.uStrs Tryz.zStrs b' off _ c0 k hk, ⟨_, hc⟩, k3 k hk, k2⟩
  · have hby2 : RowIn w (.slice p1 T[q].2.2.2.length c1) (byteVals T[q].2.2.2) := hby
    rcases hby2 with ⟨h0, _⟩ | ⟨b', off, cap, hv, _, _, hc⟩
    · have : T[q].2.2.2 = [] := by simpa [byteVals] using h0
      rw [this] at hk
      simp at hk
    · injection hv with e1 e2 e3
      subst e1
      obtain ⟨_, k2, k3⟩ := hfr (.slice (some ⟨b', off, none⟩) T[q].2.2.2.length c1) (by simp) b' off _ c1 rfl (by omega)
      exact ⟨b', off + k, idx_one Tryz.uBytT Tryz.zBytT b' off _ c1 k hk, ⟨_, hc k (.int .u8 (T[q].2.2.2[k].toNat : Int)) (by simp [byteVals, List.getElem?_eq_getElem hk])⟩, k3 k hk, k2⟩
def SpoilTo (R : Nat -> Prop) (w : World) (e : Ending) (w' : World) : Prop := e = .returned (.tuple #[]) /\ Only R w w'
set_option maxRecDepth 100000 in
set_option maxHeartbeats 4000000 in
theorem spoil_any {R : Nat -> Prop} (v : Value) (T : List FileV) (w : World) (h : fileW.rows R w v T) (hS : ∀ f ∈ T, SmallF f) (hT : T.length <= 1000000) :
    Calls Tryz.prog 28 #[v] w (SpoilTo R w) := by
  obtain ⟨p, c, rfl⟩ := fileW.rows_sliced h
  obtain ⟨n, hn⟩ : ∃ n, n = T.length := ⟨_, rfl⟩
  have HE := Lib.hid (fun (q : Nat) (hq : q < n) => spoilE_at h hS q (by rw [<- hn]; exact hq))
  rw [<- hn] at HE hT ⊢
  clear h hn hS
  go_enter Tryz.func28, Tryz.ntmps28
  go_wp2
  go_loopw [2] (fun j wi => ∃ q : Nat, q <= n /\ j = .int .i64 q /\ Hid (Shp R w wi)) (fun j _ => (n - intOf j).toNat)
  case atStart => exact ⟨0, Nat.zero_le _, rfl, Lib.hid (Shp.refl _ _)⟩
  case round =>
    obtain ⟨q, hq, rfl, HS⟩ := hrel
    by_cases hqn : q < n
    · obtain ⟨b, o, p0, n0, c0, p1, n1, c1, he, hn0, hn1⟩ := HE.out q hqn
      have HEn := Lib.hid he
      have hat := he.at_
      have x0 := HS.out.slice he.path
      have hwr : IntKind.i64.wrap ((q : Int) + 1) = (q : Int) + 1 := by rw [IntKind.wrap_i64] <;> omega
      clear he
      go_wp2_with fail
      go_loopw [3] (fun j wi => ∃ k : Nat, k <= n0 /\ j = .int .i64 k /\ Hid (Shp R w wi)) (fun j _ => (n0 - intOf j).toNat)
      case atStart => exact ⟨0, Nat.zero_le _, rfl, HS⟩
      case round =>
        clear x0 HS
        obtain ⟨k, hk, rfl, HS⟩ := hrel
        have x0 := HS.out.slice HEn.out.path
        by_cases hkn : k < n0
        · obtain ⟨b', o', hat', ⟨s, hs⟩, hf, hR⟩ := HEn.out.seg k hkn
          obtain ⟨s', hs'⟩ := HS.out.str hs
          have z0 := (HS.out.froz ⟨b', o', none⟩).trans hf
          have hwk : IntKind.i64.wrap ((k : Int) + 1) = (k : Int) + 1 := by rw [IntKind.wrap_i64] <;> omega
          have HS2 := Lib.hid (HS.out.set hs' (u' := .string ⟨#[115, 112, 111, 105, 108, 116]⟩) (.inr (.inl ⟨_, _, rfl, rfl⟩)) hR)
          clear hs hf hR HS
          go_wp2_with fail
          go_roundw
          case rel => exact ⟨k + 1, hkn, by go_num, HS2⟩
          case measure => simp [intOf]; omega
        · obtain rfl : k = n0 := by omega
          clear hkn
          have x3 := HS.out.slice HEn.out.body
          go_wp2_with fail
          go_loopw [4] (fun j wi => ∃ k : Nat, k <= n1 /\ j = .int .i64 k /\ Hid (Shp R w wi)) (fun j _ => (n1 - intOf j).toNat)
          case atStart => exact ⟨0, Nat.zero_le _, rfl, HS⟩
          case round =>
            clear x0 x3 HS
            obtain ⟨k, hk, rfl, HS⟩ := hrel
            have x3 := HS.out.slice HEn.out.body
            by_cases hkn : k < n1
            · obtain ⟨b', o', hat', ⟨z, hs⟩, hf, hR⟩ := HEn.out.byte k hkn
              obtain ⟨z', hs'⟩ := HS.out.byte hs
              have z0 := (HS.out.froz ⟨b', o', none⟩).trans hf
              have hwk : IntKind.i64.wrap ((k : Int) + 1) = (k : Int) + 1 := by rw [IntKind.wrap_i64] <;> omega
              have HS2 := Lib.hid (HS.out.set hs' (u' := .int .u8 (IntKind.u8.wrap (z' + 1))) (.inr (.inr ⟨_, _, rfl, rfl⟩)) hR)
              clear hs hf hR HS
              go_wp2_with fail
              go_roundw
              case rel => exact ⟨k + 1, hkn, by go_num, HS2⟩
              case measure => simp [intOf]; omega
            · obtain rfl : k = n1 := by omega
              go_wp2_with fail
              go_roundw
              case rel => exact ⟨q + 1, hqn, by go_num, HS⟩
              case measure => simp [intOf]; omega
    · obtain rfl : q = n := by omega
      go_wp2_with fail
      go_end0
      exact ⟨rfl, HS.out.only⟩
end Go.Proofs.YthnnfppjadgldaaGreatDoor
