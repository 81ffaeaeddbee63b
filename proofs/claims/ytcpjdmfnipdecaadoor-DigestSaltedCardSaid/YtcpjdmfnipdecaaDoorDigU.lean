/- The laws that need the reference's Sum, given its contract: Salted, DigestMatchesReference, DigestSalted, DigestLengths. -/
import Derived.Test.YtcpjdmfnipdecaaDoorDigO
import Derived.Test.YtcpjdmfnipdecaaDoorDigS
namespace Go.Proofs.YtcpjdmfnipdecaaDoor
set_option linter.all false
open Go.RowKit DigP

/-- The contract of the reference's Sum. -/
def RefSum : Prop := ∀ (s : ByteArray) (gt ct : Nat) (w : World), s.size ≤ 100000 → 64 ≤ ct → Rd w gt .u32 rootsK → Calls Tryd.prog 10 #[.string s, .slice (some ⟨gt, 0, none⟩) 64 ct] w (SaysArr .u8 (shaB (bytesN s)) w)
/-- A value that is the table. -/
def TabAt (w : World) (v : Value) : Prop := ∃ gt ct, v = .slice (some ⟨gt, 0, none⟩) 64 ct ∧ 64 ≤ ct ∧ Rd w gt .u32 rootsK ∧ gt < w.heap.size
theorem TabAt.below {w w' : World} {v : Value} (h : TabAt w v) (hb : Below w.heap.size w w') : TabAt w' v := by
  obtain ⟨gt, ct, rfl, h0, h1, h2⟩ := h
  exact ⟨gt, ct, rfl, h0, h1.below hb h2, Nat.lt_of_lt_of_le h2 hb.size⟩
theorem tabAt_any (w : World) : Calls Tryd.prog 11 #[] w fun e w' => ∃ v, e = .returned v ∧ TabAt w' v ∧ Below w.heap.size w w' := by
  refine (table_any w).mono ?_
  rintro e w' ⟨v, rfl, ho, hb⟩
  obtain ⟨g, cap, rfl, h1, h2, h3, _, hA⟩ := ho.open_ (by decide)
  exact ⟨_, rfl, ⟨g, cap, rfl, h3, hA.rd, h2⟩, hb⟩
theorem RefSum.tab (h : RefSum) (s : ByteArray) (v : Value) (w : World) (hs : s.size ≤ 100000) (hv : TabAt w v) : Calls Tryd.prog 10 #[.string s, v] w (SaysArr .u8 (shaB (bytesN s)) w) := by
  obtain ⟨gt, ct, rfl, h0, h1, h2⟩ := hv
  exact h s gt ct w hs h0 h1
theorem sha_len (b : List Nat) : (shaB b).length = 32 := bytesS_len _
theorem sha_small (b : List Nat) : Small (shaB b) := small_bytes _
set_option maxRecDepth 100000 in
set_option maxHeartbeats 4000000 in
theorem matches_any (hRef : RefSum) (s : ByteArray) (w : World) (hG : Glob w) (hs : s.size ≤ 9223372036854775807) : Calls Tryd.prog 3 #[.string s] w (SaysIn true w) := by
  have HG := Lib.hid hG
  clear hG
  by_cases h3 : s.size ≤ 300
  · obtain ⟨D, hD⟩ : ∃ D, D = shaB (bytesN s) := ⟨_, rfl⟩
    have HS := Lib.hid (fun w hg => sum_any s w (by omega) hg)
    have HR := Lib.hid (fun v w hv => hRef.tab s v w (by omega) hv)
    rw [← hD] at HS HR
    have hq := fun w => arrEq D D (by rw [hD]; exact sha_len _) (by rw [hD]; exact sha_len _) w
    rw [decide_eq_true rfl] at hq
    have h3' : ¬ (300 : Int) < (s.size : Int) := by omega
    clear hD h3 hRef
    go_enter Tryd.func3, Tryd.ntmps3
    go_wp2_with fail
    refine (awake8_any w HG.out).mono ?_
    rintro e w1 ⟨rfl, b1⟩
    have G1 := Lib.hid (HG.out.below b1)
    have B1 := Lib.hid b1
    clear b1
    go_wp2_with fail
    refine (HS.out _ G1.out).mono ?_
    rintro e w2 ⟨rfl, b2⟩
    have B2 := Lib.hid (B1.out.trans (b2.mono B1.out.size))
    clear b2 B1
    go_wp2_with fail
    refine (tabAt_any _).mono ?_
    rintro e w3 ⟨v, rfl, ht, b3⟩
    have HT := Lib.hid ht
    have B3 := Lib.hid (B2.out.trans (b3.mono B2.out.size))
    clear b3 B2 ht
    go_wp2_with fail
    refine (HR.out v _ HT.out).mono ?_
    rintro e w4 ⟨rfl, b4⟩
    have B4 := Lib.hid (B3.out.trans (b4.mono B3.out.size))
    clear b4 B3
    go_wp2_with fail
    go_ret
    exact saysIn_end8 rfl B4.out
  · have h3' : (300 : Int) < (s.size : Int) := by omega
    go_enter Tryd.func3, Tryd.ntmps3
    go_wp2_with fail
    refine (awake8_any w HG.out).mono ?_
    rintro e w1 ⟨rfl, b1⟩
    have G1 := Lib.hid (HG.out.below b1)
    go_wp2_with fail
    refine (awake8_any w1 G1.out).mono ?_
    rintro e w2 ⟨rfl, b2⟩
    have B2 := Lib.hid (b1.trans (b2.mono b1.size))
    clear b1 b2
    go_wp2_with fail
    go_ret
    exact saysIn_end8 rfl B2.out
abbrev colonS : ByteArray := ⟨#[58]⟩
def saltT (a b c : ByteArray) : ByteArray := a ++ colonS ++ b ++ colonS ++ c
theorem saltT_size (a b c : ByteArray) : (saltT a b c).size = a.size + 1 + b.size + 1 + c.size := by
  unfold saltT
  simp only [ByteArray.size_append]
  rfl
def saltH (a b c : ByteArray) : ByteArray := toB (hexS (shaB (bytesN (saltT a b c))))
set_option maxRecDepth 100000 in
set_option maxHeartbeats 4000000 in
theorem salted_any (a b c : ByteArray) (w : World) (hG : Glob w) (ha : a.size ≤ 1000) (hb : b.size ≤ 1000) (hc : c.size ≤ 1000) : Calls Tryd.prog 16 #[.string a, .string b, .string c] w fun e w' => e = .returned (.string (saltH a b c)) ∧ Below w.heap.size w w' := by
  obtain ⟨x1, h1⟩ : ∃ x, x = a ++ colonS := ⟨_, rfl⟩
  obtain ⟨x2, h2⟩ : ∃ x, x = x1 ++ b := ⟨_, rfl⟩
  obtain ⟨x3, h3⟩ : ∃ x, x = x2 ++ colonS := ⟨_, rfl⟩
  obtain ⟨x4, h4⟩ : ∃ x, x = x3 ++ c := ⟨_, rfl⟩
  have z1 : x1.size = a.size + 1 := by rw [h1, ByteArray.size_append]; rfl
  have z2 : x2.size = x1.size + b.size := by rw [h2, ByteArray.size_append]
  have z3 : x3.size = x2.size + 1 := by rw [h3, ByteArray.size_append]; rfl
  have z4 : x4.size = x3.size + c.size := by rw [h4, ByteArray.size_append]
  have hx4 : x4 = saltT a b c := by rw [h4, h3, h2, h1]; rfl
  have c1 : ((9223372036854775807 : Nat) < a.size + 1) = False := eq_false (by omega)
  have c2 : ((9223372036854775807 : Nat) < x1.size + b.size) = False := eq_false (by omega)
  have c3 : ((9223372036854775807 : Nat) < x2.size + 1) = False := eq_false (by omega)
  have c4 : ((9223372036854775807 : Nat) < x3.size + c.size) = False := eq_false (by omega)
  have HS := Lib.hid (sum_any x4 w (by omega) hG)
  have HH := Lib.hid (fun w => hex8_any (shaB (bytesN x4)) w (sha_len _) (sha_small _))
  obtain ⟨D, hD⟩ : ∃ D, D = shaB (bytesN x4) := ⟨_, rfl⟩
  obtain ⟨y, hy⟩ : ∃ y, y = saltH a b c := ⟨_, rfl⟩
  have hy2 : toB (hexS D) = y := by rw [hy, hD, hx4]; rfl
  rw [← hD] at HS HH
  rw [hy2] at HH
  rw [← hy]
  have e1 := h1.symm
  have e2 := h2.symm
  have e3 := h3.symm
  have e4 := h4.symm
  clear h1 h2 h3 h4 z1 z2 z3 z4 hx4 hD hy hy2 hG ha hb hc
  go_enter Tryd.func16, Tryd.ntmps16
  go_wp2_with fail
  refine HS.out.mono ?_
  rintro e w1 ⟨rfl, b1⟩
  go_wp2_with fail
  refine (HH.out _).mono ?_
  rintro e w2 ⟨rfl, b2⟩
  have B2 := Lib.hid (b1.trans (b2.mono b1.size))
  clear b1 b2
  go_wp2_with fail
  go_ret
  exact ⟨rfl, B2.out⟩
set_option maxRecDepth 100000 in
set_option maxHeartbeats 4000000 in
theorem refSalted_any (hRef : RefSum) (a b c : ByteArray) (w : World) (ha : a.size ≤ 1000) (hb : b.size ≤ 1000) (hc : c.size ≤ 1000) : Calls Tryd.prog 17 #[.string a, .string b, .string c] w fun e w' => e = .returned (.string (saltH a b c)) ∧ Below w.heap.size w w' := by
  obtain ⟨x1, h1⟩ : ∃ x, x = a ++ colonS := ⟨_, rfl⟩
  obtain ⟨x2, h2⟩ : ∃ x, x = x1 ++ b := ⟨_, rfl⟩
  obtain ⟨x3, h3⟩ : ∃ x, x = x2 ++ colonS := ⟨_, rfl⟩
  obtain ⟨x4, h4⟩ : ∃ x, x = x3 ++ c := ⟨_, rfl⟩
  have z1 : x1.size = a.size + 1 := by rw [h1, ByteArray.size_append]; rfl
  have z2 : x2.size = x1.size + b.size := by rw [h2, ByteArray.size_append]
  have z3 : x3.size = x2.size + 1 := by rw [h3, ByteArray.size_append]; rfl
  have z4 : x4.size = x3.size + c.size := by rw [h4, ByteArray.size_append]
  have hx4 : x4 = saltT a b c := by rw [h4, h3, h2, h1]; rfl
  have c1 : ((9223372036854775807 : Nat) < a.size + 1) = False := eq_false (by omega)
  have c2 : ((9223372036854775807 : Nat) < x1.size + b.size) = False := eq_false (by omega)
  have c3 : ((9223372036854775807 : Nat) < x2.size + 1) = False := eq_false (by omega)
  have c4 : ((9223372036854775807 : Nat) < x3.size + c.size) = False := eq_false (by omega)
  have HR := Lib.hid (fun v w hv => hRef.tab x4 v w (by omega) hv)
  have HH := Lib.hid (fun w => refHex8_any (shaB (bytesN x4)) w (sha_len _) (sha_small _))
  obtain ⟨D, hD⟩ : ∃ D, D = shaB (bytesN x4) := ⟨_, rfl⟩
  obtain ⟨y, hy⟩ : ∃ y, y = saltH a b c := ⟨_, rfl⟩
  have hy2 : toB (hexS D) = y := by rw [hy, hD, hx4]; rfl
  rw [← hD] at HR HH
  rw [hy2] at HH
  rw [← hy]
  have e1 := h1.symm
  have e2 := h2.symm
  have e3 := h3.symm
  have e4 := h4.symm
  clear h1 h2 h3 h4 z1 z2 z3 z4 hx4 hD hy hy2 ha hb hc hRef
  go_enter Tryd.func17, Tryd.ntmps17
  go_wp2_with fail
  refine (tabAt_any _).mono ?_
  rintro e w1 ⟨v, rfl, ht, b1⟩
  have HT := Lib.hid ht
  clear ht
  go_wp2_with fail
  refine (HR.out v _ HT.out).mono ?_
  rintro e w2 ⟨rfl, b2⟩
  have B2 := Lib.hid (b1.trans (b2.mono b1.size))
  clear b1 b2
  go_wp2_with fail
  refine (HH.out _).mono ?_
  rintro e w3 ⟨rfl, b3⟩
  have B3 := Lib.hid (B2.out.trans (b3.mono B2.out.size))
  clear b3 B2
  go_wp2_with fail
  go_ret
  exact ⟨rfl, B3.out⟩
end Go.Proofs.YtcpjdmfnipdecaaDoor
