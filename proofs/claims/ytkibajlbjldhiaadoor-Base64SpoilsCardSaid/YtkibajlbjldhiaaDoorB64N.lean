/- The laws of package base64: the walk of Base64Spoils. -/
import Derived.Test.YtkibajlbjldhiaaDoorB64M
namespace Go.Proofs.YtkibajlbjldhiaaDoor
set_option linter.all false
open Go.RowKit

theorem Tryd.neNN (w : World) : (binOp .neq 26 .nilIface .nilIface).run Tryd.prog w = .ok (.bool false) w := by kernel_rfl
theorem Tryd.neFN (k : Int) (w : World) : (binOp .neq 26 (.iface 56 (.agg #[.int .i64 400, .int .i64 k])) .nilIface).run Tryd.prog w = .ok (.bool true) w := by kernel_rfl
theorem toList_ne' {a b : ByteArray} (h : ¬ a = b) : ¬ a.toList = b.toList := by
  rw [ByteArray.toList_eq, ByteArray.toList_eq]
  exact fun e => h (ByteArray.ext (Array.toList_inj.1 e))
/-- One byte of a text changed. -/
def putB (t : ByteArray) (k : Nat) (c : UInt8) : List UInt8 := t.data.toList.set k c
theorem putB_ne (t : ByteArray) (k : Nat) (c : UInt8) (h : k < t.size) (hc : t[k] ≠ c) : putB t k c ≠ t.data.toList := by
  intro e
  have h1 : (putB t k c)[k]? = some c := by unfold putB; rw [List.getElem?_set_self (by simpa using h)]
  rw [e, get_list t k h] at h1
  injection h1 with h1
  exact hc h1
theorem putB_len (t : ByteArray) (k : Nat) (c : UInt8) : (putB t k c).length = t.size := by simp [putB]
theorem putB_back (w : World) (B k cap : Nat) (t : ByteArray) (c : UInt8) (z : Int) (hz : z = (c.toNat : Int)) (hk : k < t.size) (hcell : ∀ j (hj : j < t.size), w.cell? ⟨B, j, none⟩ = some (.int .u8 (t[j].toNat : Int))) :
    (convert 22 9 (.slice (some ⟨B, 0, none⟩) t.size cap)).run Tryd.prog (w.setCell ⟨B, k, none⟩ (.int .u8 z)) = .ok (.string ⟨(putB t k c).toArray⟩) (w.setCell ⟨B, k, none⟩ (.int .u8 z)) := by
  subst hz
  have := run_convert_bytes_back (P := Tryd.prog) (w.setCell ⟨B, k, none⟩ (.int .u8 (c.toNat : Int))) 22 9 5 ⟨B, 0, none⟩ cap (putB t k c) Tryd.underlying22 Tryd.underlying5 Tryd.underlying9 (fun j hj => by
    have hj' : j < t.size := by rw [putB_len] at hj; exact hj
    rw [Addr.add_lit, Nat.zero_add]
    by_cases hjk : j = k
    · subst hjk
      rw [World.cell?_setCell_same w _ _ (hcell j hj')]
      simp [putB]
    · rw [World.cell?_setCell_other (h := fun h => hjk (by injection h with h1 h2; exact h2.symm)), hcell j hj']
      simp [putB, List.getElem_set_ne (Ne.symm hjk)]
      rfl)
  rwa [putB_len] at this
set_option maxRecDepth 100000 in
set_option maxHeartbeats 1000000 in
theorem base64Spoils_any (v : Value) (b : List UInt8) (at_ z : Int) (w : World) (hg : ErrType w) (hv : BytesIn w v b) (hb : b.length ≤ 9223372036854775807) (ha : 0 ≤ at_) (ha2 : at_ ≤ 65535) (hz : 0 ≤ z) (hz2 : z ≤ 255) :
    Calls Tryd.prog 6 #[v, .int .u16 at_, .int .u8 z] w (SaysIn true w) := by
  have hnn := Tryd.neNN
  have hfn := Tryd.neFN
  obtain ⟨p, cap, rfl, _⟩ := hv.open_
  rw [byteVals_len] at *
  have Hv := Lib.hid hv
  clear hv
  go_enter Tryd.func6, Tryd.ntmps6
  go_wp2_with fail
  refine (awake_any _ hg).mono ?_
  rintro e w1 ⟨rfl, B1⟩
  by_cases hs : 0 < b.length ∧ b.length ≤ 300
  · obtain ⟨hs0, hs1⟩ := hs
    obtain ⟨t, ht⟩ : ∃ t : ByteArray, t = ⟨(enc64 b).toArray⟩ := ⟨_, rfl⟩
    have hts : t.size = (b.length + 2) / 3 * 4 := by rw [ht, mk_size, enc64_len]
    have ht0 : 0 < t.size := by omega
    have ht1 : t.size ≤ 1000 := by omega
    have HR := Lib.hid (fun W (h : BytesIn W (.slice p b.length cap) b) => refEncode64_any _ b W h (by omega))
    rw [← ht] at HR
    have Ht := Lib.hid ht
    obtain ⟨k, hk⟩ : ∃ k, k = at_.toNat % t.size := ⟨_, rfl⟩
    have hkt : k < t.size := by rw [hk]; exact Nat.mod_lt _ ht0
    have hki : at_ % (t.size : Int) = (k : Int) := by rw [hk]; push_cast; rw [Int.toNat_of_nonneg ha]
    obtain ⟨c, hc⟩ : ∃ c, c = UInt8.ofNat z.toNat := ⟨_, rfl⟩
    have hzc : z = (c.toNat : Int) := by rw [hc, ofNat_toNat (by omega)]; omega
    have Hzc := Lib.hid hzc
    clear ht hts hk hc hzc
    have hb1 : ¬ b.length = 0 := by omega
    have hne : ((b.length : Int) == 0) = false := by simpa using hb1
    have Hv1 := Lib.hid (RowIn.below Hv.out B1)
    go_wp2_with fail
    refine (HR.out _ Hv1.out).mono ?_
    rintro e w2 ⟨rfl, h2⟩
    have B2 := B1.trans (h2.mono B1.size)
    have Hv2 := Lib.hid (RowIn.below Hv1.out h2)
    clear h2 Hv1
    have hconv := run_bytes_of_string (P := Tryd.prog) w2 9 22 5 t Tryd.underlying9 Tryd.underlying22 Tryd.underlying5
    have hC : ∀ j (hj : j < t.size), (bytesRow t (grownCap w2 t.size 0 5))[j]? = some (.int .u8 (t[j].toNat : Int)) := fun j hj => bytesRow_at t _ j hj
    have hn : t.size ≤ (bytesRow t (grownCap w2 t.size 0 5)).size := by unfold bytesRow; simp
    generalize bytesRow t (grownCap w2 t.size 0 5) = C at hconv hC hn
    generalize grownCap w2 t.size 0 5 = capt at hconv
    have hb3 : Below w2.heap.size w2 (w2.drew.alloc (.cells C 5 (C.size, C.size + 1))) := ((Below.refl _ _).alloc (Nat.le_refl _) _).drew
    have hcell : ∀ j (hj : j < t.size), (w2.drew.alloc (.cells C 5 (C.size, C.size + 1))).cell? ⟨w2.heap.size, j, none⟩ = some (.int .u8 (t[j].toNat : Int)) := fun j hj => by
      show (w2.alloc _).cell? _ = _
      rw [World.cell?_alloc_mark, hC j hj]
    have hfrz : ∀ j (hj : j < t.size), (w2.drew.alloc (.cells C 5 (C.size, C.size + 1))).frozen? ⟨w2.heap.size, j, none⟩ = false := fun j hj => by
      show (w2.alloc _).frozen? _ = _
      rw [World.frozen?_alloc_mark]
      simp; omega
    generalize hw3 : w2.drew.alloc (.cells C 5 (C.size, C.size + 1)) = w3 at hconv hb3 hcell hfrz
    have Hcell := Lib.hid hcell
    have gk := hcell k hkt
    have fk := hfrz k hkt
    have Hb3 := Lib.hid hb3
    clear hw3 hC hn hcell hfrz hb3
    by_cases hsame : (t[k].toNat : Int) = z
    · go_wp2_with fail
      go_ret
      exact saysIn_b rfl (B2.trans (Hb3.out.mono B2.size))
    · have hbk := putB_back w3 w2.heap.size k capt t c z Hzc.out hkt Hcell.out
      obtain ⟨t2, ht2⟩ : ∃ t2 : ByteArray, t2 = ⟨(putB t k c).toArray⟩ := ⟨_, rfl⟩
      rw [← ht2] at hbk
      have ht2s : t2.size ≤ 1000 := by rw [ht2, mk_size, putB_len]; exact ht1
      have hcne : t[k] ≠ c := by intro e; apply hsame; rw [e, ← Hzc.out]
      have Hne := Lib.hid (show dec64 t2.data.toList ≠ .ok b from fun e => by
        have h1 := enc_dec64 e
        have h2 : t2.data.toList = putB t k c := by rw [ht2]
        have h3 : t.data.toList = enc64 b := by rw [Ht.out]
        exact putB_ne t k c hkt hcne (by rw [← h2, ← h1, h3]))
      have hb4 : Below w.heap.size w (w3.setCell ⟨w2.heap.size, k, none⟩ (.int .u8 z)) := (B2.trans (Hb3.out.mono B2.size)).setCell B2.size _
      have HB4 := Lib.hid hb4
      clear ht2 hcne hb4
      cases hd : dec64 t2.data.toList with
      | error j =>
        have Hd := Lib.hid hd
        clear hd
        go_wp2_with fail
        refine (decode64_err t2 j _ Hd.out (by omega)).mono ?_
        unfold baseF
        rintro e w5 ⟨rfl, h5⟩
        have B5 := HB4.out.trans (h5.mono HB4.out.size)
        clear h5
        go_wp2_with fail
        go_ret
        exact saysIn_b (by simp) B5
      | ok d =>
        have Hd := Lib.hid hd
        have hdb : ¬ (⟨d.toArray⟩ : ByteArray) = ⟨b.toArray⟩ := fun e => by
          apply Hne.out
          rw [hd]
          congr 1
          have := congrArg (fun x : ByteArray => x.data.toList) e
          simpa using this
        have hdl := toList_ne' hdb
        clear hd hdb
        go_wp2_with fail
        refine (decode64_ok t2 d _ Hd.out (by omega)).mono ?_
        rintro e w5 ⟨v5, rfl, hv5, h5⟩
        have B5 := HB4.out.trans (h5.mono HB4.out.size)
        have hback1 := BytesIn.back hv5
        have hback2 := BytesIn.back (RowIn.below Hv.out B5)
        clear h5 hv5
        go_wp2_with fail
        go_ret
        exact saysIn_b (by simpa using hdl) B5
  · have hs2 : b.length = 0 ∨ (¬ b.length = 0 ∧ 300 < b.length) := by omega
    clear hs
    rcases hs2 with h1 | ⟨h1, h2⟩
    · go_wp2_with fail
      refine (awake_any _ (hg.below B1)).mono ?_
      rintro e w2 ⟨rfl, h2⟩
      have B2 := B1.trans (h2.mono B1.size)
      clear h2
      go_wp2_with fail
      go_ret
      exact saysIn_b rfl B2
    · have hne : ((b.length : Int) == 0) = false := by simpa using h1
      go_wp2_with fail
      refine (awake_any _ (hg.below B1)).mono ?_
      rintro e w2 ⟨rfl, h2⟩
      have B2 := B1.trans (h2.mono B1.size)
      clear h2
      go_wp2_with fail
      go_ret
      exact saysIn_b rfl B2
end Go.Proofs.YtkibajlbjldhiaaDoor
