/- FieldBlanks. -/
import Derived.Test.YtehlhobogpgaaaaDoorFldK
namespace Go.Proofs.YtehlhobogpgaaaaDoor
set_option linter.all false
open Go.RowKit

/-- A space and a tab, k times. -/
def blks : Nat → ByteArray
  | 0 => ⟨#[]⟩
  | k + 1 => blks k ++ ⟨#[32, 9]⟩
theorem blks_size : ∀ k, (blks k).size = 2 * k
  | 0 => rfl
  | k + 1 => by
    show (blks k ++ _).size = _
    rw [ByteArray.size_append, blks_size k]
    show 2 * k + 2 = _
    omega
theorem blks_blank : ∀ k, ∀ b ∈ (blks k).data.toList, blank b = true
  | 0, b, h => by simp [blks] at h
  | k + 1, b, h => by
    simp only [blks, ByteArray.data_append, Array.toList_append, List.mem_append] at h
    rcases h with h | h
    · exact blks_blank k b h
    · simp at h
      rcases h with rfl | rfl <;> rfl
def padT (N V b : ByteArray) : ByteArray := N ++ ⟨#[58]⟩ ++ b ++ V ++ b
theorem outS_padT {s N V : ByteArray} (h : outS s = .fld N V) (k : Nat) : outS (padT N V (blks k)) = .fld N V :=
  outS_pad h (blks k).data.toList (blks k).data.toList (blks_blank k) (blks_blank k) (by simp [padT])
theorem outS_before {s N V : ByteArray} (h : outS s = .fld N V) : outS (⟨#[32]⟩ ++ s) = .bad 0 := by
  obtain ⟨A, B, h2, htk, _, _, _⟩ := outS_fld h
  have hA := tok_colon htk
  refine outS_not_tok (A := ⟨(([] : List UInt8) ++ 32 :: A.data.toList).toArray⟩) (B := B) ⟨?_, ?_⟩ tok_space
  · simp [h2.text]
  · simp [hA]
theorem outS_colon {s N V : ByteArray} (h : outS s = .fld N V) : outS (N ++ ⟨#[32, 58]⟩ ++ V) = .bad 0 := by
  obtain ⟨A, B, h2, htk, _, rfl, _⟩ := outS_fld h
  have hA := tok_colon (A := lowS A) (by rw [tokS_low]; exact htk)
  refine outS_not_tok (A := ⟨((lowS A).data.toList ++ 32 :: ([] : List UInt8)).toArray⟩) (B := V) ⟨?_, ?_⟩ tok_space
  · simp
  · simp [hA]
set_option maxRecDepth 100000 in
set_option maxHeartbeats 2000000 in
theorem fieldBlanks_any (s : ByteArray) (a : Int) (w : World) (hg : GlobF w) (hs : s.size ≤ 140737488351232) (ha : 0 ≤ a) (ha' : a ≤ 255) : Calls Tryd.prog 6 #[.string s, .int .u8 a] w (SaysIn true w) := by
  have hnn := Tryd.eqNN
  have hgd := guardFld
  have HW := Lib.hid (fun w hg => awake11 w hg)
  have HG := Lib.hid hg
  clear hg
  cases ho : outS s with
  | bad at_ =>
    have hat := (bad_at ho).1
    have HR := Lib.hid (fun w => ref_badL ho w hs)
    clear ho
    go_enter Tryd.func6, Tryd.ntmps6
    go_wp2_with fail
    refine (HR.out _).mono ?_
    rintro e w1 ⟨rfl, b1⟩
    have B1 := Lib.hid (b1.alloc b1.size (.cells #[.string ⟨#[]⟩, .string ⟨#[]⟩] 24))
    clear b1
    go_wp2_with fail
    refine (HW.out _ (HG.out.below B1.out)).mono ?_
    rintro e w2 ⟨rfl, b2⟩
    have B2 := Lib.hid (B1.out.trans (b2.mono B1.out.size))
    clear b2 B1
    by_cases h500 : s.size ≤ 500
    all_goals
      go_wp2_with fail
      refine (HW.out _ (HG.out.below B2.out)).mono ?_
      rintro e w3 ⟨rfl, b3⟩
      have B3 := Lib.hid (B2.out.trans (b3.mono B2.out.size))
      clear b3 B2
      go_wp2_with fail
      go_ret
      exact saysIn_q (by simp) B3.out
  | fld N V =>
    have hz := fld_size ho
    have HR := Lib.hid (fun w => ref_fldL ho w hs)
    have HO := Lib.hid ho
    clear ho
    go_enter Tryd.func6, Tryd.ntmps6
    go_wp2_with fail
    refine (HR.out _).mono ?_
    rintro e w1 ⟨rfl, b1⟩
    have B1 := Lib.hid (b1.alloc b1.size (.cells #[.string N, .string V] 24))
    have V1 := Lib.hid (ValsAt.new w1 [.string N, .string V] 24)
    clear b1
    obtain ⟨g, hgg⟩ : ∃ g, g = w1.heap.size := ⟨_, rfl⟩
    rw [← hgg] at V1
    go_wp2_with fail
    rw [← hgg]
    clear hgg
    refine (HW.out _ (HG.out.below B1.out)).mono ?_
    rintro e w2 ⟨rfl, b2⟩
    have V2 := Lib.hid (V1.out.below b2)
    have B2 := Lib.hid (B1.out.trans (b2.mono B1.out.size))
    clear b2 B1 V1
    by_cases h500 : s.size ≤ 500
    · obtain ⟨n, rfl⟩ : ∃ n : Nat, a = n := ⟨a.toNat, by omega⟩
      obtain ⟨m, hm⟩ : ∃ m, m = n % 10 := ⟨_, rfl⟩
      have hm10 : m ≤ 10 := by rw [hm]; omega
      have hrem : (n : Int).tmod 10 = (m : Int) := by rw [hm]; rfl
      clear hm
      have hN : N.size ≤ 500 := by omega
      have hV : V.size ≤ 500 := by omega
      have HP1 := Lib.hid (fun k (hk : k ≤ 10) w hm => parse_fld (outS_padT HO.out k) w hm (by
        have := blks_size k
        simp only [padT, ByteArray.size_append, show (⟨#[58]⟩ : ByteArray).size = 1 from rfl]
        omega))
      have HP2 := Lib.hid (fun w hm => parse_bad (outS_before HO.out) w hm (by
        simp only [ByteArray.size_append, show (⟨#[32]⟩ : ByteArray).size = 1 from rfl]
        omega))
      have HP3 := Lib.hid (fun w hm => parse_bad (outS_colon HO.out) w hm (by
        simp only [ByteArray.size_append, show (⟨#[32, 58]⟩ : ByteArray).size = 2 from rfl]
        omega))
      have HX := Lib.hid (fun w hg => wrong11_at 400 0 w hg)
      have heq : ∀ w, (binOp .eql 24 (.agg #[.string N, .string V]) (.agg #[.string N, .string V])).run Tryd.prog w = .ok (.bool true) w := fun w => (eqFld N V N V w).trans (by rw [eqF_self])
      clear hz HO
      go_wp2_with fail
      go_loop [7, 8] (fun v i => ∃ k : Nat, k ≤ m ∧ i = .int .i64 k ∧ v = .string (blks k)) (fun _ i => (m - intOf i).toNat)
      case atStart => exact ⟨0, Nat.zero_le _, rfl, rfl⟩
      case round =>
        obtain ⟨k, hk, rfl, rfl⟩ := hrel
        have hbs := blks_size k
        by_cases hlt : k < m
        · have hsz : (blks k).size ≤ 100 := by omega
          clear hbs
          go_wp2
          go_round
          case rel => exact ⟨k + 1, by omega, by go_num, rfl⟩
          case measure => simp [intOf]; omega
        · obtain rfl : k = m := by omega
          have HP1 := Lib.hid (fun w hm => HP1.out k hm10 w hm)
          have hsz : (blks k).size ≤ 100 := by omega
          obtain ⟨b, hb⟩ : ∃ b, b = blks k := ⟨_, rfl⟩
          rw [← hb] at HP1 hsz ⊢
          unfold padT at HP1
          clear hb hbs
          obtain ⟨c0, c1⟩ := V2.out.two
          have G2 := Lib.hid (HG.out.below B2.out)
          go_wp2_with fail
          refine (HP1.out _ G2.out.max).mono ?_
          rintro e w3 ⟨rfl, b3⟩
          have ba := (Below.refl w3.heap.size w3).alloc (Nat.le_refl _) (.cells #[.string N, .string V] 24)
          have bb := b3.trans (ba.mono b3.size)
          have V3 := Lib.hid (V2.out.below bb)
          have U3 := Lib.hid (ValsAt.new w3 [.string N, .string V] 24)
          have B3 := Lib.hid (B2.out.trans (bb.mono B2.out.size))
          have G3 := Lib.hid (HG.out.below B3.out)
          clear b3 ba bb V2 B2 G2 c0 c1
          obtain ⟨h, hh⟩ : ∃ h, h = w3.heap.size := ⟨_, rfl⟩
          rw [← hh] at U3
          go_wp2_with fail
          rw [← hh]
          clear hh
          refine (HP2.out _ G3.out.max).mono ?_
          rintro e w4 ⟨rfl, b4⟩
          have ba := (Below.refl w4.heap.size w4).alloc (Nat.le_refl _) (.cells #[.string ⟨#[]⟩, .string ⟨#[]⟩] 24)
          have bb := b4.trans (ba.mono b4.size)
          have V4 := Lib.hid (V3.out.below bb)
          have U4 := Lib.hid (U3.out.below bb)
          have B4 := Lib.hid (B3.out.trans (bb.mono B3.out.size))
          have G4 := Lib.hid (HG.out.below B4.out)
          clear b4 ba bb V3 U3 B3 G3
          obtain ⟨c0, c1⟩ := V4.out.two
          go_wp2_with fail
          refine (HP3.out _ G4.out.max).mono ?_
          rintro e w5 ⟨rfl, b5⟩
          have ba := (Below.refl w5.heap.size w5).alloc (Nat.le_refl _) (.cells #[.string ⟨#[]⟩, .string ⟨#[]⟩] 24)
          have bb := b5.trans (ba.mono b5.size)
          obtain ⟨c0, c1⟩ := (V4.out.below bb).two
          obtain ⟨d0, d1⟩ := (U4.out.below bb).two
          have B5 := Lib.hid (B4.out.trans (bb.mono B4.out.size))
          have G5 := Lib.hid (HG.out.below B5.out)
          clear b5 ba bb V4 U4 B4 G4
          go_wp2_with fail
          refine (HX.out _ G5.out.err).mono ?_
          rintro e w6 ⟨rfl, b6⟩
          have B6 := Lib.hid (B5.out.trans (b6.mono B5.out.size))
          have G6 := Lib.hid (HG.out.below B6.out)
          clear b6 B5 G5 c0 c1 d0 d1
          go_wp2_with fail
          refine (HX.out _ G6.out.err).mono ?_
          rintro e w7 ⟨rfl, b7⟩
          have B7 := Lib.hid (B6.out.trans (b7.mono B6.out.size))
          clear b7 B6 G6
          go_wp2_with fail
          go_ret
          exact saysIn_q (by simp) B7.out
    · go_wp2_with fail
      refine (HW.out _ (HG.out.below B2.out)).mono ?_
      rintro e w3 ⟨rfl, b3⟩
      have B3 := Lib.hid (B2.out.trans (b3.mono B2.out.size))
      clear b3 B2
      go_wp2_with fail
      go_ret
      exact saysIn_q (by simp) B3.out
end Go.Proofs.YtehlhobogpgaaaaDoor
