/- doorkeeperlaw06.EqualWalks returns true. -/
import Derived.Test.YtleogedinjijbaaEqG
namespace Go.Proofs.Ytleogedinjijbaa
set_option linter.all false
open Go.RowKit

/-- The cells of a slice of pairs. -/
def PairsAt (a b : ByteArray) (w : World) (p : Option Addr) (n : Nat) : Prop := ∀ k, k < n → ∃ g, p = some ⟨g, 0, none⟩ ∧ w.cell? ⟨g, k * 2, none⟩ = some (.int .u8 (eqAt a k : Int)) ∧ w.cell? ⟨g, k * 2 + 1, none⟩ = some (.int .u8 (eqAt b k : Int))
theorem pairsAt_of {a b : ByteArray} {w : World} {base n : Nat} {v : Value} (h : w.ownsRow base 31 2 v n (eqCells a b n)) : ∃ p c, v = .slice p n c ∧ PairsAt a b w p n := by
  rcases h.2 with ⟨rfl, rfl⟩ | ⟨g, cap, cur, rfl, _⟩
  · exact ⟨none, 0, rfl, fun k hk => by omega⟩
  · refine ⟨_, cap, rfl, fun k hk => ⟨g, rfl, ?_, ?_⟩⟩
    · have := h.cells (g := g) rfl (k * 2) _ (eqCells_at a b k n hk).1
      rwa [Addr.add_lit, Nat.zero_add] at this
    · have := h.cells (g := g) rfl (k * 2 + 1) _ (eqCells_at a b k n hk).2
      rwa [Addr.add_lit, Nat.zero_add] at this
theorem PairsAt.below {a b : ByteArray} {w w' : World} {p : Option Addr} {n : Nat} (h : PairsAt a b w p n) (hb : Below w.heap.size w w') : PairsAt a b w' p n := fun k hk => by
  obtain ⟨g, h1, h2, h3⟩ := h k hk
  exact ⟨g, h1, by rw [hb.cell (World.block_lt_of_cell? w _ h2)]; exact h2, by rw [hb.cell (World.block_lt_of_cell? w _ h3)]; exact h3⟩
theorem PairsAt.drew {a b : ByteArray} {w : World} {p : Option Addr} {n : Nat} (h : PairsAt a b w p n) : PairsAt a b w.drew p n := h
/-- What the walk of EqualWalks has laid: the recorder, and both slices. -/
def WalksAt (a b : ByteArray) (w : World) (R : Nat) (p q : Option Addr) (n c : Nat) : Prop := w.cell? ⟨R, 0, none⟩ = some (.slice p n c) ∧ PairsAt a b w p n ∧ PairsAt a b w q n

theorem pairEq_at (d : Nat) (x y : Int) (w : World) : (Op.equalIn (d + 2) 31 (.agg #[.int .u8 x, .int .u8 y]) (.agg #[.int .u8 x, .int .u8 y])).run Try.prog w = .ok true w := by
  have h2 : Try.prog.underlying 31 = some (.array 2 5) := by kernel_rfl
  have h3 : ∀ w, (sizeOf 5).run Try.prog w = .ok 1 w := fun w => by kernel_rfl
  have h4 : ∀ w, (part 5 #[.int .u8 x, .int .u8 y] 0).run Try.prog w = .ok (.int .u8 x) w := fun w => by kernel_rfl
  have h5 : ∀ w, (part 5 #[.int .u8 x, .int .u8 y] 1).run Try.prog w = .ok (.int .u8 y) w := fun w => by kernel_rfl
  rw [Op.equalIn]
  simp only [Sem.run_bind, run_underlying h2, h3, Result.andThen_ok, Std.Legacy.Range.forIn_eq_forIn_range', Std.Legacy.Range.size]
  simp [List.range'_succ, h4, h5, run_equalIn_int _ d _ .u8 .u8 _ _ Try.underlying5, Result.andThen]
theorem pairEq (x y : Int) (w : World) : (Op.equalIn 10000 31 (.agg #[.int .u8 x, .int .u8 y]) (.agg #[.int .u8 x, .int .u8 y])).run Try.prog w = .ok true w := pairEq_at 9998 x y w
set_option maxRecDepth 100000 in
set_option maxHeartbeats 2000000 in
theorem equalWalks_any (a b : ByteArray) (w : World) (ha : a.size ≤ 9223372036854775807) (hb : b.size ≤ 9223372036854775807) :
    Calls Try.prog 3 #[.string a, .string b] w (SaysIn true w) := by
  by_cases hbig : a.size ≤ 1000 ∧ b.size ≤ 1000
  · obtain ⟨h1, h2⟩ := hbig
    have h3 : ¬ (1000 : Int) < a.size := by omega
    have h4 : ¬ (1000 : Int) < b.size := by omega
    have he := strEq_bool a b
    obtain ⟨c, hc⟩ : ∃ c, decide (a = b) = c := ⟨_, rfl⟩
    obtain ⟨n, hn⟩ : ∃ n, max a.size b.size = n := ⟨_, rfl⟩
    have HW := Lib.hid (fun R base w ok h hbase => walk_any a b 9 #[.pointer (some ⟨R, 0, none⟩)] base (RecAt a b R base) w ok ha hb h hbase)
    have HP := Lib.hid (fun w => refPairs_any a b w h1 h2)
    have HE := Lib.hid (fun w => equal_at a b c w ha hb hc)
    have HS := Lib.hid (fun w => steps_at a b n w ha hb hn)
    rw [hc] at he HW
    rw [hn] at HW HP
    have hn9 : n ≤ 1000 := by omega
    have HNN := Lib.hid hn
    clear hc hn
    go_enter Try.func3, Try.ntmps3
    go_wp2_with fail
    refine (awake06_any _).mono ?_
    rintro e w1 ⟨rfl, b1⟩
    go_wp2_with fail
    have hsz1 := b1.size
    refine (HW.out w1.heap.size w1.heap.size _ (rec_ok a b _ _ (Nat.le_refl _) h1 h2) (recAt_new a b w1) (by simp)).mono ?_
    rintro e w2 ⟨rfl, ⟨v, hR2, hown2⟩, hb2⟩
    have B2 := b1.trans ((((Below.refl w1.heap.size w1).alloc (Nat.le_refl _) _).trans hb2).mono hsz1)
    obtain ⟨p, c1, rfl, hp⟩ := pairsAt_of hown2
    have HR2 := Lib.hid hR2
    have hR2s := lt_of_block hR2
    have HP2 := Lib.hid hp
    have HB2 := Lib.hid B2
    clear hown2 hb2 hp hR2 B2 b1 HW
    go_wp2_with fail
    refine (HP.out _).mono ?_
    rintro e w3 ⟨v, rfl, hown3, hb3⟩
    obtain ⟨q, c2, rfl, hq⟩ := pairsAt_of hown3
    have R3 := (hb3.block _ hR2s).trans HR2.out
    have hR3s := lt_of_block R3
    have HR3 := Lib.hid R3
    have HP3 := Lib.hid (HP2.out.below hb3)
    have HQ3 := Lib.hid hq
    have HB3 := Lib.hid (HB2.out.trans (hb3.mono HB2.out.size))
    clear hown3 hb3 hq HP2 HB2 HR2 hR2s R3 HP
    cases c
    all_goals
      go_wp2_with fail
      refine (HE.out _).mono ?_
      rintro e w4 ⟨rfl, hb4⟩
      have R4 := (hb4.block _ hR3s).trans HR3.out
      have HP4 := Lib.hid (HP3.out.below hb4)
      have HQ4 := Lib.hid (HQ3.out.below hb4)
      have HB4 := Lib.hid (HB3.out.trans (hb4.mono HB3.out.size))
      have cR4 := cell_of_one R4
      clear hb4 R4
      go_wp2_with fail
      refine (HS.out _).mono ?_
      rintro e w' ⟨rfl, rfl⟩
      go_wp2_with fail
      have HA := Lib.hid (show WalksAt a b w4 w1.heap.size p q n c1 from ⟨cR4, HP4.out, HQ4.out⟩)
      clear cR4 HP4 HQ4 HP3 HQ3 HR3 HB3 hR3s
      go_loopw [8] (fun i wr => ∃ k : Nat, k ≤ n ∧ i = .int .i64 k ∧ Hid (WalksAt a b wr w1.heap.size p q n c1) ∧ Hid (Below w.heap.size w wr)) (fun i _ => n - (intOf i).toNat)
      case atStart => exact ⟨0, Nat.zero_le _, rfl, HA.out, HB4.out⟩
      case round =>
        clear HA HB4
        obtain ⟨k, hk, rfl, HA, HB⟩ := hrel
        by_cases hlt : k < n
        · obtain ⟨g1, e1, c10, c11⟩ := HA.out.2.1 k hlt
          obtain ⟨g2, e2, c20, c21⟩ := HA.out.2.2 k hlt
          subst e1 e2
          have cR := HA.out.1
          have HA2 := Lib.hid (show WalksAt a b wr.drew w1.heap.size _ _ n c1 from HA.out)
          have HB2 := Lib.hid HB.out.drew
          go_wp2_with fail
          have hpe := fun w => pairEq (eqAt a k : Int) (eqAt b k : Int) w
          refine wp_region_still_lit (by kernel_rfl) (by kernel_rfl) ?_
          repeat still_step
          refine wpStill_nil ?_
          change Exit.then _ _ Exit.normal _ wr.drew
          clear cR c10 c11 c20 c21 HA HB hpe
          generalize wr.drew = wd at HA2 HB2 ⊢
          go_wp2
          go_roundw
          case rel => exact ⟨k + 1, by omega, by go_num, HA2.out, HB2.out⟩
          case measure => simp [intOf]; omega
        · go_wp2
          go_ret
          exact saysIn_end rfl HB.out
  · by_cases h1 : a.size ≤ 1000
    · have h3 : ¬ (1000 : Int) < a.size := by omega
      have h4 : (1000 : Int) < b.size := by omega
      go_enter Try.func3, Try.ntmps3
      go_wp2_with fail
      refine (awake06_any _).mono ?_
      rintro e w1 ⟨rfl, b1⟩
      go_wp2_with fail
      refine (awake06_any _).mono ?_
      rintro e w2 ⟨rfl, b2⟩
      go_wp2_with fail
      go_ret
      exact saysIn_end rfl (b1.trans (b2.mono b1.size))
    · have h3 : (1000 : Int) < a.size := by omega
      go_enter Try.func3, Try.ntmps3
      go_wp2_with fail
      refine (awake06_any _).mono ?_
      rintro e w1 ⟨rfl, b1⟩
      go_wp2_with fail
      refine (awake06_any _).mono ?_
      rintro e w2 ⟨rfl, b2⟩
      go_wp2_with fail
      go_ret
      exact saysIn_end rfl (b1.trans (b2.mono b1.size))
end Go.Proofs.Ytleogedinjijbaa
