/- Package digest: addBlocks, bytes, padding. -/
import Derived.Test.YtcpjdmfnipdecaaDoorDigE
namespace Go.Proofs.YtcpjdmfnipdecaaDoor
set_option linter.all false
open Go.RowKit DigP

theorem bytesN_extract (s : ByteArray) (a b : Nat) : bytesN (s.extract a b) = ((bytesN s).drop a).take (b - a) := by
  simp [bytesN, ByteArray.data_extract, List.extract_eq_drop_take', List.map_take, List.map_drop]
theorem extract_size (s : ByteArray) (a b : Nat) (h1 : a ≤ b) (h2 : b ≤ s.size) : (s.extract a b).size = b - a := by
  simp [ByteArray.size_extract]; omega
set_option maxRecDepth 100000 in
set_option maxHeartbeats 4000000 in
theorem addBlocks_any (g : Nat) (l : List Nat) (s : ByteArray) (n : Nat) (w : World) (hs : s.size = 64 * n) (hn : n ≤ 1000000000) (hA : At w g .u32 l) (hl : Words 8 l) (hR : Roots w) (hg : 1 < g) :
    Calls Tryd.prog 18 #[.pointer (some ⟨g, 0, none⟩), .string s] w fun e w' => e = .returned (.tuple #[]) ∧ At w' g .u32 (blocksS l (bytesN s) n) ∧ Below g w w' := by
  have HA := Lib.hid hA
  have Hl := Lib.hid hl
  have HR := Lib.hid hR
  clear hA hl hR
  have hd : (s.size : Int) / 64 = (n : Int) := by omega
  have Hs := Lib.hid hs
  clear hs
  go_enter Tryd.func18, Tryd.ntmps18
  go_wp2
  go_loopw [8] (fun i wr => ∃ k : Nat, k ≤ n ∧ i = .int .i64 (k : Int) ∧ Hid (At wr g .u32 (blocksS l (bytesN s) k)) ∧ Hid (Roots wr) ∧ Hid (Below g w wr)) (fun i _ => n - (intOf i).toNat)
  case atStart => exact ⟨0, Nat.zero_le _, rfl, HA.out, HR.out, Below.refl _ _⟩
  case round =>
    clear HA HR
    obtain ⟨k, hk, rfl, HA, HR, HB⟩ := hrel
    by_cases hlt : k < n
    · obtain ⟨b, hb⟩ : ∃ b, b = s.extract (64 * k) (64 * (k + 1)) := ⟨_, rfl⟩
      have hsl : ∀ w, (Instr.slice 9 (.string s) (some (.int .i64 (64 * (k : Int)))) (some (.int .i64 (64 * ((k : Int) + 1)))) none).run Tryd.prog w = .ok (.string b) w := fun w => by
        rw [run_slice_string (P := Tryd.prog) w 9 s .i64 .i64 _ _ Tryd.underlying9 (by omega) (by omega) (by have := Hs.out; omega)]
        rw [hb, show (64 * (k : Int)).toNat = 64 * k by omega, show (64 * ((k : Int) + 1)).toNat = 64 * (k + 1) by omega]
      have Hbs := Lib.hid (show b.size = 64 by rw [hb, extract_size _ _ _ (by omega) (by have := Hs.out; omega)]; omega)
      have Hbk := Lib.hid (show blockS (blocksS l (bytesN s) k) (bytesN b) = blocksS l (bytesN s) (k + 1) by
        rw [hb, bytesN_extract, show 64 * (k + 1) - 64 * k = 64 by omega]; rfl)
      clear hb
      have e1 : IntKind.i64.wrap (64 * (k : Int)) = 64 * (k : Int) := by rw [IntKind.wrap_i64]; omega
      have e2 : IntKind.i64.wrap (64 * ((k : Int) + 1)) = 64 * ((k : Int) + 1) := by rw [IntKind.wrap_i64]; omega
      go_wp2_with fail
      refine (addBlock_any g _ b wr Hbs.out HA.out (Hl.out.blocks _ k) HR.out hg).mono ?_
      rintro _ w1 ⟨rfl, h1, b1⟩
      have H1 := Lib.hid h1
      have B1 := Lib.hid b1
      clear h1 b1
      go_wp2
      go_roundw
      case rel => exact ⟨k + 1, by omega, by go_num, by rw [← Hbk.out]; exact H1.out, Rd.below HR.out B1.out hg, HB.out.trans B1.out⟩
      case measure => simp [intOf]; omega
    · obtain rfl : k = n := by omega
      go_wp2
      go_end0
      exact ⟨rfl, HA.out, HB.out⟩
set_option maxRecDepth 100000 in
set_option maxHeartbeats 4000000 in
theorem bytes_any (g : Nat) (l : List Nat) (w : World) (hA : At w g .u32 l) (hl : Words 8 l) :
    Calls Tryd.prog 20 #[.pointer (some ⟨g, 0, none⟩)] w fun e w' => e = .returned (.agg (numVals .u8 (bytesS l)).toArray) ∧ Below w.heap.size w w' := by
  have hgw : g < w.heap.size := hA.rd.lt (by rw [hl.1]; decide)
  have h2 := Lib.hid ((At.lit32 w 23).alloc (.cells #[.int .u8 0, .int .u8 0, .int .u8 0, .int .u8 0, .int .u8 0, .int .u8 0, .int .u8 0, .int .u8 0, .int .u8 0, .int .u8 0, .int .u8 0, .int .u8 0, .int .u8 0, .int .u8 0, .int .u8 0, .int .u8 0, .int .u8 0, .int .u8 0, .int .u8 0, .int .u8 0, .int .u8 0, .int .u8 0, .int .u8 0, .int .u8 0, .int .u8 0, .int .u8 0, .int .u8 0, .int .u8 0, .int .u8 0, .int .u8 0, .int .u8 0, .int .u8 0] 23) (by rw [World.size_alloc]; omega))
  have h3 := Lib.hid (At.lit32 (w.alloc (.cells #[.int .u8 0, .int .u8 0, .int .u8 0, .int .u8 0, .int .u8 0, .int .u8 0, .int .u8 0, .int .u8 0, .int .u8 0, .int .u8 0, .int .u8 0, .int .u8 0, .int .u8 0, .int .u8 0, .int .u8 0, .int .u8 0, .int .u8 0, .int .u8 0, .int .u8 0, .int .u8 0, .int .u8 0, .int .u8 0, .int .u8 0, .int .u8 0, .int .u8 0, .int .u8 0, .int .u8 0, .int .u8 0, .int .u8 0, .int .u8 0, .int .u8 0, .int .u8 0] 23)) 23)
  have hb := Lib.hid ((((Below.refl w.heap.size w).alloc (Nat.le_refl _) (.cells #[.int .u8 0, .int .u8 0, .int .u8 0, .int .u8 0, .int .u8 0, .int .u8 0, .int .u8 0, .int .u8 0, .int .u8 0, .int .u8 0, .int .u8 0, .int .u8 0, .int .u8 0, .int .u8 0, .int .u8 0, .int .u8 0, .int .u8 0, .int .u8 0, .int .u8 0, .int .u8 0, .int .u8 0, .int .u8 0, .int .u8 0, .int .u8 0, .int .u8 0, .int .u8 0, .int .u8 0, .int .u8 0, .int .u8 0, .int .u8 0, .int .u8 0, .int .u8 0] 23)).alloc (by rw [World.size_alloc]; omega) (.cells #[.int .u8 0, .int .u8 0, .int .u8 0, .int .u8 0, .int .u8 0, .int .u8 0, .int .u8 0, .int .u8 0, .int .u8 0, .int .u8 0, .int .u8 0, .int .u8 0, .int .u8 0, .int .u8 0, .int .u8 0, .int .u8 0, .int .u8 0, .int .u8 0, .int .u8 0, .int .u8 0, .int .u8 0, .int .u8 0, .int .u8 0, .int .u8 0, .int .u8 0, .int .u8 0, .int .u8 0, .int .u8 0, .int .u8 0, .int .u8 0, .int .u8 0, .int .u8 0] 23)))
  have hA0 := Lib.hid (hA.below hb.out hgw)
  have Hl := Lib.hid hl
  clear hA hl
  rw [World.size_alloc] at h3
  go_enter Tryd.func20, Tryd.ntmps20
  go_wp2
  obtain ⟨gB, hg⟩ : ∃ g, g = w.heap.size + 1 := ⟨_, rfl⟩
  rw [← hg] at h3 ⊢
  have Hg := Lib.hid hg
  clear hg
  generalize ((w.alloc (.cells #[.int .u8 0, .int .u8 0, .int .u8 0, .int .u8 0, .int .u8 0, .int .u8 0, .int .u8 0, .int .u8 0, .int .u8 0, .int .u8 0, .int .u8 0, .int .u8 0, .int .u8 0, .int .u8 0, .int .u8 0, .int .u8 0, .int .u8 0, .int .u8 0, .int .u8 0, .int .u8 0, .int .u8 0, .int .u8 0, .int .u8 0, .int .u8 0, .int .u8 0, .int .u8 0, .int .u8 0, .int .u8 0, .int .u8 0, .int .u8 0, .int .u8 0, .int .u8 0] 23)).alloc (.cells #[.int .u8 0, .int .u8 0, .int .u8 0, .int .u8 0, .int .u8 0, .int .u8 0, .int .u8 0, .int .u8 0, .int .u8 0, .int .u8 0, .int .u8 0, .int .u8 0, .int .u8 0, .int .u8 0, .int .u8 0, .int .u8 0, .int .u8 0, .int .u8 0, .int .u8 0, .int .u8 0, .int .u8 0, .int .u8 0, .int .u8 0, .int .u8 0, .int .u8 0, .int .u8 0, .int .u8 0, .int .u8 0, .int .u8 0, .int .u8 0, .int .u8 0, .int .u8 0] 23)) = w0 at h2 h3 hb hA0 ⊢
  go_loopw [5] (fun i wr => ∃ k : Nat, k ≤ 32 ∧ i = .int .i64 (k : Int) ∧ Hid (At wr gB .u8 (padTo 32 ((bytesS l).take k))) ∧ Hid (At wr w.heap.size .u8 (List.replicate 32 0)) ∧ Hid (At wr g .u32 l) ∧ Hid (Below w.heap.size w wr)) (fun i _ => 32 - (intOf i).toNat)
  case atStart => exact ⟨0, Nat.zero_le _, rfl, h3.out, h2.out, hA0.out, hb.out⟩
  case round =>
    clear h2 h3 hb hA0
    obtain ⟨k, hk, rfl, H3, H2, HA, HB⟩ := hrel
    have Hpl := Lib.hid (fun (_ : Unit) => show (padTo 32 ((bytesS l).take k)).length = 32 from padTo_len (by rw [List.length_take, bytesS_len]; omega))
    by_cases hlt : k < 32
    · obtain ⟨q, hq⟩ : ∃ q, q = k / 4 := ⟨_, rfl⟩
      obtain ⟨r, hr⟩ : ∃ r, r = k % 4 := ⟨_, rfl⟩
      obtain ⟨sh, hsh⟩ : ∃ sh, sh = 24 - 8 * (k % 4) := ⟨_, rfl⟩
      have hq8 : q < 8 := by omega
      have d1 : (k : Int) / 4 = (q : Int) := by omega
      have d2 : (k : Int) % 4 = (r : Int) := by omega
      have d3 : (24 : Int) - 8 * (r : Int) = (sh : Int) := by omega
      have e1 : IntKind.i64.wrap (8 * (r : Int)) = 8 * (r : Int) := by rw [IntKind.wrap_i64]; omega
      have hsh32 : sh ≤ 32 := by omega
      obtain ⟨x, hx⟩ : ∃ x, x = l.getD q 0 := ⟨_, rfl⟩
      obtain ⟨y, hy⟩ : ∃ y, y = x / 2 ^ sh := ⟨_, rfl⟩
      obtain ⟨z, hz⟩ : ∃ z, z = y % 256 := ⟨_, rfl⟩
      have hshr := shr_w32 x sh hsh32 .i64
      have HZ : Hid ((x : Int) / 2 ^ sh % 256 = (z : Int)) := by rw [hz, hy, Int.natCast_emod, Int.natCast_ediv, Int.natCast_pow]; rfl
      have hcell : wr.cell? ⟨g, q, none⟩ = some (.int .u32 (x : Int)) := by rw [hx]; exact HA.out.cell (by rw [Hl.out.1]; exact hq8)
      have hc2 := H3.out.cell (i := k) (by rw [Hpl.out ()]; exact hlt)
      have hf2 := H3.out.free (i := k) (by rw [Hpl.out ()]; exact hlt)
      have HS := Lib.hid (fun (_ : Unit) => show (padTo 32 ((bytesS l).take k)).set k z = padTo 32 ((bytesS l).take (k + 1)) by
        rw [← bytes_step l hlt, hz, hy, hx, hq, hsh])
      clear hx hy hz hq hr hsh hsh32
      go_wp2_with fail
      go_wp2
      go_roundw
      case rel =>
        refine ⟨k + 1, by omega, by go_num, ?_, H2.out.other ⟨gB, k, none⟩ _ (by have := Hg.out; simp only; omega), HA.out.other ⟨gB, k, none⟩ _ (by have := Hg.out; simp only; omega), HB.out.setCell (p := ⟨gB, k, none⟩) (by have := Hg.out; simp only; omega) _⟩
        rw [← HS.out ()]
        exact H3.out.put (by rw [Hpl.out ()]; exact hlt) z HZ.out
      case measure => simp [intOf]; omega
    · obtain rfl : k = 32 := by omega
      rw [show ((32 : Nat) : Int) = 32 from rfl]
      have hfin : padTo 32 ((bytesS l).take 32) = bytesS l := by rw [List.take_of_length_le (by rw [bytesS_len]; omega)]; exact padTo_full (bytesS_len l)
      rw [hfin] at H3
      have Hln := Lib.hid (fun (_ : Unit) => bytesS_len l)
      clear Hpl hfin
      go_wp2_with (first | (refine wpList_load_arr Tryd.arr32 rfl _ rfl rfl H3.out.rd (Hln.out ()) ?_) | (refine wpList_store_arr Tryd.arr32 rfl _ _ rfl rfl rfl H2.out rfl (Hln.out ()) ?_; intro w1 h1 hb1 _))
      refine bodyPost_ret (results_arr Tryd.arr32 Tryd.results20 _ _ rfl h1.rd (Hln.out ())) rfl ⟨rfl, HB.out.trans (hb1 _ (Nat.le_refl _))⟩
end Go.Proofs.YtcpjdmfnipdecaaDoor
