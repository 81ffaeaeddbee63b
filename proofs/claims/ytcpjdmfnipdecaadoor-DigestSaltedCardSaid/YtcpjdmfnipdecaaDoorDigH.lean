/- Package digest: Sum. -/
import Derived.Test.YtcpjdmfnipdecaaDoorDigG
namespace Go.Proofs.YtcpjdmfnipdecaaDoor
set_option linter.all false
open Go.RowKit DigP

/-- The program's two tables. -/
def Glob (w : World) : Prop := Rd w 0 .u32 init8 ∧ Roots w ∧ 1 < w.heap.size ∧ 0 < w.heap.size
theorem Glob.below {w w' : World} (h : Glob w) (hb : Below w.heap.size w w') : Glob w' := ⟨h.1.below hb h.2.2.2, Rd.below h.2.1 hb h.2.2.1, Nat.lt_of_lt_of_le h.2.2.1 hb.size, Nat.lt_of_lt_of_le h.2.2.2 hb.size⟩
def SaysArr (k : IntKind) (l : List Nat) (w : World) (e : Ending) (w' : World) : Prop := e = .returned (.agg (numVals k l).toArray) ∧ Below w.heap.size w w'
theorem sum_text (b : List Nat) (m : Nat) (hm : m = b.length / 64) : blocksS (blocksS init8 (b.take (64 * m)) m) (b.drop (64 * m) ++ padS b.length) ((b.drop (64 * m) ++ padS b.length).length / 64) = shaP b := by
  have hl : (b.take (64 * m)).length = 64 * m := by rw [List.length_take]; omega
  unfold shaP
  rw [← blocks_more init8 (b.take (64 * m)) (b.drop (64 * m) ++ padS b.length) m hl, ← List.append_assoc, List.take_append_drop]
  congr 1
  rw [List.length_append, List.length_drop, padS_len]
  omega
set_option maxRecDepth 100000 in
set_option maxHeartbeats 4000000 in
theorem sum_any (s : ByteArray) (w : World) (hs : s.size ≤ 1000000000) (hG : Glob w) :
    Calls Tryd.prog 9 #[.string s] w (SaysArr .u8 (shaB (bytesN s)) w) := by
  obtain ⟨m, hm⟩ : ∃ m, m = s.size / 64 := ⟨_, rfl⟩
  have d1 : (s.size : Int) / 64 = (m : Int) := by omega
  have e1 : IntKind.i64.wrap ((m : Int) * 64) = (m : Int) * 64 := by rw [IntKind.wrap_i64]; omega
  obtain ⟨a, ha⟩ : ∃ a, a = s.extract 0 (64 * m) := ⟨_, rfl⟩
  obtain ⟨b, hb⟩ : ∃ b, b = s.extract (64 * m) s.size := ⟨_, rfl⟩
  have h1 : ∀ w, (Instr.slice 9 (.string s) none (some (.int .i64 ((m : Int) * 64))) none).run Tryd.prog w = .ok (.string a) w := fun w => by
    rw [run_slice_string_h w 9 s Tryd.underlying9 .i64 _ (by omega) (by omega), ha, show ((m : Int) * 64).toNat = 64 * m by omega]
  have h2 : ∀ w, (Instr.slice 9 (.string s) (some (.int .i64 ((m : Int) * 64))) none none).run Tryd.prog w = .ok (.string b) w := fun w => by
    rw [run_slice_string_l w 9 s Tryd.underlying9 .i64 _ (by omega) (by omega), hb, show ((m : Int) * 64).toNat = 64 * m by omega]
  have Hm := Lib.hid (show m ≤ 1000000000 by omega)
  have Has := Lib.hid (show a.size = 64 * m by rw [ha, extract_size _ _ _ (by omega) (by omega)]; omega)
  have Hbs := Lib.hid (show b.size = s.size - 64 * m by rw [hb, extract_size _ _ _ (by omega) (by omega)])
  have Han := Lib.hid (fun (_ : Unit) => show bytesN a = (bytesN s).take (64 * m) by rw [ha, bytesN_extract]; rfl)
  have Hbn := Lib.hid (fun (_ : Unit) => show bytesN b = (bytesN s).drop (64 * m) by rw [hb, bytesN_extract, List.take_of_length_le (by rw [List.length_drop, bytesN_len]; exact Nat.le_refl _)])
  obtain ⟨c, hc⟩ : ∃ c, c = b ++ toB (padS s.size) := ⟨_, rfl⟩
  obtain ⟨q, hq⟩ : ∃ q, q = c.size / 64 := ⟨_, rfl⟩
  have Hcn := Lib.hid (fun (_ : Unit) => show bytesN c = (bytesN s).drop (64 * m) ++ padS (bytesN s).length by rw [hc, bytesN_cat, bytesN_toB (small_pad _), Hbn.out (), bytesN_len])
  have hcl : c.size = s.size - 64 * m + (72 - (s.size + 8) % 64) := by rw [hc, ByteArray.size_append, Hbs.out, toB_size, padS_len]
  have Hcs := Lib.hid (show c.size = 64 * q ∧ q ≤ 1000000000 by omega)
  have Hfin := Lib.hid (fun (_ : Unit) => show bytesS (blocksS (blocksS init8 (bytesN a) m) (bytesN c) q) = shaB (bytesN s) by
    rw [Han.out (), Hcn.out (), hq, ← bytesN_len c, Hcn.out (), sum_text _ m (by rw [bytesN_len]; exact hm)]; rfl)
  obtain ⟨pd, hpd⟩ : ∃ pd, pd = toB (padS s.size) := ⟨_, rfl⟩
  have HPd := Lib.hid (fun w => padding_any s.size w hs)
  have hpl : pd.size = 72 - (s.size + 8) % 64 := by rw [hpd, toB_size, padS_len]
  rw [← hpd] at HPd hc
  have hcatm : ((9223372036854775807 : Nat) < b.size + pd.size) = False := by
    have := Hbs.out
    rw [this, hpl]; exact eq_false (by omega)
  have hcat : b ++ pd = c := hc.symm
  have HG := Lib.hid hG
  have Hi := Lib.hid init_words
  obtain ⟨gl0, gl1, gl2, gl3⟩ := hG
  have K2 := Lib.hid ((At.lit32 w 23).alloc (.cells #[.int .u32 0, .int .u32 0, .int .u32 0, .int .u32 0, .int .u32 0, .int .u32 0, .int .u32 0, .int .u32 0] 39) (by rw [World.size_alloc]; omega))
  have KB := Lib.hid ((((Below.refl w.heap.size w).alloc (Nat.le_refl _) (.cells #[.int .u8 0, .int .u8 0, .int .u8 0, .int .u8 0, .int .u8 0, .int .u8 0, .int .u8 0, .int .u8 0, .int .u8 0, .int .u8 0, .int .u8 0, .int .u8 0, .int .u8 0, .int .u8 0, .int .u8 0, .int .u8 0, .int .u8 0, .int .u8 0, .int .u8 0, .int .u8 0, .int .u8 0, .int .u8 0, .int .u8 0, .int .u8 0, .int .u8 0, .int .u8 0, .int .u8 0, .int .u8 0, .int .u8 0, .int .u8 0, .int .u8 0, .int .u8 0] 23)).alloc (by rw [World.size_alloc]; omega) (.cells #[.int .u32 0, .int .u32 0, .int .u32 0, .int .u32 0, .int .u32 0, .int .u32 0, .int .u32 0, .int .u32 0] 39)))
  have K3 := Lib.hid (At.lit8 (w.alloc (.cells #[.int .u8 0, .int .u8 0, .int .u8 0, .int .u8 0, .int .u8 0, .int .u8 0, .int .u8 0, .int .u8 0, .int .u8 0, .int .u8 0, .int .u8 0, .int .u8 0, .int .u8 0, .int .u8 0, .int .u8 0, .int .u8 0, .int .u8 0, .int .u8 0, .int .u8 0, .int .u8 0, .int .u8 0, .int .u8 0, .int .u8 0, .int .u8 0, .int .u8 0, .int .u8 0, .int .u8 0, .int .u8 0, .int .u8 0, .int .u8 0, .int .u8 0, .int .u8 0] 23)) 39)
  have HGl := Lib.hid (fun (_ : Unit) => (show Rd (w.alloc (.cells #[.int .u8 0, .int .u8 0, .int .u8 0, .int .u8 0, .int .u8 0, .int .u8 0, .int .u8 0, .int .u8 0, .int .u8 0, .int .u8 0, .int .u8 0, .int .u8 0, .int .u8 0, .int .u8 0, .int .u8 0, .int .u8 0, .int .u8 0, .int .u8 0, .int .u8 0, .int .u8 0, .int .u8 0, .int .u8 0, .int .u8 0, .int .u8 0, .int .u8 0, .int .u8 0, .int .u8 0, .int .u8 0, .int .u8 0, .int .u8 0, .int .u8 0, .int .u8 0] 23)) 0 .u32 init8 from gl0.alloc _ gl3))
  rw [World.size_alloc] at K3
  clear hm ha hb hc hq hcl gl0 gl1 gl2 gl3
  go_enter Tryd.func9, Tryd.ntmps9
  go_wp2_with (first | (refine wpList_load_arr Tryd.arr8 rfl _ rfl rfl (HGl.out ()) rfl ?_) | (refine wpList_store_arr Tryd.arrState rfl _ _ rfl rfl rfl K3.out rfl rfl ?_; intro w2 j2 jb2 jo2; have J2 := Lib.hid j2; have Jb2 := Lib.hid jb2; have Jo2 := Lib.hid jo2; clear j2 jb2 jo2))
  have J3 := Lib.hid (Jo2.out w.heap.size _ _ (by omega) K2.out)
  have JB := Lib.hid (KB.out.trans (Jb2.out w.heap.size (by omega)))
  have JG := Lib.hid (HG.out.below JB.out)
  obtain ⟨gN, hgN⟩ : ∃ g, g = w.heap.size + 1 := ⟨_, rfl⟩
  rw [← hgN] at J2 ⊢
  have HgN := Lib.hid hgN
  have Hgr := Lib.hid (show 1 < gN by have := HG.out.2.2.1; omega)
  clear K2 K3 KB Jb2 Jo2 HGl hgN
  refine (addBlocks_any gN _ a m w2 Has.out Hm.out J2.out Hi.out JG.out.2.1 Hgr.out).mono ?_
  rintro _ w3 ⟨rfl, i3, b3⟩
  have I3 := Lib.hid i3
  have J4 := Lib.hid (J3.out.below b3 (by have := HgN.out; omega))
  have R3 := Lib.hid (Rd.below JG.out.2.1 b3 Hgr.out)
  have B3 := Lib.hid (JB.out.trans (b3.mono (by have := HgN.out; omega)))
  have HgW := Lib.hid (show gN < w3.heap.size from i3.rd.lt (by rw [(Hi.out.blocks _ _).1]; decide))
  clear i3 b3 J2 J3 JB JG HG hpd hpl
  generalize Value.agg (numVals .u32 init8).toArray = v5
  go_wp2_with fail
  have HC := Lib.hid (fun (wp : World) (hb : Below w3.drew.heap.size w3.drew wp) => addBlocks_any gN _ c q wp Hcs.out.1 Hcs.out.2 (I3.out.drew.below hb HgW.out) (Hi.out.blocks _ _) (Rd.below (w := w3.drew) R3.out hb (Nat.lt_trans Hgr.out HgW.out)) Hgr.out)
  go_region_law (first
    | (go_simp; go_at_call 19; refine (HPd.out _).mono ?_; rintro e wp ⟨rfl, hbp⟩; have Hbp := Lib.hid hbp; clear hbp)
    | (go_simp; go_at_call 18; refine (HC.out wp Hbp.out).mono ?_; rintro e w4 ⟨rfl, i4, b4⟩; have I4 := Lib.hid i4; have B4 := Lib.hid b4; clear i4 b4))
  have J5 := Lib.hid ((J4.out.drew.below Hbp.out (show w.heap.size < w3.heap.size by have := HgN.out; have := HgW.out; omega)).below B4.out (show w.heap.size < gN by have := HgN.out; omega))
  have B5 := Lib.hid (((B3.out.drew.trans (Hbp.out.mono (show w.heap.size ≤ w3.heap.size by have := HgN.out; have := HgW.out; omega))).trans (B4.out.mono (show w.heap.size ≤ gN by have := HgN.out; omega))))
  have Hw8 := Lib.hid (fun (_ : Unit) => (Hi.out.blocks (bytesN a) m).blocks (bytesN c) q)
  have Hr4 := Lib.hid (show w.heap.size < w4.heap.size from J5.out.rd.lt (by simp))
  have Hl32 := Lib.hid (fun (_ : Unit) => bytesS_len (blocksS (blocksS init8 (bytesN a) m) (bytesN c) q))
  clear HC J4 R3 B3 Hbp B4 HPd
  go_wp2_with fail
  refine (bytes_any gN _ w4 I4.out (Hw8.out ())).mono ?_
  rintro _ w5 ⟨rfl, b5⟩
  have J6 := Lib.hid (J5.out.below b5 Hr4.out)
  have B6 := Lib.hid (B5.out.trans (b5.mono (Nat.le_of_lt Hr4.out)))
  clear b5
  go_wp2_with (first | (refine wpList_store_arr Tryd.arr32 rfl _ _ rfl rfl rfl J6.out rfl (Hl32.out ()) ?_; intro w6 j6 jb6 _))
  refine bodyPost_ret (results_arr Tryd.arr32 Tryd.results9 _ _ rfl j6.rd (Hl32.out ())) rfl ⟨?_, B6.out.trans (jb6 _ (Nat.le_refl _))⟩
  rw [Hfin.out ()]
end Go.Proofs.YtcpjdmfnipdecaaDoor
