/- The reference's Sum. -/
import Derived.Test.YtcpjdmfnipdecaaDoorDigS
import Derived.Test.YtcpjdmfnipdecaaDoorDigH
import Derived.Test.YtcpjdmfnipdecaaDoorNumM
import Derived.Test.YtcpjdmfnipdecaaDoorDigX3
import Derived.Test.YtcpjdmfnipdecaaDoorDigX8
import Derived.OwnWalk
namespace Go.Proofs.YtcpjdmfnipdecaaDoor
set_option linter.all false
open Go.RowKit DigP

theorem be8_eq {n : Nat} (h : 8 * n < 4294967296) : be8 n = [0, 0, 0, 0, 8 * n / 16777216 % 256, 8 * n / 65536 % 256, 8 * n / 256 % 256, 8 * n % 256] := by
  have e : be8 n = [8 * n / 2 ^ 56 % 256, 8 * n / 2 ^ 48 % 256, 8 * n / 2 ^ 40 % 256, 8 * n / 2 ^ 32 % 256, 8 * n / 2 ^ 24 % 256, 8 * n / 2 ^ 16 % 256, 8 * n / 2 ^ 8 % 256, 8 * n / 2 ^ 0 % 256] := rfl
  have h1 : 8 * n / 2 ^ 56 % 256 = 0 := by omega
  have h2 : 8 * n / 2 ^ 48 % 256 = 0 := by omega
  have h3 : 8 * n / 2 ^ 40 % 256 = 0 := by omega
  have h4 : 8 * n / 2 ^ 32 % 256 = 0 := by omega
  have h5 : 8 * n / 2 ^ 0 = 8 * n := by omega
  rw [e, h1, h2, h3, h4, h5]
set_option maxRecDepth 100000 in
set_option maxHeartbeats 8000000 in
theorem refSum_any (s : ByteArray) (gt ct : Nat) (w : World) (hs : s.size ≤ 100000) (hct : 64 ≤ ct) (hT : Rd w gt .u32 rootsK) :
    Calls Tryd.prog 10 #[.string s, .slice (some ⟨gt, 0, none⟩) 64 ct] w (SaysArr .u8 (shaB (bytesN s)) w) := by
  obtain ⟨w0, hw0⟩ : ∃ w0, w0 = w.alloc (.cells #[.int .u8 0, .int .u8 0, .int .u8 0, .int .u8 0, .int .u8 0, .int .u8 0, .int .u8 0, .int .u8 0, .int .u8 0, .int .u8 0, .int .u8 0, .int .u8 0, .int .u8 0, .int .u8 0, .int .u8 0, .int .u8 0, .int .u8 0, .int .u8 0, .int .u8 0, .int .u8 0, .int .u8 0, .int .u8 0, .int .u8 0, .int .u8 0, .int .u8 0, .int .u8 0, .int .u8 0, .int .u8 0, .int .u8 0, .int .u8 0, .int .u8 0, .int .u8 0] 23) := ⟨_, rfl⟩
  have hz0 : w0.heap.size = w.heap.size + 1 := by rw [hw0, World.size_alloc]
  have hgt : gt < w.heap.size := hT.lt (by rw [roots_words.1]; decide)
  have HTb := Lib.hid (show Rd w0 gt .u32 rootsK by rw [hw0]; exact hT.alloc _ hgt)
  have HR0 := Lib.hid (show At w0 w.heap.size .u8 (List.replicate 32 0) by rw [hw0]; exact At.lit32 w 23)
  have HB0 := Lib.hid (show Below w.heap.size w w0 by rw [hw0]; exact (Below.refl _ _).alloc (Nat.le_refl _) _)
  have hconv0 := run_bytes_of_string (P := Tryd.prog) w0 9 35 5 s Tryd.underlying9 Tryd.underlying35 Tryd.underlying5
  have hO1 := OwnM.bytes w0 s (grownCap w0 s.size 0 5) (grownCap_ge w0 s.size 0 5) (grownCap_le_maxLen w0 s.size 0 5 (by unfold maxLen; omega)) 5
  have hB1 : Below w0.heap.size w0 (w0.drew.alloc (.cells (bytesRow s (grownCap w0 s.size 0 5)) 5 ((bytesRow s (grownCap w0 s.size 0 5)).size, (bytesRow s (grownCap w0 s.size 0 5)).size + 1))) := (Below.refl w0.heap.size w0).drew.alloc (Nat.le_refl _) _
  have hs1 : (w0.drew.alloc (.cells (bytesRow s (grownCap w0 s.size 0 5)) 5 ((bytesRow s (grownCap w0 s.size 0 5)).size, (bytesRow s (grownCap w0 s.size 0 5)).size + 1))).heap.size = w0.heap.size + 1 := by rw [World.size_alloc]; rfl
  generalize (w0.drew.alloc (.cells (bytesRow s (grownCap w0 s.size 0 5)) 5 ((bytesRow s (grownCap w0 s.size 0 5)).size, (bytesRow s (grownCap w0 s.size 0 5)).size + 1))) = w1 at hconv0 hO1 hB1 hs1
  generalize grownCap w0 s.size 0 5 = capB at hconv0 hO1
  have hconv : (convert 9 35 (.string s)).run Tryd.prog (w.alloc (.cells #[.int .u8 0, .int .u8 0, .int .u8 0, .int .u8 0, .int .u8 0, .int .u8 0, .int .u8 0, .int .u8 0, .int .u8 0, .int .u8 0, .int .u8 0, .int .u8 0, .int .u8 0, .int .u8 0, .int .u8 0, .int .u8 0, .int .u8 0, .int .u8 0, .int .u8 0, .int .u8 0, .int .u8 0, .int .u8 0, .int .u8 0, .int .u8 0, .int .u8 0, .int .u8 0, .int .u8 0, .int .u8 0, .int .u8 0, .int .u8 0, .int .u8 0, .int .u8 0] 23)) = .ok (.slice (some ⟨w0.heap.size, 0, none⟩) s.size capB) w1 := by rw [← hw0]; exact hconv0
  have HO1 := Lib.hid (show OwnM 5 .u8 w1 w0.heap.size (.slice (some ⟨w0.heap.size, 0, none⟩) s.size capB) (bytesN s) from hO1)
  have HB1 := Lib.hid (hB1.alloc (by omega) (.cells #[.int .u8 128] 5))
  have Hz1 := Lib.hid (show w0.heap.size ≤ (w1.alloc (.cells #[.int .u8 128] 5)).heap.size by rw [World.size_alloc]; omega)
  have HZ0 := Lib.hid (fun (_ : Unit) => hz0)
  obtain ⟨z, hz⟩ : ∃ z, z = 63 - (s.size + 8) % 64 := ⟨_, rfl⟩
  have HZ := Lib.hid (fun (_ : Unit) => hz)
  have hzs : z ≤ 63 := by omega
  have hbl : (bytesN s).length ≤ 1000000000 := by rw [bytesN_len]; omega
  have HBl := Lib.hid hbl
  have Hrd1 := Lib.hid ((At.new w1 .u8 [128] 5).rd)
  clear hw0 hz0 hT hconv0 hO1 hB1 hs1 hz hbl
  go_enter Tryd.func10, Tryd.ntmps10
  go_wp2_with (at_builtin; go_loud (refine wpList_append_numM Tryd.numU8 rfl _ _ rfl w0.heap.size w0 (w1.alloc (.cells #[.int .u8 128] 5)) (.slice (some ⟨w0.heap.size, 0, none⟩) s.size capB) (bytesN s) rfl (HO1.out.alloc _) [128] w1.heap.size 1 rfl Hrd1.out (Nat.le_refl _) (by decide) HBl.out (by decide) Hz1.out HB1.out ?_))
  intro v2 w2 ho2 hb2
  have HO2 := Lib.hid (show OwnM 5 .u8 w2 w0.heap.size v2 (bytesN s ++ 128 :: List.replicate 0 0) from ho2)
  have HB2 := Lib.hid hb2
  clear ho2 hb2 hconv HO1 HB1 Hz1 Hrd1
  go_wp2
  go_loopw [5] (fun v wr => ∃ k : Nat, k ≤ z ∧ Hid (OwnM 5 .u8 wr w0.heap.size v (bytesN s ++ 128 :: List.replicate k 0)) ∧ Hid (Below w0.heap.size w0 wr)) (fun v _ => match v with | .slice _ n _ => 200000 - n | _ => 0)
  case atStart => exact ⟨0, Nat.zero_le _, HO2.out, HB2.out⟩
  case round =>
    clear HO2 HB2
    obtain ⟨k, hk, HO, HB⟩ := hrel
    have hl : (bytesN s ++ 128 :: List.replicate k 0).length = s.size + 1 + k := by simp [bytesN_len]; omega
    obtain ⟨gb, cb, hv, hgb1, hgb2, hrd⟩ := HO.out.open_ (by rw [hl]; omega)
    rw [hl] at hv
    obtain ⟨m, hm⟩ : ∃ m, m = s.size + 1 + k := ⟨_, rfl⟩
    rw [← hm] at hv hl
    subst hv
    obtain ⟨r, hr⟩ : ∃ r, r = m % 64 := ⟨_, rfl⟩
    have d1 : (m : Int) % 64 = (r : Int) := by omega
    have Hm := Lib.hid (fun (_ : Unit) => hm)
    have HL := Lib.hid (fun (_ : Unit) => hl)
    have hm2 : m ≤ 100100 := by omega
    by_cases hlt : k < z
    · have hr56 : ¬ (r : Int) = 56 := by have := HZ.out (); omega
      have Hz := Lib.hid HB.out.size
      have HBx := Lib.hid (HB.out.alloc Hz.out (.cells #[.int .u8 0] 5))
      have Hzx := Lib.hid (show w0.heap.size ≤ (wr.alloc (.cells #[.int .u8 0] 5)).heap.size by rw [World.size_alloc]; have := Hz.out; omega)
      have Hrdx := Lib.hid ((At.new wr .u8 [0] 5).rd)
      have HOx := Lib.hid (HO.out.alloc (.cells #[.int .u8 0] 5))
      have Hlx := Lib.hid (show (bytesN s ++ 128 :: List.replicate k 0).length ≤ 1000000000 by rw [HL.out ()]; omega)
      have Hnx := Lib.hid (fun (_ : Unit) => show bytesN s ++ 128 :: List.replicate (k + 1) 0 = bytesN s ++ 128 :: (List.replicate k 0 ++ [0]) by
        rw [List.replicate_succ'])
      clear hm hl hr HO hrd
      go_wp2_with (at_builtin; go_loud (refine wpList_append_numM Tryd.numU8 rfl _ _ rfl w0.heap.size w0 (wr.alloc (.cells #[.int .u8 0] 5)) (.slice (some ⟨gb, 0, none⟩) m cb) (bytesN s ++ 128 :: List.replicate k 0) rfl HOx.out [0] wr.heap.size 1 rfl Hrdx.out (Nat.le_refl _) (by decide) Hlx.out (by decide) Hzx.out HBx.out ?_))
      intro v3 w3 ho3 hb3
      rw [← Hnx.out ()] at ho3
      have HO3 := Lib.hid ho3
      have HB3 := Lib.hid hb3
      have hl3 : (bytesN s ++ 128 :: List.replicate (k + 1) 0).length = m + 1 := by have h := Hm.out (); simp [bytesN_len]; omega
      obtain ⟨g3, c3, hv3, _, _, _⟩ := HO3.out.open_ (by rw [hl3]; omega)
      rw [hl3] at hv3
      subst hv3
      clear ho3 hb3 HOx HBx HB hl3
      go_wp2
      go_roundw
      case rel => exact ⟨k + 1, by omega, HO3.out, HB3.out⟩
      case measure => simp; omega
    · obtain rfl : k = z := by omega
      have hr56 : (r : Int) = 56 := by have := HZ.out (); omega
      have HS0 := Lib.hid (fun (_ : Unit) => show (8 * s.size : Nat) < 4294967296 by omega)
      obtain ⟨n8, hn8⟩ : ∃ n, n = 8 * s.size := ⟨_, rfl⟩
      obtain ⟨q3, hq3⟩ : ∃ q, q = n8 / 16777216 := ⟨_, rfl⟩
      obtain ⟨q2, hq2⟩ : ∃ q, q = n8 / 65536 := ⟨_, rfl⟩
      obtain ⟨q1, hq1⟩ : ∃ q, q = n8 / 256 := ⟨_, rfl⟩
      obtain ⟨x3, hx3⟩ : ∃ q, q = q3 % 256 := ⟨_, rfl⟩
      obtain ⟨x2, hx2⟩ : ∃ q, q = q2 % 256 := ⟨_, rfl⟩
      obtain ⟨x1, hx1⟩ : ∃ q, q = q1 % 256 := ⟨_, rfl⟩
      obtain ⟨x0, hx0⟩ : ∃ q, q = n8 % 256 := ⟨_, rfl⟩
      have e1 : (s.size : Int) * 8 = (n8 : Int) := by omega
      have e2 : (n8 : Int) / 16777216 = (q3 : Int) := by omega
      have e3 : (n8 : Int) / 65536 = (q2 : Int) := by omega
      have e4 : (n8 : Int) / 256 = (q1 : Int) := by omega
      have e5 : (q3 : Int) % 256 = (x3 : Int) := by omega
      have e6 : (q2 : Int) % 256 = (x2 : Int) := by omega
      have e7 : (q1 : Int) % 256 = (x1 : Int) := by omega
      have e8 : (n8 : Int) % 256 = (x0 : Int) := by omega
      have e9 : (x3 : Int) % 256 = (x3 : Int) := by omega
      have e10 : (x2 : Int) % 256 = (x2 : Int) := by omega
      have e11 : (x1 : Int) % 256 = (x1 : Int) := by omega
      have e12 : (x0 : Int) % 256 = (x0 : Int) := by omega
      have e13 := i64_small (z := (n8 : Int)) (by omega) (by omega)
      have Hpad := Lib.hid (fun (_ : Unit) => show bytesN s ++ 128 :: (List.replicate k 0 ++ [0, 0, 0, 0, x3, x2, x1, x0]) = bytesN s ++ padS (bytesN s).length by
        rw [bytesN_len]
        unfold padS
        rw [be8_eq (HS0.out ()), hx3, hx2, hx1, hx0, hq3, hq2, hq1, hn8, HZ.out ()])
      have Hz := Lib.hid HB.out.size
      have HBx := Lib.hid (HB.out.alloc Hz.out (.cells #[.int .u8 0, .int .u8 0, .int .u8 0, .int .u8 0, .int .u8 (x3 : Int), .int .u8 (x2 : Int), .int .u8 (x1 : Int), .int .u8 (x0 : Int)] 5))
      have Hzx := Lib.hid (show w0.heap.size ≤ (wr.alloc (.cells #[.int .u8 0, .int .u8 0, .int .u8 0, .int .u8 0, .int .u8 (x3 : Int), .int .u8 (x2 : Int), .int .u8 (x1 : Int), .int .u8 (x0 : Int)] 5)).heap.size by rw [World.size_alloc]; have := Hz.out; omega)
      have Hrdx := Lib.hid ((At.new wr .u8 [0, 0, 0, 0, x3, x2, x1, x0] 5).rd)
      have HOx := Lib.hid (HO.out.alloc (.cells #[.int .u8 0, .int .u8 0, .int .u8 0, .int .u8 0, .int .u8 (x3 : Int), .int .u8 (x2 : Int), .int .u8 (x1 : Int), .int .u8 (x0 : Int)] 5))
      have Hlx := Lib.hid (show (bytesN s ++ 128 :: List.replicate k 0).length ≤ 1000000000 by rw [HL.out ()]; omega)
      clear hm hl hr HO hrd hn8 hq3 hq2 hq1 hx3 hx2 hx1 hx0 HS0
      go_wp2_with (at_builtin; go_loud (refine wpList_append_numM Tryd.numU8 rfl _ _ rfl w0.heap.size w0 (wr.alloc (.cells #[.int .u8 0, .int .u8 0, .int .u8 0, .int .u8 0, .int .u8 (x3 : Int), .int .u8 (x2 : Int), .int .u8 (x1 : Int), .int .u8 (x0 : Int)] 5)) (.slice (some ⟨gb, 0, none⟩) m cb) (bytesN s ++ 128 :: List.replicate k 0) rfl HOx.out [0, 0, 0, 0, x3, x2, x1, x0] wr.heap.size 8 rfl Hrdx.out (Nat.le_refl _) (Nat.le_of_ble_eq_true rfl) Hlx.out (Nat.le_of_ble_eq_true rfl) Hzx.out HBx.out ?_))
      intro v3 w3 ho3 hb3
      obtain ⟨PB, hPB⟩ : ∃ PB, PB = bytesN s ++ padS (bytesN s).length := ⟨_, rfl⟩
      have HPB := Lib.hid (fun (_ : Unit) => hPB)
      have ho4 : OwnM 5 .u8 w3 w0.heap.size v3 PB := by rw [hPB, ← Hpad.out ()]; exact ho3
      obtain ⟨Q, hQ⟩ : ∃ Q, Q = (s.size + (72 - (s.size + 8) % 64)) / 64 := ⟨_, rfl⟩
      have hPl : PB.length = 64 * Q := by rw [hPB, List.length_append, padS_len, bytesN_len, hQ]; omega
      have hPs : Small PB := by rw [hPB]; exact (bytesN_small s).append (small_pad _)
      have hQ1 : Q ≤ 2000 := by omega
      have hQ0 : 0 < Q := by omega
      have HPl := Lib.hid (fun (_ : Unit) => hPl)
      have HPs := Lib.hid (fun (_ : Unit) => hPs)
      have HPp := Lib.hid (fun (_ : Unit) => show blocksS init8 PB Q = shaP (bytesN s) by
        unfold shaP
        rw [hPB, padS_len, bytesN_len, hQ])
      obtain ⟨g5, c5, hv5, g5a, g5b, rd5⟩ := ho4.open_ (by rw [hPl]; omega)
      obtain ⟨nb, hnb⟩ : ∃ nb, nb = 64 * Q := ⟨_, rfl⟩
      rw [hPl, ← hnb] at hv5
      have Hnb := Lib.hid (fun (_ : Unit) => hnb)
      have hnb9 : nb ≤ 128000 := by omega
      subst hv5
      have gtb := HZ0.out ()
      have HP3 := Lib.hid rd5
      have HT3 := Lib.hid (HTb.out.below hb3 (by omega))
      have HR3 := Lib.hid (HR0.out.below hb3 (by omega))
      have HB3 := Lib.hid (HB0.out.trans (hb3.mono (by omega)))
      have G5 := Lib.hid (show w.heap.size < g5 ∧ g5 < w3.heap.size by omega)
      have Hgt := Lib.hid hgt
      clear ho3 hb3 ho4 hPB hQ hPl hPs hnb g5a g5b rd5 gtb HTb HR0 HB0 HZ0 HBl Hm HL HB Hz HBx Hzx Hrdx HOx Hlx Hpad HZ e1 e2 e3 e4 e5 e6 e7 e8 e9 e10 e11 e12 e13 hgt d1 hr56 hlt hzs hm2
      go_wp2_with fail
      refine (p8_any _).mono ?_
      rintro _ w4 ⟨v8, rfl, ho8, hb8⟩
      obtain ⟨P, hP⟩ : ∃ P, P = P8 := ⟨_, rfl⟩
      obtain ⟨K, hK⟩ : ∃ K, K = init8 := ⟨_, rfl⟩
      rw [← hP] at ho8
      have HPl8 := Lib.hid (fun (_ : Unit) => show P.length = 8 by rw [hP]; rfl)
      have HKl8 := Lib.hid (fun (_ : Unit) => show K.length = 8 by rw [hK]; rfl)
      have HKw := Lib.hid (fun (_ : Unit) => show Words 8 K by rw [hK]; exact init_words)
      have Hlt8 := Lib.hid (fun i (hi : i < 8) => show P.getD i 0 < 65536 by rw [hP]; exact p8_lt i hi)
      have Hroot := Lib.hid (fun i (hi : i < 8) => show K.getD i 0 = rootP (P.getD i 0) 2 by rw [hK, hP, ← roots2, map_getD _ _ (show i < P8.length from hi)])
      rw [← hK] at HPp
      obtain ⟨gp, cp, rfl, _, gp2, _, _, hA8⟩ := ho8.open_ (by rw [HPl8.out ()]; decide)
      rw [HPl8.out ()]
      have HRp := Lib.hid hA8.rd
      have G4 := Lib.hid hb8.size
      have HP4 := Lib.hid (HP3.out.below hb8 G5.out.2)
      have HT4 := Lib.hid (HT3.out.below hb8 (by have := Hgt.out; have := G5.out; omega))
      have HR4 := Lib.hid (HR3.out.below hb8 (by have := G5.out; omega))
      have HB4 := Lib.hid (HB3.out.trans (hb8.mono (by have := G5.out; omega)))
      clear hP hK ho8 hA8 hb8 HP3 HT3 HR3 HB3
      go_wp2
      go_loopw [7, 9] (fun v i wr => ∃ k : Nat, k ≤ 8 ∧ i = .int .i64 (k : Int) ∧ Hid (OwnN 37 .u32 wr w4.heap.size v (K.take k)) ∧ Hid (Below w4.heap.size w4 wr)) (fun _ i _ => 8 - (intOf i).toNat)
      case atStart => exact ⟨0, Nat.zero_le _, rfl, OwnN.nil _ _ _ _, Below.refl _ _⟩
      case round =>
        obtain ⟨k, hk, rfl, HO, HB⟩ := hrel
        by_cases hlt : k < 8
        · obtain ⟨x, hx⟩ : ∃ x, x = P.getD k 0 := ⟨_, rfl⟩
          obtain ⟨y, hy⟩ : ∃ y, y = rootP x 2 := ⟨_, rfl⟩
          have c1 : wr.cell? ⟨gp, k, none⟩ = some (.int .i64 (x : Int)) := by rw [hx]; exact HRp.out.below HB.out gp2 k (by rw [HPl8.out ()]; exact hlt)
          have HX := Lib.hid (fun w => root_any x 2 2 w (by rw [hx]; exact Hlt8.out k hlt) (.inl ⟨rfl, rfl⟩))
          rw [← hy] at HX
          have Ht := Lib.hid (fun (_ : Unit) => show K.take (k + 1) = K.take k ++ [y] by rw [take_succ_getD _ _ (by rw [HKl8.out ()]; exact hlt), Hroot.out k hlt, ← hx, hy])
          have Hll := Lib.hid (fun (_ : Unit) => show (K.take k).length ≤ 1000000000 by rw [List.length_take]; omega)
          clear hx hy
          go_wp2_with fail
          refine (HX.out _).mono ?_
          rintro _ w6 ⟨rfl, b2⟩
          have HO2 := Lib.hid (HO.out.below b2)
          have HB2 := Lib.hid (HB.out.trans (b2.mono HB.out.size))
          have Hsz := Lib.hid HB2.out.size
          clear b2 HO HB
          go_wp2_with (at_builtin; refine wpList_append_one Tryd.numU32 rfl _ _ rfl w4.heap.size w4 w6 u7 (K.take k) y _ rfl HO2.out rfl rfl (Hll.out ()) Hsz.out HB2.out ?_)
          intro v' w7 hown hb7 _
          have HO3 := Lib.hid hown
          have HB7 := Lib.hid hb7
          clear hown hb7 HO2 HB2
          go_wp2
          go_roundw
          case rel => exact ⟨k + 1, by omega, by go_num, by rw [Ht.out ()]; exact HO3.out, HB7.out⟩
          case measure => simp [intOf]; omega
        · obtain rfl : k = 8 := by omega
          rw [show ((8 : Nat) : Int) = 8 from rfl]
          have ho := HO.out
          rw [List.take_of_length_le (by rw [HKl8.out ()]; exact Nat.le_refl _)] at ho
          obtain ⟨gv, cv, rfl, gv1, gv2, gv3, gv4, hAv⟩ := ho.open_ (by rw [HKl8.out ()]; decide)
          rw [HKl8.out ()] at gv3 ⊢
          have HV5 := Lib.hid hAv
          have HP5 := Lib.hid (HP4.out.below HB.out (Nat.lt_of_lt_of_le G5.out.2 G4.out))
          have HT5 := Lib.hid (HT4.out.below HB.out (by have := Hgt.out; have := G5.out; have := G4.out; omega))
          have HR5 := Lib.hid (HR4.out.below HB.out (by have := G5.out; have := G4.out; omega))
          have HB5 := Lib.hid (HB4.out.trans (HB.out.mono (by have := G5.out; have := G4.out; omega)))
          have GV := Lib.hid (show gt < w.heap.size ∧ w.heap.size < g5 ∧ g5 < gv ∧ gv < wr.heap.size by have := Hgt.out; have := G5.out; have := G4.out; omega)
          clear ho hAv HO HB HP4 HT4 HR4 HB4 G5 G4 gv1 gv2 HRp Hroot Hlt8 HPl8 gp2 Hgt hk hlt
          have HPll := Lib.hid (fun (_ : Unit) => show PB.length = nb by rw [HPl.out (), Hnb.out ()])
          have HGV := Lib.hid (fun (_ : Unit) => show gt < gv ∧ g5 < gv ∧ gv < wr.heap.size by have := GV.out; omega)
          have HKq := Lib.hid (fun (_ : Unit) => show Words 8 (blocksS K PB Q) from Words.blocks (HKw.out ()) PB Q)
          go_wp2
          refine Code.wp_mono noPanic_mono (sumLoop3 _ _ _ _ _ _ _ _ _ _ _ _ _ _ _ _ _ _ _ _ _ _ _ _ _ _ _ _ _ _ _ _ _ _ _ _ _ _ _ _ _ _ _ _ _ _ _ _ _ _ _ _ _ _ _ _ _ _ _ _ _ _ _ _ _ _ _ _ _ _ _ _ _ _ _ _ _ _ _ _ _ _ _ _ _ _ _ _ _ _ _ _ _ _ _ _ _ _ _ _ _ _ _ _ _ _ _ _ _ _ _ _ _ _ _ _ _ _ _ _ _ _ _ _ _ _ _ _ _ _ _ _ _ _ _ _ _ _ _ _ _ _ _ _ _ _ _ _ _ _ _ _ _ _ _ _ _ _ _ _ _ _ _ _ _ _ _ _ _ _ _ _ _ _ _ _ _ _ _ _ _ _ _ _ _ _ _ _ _ _ _ _ _ _ _ _ _ _ _ _ _ _ _ _ _ _ _ _ _ _ _ _ _ _ _ _ _ _ _ _ _ _ _ _ _ _ _ _ _ _ _ _ _ _ _ _ _ _ _ _ _ _ _ _ _ _ _ _ _ _ _ _ _ _ _ _ _ _ _ _ _ _ _ _ _ _ _ _ _ _ _ _ _ _ _ _ _ _ _ _ _ _ _ _ _ _ _ _ _ _ _ _ _ _ _ _ _ _ _ _ _ _ _ _ _ _ _ _ _ _ _ _ _ _ _ _ _ _ _ _ _ _ _ _ _ _ _ _ gt g5 gv ct c5 cv nb Q K PB wr _ HKw HPll Hnb HPs HP5 HT5 HV5 HGV hnb9 hct gv3 gv4 ?_)
          intro f11 f12 f13 f14 f15 f16 f17 f18 f19 f20 f21 f22 f23 f24 f25 f73 f74 f75 f76 f77 f78 f79 f80 f81 f82 f83 f84 f85 f86 f87 f88 f89 f90 f91 f92 f93 f94 f95 f96 f97 f98 f99 f100 f101 f102 f103 f104 f105 f106 f107 f108 f109 f110 f111 f112 f113 f114 f115 f116 f117 f118 f119 f120 f121 f122 f123 f124 f125 f126 f127 f128 f129 f130 f131 f132 f133 f134 f135 f136 f137 f138 f139 f140 f141 f142 f143 f144 f145 f146 f147 f148 f149 f150 f151 f152 f153 f154 f155 f156 f157 f158 f159 f160 f161 f162 f163 f164 f165 f166 f167 f168 f169 f170 f171 f172 f173 f174 f175 f176 f177 f178 f179 f180 f181 f182 f183 f184 f185 f186 f187 f188 f189 f190 f191 f192 f193 f194 f195 f196 f197 f198 f199 f200 f201 f202 f203 f204 f205 f206 f207 f208 f209 f210 f211 f212 f213 f214 f215 f216 f217 f218 f219 f220 f221 f222 f223 f224 f225 f226 f227 f228 f229 f230 f231 f232 f233 f234 f235 f236 f237 f238 f239 f240 f241 f242 f243 f244 f245 f246 f247 f248 f249 f250 f251 f252 f253 f254 f255 f256 f257 f258 f259 f260 f261 f262 f263 f264 f265 f266 f267 f268 f269 f270 f271 f272 f273 f274 f275 f276 f277 f278 f279 f280 f281 f282 f283 f284 f285 w6 HV6 HB6
          have HR6 := Lib.hid (HR5.out.below HB6.out (by have := GV.out; omega))
          have HB6w := Lib.hid (HB5.out.trans (HB6.out.mono (by have := GV.out; omega)))
          have Hg6 := Lib.hid (fun (_ : Unit) => show w.heap.size < gv ∧ gv < w6.heap.size by have := GV.out; have := HB6.out.size; omega)
          obtain ⟨S, hS⟩ : ∃ S, S = blocksS K PB Q := ⟨_, rfl⟩
          have HSp := Lib.hid (fun (_ : Unit) => show bytesS S = shaB (bytesN s) by rw [hS, HPp.out ()]; rfl)
          rw [← hS] at HV6 HKq
          have HAo := Lib.hid (At.lit32 w6 23)
          obtain ⟨w7, hw7⟩ : ∃ w7, w7 = w6.alloc (.cells #[.int .u8 0, .int .u8 0, .int .u8 0, .int .u8 0, .int .u8 0, .int .u8 0, .int .u8 0, .int .u8 0, .int .u8 0, .int .u8 0, .int .u8 0, .int .u8 0, .int .u8 0, .int .u8 0, .int .u8 0, .int .u8 0, .int .u8 0, .int .u8 0, .int .u8 0, .int .u8 0, .int .u8 0, .int .u8 0, .int .u8 0, .int .u8 0, .int .u8 0, .int .u8 0, .int .u8 0, .int .u8 0, .int .u8 0, .int .u8 0, .int .u8 0, .int .u8 0] 23) := ⟨_, rfl⟩
          have HW7 := Lib.hid (fun (_ : Unit) => hw7)
          have HRv7 := Lib.hid (show Rd w7 gv .u32 S by rw [hw7]; exact HV6.out.rd.alloc _ (Hg6.out ()).2)
          have HR7 := Lib.hid (show At w7 w.heap.size .u8 (List.replicate 32 0) by rw [hw7]; exact HR6.out.alloc _ (by have := Hg6.out (); omega))
          have HB7 := Lib.hid (show Below w.heap.size w w7 by rw [hw7]; exact HB6w.out.alloc HB6w.out.size _)
          have HA7 := Lib.hid (show At w7 w6.heap.size .u8 (List.replicate 32 0) by rw [hw7]; exact HAo.out)
          have Hne := Lib.hid (fun (_ : Unit) => show gv ≠ w6.heap.size by have := Hg6.out (); omega)
          clear hS hw7 HV6 HB6 HR6 HB6w HAo HV5 HP5 HT5 HR5 HB5 HPp HPs HPl HKw Hnb HPll HGV GV
          go_wp2
          rw [← HW7.out ()]
          refine Code.wp_mono noPanic_mono (sumLoop8 _ _ _ _ _ _ _ _ _ _ _ _ _ _ _ _ _ _ _ _ _ _ _ _ _ _ _ _ _ _ _ _ _ _ _ _ _ _ _ _ _ _ _ _ _ _ _ _ _ _ _ _ _ _ _ _ _ _ _ _ _ _ _ _ _ _ _ _ _ _ _ _ _ _ _ _ _ _ _ _ _ _ _ _ _ _ _ _ _ _ _ _ _ _ _ _ _ _ _ _ _ _ _ _ _ _ _ _ _ _ _ _ _ _ _ _ _ _ _ _ _ _ _ _ _ _ _ _ _ _ _ _ _ _ _ _ _ _ _ _ _ _ _ _ _ _ _ _ _ _ _ _ _ _ _ _ _ _ _ _ _ _ _ _ _ _ _ _ _ _ _ _ _ _ _ _ _ _ _ _ _ _ _ _ _ _ _ _ _ _ _ _ _ _ _ _ _ _ _ _ _ _ _ _ _ _ _ _ _ _ _ _ _ _ _ _ _ _ _ _ _ _ _ _ _ _ _ _ _ _ _ _ _ _ _ _ _ _ _ _ _ _ _ _ _ _ _ _ _ _ _ _ _ _ _ _ _ _ _ _ _ _ _ _ _ _ _ _ _ _ _ _ _ _ _ _ _ _ _ _ _ _ _ _ _ _ _ _ _ _ _ _ _ _ _ _ _ _ _ _ _ _ _ _ _ _ _ _ _ _ _ _ _ _ _ _ _ _ _ _ _ _ _ _ _ _ _ _ _ gv w6.heap.size cv S w7 _ HKq HRv7 HA7 gv3 Hne ?_)
          intro h286 h287 h288 h289 h290 h291 h292 h293 h294 h295 h296 h297 h298 h299 h300 h301 h302 h303 h304 h305 h306 h307 h308 h309 h310 h311 h312 h313 h314 h315 h316 h317 h318 h319 h320 h321 h322 h323 h324 h325 h326 h327 h328 h329 h330 w8 HA8 HB8
          have HR8 := Lib.hid (HR7.out.below HB8.out (by have := Hg6.out (); omega))
          have HB8w := Lib.hid (HB7.out.trans (HB8.out.mono (by have := Hg6.out (); omega)))
          have Hl32 := Lib.hid (fun (_ : Unit) => bytesS_len S)
          clear HR7 HB7 HRv7 HA7 HB8 HKq HW7
          go_wp2_with (first | (refine wpList_load_arr Tryd.arr32 rfl _ rfl rfl HA8.out.rd (Hl32.out ()) ?_) | (refine wpList_store_arr Tryd.arr32 rfl _ _ rfl rfl rfl HR8.out rfl (Hl32.out ()) ?_; intro w9 j9 jb9 _))
          refine bodyPost_ret (results_arr Tryd.arr32 Tryd.results10 _ _ rfl j9.rd (Hl32.out ())) rfl ⟨?_, HB8w.out.trans (jb9 _ (Nat.le_refl _))⟩
          rw [HSp.out ()]
end Go.Proofs.YtcpjdmfnipdecaaDoor
