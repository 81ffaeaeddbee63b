/- The reference of layer 8: primes, Table. -/
import Derived.Test.YtcpjdmfnipdecaaDoorDigR
namespace Go.Proofs.YtcpjdmfnipdecaaDoor
set_option linter.all false
open Go.RowKit DigP

def SaysOwn (E : TypeId) (k : IntKind) (l : List Nat) (w : World) (e : Ending) (w' : World) : Prop := ∃ v, e = .returned v ∧ OwnN E k w' w.heap.size v l ∧ Below w.heap.size w w'
theorem OwnN.sliced {E : TypeId} {k : IntKind} {w : World} {B : Nat} {v : Value} {l : List Nat} (h : OwnN E k w B v l) : ∃ p cap, v = .slice p l.length cap := by
  rcases h.shape with ⟨rfl, rfl⟩ | ⟨g, cap, rfl, _⟩
  · exact ⟨none, 0, rfl⟩
  · exact ⟨_, cap, rfl⟩
set_option maxRecDepth 100000 in
set_option maxHeartbeats 4000000 in
theorem primes_any (many N : Nat) (z : Int) (hz : z = (many : Int)) (w : World) (hN : N ≤ 1000) (h2 : 2 ≤ N) (hm : many ≤ 1000) (hlow : ∀ n, 2 ≤ n → n < N → (primesTo n).length < many) (hat : (primesTo N).length = many) :
    Calls Tryd.prog 21 #[.int .i64 z] w (SaysOwn 3 .i64 (primesTo N) w) := by
  subst hz
  have Hlow := Lib.hid hlow
  have Hat := Lib.hid (fun (_ : Unit) => hat)
  clear hlow hat
  go_enter Tryd.func21, Tryd.ntmps21
  go_wp2
  go_loopw [3, 4] (fun v i wr => ∃ n : Nat, 2 ≤ n ∧ n ≤ N ∧ i = .int .i64 (n : Int) ∧ Hid (OwnN 3 .i64 wr w.heap.size v (primesTo n)) ∧ Hid (Below w.heap.size w wr)) (fun _ i _ => N - (intOf i).toNat)
  case atStart => exact ⟨2, Nat.le_refl _, h2, rfl, OwnN.nil _ _ _ _, Below.refl _ _⟩
  case round =>
    obtain ⟨n, hn2, hnN, rfl, HO, HB⟩ := hrel
    obtain ⟨pv, cap, hv⟩ := HO.out.sliced
    obtain ⟨L, hL⟩ : ∃ L, L = (primesTo n).length := ⟨_, rfl⟩
    rw [← hL] at hv
    subst hv
    have HLn := Lib.hid (fun (_ : Unit) => hL)
    clear hL
    by_cases hlt : n < N
    · have hLm : L < many := by rw [HLn.out ()]; exact Hlow.out n hn2 hlt
      have Hst := Lib.hid (fun (_ : Unit) => primes_step hn2)
      have hLl : L ≤ 1000000000 := by omega
      have Hll := Lib.hid (fun (_ : Unit) => show (primesTo n).length ≤ 1000000000 by rw [← HLn.out ()]; exact hLl)
      have Hsz := Lib.hid HB.out.size
      go_wp2
      go_loop [5, 6] (fun b d => ∃ (m : Nat) (pr : Bool), 2 ≤ m ∧ m ≤ n ∧ d = .int .i64 (m : Int) ∧ b = .bool pr ∧ Hid (∀ _ : Unit, pr = noDiv n m)) (fun _ d => n - (intOf d).toNat)
      case atStart => exact ⟨2, true, Nat.le_refl _, hn2, rfl, rfl, fun _ => rfl⟩
      case round =>
        obtain ⟨m, pr, hm2, hmn, rfl, rfl, Hpr⟩ := hrel
        by_cases hlt2 : m < n
        · obtain ⟨r, hr⟩ : ∃ r, r = n % m := ⟨_, rfl⟩
          have d1 : (n : Int) % (m : Int) = (r : Int) := by rw [hr]; exact (Int.natCast_emod n m).symm
          have d2 : (n : Int).tmod (m : Int) = (r : Int) := by rw [Int.tmod_eq_emod_of_nonneg (by omega)]; exact d1
          have hm0 : ¬ (m : Int) = 0 := by omega
          have Hnext := Lib.hid (fun (_ : Unit) => show noDiv n (m + 1) = (pr && (r != 0)) by rw [noDiv_step hm2, ← Hpr.out (), hr])
          clear hr
          by_cases hr0 : r = 0
          · subst hr0
            go_wp2
            go_round
            case rel => exact ⟨m + 1, false, by omega, by omega, by go_num, rfl, fun _ => by rw [Hnext.out ()]; simp⟩
            case measure => simp [intOf]; omega
          · have hr1 : ¬ (r : Int) = 0 := by omega
            have Hr := Lib.hid (fun (_ : Unit) => hr0)
            go_wp2
            go_round
            case rel => exact ⟨m + 1, pr, by omega, by omega, by go_num, rfl, fun _ => by rw [Hnext.out ()]; simp [Hr.out ()]⟩
            case measure => simp [intOf]; omega
        · obtain rfl : m = n := by omega
          cases pr
          · have Hs2 := Lib.hid (fun (_ : Unit) => show primesTo (m + 1) = primesTo m by rw [Hst.out (), ← Hpr.out ()]; simp)
            go_wp2
            go_roundw
            case rel => exact ⟨m + 1, by omega, by omega, by go_num, by rw [Hs2.out ()]; exact HO.out, HB.out⟩
            case measure => simp [intOf]; omega
          · have Hs2 := Lib.hid (fun (_ : Unit) => show primesTo (m + 1) = primesTo m ++ [m] by rw [Hst.out (), ← Hpr.out ()]; simp)
            go_wp2_with (at_builtin; refine wpList_append_one Tryd.numInt rfl _ _ rfl w.heap.size w wr (.slice pv L cap) (primesTo m) m _ rfl HO.out rfl rfl (Hll.out ()) Hsz.out HB.out ?_)
            intro v' w2 hown hb2 _
            have HO2 := Lib.hid hown
            have HB2 := Lib.hid hb2
            clear hown hb2 HO HB
            go_wp2
            go_roundw
            case rel => exact ⟨m + 1, by omega, by omega, by go_num, by rw [Hs2.out ()]; exact HO2.out, HB2.out⟩
            case measure => simp [intOf]; omega
    · obtain rfl : n = N := by omega
      have hLm : L = many := by rw [HLn.out (), Hat.out ()]
      subst hLm
      go_wp2
      go_ret
      exact ⟨_, rfl, HO.out, HB.out⟩
theorem low64 : ∀ n, 2 ≤ n → n < 312 → (primesTo n).length < 64 := fun n h1 h2 => by
  have := primes_mono h1 (311 - n)
  rw [show n + (311 - n) = 311 by omega, primes63] at this
  omega
theorem low8 : ∀ n, 2 ≤ n → n < 20 → (primesTo n).length < 8 := fun n h1 h2 => by
  have := primes_mono h1 (19 - n)
  rw [show n + (19 - n) = 19 by omega, primes7] at this
  omega
theorem p64_any (w : World) : Calls Tryd.prog 21 #[.int .i64 64] w (SaysOwn 3 .i64 P64 w) := by
  rw [← primes64]; exact primes_any 64 312 64 rfl w (by decide) (by decide) (by decide) low64 (by rw [primes64]; rfl)
theorem p8_any (w : World) : Calls Tryd.prog 21 #[.int .i64 8] w (SaysOwn 3 .i64 P8 w) := by
  rw [← primes8]; exact primes_any 8 20 8 rfl w (by decide) (by decide) (by decide) low8 (by rw [primes8]; rfl)
theorem p64_lt : ∀ i, i < 64 → P64.getD i 0 < 65536 := by decide
theorem p8_lt : ∀ i, i < 8 → P8.getD i 0 < 65536 := by decide
theorem map_getD (f : Nat → Nat) (l : List Nat) {i : Nat} (h : i < l.length) : (l.map f).getD i 0 = f (l.getD i 0) := by
  simp [List.getD_eq_getElem?_getD, List.getElem?_eq_getElem h]
set_option maxRecDepth 100000 in
set_option maxHeartbeats 4000000 in
theorem table_any (w : World) : Calls Tryd.prog 11 #[] w (SaysOwn 37 .u32 rootsK w) := by
  obtain ⟨P, hP⟩ : ∃ P, P = P64 := ⟨_, rfl⟩
  obtain ⟨K, hK⟩ : ∃ K, K = rootsK := ⟨_, rfl⟩
  have HPr := Lib.hid (fun w => p64_any w)
  rw [← hP] at HPr
  have HPl := Lib.hid (fun (_ : Unit) => show P.length = 64 by rw [hP]; rfl)
  have HKl := Lib.hid (fun (_ : Unit) => show K.length = 64 by rw [hK]; rfl)
  have Hlt := Lib.hid (fun i (hi : i < 64) => show P.getD i 0 < 65536 by rw [hP]; exact p64_lt i hi)
  have Hroot := Lib.hid (fun i (hi : i < 64) => show K.getD i 0 = rootP (P.getD i 0) 3 by rw [hK, hP, ← roots3, map_getD _ _ (show i < P64.length from hi)])
  rw [← hK]
  clear hP hK
  go_enter Tryd.func11, Tryd.ntmps11
  go_wp2_with fail
  refine (HPr.out _).mono ?_
  rintro _ w1 ⟨v, rfl, ho, hb1⟩
  obtain ⟨g, cap, rfl, hg1, hg2, _, _, hA⟩ := ho.open_ (by rw [HPl.out ()]; decide)
  have HR := Lib.hid hA.rd
  have HB1 := Lib.hid hb1
  rw [HPl.out ()]
  clear ho hA hb1
  go_wp2
  go_loopw [1, 3] (fun v i wr => ∃ k : Nat, k ≤ 64 ∧ i = .int .i64 (k : Int) ∧ Hid (OwnN 37 .u32 wr w1.heap.size v (K.take k)) ∧ Hid (Below w1.heap.size w1 wr)) (fun _ i _ => 64 - (intOf i).toNat)
  case atStart => exact ⟨0, Nat.zero_le _, rfl, OwnN.nil _ _ _ _, Below.refl _ _⟩
  case round =>
    obtain ⟨k, hk, rfl, HO, HB⟩ := hrel
    by_cases hlt : k < 64
    · obtain ⟨x, hx⟩ : ∃ x, x = P.getD k 0 := ⟨_, rfl⟩
      obtain ⟨y, hy⟩ : ∃ y, y = rootP x 3 := ⟨_, rfl⟩
      have c1 : wr.cell? ⟨g, k, none⟩ = some (.int .i64 (x : Int)) := by rw [hx]; exact HR.out.below HB.out hg2 k (by rw [HPl.out ()]; exact hlt)
      have HX := Lib.hid (fun w => root_any x 3 3 w (by rw [hx]; exact Hlt.out k hlt) (.inr ⟨rfl, rfl⟩))
      rw [← hy] at HX
      have Ht := Lib.hid (fun (_ : Unit) => show K.take (k + 1) = K.take k ++ [y] by rw [take_succ_getD _ _ (by rw [HKl.out ()]; exact hlt), Hroot.out k hlt, ← hx, hy])
      have Hll := Lib.hid (fun (_ : Unit) => show (K.take k).length ≤ 1000000000 by rw [List.length_take]; omega)
      have Hbase := Lib.hid HB.out.size
      clear hx hy
      go_wp2_with fail
      refine (HX.out _).mono ?_
      rintro _ w2 ⟨rfl, b2⟩
      have HO2 := Lib.hid (HO.out.below b2)
      have HB2 := Lib.hid (HB.out.trans (b2.mono HB.out.size))
      have Hsz := Lib.hid HB2.out.size
      clear b2 HO HB
      go_wp2_with (at_builtin; refine wpList_append_one Tryd.numU32 rfl _ _ rfl w1.heap.size w1 w2 u1 (K.take k) y _ rfl HO2.out rfl rfl (Hll.out ()) Hsz.out HB2.out ?_)
      intro v' w3 hown hb3 _
      have HO3 := Lib.hid hown
      have HB3 := Lib.hid hb3
      clear hown hb3 HO2 HB2
      go_wp2
      go_roundw
      case rel => exact ⟨k + 1, by omega, by go_num, by rw [Ht.out ()]; exact HO3.out, HB3.out⟩
      case measure => simp [intOf]; omega
    · obtain rfl : k = 64 := by omega
      have Hf := Lib.hid (fun (_ : Unit) => show K.take 64 = K from List.take_of_length_le (by rw [HKl.out ()]; exact Nat.le_refl _))
      have HO2 : Hid (OwnN 37 .u32 wr w1.heap.size u1 K) := by rw [← Hf.out ()]; exact HO
      have Hsz1 := Lib.hid HB1.out.size
      go_wp2
      go_ret
      exact ⟨_, rfl, HO2.out.base_le Hsz1.out, HB1.out.trans (HB.out.mono Hsz1.out)⟩
end Go.Proofs.YtcpjdmfnipdecaaDoor
