/- Package digest: Parse. -/
import Derived.Test.YtcpjdmfnipdecaaDoorDigJ
import Derived.Test.YtcpjdmfnipdecaaDoorOctE
import Derived.Laws.ResultCell
namespace Go.Proofs.YtcpjdmfnipdecaaDoor
set_option linter.all false
open Go.RowKit DigP

def dv (c : Nat) : Nat := if c < 58 then c - 48 else c - 87
/-- The 32 numbers of the first k digits. -/
def pacc (l : List Nat) (k : Nat) : List Nat := (List.range 32).map fun j => if 2 * j + 2 ≤ k then dv (l.getD (2 * j) 0) * 16 + dv (l.getD (2 * j + 1) 0) else if 2 * j + 1 ≤ k then dv (l.getD (2 * j) 0) else 0
theorem pacc_len (l : List Nat) (k : Nat) : (pacc l k).length = 32 := by simp [pacc]
theorem pacc_get (l : List Nat) (k : Nat) {j : Nat} (h : j < 32) : (pacc l k).getD j 0 = if 2 * j + 2 ≤ k then dv (l.getD (2 * j) 0) * 16 + dv (l.getD (2 * j + 1) 0) else if 2 * j + 1 ≤ k then dv (l.getD (2 * j) 0) else 0 := by
  simp [pacc, h]
theorem pacc_zero (l : List Nat) : pacc l 0 = List.replicate 32 0 := by
  apply List.ext_getElem (by simp [pacc])
  intro i h1 h2
  simp [pacc, -List.reduceReplicate]
theorem pacc_step {l : List Nat} {k nw : Nat} (hk : k < 64) (h : nw = if k % 2 = 0 then dv (l.getD k 0) else dv (l.getD (k - 1) 0) * 16 + dv (l.getD k 0)) : (pacc l k).set (k / 2) nw = pacc l (k + 1) := by
  apply List.ext_getElem (by simp [pacc])
  intro j h1 h2
  rw [List.getElem_set]
  have hj : j < 32 := by simpa [pacc] using h2
  split
  · subst j
    simp only [pacc, List.getElem_map, List.getElem_range]
    rw [h]
    by_cases hp : k % 2 = 0
    · rw [if_pos hp, if_neg (by omega), if_pos (by omega), show 2 * (k / 2) = k by omega]
    · rw [if_neg hp, if_pos (by omega), show 2 * (k / 2) = k - 1 by omega, show k - 1 + 1 = k by omega]
  · simp only [pacc, List.getElem_map, List.getElem_range]
    have e1 : (2 * j + 2 ≤ k + 1) = (2 * j + 2 ≤ k) := propext (by omega)
    have e2 : (2 * j + 1 ≤ k + 1) = (2 * j + 1 ≤ k) := propext (by omega)
    simp only [e1, e2]
theorem dv_lt : ∀ n : Fin 256, okD n.val = true → dv n.val < 16 := by decide +kernel
theorem hex_ok : ∀ n : Fin 256, ¬ (65 ≤ n.val ∧ n.val ≤ 90) → hexV (n.val : Int) = if okD n.val then some ((dv n.val : Nat) : Int) else none := by decide +kernel
theorem ok_up : ∀ n : Fin 256, 65 ≤ n.val ∧ n.val ≤ 90 → okD n.val = false := by decide +kernel
theorem lowS_same {s : ByteArray} (h : lowS s = s) {k : Nat} (hk : k < s.size) : ¬ (65 ≤ s[k].toNat ∧ s[k].toNat ≤ 90) := by
  intro hu
  have h2 : k < s.data.size := hk
  have h1 : (s.data.toList.map lowU)[k]'(by simpa using h2) = s.data.toList[k]'(by simpa using h2) := by
    have := congrArg (fun x : ByteArray => x.data.toList) h
    have h3 : s.data.toList.map lowU = s.data.toList := by simpa [lowS] using this
    simp only [h3]
  rw [List.getElem_map] at h1
  have h3 : lowU s[k] = s[k] := h1
  have h4 := lowU_toNat s[k]
  rw [h3, lowI_yes (by omega) (by omega)] at h4
  omega
theorem lowS_differs {s : ByteArray} (h : ¬ lowS s = s) : (bytesN s).all okD = false := by
  rw [Bool.eq_false_iff]
  intro ha
  apply h
  apply ByteArray.ext
  apply Array.toList_inj.1
  have h3 : s.data.toList.map lowU = s.data.toList := by
    apply List.ext_getElem (by simp)
    intro i h1 h2
    rw [List.getElem_map]
    have hi : i < s.size := by have : i < s.data.size := by simpa using h2
                               exact this
    have h5 := List.all_eq_true.1 ha ((bytesN s).getD i 0) (by rw [List.getD_eq_getElem?_getD, List.getElem?_eq_getElem (by rw [bytesN_len]; exact hi)]; simp)
    rw [bytesN_at s hi] at h5
    have h6 : ¬ (65 ≤ s[i].toNat ∧ s[i].toNat ≤ 90) := fun hu => by
      have := ok_up ⟨s[i].toNat, s[i].toNat_lt⟩ hu
      simp only at this; rw [this] at h5; cases h5
    have h7 := lowU_toNat s[i]
    rw [lowI_no (by omega)] at h7
    exact UInt8.toNat_inj.1 (by have : lowU s[i] = lowU (s.data.toList[i]) := rfl; rw [← this]; show (lowU s[i]).toNat = s[i].toNat; omega)
  simpa [lowS] using h3
def parsedS (l : List Nat) : List Nat := if rightS l then pacc l 64 else List.replicate 32 0
theorem parsed_len (l : List Nat) : (parsedS l).length = 32 := by unfold parsedS; split <;> simp [pacc_len]
theorem results_arr2 {P : Program} {T : TypeId} {n : Nat} (hT : ArrT P T n) {fn : Func} {p u : Tmp} (h : fn.results = #[.cell p T, .tmp u]) (tmps : Array Value) (w : World) {g : Nat} {k : IntKind} {xs : List Nat} {b : Value}
    (hp : tmps.getD p undef = .pointer (some ⟨g, 0, none⟩)) (hb : tmps.getD u undef = b) (hrd : Rd w g k xs) (hl : xs.length = n) : (results fn tmps).run P w = .ok (.tuple #[.agg (numVals k xs).toArray, b]) w := by
  rw [results_cell_tmp h, hp, hb]
  simp [asAddr, hT.load hrd hl, Result.andThen]
set_option maxRecDepth 100000 in
set_option maxHeartbeats 4000000 in
theorem parse_any (s : ByteArray) (w : World) (hs : s.size ≤ 1000000000) :
    Calls Tryd.prog 13 #[.string s] w fun e w' => e = .returned (.tuple #[.agg (numVals .u8 (parsedS (bytesN s))).toArray, .bool (rightS (bytesN s))]) ∧ Below w.heap.size w w' := by
  have K2 := Lib.hid ((At.lit32 w 23).alloc (.cells #[.int .u8 0, .int .u8 0, .int .u8 0, .int .u8 0, .int .u8 0, .int .u8 0, .int .u8 0, .int .u8 0, .int .u8 0, .int .u8 0, .int .u8 0, .int .u8 0, .int .u8 0, .int .u8 0, .int .u8 0, .int .u8 0, .int .u8 0, .int .u8 0, .int .u8 0, .int .u8 0, .int .u8 0, .int .u8 0, .int .u8 0, .int .u8 0, .int .u8 0, .int .u8 0, .int .u8 0, .int .u8 0, .int .u8 0, .int .u8 0, .int .u8 0, .int .u8 0] 23) (by rw [World.size_alloc]; omega))
  have K4 := Lib.hid (At.lit32 (w.alloc (.cells #[.int .u8 0, .int .u8 0, .int .u8 0, .int .u8 0, .int .u8 0, .int .u8 0, .int .u8 0, .int .u8 0, .int .u8 0, .int .u8 0, .int .u8 0, .int .u8 0, .int .u8 0, .int .u8 0, .int .u8 0, .int .u8 0, .int .u8 0, .int .u8 0, .int .u8 0, .int .u8 0, .int .u8 0, .int .u8 0, .int .u8 0, .int .u8 0, .int .u8 0, .int .u8 0, .int .u8 0, .int .u8 0, .int .u8 0, .int .u8 0, .int .u8 0, .int .u8 0] 23)) 23)
  have KB := Lib.hid ((((Below.refl w.heap.size w).alloc (Nat.le_refl _) (.cells #[.int .u8 0, .int .u8 0, .int .u8 0, .int .u8 0, .int .u8 0, .int .u8 0, .int .u8 0, .int .u8 0, .int .u8 0, .int .u8 0, .int .u8 0, .int .u8 0, .int .u8 0, .int .u8 0, .int .u8 0, .int .u8 0, .int .u8 0, .int .u8 0, .int .u8 0, .int .u8 0, .int .u8 0, .int .u8 0, .int .u8 0, .int .u8 0, .int .u8 0, .int .u8 0, .int .u8 0, .int .u8 0, .int .u8 0, .int .u8 0, .int .u8 0, .int .u8 0] 23)).alloc (by rw [World.size_alloc]; omega) (.cells #[.int .u8 0, .int .u8 0, .int .u8 0, .int .u8 0, .int .u8 0, .int .u8 0, .int .u8 0, .int .u8 0, .int .u8 0, .int .u8 0, .int .u8 0, .int .u8 0, .int .u8 0, .int .u8 0, .int .u8 0, .int .u8 0, .int .u8 0, .int .u8 0, .int .u8 0, .int .u8 0, .int .u8 0, .int .u8 0, .int .u8 0, .int .u8 0, .int .u8 0, .int .u8 0, .int .u8 0, .int .u8 0, .int .u8 0, .int .u8 0, .int .u8 0, .int .u8 0] 23)))
  have Kz := Lib.hid (show w.heap.size + 2 ≤ ((w.alloc (.cells #[.int .u8 0, .int .u8 0, .int .u8 0, .int .u8 0, .int .u8 0, .int .u8 0, .int .u8 0, .int .u8 0, .int .u8 0, .int .u8 0, .int .u8 0, .int .u8 0, .int .u8 0, .int .u8 0, .int .u8 0, .int .u8 0, .int .u8 0, .int .u8 0, .int .u8 0, .int .u8 0, .int .u8 0, .int .u8 0, .int .u8 0, .int .u8 0, .int .u8 0, .int .u8 0, .int .u8 0, .int .u8 0, .int .u8 0, .int .u8 0, .int .u8 0, .int .u8 0] 23)).alloc (.cells #[.int .u8 0, .int .u8 0, .int .u8 0, .int .u8 0, .int .u8 0, .int .u8 0, .int .u8 0, .int .u8 0, .int .u8 0, .int .u8 0, .int .u8 0, .int .u8 0, .int .u8 0, .int .u8 0, .int .u8 0, .int .u8 0, .int .u8 0, .int .u8 0, .int .u8 0, .int .u8 0, .int .u8 0, .int .u8 0, .int .u8 0, .int .u8 0, .int .u8 0, .int .u8 0, .int .u8 0, .int .u8 0, .int .u8 0, .int .u8 0, .int .u8 0, .int .u8 0] 23)).heap.size by rw [World.size_alloc, World.size_alloc]; exact Nat.le_refl _)
  rw [World.size_alloc] at K4
  obtain ⟨L, hL⟩ : ∃ L, L = parsedS (bytesN s) := ⟨_, rfl⟩
  obtain ⟨R, hR⟩ : ∃ R, R = rightS (bytesN s) := ⟨_, rfl⟩
  have HLr := Lib.hid (fun (_ : Unit) => hL)
  have HRr := Lib.hid (fun (_ : Unit) => hR)
  have HLow := Lib.hid (fun w => lower_any s w (by omega))
  obtain ⟨ls, hls⟩ : ∃ ls, ls = lowS s := ⟨_, rfl⟩
  have Hls := Lib.hid (fun (_ : Unit) => hls)
  have hq := bytesEq_bool ls s
  rw [← hL, ← hR]
  rw [← hls] at HLow
  clear hL hR hls
  have HF : Hid (R = false → L = List.replicate 32 0) := Lib.hid (fun h => by rw [HLr.out ()]; unfold parsedS; rw [← HRr.out (), h]; rfl)
  go_enter Tryd.func13, Tryd.ntmps13
  by_cases h64 : s.size = 64
  · by_cases hsame : ls = s
    · rw [decide_eq_true hsame] at hq
      go_wp2_with fail
      refine (HLow.out _).mono ?_
      rintro e w1 ⟨rfl, b1⟩
      obtain ⟨gD, hgD⟩ : ∃ g, g = w.heap.size + 1 := ⟨_, rfl⟩
      rw [← hgD] at K4 ⊢
      have J2 := Lib.hid (K2.out.below b1 (by have := Kz.out; omega))
      have J4 := Lib.hid (K4.out.below b1 (by have := Kz.out; omega))
      have JB := Lib.hid (KB.out.trans (b1.mono (by have := Kz.out; omega)))
      have HgD := Lib.hid hgD
      have Hsame := Lib.hid (fun (_ : Unit) => hsame)
      clear b1 K2 K4 KB Kz hgD hsame
      go_wp2_with fail
      go_loopw [20] (fun i wr => ∃ k : Nat, k ≤ 64 ∧ i = .int .i64 (k : Int) ∧ Hid (((bytesN s).take k).all okD = true) ∧ Hid (At wr gD .u8 (pacc (bytesN s) k)) ∧ Hid (At wr w.heap.size .u8 (List.replicate 32 0)) ∧ Hid (Below w.heap.size w wr)) (fun i _ => 64 - (intOf i).toNat)
      case atStart => exact ⟨0, Nat.zero_le _, rfl, rfl, by rw [pacc_zero]; exact J4.out, J2.out, JB.out⟩
      case round =>
        clear J2 J4 JB
        obtain ⟨k, hk, rfl, HA, H4, H2, HB⟩ := hrel
        by_cases hlt : k < 64
        · have hks : k < s.size := by omega
          have hb := byte_le s[k]
          have Hup := Lib.hid (fun (_ : Unit) => lowS_same (s := s) ((Hls.out ()).symm.trans (Hsame.out ())) hks)
          have Hok := Lib.hid (fun (_ : Unit) => hex_ok ⟨s[k].toNat, s[k].toNat_lt⟩ (Hup.out ()))
          have Hn := Lib.hid (fun (_ : Unit) => all_no (p := okD) (l := bytesN s) (k := k) (by rw [bytesN_len]; exact hks))
          have Hy := Lib.hid (fun (_ : Unit) => all_take (p := okD) (l := bytesN s) (k := k) (by rw [bytesN_len]; exact hks))
          have Hat := Lib.hid (fun (_ : Unit) => bytesN_at s hks)
          have HX := Lib.hid (fun w => hex_any (s[k].toNat : Int) w (by omega) hb)
          by_cases hokd : okD s[k].toNat = true
          · obtain ⟨v, hv⟩ : ∃ v, v = dv s[k].toNat := ⟨_, rfl⟩
            have hv16 : v < 16 := by rw [hv]; exact dv_lt ⟨s[k].toNat, s[k].toNat_lt⟩ hokd
            have HX2 : Hid (∀ w, Calls Tryd.prog 25 #[.int .u8 (s[k].toNat : Int)] w fun e w' => e = .returned (.tuple #[.int .i64 (v : Int), .bool true]) ∧ w = w') := Lib.hid (fun w => by
              have h1 := HX.out w
              have h2 := Hok.out ()
              simp only at h2
              rw [h2, if_pos hokd, ← hv] at h1
              exact h1)
            obtain ⟨q, hq2⟩ : ∃ q, q = k / 2 := ⟨_, rfl⟩
            have d1 : (k : Int) / 2 = (q : Int) := by omega
            obtain ⟨old, hold⟩ : ∃ o, o = (pacc (bytesN s) k).getD q 0 := ⟨_, rfl⟩
            have Hold := Lib.hid (fun (_ : Unit) => show old = if k % 2 = 0 then 0 else dv ((bytesN s).getD (k - 1) 0) by
              rw [hold, hq2, pacc_get _ _ (by omega)]
              by_cases hp : k % 2 = 0
              · rw [if_neg (by omega), if_neg (by omega), if_pos hp]
              · rw [if_neg (by omega), if_pos (by omega), if_neg hp, show 2 * (k / 2) = k - 1 by omega])
            have Hold16 := Lib.hid (fun (_ : Unit) => show old < 16 by
              rw [Hold.out ()]
              by_cases hp : k % 2 = 0
              · rw [if_pos hp]; decide
              · rw [if_neg hp]
                have h1 := List.all_eq_true.1 HA.out ((bytesN s).getD (k - 1) 0) (by
                  rw [List.mem_take_iff_getElem]
                  refine ⟨k - 1, by rw [bytesN_len]; omega, ?_⟩
                  rw [List.getD_eq_getElem?_getD, List.getElem?_eq_getElem (by rw [bytesN_len]; omega)]; rfl)
                exact dv_lt ⟨_, bytesN_lt s (k - 1)⟩ h1)
            have hcell : wr.cell? ⟨gD, q, none⟩ = some (.int .u8 (old : Int)) := by rw [hold]; exact H4.out.cell (by rw [pacc_len]; omega)
            have hfree : wr.frozen? ⟨gD, q, none⟩ = false := H4.out.free (by rw [pacc_len]; omega)
            have hq32 : q < 32 := by omega
            have HN := Lib.hid (fun (_ : Unit) => pacc_step (l := bytesN s) (nw := old * 16 + v) hlt (by
              rw [Hat.out (), Hold.out (), ← hv]
              by_cases hp : k % 2 = 0
              · rw [if_pos hp, if_pos hp]; omega
              · rw [if_neg hp, if_neg hp]))
            rw [← hq2] at HN
            have HZ : Hid (bits .or .u8 ((old : Int) * 16 % 256) (v : Int) = ((old * 16 + v : Nat) : Int)) := Lib.hid (by
              have h1 := Hold16.out ()
              rw [show (old : Int) * 16 % 256 = ((old * 16 : Nat) : Int) by omega]
              rw [u8_or_nat (old * 16) v (by omega) (by omega)]
              rw [nat_join' 4 (old * 16) v (by omega) (by omega)])
            have hv256 : (v : Int) % 256 = (v : Int) := by omega
            have Hyes := Lib.hid (fun (_ : Unit) => hokd)
            clear hold hq2 HX hv hokd
            go_wp2_with fail
            refine (HX2.out _).mono ?_
            rintro e w' ⟨rfl, rfl⟩
            go_wp2
            go_roundw
            case rel =>
              refine ⟨k + 1, by omega, by go_num, by rw [Hy.out (), HA.out, Hat.out (), Hyes.out ()]; rfl, ?_, H2.out.other ⟨gD, q, none⟩ _ (by have := HgD.out; simp only; omega), HB.out.setCell (p := ⟨gD, q, none⟩) (by have := HgD.out; simp only; omega) _⟩
              rw [← HN.out ()]
              exact H4.out.put (by rw [pacc_len]; exact hq32) _ HZ.out
            case measure => simp [intOf]; omega
          · have hokf : okD s[k].toNat = false := by simpa using hokd
            have HX2 : Hid (∀ w, Calls Tryd.prog 25 #[.int .u8 (s[k].toNat : Int)] w fun e w' => e = .returned (.tuple #[.int .i64 0, .bool false]) ∧ w = w') := Lib.hid (fun w => by
              have h1 := HX.out w
              have h2 := Hok.out ()
              simp only at h2
              rw [h2, if_neg hokd] at h1
              exact h1)
            have Hno := Lib.hid (fun (_ : Unit) => show R = false by
              rw [HRr.out ()]; unfold rightS
              rw [Hn.out () (by rw [Hat.out ()]; exact hokf)]; rfl)
            have HL0 := Lib.hid (fun (_ : Unit) => HF.out (Hno.out ()))
            clear HX hokd hokf
            go_wp2_with fail
            refine (HX2.out _).mono ?_
            rintro e w' ⟨rfl, rfl⟩
            go_wp2_with (first | (refine wpList_store_arr (k := .u8) (xs := List.replicate 32 0) Tryd.arr32 rfl _ _ rfl rfl rfl H2.out rfl rfl ?_; intro w6 j6 jb6 _))
            refine bodyPost_ret (results_arr2 (b := .bool false) Tryd.arr32 Tryd.results13 _ _ rfl rfl j6.rd rfl) rfl ⟨?_, HB.out.trans (jb6 _ (Nat.le_refl _))⟩
            rw [HL0.out (), Hno.out ()]
        · obtain rfl : k = 64 := by omega
          have Hyes := Lib.hid (fun (_ : Unit) => show R = true by
            have h1 := HA.out
            rw [List.take_of_length_le (by rw [bytesN_len]; omega)] at h1
            rw [HRr.out ()]; unfold rightS; rw [h1, bytesN_len, h64]; rfl)
          have HLf := Lib.hid (fun (_ : Unit) => show L = pacc (bytesN s) 64 by rw [HLr.out ()]; unfold parsedS; rw [← HRr.out (), Hyes.out ()]; rfl)
          have HL32 := Lib.hid (fun (_ : Unit) => show L.length = 32 by rw [HLf.out (), pacc_len])
          have H5 : Hid (At wr gD .u8 L) := by rw [HLf.out ()]; exact H4
          clear H4
          go_wp2_with (first | (refine wpList_load_arr Tryd.arr32 rfl _ rfl rfl H5.out.rd (HL32.out ()) ?_) | (refine wpList_store_arr Tryd.arr32 rfl _ _ rfl rfl rfl H2.out rfl (HL32.out ()) ?_; intro w6 j6 jb6 _))
          refine bodyPost_ret (results_arr2 (b := .bool true) Tryd.arr32 Tryd.results13 _ _ rfl rfl j6.rd (HL32.out ())) rfl ⟨?_, HB.out.trans (jb6 _ (Nat.le_refl _))⟩
          rw [Hyes.out ()]
    · have hq2 : (ls.toList == s.toList) = false := by rw [hq]; exact decide_eq_false hsame
      have Hno := Lib.hid (fun (_ : Unit) => show R = false by
        rw [HRr.out ()]; unfold rightS
        rw [lowS_differs (by rw [← Hls.out ()]; exact hsame)]; rfl)
      have HL0 := Lib.hid (fun (_ : Unit) => HF.out (Hno.out ()))
      clear hq hsame
      go_wp2_with fail
      refine (HLow.out _).mono ?_
      rintro e w1 ⟨rfl, b1⟩
      have J2 := Lib.hid (K2.out.below b1 (by have := Kz.out; omega))
      have JB := Lib.hid (KB.out.trans (b1.mono (by have := Kz.out; omega)))
      clear b1 K2 K4 KB Kz
      go_wp2_with (first | (refine wpList_store_arr (k := .u8) (xs := List.replicate 32 0) Tryd.arr32 rfl _ _ rfl rfl rfl J2.out rfl rfl ?_; intro w6 j6 jb6 _))
      refine bodyPost_ret (results_arr2 (b := .bool false) Tryd.arr32 Tryd.results13 _ _ rfl rfl j6.rd rfl) rfl ⟨?_, JB.out.trans (jb6 _ (Nat.le_refl _))⟩
      rw [HL0.out (), Hno.out ()]
  · have hn64 : ((s.size : Int) == 64) = false := by rw [beq_eq_false_iff_ne]; omega
    have Hno := Lib.hid (fun (_ : Unit) => show R = false by
      rw [HRr.out ()]; unfold rightS
      rw [bytesN_len, show (s.size == 64) = false by rw [beq_eq_false_iff_ne]; exact h64, Bool.and_false])
    have HL0 := Lib.hid (fun (_ : Unit) => HF.out (Hno.out ()))
    clear hq
    go_wp2_with (first | (refine wpList_store_arr (k := .u8) (xs := List.replicate 32 0) Tryd.arr32 rfl _ _ rfl rfl rfl K2.out rfl rfl ?_; intro w6 j6 jb6 _))
    refine bodyPost_ret (results_arr2 (b := .bool false) Tryd.arr32 Tryd.results13 _ _ rfl rfl j6.rd rfl) rfl ⟨?_, KB.out.trans (jb6 _ (Nat.le_refl _))⟩
    rw [HL0.out (), Hno.out ()]
end Go.Proofs.YtcpjdmfnipdecaaDoor
