/- Layer 9: LinesJoin. -/
import Derived.Test.YtpmdckljbjomjaaLinF
namespace Go.Proofs.Ytpmdckljbjomjaa
set_option linter.all false
open Go.RowKit

theorem Try.sizeStrL (w : World) : (sizeOf (Try.prog.elem 23)).run Try.prog w = .ok 1 w := by kernel_rfl
theorem Try.elemStrL : Try.prog.underlying 23 = some (.slice (Try.prog.elem 23)) := by kernel_rfl
theorem strs_cap {w : World} {p : Option Addr} {n c : Nat} {L : List ByteArray} (h : StrsIn w (.slice p n c) L) : n = L.length ∧ L.length ≤ c := by
  rcases h with ⟨rfl, hv | ⟨ad, cap, hv⟩⟩ | ⟨b, off, cap, hv, h1, _, _⟩
  · injection hv with e1 e2 e3; subst e2 e3; exact ⟨rfl, Nat.le_refl _⟩
  · injection hv with e1 e2 e3; subst e2; exact ⟨rfl, Nat.zero_le _⟩
  · injection hv with e1 e2 e3; subst e2 e3; exact ⟨rfl, h1⟩
theorem strs_upto (p : Option Addr) (n c i : Nat) (hi : i ≤ c) (w : World) : (Instr.slice 23 (.slice p n c) none (some (.int .i64 (i : Int))) none).run Try.prog w = .ok (.slice p i c) w := by
  rw [run_slice_h w 23 p n c Try.elemStrL .i64 (i : Int) (by omega) (by omega), Try.sizeStrL]
  have h : (if c = 0 then p else p.map (·.add (0 * 1))) = p := by
    split
    · rfl
    · cases p <;> rfl
  show Result.ok (Value.slice (if c = 0 then p else p.map (·.add (0 * 1))) ((i : Int).toNat - 0) (c - 0)) w = _
  rw [h]; rfl
theorem StrsIn.upto {w : World} {p : Option Addr} {n c : Nat} {L : List ByteArray} (h : StrsIn w (.slice p n c) L) (i : Nat) (hi : i ≤ L.length) : StrsIn w (.slice p i c) (L.take i) := by
  rcases h with ⟨rfl, hv⟩ | ⟨b, off, cap, hv, h1, h2, h3⟩
  · obtain rfl : i = 0 := by simpa using hi
    refine .inl ⟨by simp, ?_⟩
    rcases hv with hv | ⟨ad, cap, hv⟩
    · injection hv with e1 e2 e3; subst e1 e2 e3; exact .inl rfl
    · injection hv with e1 e2 e3; subst e1 e2 e3; exact .inr ⟨_, _, rfl⟩
  · injection hv with e1 e2 e3
    subst e1 e2 e3
    have hl : (L.take i).length = i := by rw [List.length_take]; omega
    refine .inr ⟨b, off, c, by rw [hl], by rw [hl]; omega, h2, fun j u hj => h3 j u ?_⟩
    rw [List.getElem?_take] at hj
    split at hj
    · exact hj
    · cases hj
theorem plain_snoc {s : ByteArray} {k : Nat} (h : k < s.size) (hp : plainB (s.data.toList.take k) = true) (h1 : s[k] ≠ 13) (h2 : s[k] ≠ 10) : plainB (s.data.toList.take (k + 1)) = true := by
  rw [List.take_succ_eq_append_getElem (by simpa using h)]
  have e : s.data.toList[k]'(by simpa using h) = s[k] := rfl
  rw [e]
  unfold plainB at *
  rw [List.all_append, hp]
  simp [h1, h2]
theorem plain_whole {s : ByteArray} {k : Nat} (h : s.size ≤ k) (hp : plainB (s.data.toList.take k) = true) : plainB s.data.toList = true := by
  rwa [List.take_of_length_le (by simpa using h)] at hp
theorem all_snoc {P : ByteArray → Prop} {L : List ByteArray} {k : Nat} (hk : k < L.length) (h : ∀ y ∈ L.take k, P y) (hx : P L[k]) : ∀ y ∈ L.take (k + 1), P y := by
  rw [List.take_succ_eq_append_getElem hk]
  intro y hy
  rcases List.mem_append.1 hy with hy | hy
  · exact h y hy
  · simp at hy; subst hy; exact hx
set_option maxRecDepth 100000 in
set_option maxHeartbeats 16000000 in
theorem linesJoin_any (v : Value) (L : List ByteArray) (b : Nat) (w : World) (hv : StrsIn w v L) (hb : b ≤ 255) : Calls Try.prog 4 #[v, .int .u8 (b : Int)] w (SaysIn true w) := by
  obtain ⟨p, c, rfl⟩ := hv.sliced
  obtain ⟨n, hn⟩ : ∃ n, n = L.length := ⟨_, rfl⟩
  have hn63 : n ≤ 9223372036854775807 := by have := hv.len; omega
  have hnc : n ≤ c := by have := (strs_cap hv).2; omega
  rw [← hn] at hv ⊢
  have HV := Lib.hid hv
  have Hn := Lib.hid (fun (_ : Unit) => hn)
  clear hv hn
  by_cases h30 : n ≤ 30
  · have h30' : ¬ (30 : Int) < (n : Int) := by omega
    go_enter Try.func4, Try.ntmps4
    go_wp2_with fail
    refine (awake9_any _).mono ?_
    rintro e w1 ⟨rfl, hb1⟩
    have B1 := Lib.hid hb1
    have HV1 := Lib.hid (HV.out.below hb1)
    clear hb1 HV
    go_wp2_with fail
    go_loop [5] (fun i => ∃ k : Nat, k ≤ n ∧ i = .int .i64 k ∧ Hid (∀ y ∈ L.take k, plainB y.data.toList = true ∧ y.size ≤ 100)) (fun i => n - (intOf i).toNat)
    case atStart => exact ⟨0, Nat.zero_le _, rfl, by show ∀ y ∈ L.take 0, _; simp⟩
    case round =>
      obtain ⟨k, hk, rfl, HP⟩ := hrel
      by_cases hlt : k < n
      · have hkL : k < L.length := by rw [← Hn.out ()]; exact hlt
        obtain ⟨g, o, e, g1⟩ := HV1.out.at_ k hkL
        subst e
        have HPs := Lib.hid (all_snoc hkL HP.out)
        obtain ⟨x, hx⟩ : ∃ x, x = L[k] := ⟨_, rfl⟩
        rw [← hx] at g1 HPs
        clear hx HP
        by_cases h100 : x.size ≤ 100
        · have h100' : ¬ (100 : Int) < (x.size : Int) := by omega
          go_wp2_with fail
          go_loop [6] (fun i => ∃ j : Nat, j ≤ x.size ∧ i = .int .i64 j ∧ Hid (plainB (x.data.toList.take j) = true)) (fun i => x.size - (intOf i).toNat)
          case atStart => exact ⟨0, Nat.zero_le _, rfl, by show plainB (x.data.toList.take 0) = true; rfl⟩
          case round =>
            obtain ⟨j, hj, rfl, HJ⟩ := hrel
            by_cases hjx : j < x.size
            · by_cases h10 : (x[j].toNat : Int) = 10
              · have q1 := beq_t h10
                clear h10
                go_wp2
                go_ret
                exact saysIn_of (by rfl) B1.out
              · by_cases h13 : (x[j].toNat : Int) = 13
                · have q1 := beq_f h10
                  have q2 := beq_t h13
                  clear h10 h13
                  go_wp2
                  go_ret
                  exact saysIn_of (by rfl) B1.out
                · have q1 := beq_f h10
                  have q2 := beq_f h13
                  have HJ2 := Lib.hid (plain_snoc hjx HJ.out (byte_not (n := 13) (by decide) h13) (byte_not (n := 10) (by decide) h10))
                  clear h10 h13 HJ
                  go_wp2
                  go_round
                  case rel => exact ⟨j + 1, by omega, by go_num, HJ2.out⟩
                  case measure => simp [intOf]; omega
            · have HJ2 := Lib.hid (HPs.out ⟨plain_whole (by omega) HJ.out, h100⟩)
              clear HJ
              go_wp2
              go_round
              case rel => exact ⟨k + 1, by omega, by go_num, HJ2.out⟩
              case measure => simp [intOf]; omega
        · have h100' : (100 : Int) < (x.size : Int) := by omega
          go_wp2
          go_ret
          exact saysIn_of (by rfl) B1.out
      · obtain rfl : k = n := by omega
        have HA := Lib.hid (show ∀ y ∈ L, plainB y.data.toList = true ∧ y.size ≤ 100 by
          have := HP.out
          rwa [List.take_of_length_le (by rw [← Hn.out ()]; exact Nat.le_refl _)] at this)
        have HJ1 := Lib.hid (join_any _ L w1 HV1.out (by rw [← Hn.out ()]; exact h30) fun y hy => (HA.out y hy).2)
        have hJs : (joinS L).size ≤ 3060 := by
          have h1 := joinL_len L 100 fun y hy => (HA.out y hy).2
          rw [← Hn.out ()] at h1
          rw [joinS_size]; omega
        have hJf := join_fits (m := 100) L ⟨#[]⟩ HA.out
        have HJ := Lib.hid (fun (_ : Unit) => joinS_list L)
        obtain ⟨J, hJ⟩ : ∃ J, J = joinS L := ⟨_, rfl⟩
        rw [← hJ] at HJ1 hJs HJ
        have HSp := Lib.hid (fun w => split_at J 100 L J.size 1 w (by omega) (by decide) (by rw [HJ.out ()]; exact hJf.1) (by rw [HJ.out (), show (100 : Int).toNat = 100 from rfl, hJf.2.1, hJ, joinS_size]) (by rw [HJ.out ()]; exact hJf.2.2))
        clear hJ hJf HP hk hlt
        go_wp2_with fail
        refine HJ1.out.mono ?_
        rintro e w2 ⟨rfl, rfl⟩
        go_wp2_with fail
        refine (HSp.out _).mono ?_
        rintro e w2 ⟨v2, rfl, ho2, hb2⟩
        have T2 := Lib.hid ho2.strsIn
        have V2 := Lib.hid (HV1.out.below hb2)
        have B2 := Lib.hid (B1.out.trans (hb2.mono B1.out.size))
        clear ho2 hb2 B1 HV1 HSp HJ1
        go_wp2_with fail
        refine (texts_any _ _ L L _ T2.out V2.out).mono ?_
        rw [decide_eq_true rfl]
        rintro e w3 ⟨rfl, hb3⟩
        have V3 := Lib.hid (V2.out.below hb3)
        have B3 := Lib.hid (B2.out.trans (hb3.mono B2.out.size))
        clear hb3 T2 V2 B2
        go_wp2_with fail
        go_loop [11] (fun i => ∃ j : Nat, j ≤ k ∧ i = .int .i64 j ∧ Hid (∀ y ∈ L.take j, y.size ≤ b)) (fun i => k - (intOf i).toNat)
        case atStart => exact ⟨0, Nat.zero_le _, rfl, by show ∀ y ∈ L.take 0, _; simp⟩
        case round =>
          obtain ⟨j, hj, rfl, HP⟩ := hrel
          by_cases hlt : j < k
          · have hjL : j < L.length := by rw [← Hn.out ()]; exact hlt
            obtain ⟨g, o, e, g1⟩ := V3.out.at_ j hjL
            subst e
            by_cases hbx : L[j].size ≤ b
            · have HPs := Lib.hid (all_snoc hjL HP.out hbx)
              obtain ⟨x, hx⟩ : ∃ x, x = L[j] := ⟨_, rfl⟩
              rw [← hx] at g1 hbx
              have hbx' : ¬ (b : Int) < (x.size : Int) := by omega
              clear hx HP
              go_wp2
              go_round
              case rel => exact ⟨j + 1, by omega, by go_num, HPs.out⟩
              case measure => simp [intOf]; omega
            · have hbx' : b < L[j].size := by omega
              have hcut : L = L.take j ++ L[j] :: L.drop (j + 1) := by rw [← List.drop_eq_getElem_cons hjL, List.take_append_drop]
              have hall : ∀ y ∈ L.take j, plainB y.data.toList = true ∧ y.size ≤ b := fun y hy => ⟨(HA.out y (List.mem_of_mem_take hy)).1, HP.out y hy⟩
              have hJl := join_long (m := b) (L.take j) L[j] (L.drop (j + 1)) ⟨#[]⟩ hall (HA.out _ (List.getElem_mem hjL)).1 hbx'
              rw [← hcut, ← HJ.out ()] at hJl
              have hU := V3.out.upto j (by omega)
              have hlt2 : (L.take j).length ≤ 30 := by rw [List.length_take]; omega
              have hJs2 : (joinS (L.take j)).size ≤ 3060 := by
                have h1 := joinL_len (L.take j) 100 fun y hy => (HA.out y (List.mem_of_mem_take hy)).2
                rw [joinS_size]; omega
              have hsl := strs_upto (some ⟨g, o, none⟩) k c j (by omega)
              have HJ2 := Lib.hid (fun w (h : StrsIn w (.slice (some ⟨g, o, none⟩) j c) (L.take j)) => join_any _ (L.take j) w h hlt2 fun y hy => (HA.out y (List.mem_of_mem_take hy)).2)
              obtain ⟨K, hK⟩ : ∃ K, K = joinS (L.take j) := ⟨_, rfl⟩
              have hKs : K.size = (joinL (L.take j)).length := by rw [hK, joinS_size]
              rw [← hK] at HJ2 hJs2
              rw [← hKs] at hJl
              have HSp := Lib.hid (fun w => split_at J (b : Int) (L.take j) (K.size + b + 1) 3 w (by omega) (by omega) (by rw [Int.toNat_natCast]; exact hJl.1) (by rw [Int.toNat_natCast]; exact hJl.2.1) (by rw [Int.toNat_natCast]; exact hJl.2.2))
              have HU := Lib.hid hU
              have hsum : ((K.size + b + 1 : Nat) : Int) = (K.size : Int) + (b : Int) + 1 := by omega
              obtain ⟨x, hx⟩ : ∃ x, x = L[j] := ⟨_, rfl⟩
              rw [← hx] at g1 hbx'
              have hbx2 : (b : Int) < (x.size : Int) := by omega
              have hq := beq_t (show (K.size : Int) + (b : Int) + 1 = (K.size : Int) + (b : Int) + 1 from rfl)
              clear hx HP hbx hbx' hcut hall hJl hU hK hKs hlt2
              go_wp2_with fail
              refine (HSp.out _).mono ?_
              rintro e w4 ⟨v4, rfl, ho4, hb4⟩
              rw [hsum]
              clear hsum HSp
              have T4 := Lib.hid ho4.strsIn
              have U4 := Lib.hid (HU.out.below hb4)
              have B4 := Lib.hid (B3.out.trans (hb4.mono B3.out.size))
              clear ho4 hb4 HU
              go_wp2_with fail
              refine (texts_any _ _ (L.take j) (L.take j) _ T4.out U4.out).mono ?_
              rw [decide_eq_true rfl]
              rintro e w5 ⟨rfl, hb5⟩
              have U5 := Lib.hid (U4.out.below hb5)
              have B5 := Lib.hid (B4.out.trans (hb5.mono B4.out.size))
              clear hb5 U4 T4 B4
              go_wp2_with fail
              refine (HJ2.out _ U5.out).mono ?_
              rintro e w6 ⟨rfl, rfl⟩
              go_wp2_with fail
              go_ret
              exact saysIn_of (by rfl) B5.out
          · obtain rfl : j = k := by omega
            go_wp2
            go_ret
            exact saysIn_of (by rfl) B3.out
  · have h30' : (30 : Int) < (n : Int) := by omega
    go_enter Try.func4, Try.ntmps4
    go_wp2_with fail
    refine (awake9_any _).mono ?_
    rintro e w1 ⟨rfl, hb1⟩
    go_wp2_with fail
    refine (awake9_any _).mono ?_
    rintro e w2 ⟨rfl, hb2⟩
    go_wp2_with fail
    go_ret
    exact saysIn_of (by rfl) (hb1.trans (hb2.mono hb1.size))
theorem linesJoin_int (v : Value) (L : List ByteArray) (z : Int) (w : World) (hv : StrsIn w v L) (h0 : 0 ≤ z) (h1 : z ≤ 255) : Calls Try.prog 4 #[v, .int .u8 z] w (SaysIn true w) := by
  obtain ⟨b, rfl⟩ : ∃ b : Nat, z = (b : Int) := ⟨z.toNat, by omega⟩
  exact linesJoin_any v L b w hv (by omega)
theorem linByte_wf {z : Int} (h : (Lit.int .u8 z).wf = true) : 0 ≤ z ∧ z ≤ 255 := by
  simp only [Lit.wf, Bool.and_eq_true, decide_eq_true_eq] at h; exact h
end Go.Proofs.Ytpmdckljbjomjaa
