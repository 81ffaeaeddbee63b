/- Package lines: the reference's Texts and Join; awake. -/
import Derived.Test.YtpmdckljbjomjaaLinD
namespace Go.Proofs.Ytpmdckljbjomjaa
set_option linter.all false
open Go.RowKit

theorem lists_ne {L1 L2 : List ByteArray} {k : Nat} (h1 : k < L1.length) (h2 : k < L2.length) (h : L1[k] ≠ L2[k]) : decide (L1 = L2) = false := by
  apply decide_eq_false
  rintro rfl
  exact h rfl
theorem take_both {L1 L2 : List ByteArray} {k : Nat} (h1 : k < L1.length) (h2 : k < L2.length) (h : L1[k] = L2[k]) (ht : L1.take k = L2.take k) : L1.take (k + 1) = L2.take (k + 1) := by
  rw [List.take_succ_eq_append_getElem h1, List.take_succ_eq_append_getElem h2, h, ht]
theorem saysIn_of {a b : Bool} {w w' : World} (h : a = b) (hb : Below w.heap.size w w') : SaysIn b w (.returned (.bool a)) w' := ⟨by rw [h], hb⟩
theorem StrsIn.len {w : World} {v : Value} {L : List ByteArray} (h : StrsIn w v L) : L.length ≤ 9223372036854775807 := by
  rcases h with ⟨rfl, _⟩ | ⟨b, off, cap, rfl, h1, h2, h3⟩
  · simp
  · omega
set_option maxRecDepth 100000 in
set_option maxHeartbeats 4000000 in
theorem texts_any (v1 v2 : Value) (L1 L2 : List ByteArray) (w : World) (h1 : StrsIn w v1 L1) (h2 : StrsIn w v2 L2) :
    Calls Try.prog 10 #[v1, v2] w (SaysIn (decide (L1 = L2)) w) := by
  obtain ⟨p1, c1, rfl⟩ := h1.sliced
  obtain ⟨p2, c2, rfl⟩ := h2.sliced
  by_cases hn : L1.length = L2.length
  · obtain ⟨n, hnn⟩ : ∃ n, n = L1.length := ⟨_, rfl⟩
    by_cases h0 : n = 0
    · have e1 : L1 = [] := List.length_eq_zero_iff.1 (by omega)
      have e2 : L2 = [] := List.length_eq_zero_iff.1 (by omega)
      subst e1 e2
      clear hn hnn h0 h1 h2
      go_enter Try.func10, Try.ntmps10
      go_wp2
      refine wp_loop_rounds 1 ?_
      rw [rounds_succ]
      go_wp2
      go_ret
      exact saysIn_of (by rfl) (Below.refl _ _)
    · obtain ⟨b1, o1, rfl, gx1⟩ := h1.at_ 0 (by omega)
      obtain ⟨b2, o2, rfl, gx2⟩ := h2.at_ 0 (by omega)
      clear gx1 gx2
      have hnb : n ≤ 9223372036854775807 := by have := h1.len; omega
      have H1 := Lib.hid h1
      have H2 := Lib.hid h2
      rw [← hn, ← hnn] at H2
      rw [← hnn] at H1
      rw [← hn, ← hnn]
      have Hn1 := Lib.hid (fun (_ : Unit) => hnn.symm)
      have Hn2 := Lib.hid (fun (_ : Unit) => show L2.length = n by omega)
      clear hn hnn h0 h1 h2
      go_enter Try.func10, Try.ntmps10
      go_wp2
      go_loopw [5] (fun i wr => ∃ k : Nat, k ≤ n ∧ i = .int .i64 k ∧ Hid (L1.take k = L2.take k) ∧ Hid (Below w.heap.size w wr)) (fun i _ => n - (intOf i).toNat)
      case atStart => exact ⟨0, Nat.zero_le _, rfl, rfl, Below.refl _ _⟩
      case round =>
        obtain ⟨k, hk, rfl, HT, HB⟩ := hrel
        by_cases hlt : k < n
        · have hk1 : k < L1.length := by rw [Hn1.out ()]; exact hlt
          have hk2 : k < L2.length := by rw [Hn2.out ()]; exact hlt
          obtain ⟨b, o, e, g1⟩ := (H1.out.below HB.out).at_ k hk1
          injection e with e; injection e with e1 e2 e3; subst e1 e2
          obtain ⟨b, o, e, g2⟩ := (H2.out.below HB.out).at_ k hk2
          injection e with e; injection e with e1 e2 e3; subst e1 e2
          have Hne := Lib.hid (fun h => lists_ne hk1 hk2 h)
          have Heq := Lib.hid (fun h => take_both hk1 hk2 h HT.out)
          obtain ⟨x, hx⟩ : ∃ x, x = L1[k] := ⟨_, rfl⟩
          obtain ⟨y, hy⟩ : ∃ y, y = L2[k] := ⟨_, rfl⟩
          rw [← hx] at g1
          rw [← hy] at g2
          rw [← hx, ← hy] at Hne Heq
          have he := bytesEq_bool x y
          clear hx hy hk1 hk2
          by_cases hxy : x = y
          · have Ht := Lib.hid (Heq.out hxy)
            rw [decide_eq_true hxy] at he
            have he2 : (x.toList != y.toList) = false := by simp [bne, he]
            have he3 : x.toList = y.toList := by simpa using he
            have Hlt := Lib.hid hlt
            clear hxy HT Hne Heq
            go_wp2
            go_quiet (fail)
            go_wp2
            go_roundw
            case rel => exact ⟨k + 1, by have := Hlt.out; omega, by go_num, Ht.out, below_drewN HB.out _⟩
            case measure => have := Hlt.out; simp [intOf]; omega
          · have Ht := Lib.hid (Hne.out hxy)
            rw [decide_eq_false hxy] at he
            have he2 : (x.toList != y.toList) = true := by simp [bne, he]
            have he3 : ¬ x.toList = y.toList := by simpa using he
            clear hxy HT Hne Heq
            go_wp2
            go_quiet (fail)
            go_wp2
            go_ret
            exact saysIn_of Ht.out.symm (below_drewN HB.out _)
        · obtain rfl : k = n := by omega
          have Ht := Lib.hid (show decide (L1 = L2) = true by
            apply decide_eq_true
            have := HT.out
            rwa [List.take_of_length_le (by rw [Hn1.out ()]; exact Nat.le_refl _), List.take_of_length_le (by rw [Hn2.out ()]; exact Nat.le_refl _)] at this)
          clear HT
          go_wp2
          go_ret
          exact saysIn_of Ht.out.symm HB.out
  · have Ht := Lib.hid (show decide (L1 = L2) = false from decide_eq_false (fun e => hn (by rw [e])))
    generalize L1.length = n1 at *
    generalize L2.length = n2 at *
    clear h1 h2
    go_enter Try.func10, Try.ntmps10
    go_wp2
    go_ret
    exact saysIn_of Ht.out.symm (Below.refl _ _)
/-- Lines with their ends, as a text. -/
def joinS (L : List ByteArray) : ByteArray := ⟨(joinL L).toArray⟩
theorem joinS_list (L : List ByteArray) : (joinS L).data.toList = joinL L := by simp [joinS]
theorem joinS_size (L : List ByteArray) : (joinS L).size = (joinL L).length := text_size _
theorem joinL_len (L : List ByteArray) (b : Nat) (h : ∀ y ∈ L, y.size ≤ b) : (joinL L).length ≤ L.length * (b + 2) := by
  induction L with
  | nil => simp [joinL]
  | cons y L ih =>
    have h1 := h y (by simp)
    have h2 := ih fun z hz => h z (by simp [hz])
    rw [joinL, List.length_append, List.length_cons, List.length_cons, List.length_cons, Nat.add_mul]
    simp only [ByteArray.size, Array.length_toList] at h1 ⊢
    omega
theorem joinS_snoc (L : List ByteArray) (x : ByteArray) : joinS L ++ x ++ ⟨#[13, 10]⟩ = joinS (L ++ [x]) := by
  apply ByteArray.ext
  apply Array.toList_inj.1
  simp [joinS, joinL_snoc]
set_option maxRecDepth 100000 in
set_option maxHeartbeats 4000000 in
theorem join_any (v : Value) (L : List ByteArray) (w : World) (h : StrsIn w v L) (hL : L.length ≤ 30) (hs : ∀ y ∈ L, y.size ≤ 100) :
    Calls Try.prog 15 #[v] w (fun e w' => e = .returned (.string (joinS L)) ∧ w = w') := by
  rcases h with ⟨rfl, hv⟩ | ⟨b, off, cap, rfl, hc, hm, hcell⟩
  · have hv2 : ∃ p c, v = .slice p 0 c := by
      rcases hv with rfl | ⟨ad, cap, rfl⟩
      · exact ⟨none, 0, rfl⟩
      · exact ⟨_, _, rfl⟩
    obtain ⟨p, c, rfl⟩ := hv2
    clear hv hs
    go_enter Try.func15, Try.ntmps15
    go_wp2
    refine wp_loop_rounds 1 ?_
    rw [rounds_succ]
    go_wp2
    go_ret
    exact ⟨rfl, rfl⟩
  · have Hcell := Lib.hid hcell
    have Hs := Lib.hid hs
    obtain ⟨n, hn⟩ : ∃ n, n = L.length := ⟨_, rfl⟩
    rw [← hn] at hc hL ⊢
    have Hn := Lib.hid (fun (_ : Unit) => hn.symm)
    have Hb : Hid (∀ k, k ≤ n → (joinS (L.take k)).size ≤ 3060) := Lib.hid fun k hk => by
      have h1 := joinL_len (L.take k) 100 fun y hy => hs y (List.mem_of_mem_take hy)
      rw [joinS_size]
      have : (L.take k).length ≤ 30 := by rw [List.length_take]; omega
      omega
    clear hcell hs hn
    go_enter Try.func15, Try.ntmps15
    go_wp2
    go_loop [3, 4] (fun s i => ∃ (k : Nat) (t : ByteArray), k ≤ n ∧ i = .int .i64 k ∧ s = .string t ∧ Hid (t = joinS (L.take k))) (fun _ i => n - (intOf i).toNat)
    case atStart => exact ⟨0, _, Nat.zero_le _, rfl, rfl, rfl⟩
    case round =>
      obtain ⟨k, t, hk, rfl, rfl, HT⟩ := hrel
      by_cases hlt : k < n
      · have hk1 : k < L.length := by rw [Hn.out ()]; exact hlt
        have g := Hcell.out k L[k] (List.getElem?_eq_getElem hk1)
        have Hx := Lib.hid (Hs.out L[k] (List.getElem_mem hk1))
        have Ht := Lib.hid (show t ++ L[k] ++ ⟨#[13, 10]⟩ = joinS (L.take (k + 1)) by
          rw [HT.out, joinS_snoc, ← List.take_succ_eq_append_getElem hk1])
        have hts : t.size ≤ 3060 := by rw [HT.out]; exact Hb.out k hk
        obtain ⟨x, hx⟩ : ∃ x, x = L[k] := ⟨_, rfl⟩
        rw [← hx] at g Ht Hx
        have hxs : x.size ≤ 100 := Hx.out
        have q1 : ((9223372036854775807 : Nat) < t.size + x.size) = False := eq_false (by omega)
        obtain ⟨y, hy⟩ : ∃ y, y = t ++ x := ⟨_, rfl⟩
        have hy2 := hy.symm
        rw [← hy] at Ht
        have hys : y.size = t.size + x.size := by rw [hy, ByteArray.size_append]
        have q2 : ((9223372036854775807 : Nat) < y.size + 2) = False := eq_false (by omega)
        have HTT := Ht
        clear hx hk1 HT Hx hxs hts hys hy
        go_wp2
        go_round
        case rel => exact ⟨k + 1, _, by omega, by go_num, rfl, HTT.out⟩
        case measure => simp [intOf]; omega
      · obtain rfl : k = n := by omega
        have Ht := Lib.hid (show t = joinS L by rw [HT.out, List.take_of_length_le (by rw [Hn.out ()]; exact Nat.le_refl _)])
        clear HT
        go_wp2
        go_ret
        exact ⟨ret_text Ht.out, rfl⟩
end Go.Proofs.Ytpmdckljbjomjaa
