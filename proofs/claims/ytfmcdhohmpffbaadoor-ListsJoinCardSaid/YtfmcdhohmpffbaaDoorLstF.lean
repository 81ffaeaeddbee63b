/- lists.Join; the reference's Join and Few. -/
import Derived.Test.YtfmcdhohmpffbaaDoorTxt
import Derived.Test.YtfmcdhohmpffbaaDoorLstE
namespace Go.Proofs.YtfmcdhohmpffbaaDoor
set_option linter.all false
open Go.RowKit Go.Shelf

theorem joinB_size {L : List ByteArray} (m : Nat) (hs : ∀ s ∈ L, s.size ≤ m) : (joinB L).size ≤ L.length * (m + 2) := by
  unfold joinB
  rw [Lib.size_eq, mkB_data]
  cases L with
  | nil => simp [Lib.join_nil]
  | cons x r =>
    rw [List.map_cons, Lib.join_cons, List.length_append]
    have h1 : ∀ r : List ByteArray, (∀ s ∈ r, s.size ≤ m) → (Lib.joinTail [44, 32] (r.map (·.data.toList))).length ≤ r.length * (m + 2) := fun r hr => by
      induction r with
      | nil => simp [Lib.joinTail]
      | cons y q ih =>
        have h2 := ih fun s hs => hr s (List.mem_cons_of_mem _ hs)
        have h3 := hr y (by simp)
        rw [Lib.size_eq] at h3
        simp only [Lib.joinTail, List.map_cons, List.flatten_cons, List.length_append, List.length_cons, List.length_nil] at h2 ⊢
        rw [Nat.add_mul]
        omega
    have h2 := h1 r fun s h => hs s (List.mem_cons_of_mem _ h)
    have h3 := hs x (by simp)
    rw [Lib.size_eq] at h3
    rw [List.length_cons, Nat.add_mul]
    omega
theorem join_std (vs : Value) (L : List ByteArray) (w : World) (hL : StrsIn w vs L) (hz : (joinB L).size ≤ 1000000000) (hn : L.length ≤ 1000000000) :
    Calls Tryd.prog 26 #[vs, .string ⟨#[44, 32]⟩] w fun e w' => e = .returned (.string (joinB L)) ∧ Below w.heap.size w w' := by
  rcases hL with ⟨rfl, h⟩ | ⟨b, off, cap, rfl, h1, h2, h3⟩
  · have : ∃ a c, vs = .slice a 0 c := by
      rcases h with rfl | ⟨ad, cap, rfl⟩
      · exact ⟨none, 0, rfl⟩
      · exact ⟨_, _, rfl⟩
    obtain ⟨a, c, rfl⟩ := this
    exact (Any.strings_Join_none Tryd.lays156 Tryd.Builder_Extra_156 a c ⟨#[44, 32]⟩ w).mono fun e w' ⟨he, hw⟩ => ⟨he, hw ▸ Below.refl _ _⟩
  · by_cases h0 : L = []
    · subst h0
      exact (Any.strings_Join_none Tryd.lays156 Tryd.Builder_Extra_156 _ cap ⟨#[44, 32]⟩ w).mono fun e w' ⟨he, hw⟩ => ⟨he, hw ▸ Below.refl _ _⟩
    · have hpos : 0 < L.length := List.length_pos_iff.2 h0
      have hbk : b < w.heap.size := World.block_lt_of_cell? w ⟨b, off + 0, none⟩ (h3 0 L[0] (List.getElem?_eq_getElem hpos))
      have hlen : (Lib.join (L.map (·.data.toList)) [44, 32]).length = (joinB L).size := by rw [Lib.size_eq, joinB, mkB_data]
      exact Tryd.strings_Join b off cap L ⟨#[44, 32]⟩ w (fun j x hj => h3 j x hj) hbk (by omega) h1 (by show (Lib.join _ [44, 32]).length ≤ _; rw [hlen]; omega)
set_option maxRecDepth 100000 in
theorem join_any (vs : Value) (L : List ByteArray) (w : World) (hL : StrsIn w vs L) (hz : (joinB L).size ≤ 1000000000) (hn : L.length ≤ 1000000000) :
    Calls Tryd.prog 17 #[vs] w fun e w' => e = .returned (.string (joinB L)) ∧ Below w.heap.size w w' := by
  obtain ⟨pv, cv, hvs⟩ := hL.sliced
  obtain ⟨m, hm⟩ : ∃ m, m = L.length := ⟨_, rfl⟩
  rw [← hm] at hvs
  subst hvs
  have HJ := Lib.hid (join_std _ L w hL hz hn)
  clear hL hm
  go_enter Tryd.func17, Tryd.ntmps17
  go_wp2_with (go_at_call 26; refine HJ.out.mono ?_; rintro e w2 ⟨rfl, hB⟩)
  go_ret
  exact ⟨rfl, hB⟩
/-! ### Few -/
def fewL (L : List ByteArray) : Bool := L.all (fun s => decide (s.size ≤ 300)) && decide (L.length ≤ 20)
theorem fewL_parts {L : List ByteArray} (h : fewL L = true) : (∀ s ∈ L, s.size ≤ 300) ∧ L.length ≤ 20 := by
  unfold fewL at h
  rw [Bool.and_eq_true, List.all_eq_true, decide_eq_true_eq] at h
  exact ⟨fun s hs => of_decide_eq_true (h.1 s hs), h.2⟩
theorem fewL_no {L : List ByteArray} {k : Nat} (hk : k < L.length) (h : 300 < L[k].size) : fewL L = false := by
  unfold fewL
  have : L.all (fun s => decide (s.size ≤ 300)) = false := by
    rw [List.all_eq_false]
    exact ⟨L[k], List.getElem_mem hk, by simp; omega⟩
  rw [this]; rfl
theorem fewL_take {L : List ByteArray} {k : Nat} (hk : k < L.length) (h : ∀ s ∈ L.take k, s.size ≤ 300) (h' : L[k].size ≤ 300) : ∀ s ∈ L.take (k + 1), s.size ≤ 300 := by
  rw [List.take_succ_eq_append_getElem hk]
  intro s hs
  rcases List.mem_append.1 hs with hs | hs
  · exact h s hs
  · rw [List.mem_singleton] at hs; rw [hs]; exact h'
set_option maxRecDepth 100000 in
set_option maxHeartbeats 2000000 in
theorem fewL_any (vs : Value) (L : List ByteArray) (w : World) (hL : StrsIn w vs L) :
    Calls Tryd.prog 9 #[vs] w fun e w' => e = .returned (.bool (fewL L)) ∧ w = w' := by
  have hlen : L.length ≤ 9223372036854775807 := by
    rcases hL with ⟨rfl, _⟩ | ⟨b, off, cap, _, h1, h2, _⟩
    · simp
    · omega
  obtain ⟨pv, cv, hvs⟩ := hL.sliced
  obtain ⟨n, hn⟩ : ∃ n, n = L.length := ⟨_, rfl⟩
  rw [← hn] at hvs hlen
  subst hvs
  have HL := Lib.hid hL
  have HN := Lib.hid hn
  clear hL hn
  go_enter Tryd.func9, Tryd.ntmps9
  go_wp2
  go_loop [3] (fun i => ∃ k : Nat, k ≤ n ∧ i = .int .i64 k ∧ Hid (∀ s ∈ L.take k, s.size ≤ 300)) (fun i => (n - intOf i).toNat)
  case atStart => exact ⟨0, Nat.zero_le _, rfl, fun s hs => by simp at hs⟩
  case round =>
    obtain ⟨k, hk, rfl, HF⟩ := hrel
    by_cases hlt : k < n
    · have hkL : k < L.length := by rw [← HN.out]; exact hlt
      obtain ⟨b, o, hix, c0⟩ := HL.out.at2 k hkL
      obtain ⟨x, hx⟩ : ∃ x, x = L[k] := ⟨_, rfl⟩
      rw [← hx] at c0
      have HX := Lib.hid hx
      clear hx
      by_cases hz : 300 < x.size
      · have HFw := Lib.hid (fewL_no hkL (by rw [← HX.out]; exact hz))
        clear HX hkL
        go_wp2
        go_ret
        exact ⟨by rw [HFw.out]; rfl, rfl⟩
      · have HF2 := Lib.hid (fewL_take hkL HF.out (by rw [← HX.out]; omega))
        clear HX hkL
        go_wp2
        go_round
        case rel => exact ⟨k + 1, by omega, by go_num, HF2⟩
        case measure => simp [intOf]; omega
    · obtain rfl : k = n := by omega
      have HF2 := Lib.hid (show fewL L = decide ((k : Int) ≤ 20) by
        have h1 : L.all (fun s => decide (s.size ≤ 300)) = true := by
          rw [List.all_eq_true]
          intro s hs
          have := HF.out s (by rw [HN.out, List.take_length]; exact hs)
          exact decide_eq_true this
        have hN := HN.out
        unfold fewL
        rw [h1, ← hN, Bool.true_and]
        exact decide_eq_decide.2 (by omega))
      go_wp2
      go_ret
      exact ⟨by rw [HF2.out]; rfl, rfl⟩
/-! ### the reference's Join -/
theorem joinB_nil : joinB [] = ⟨#[]⟩ := rfl
theorem joinB_first {L : List ByteArray} (h : 0 < L.length) : joinB (L.take 1) = L[0] := by
  cases L with
  | nil => simp at h
  | cons x r => simp [joinB, Lib.join_one, mkB_of]
theorem joinB_next {L : List ByteArray} {k : Nat} (hk : 0 < k) (h : k < L.length) : joinB (L.take (k + 1)) = joinB (L.take k) ++ ⟨#[44, 32]⟩ ++ L[k] := by
  cases L with
  | nil => simp at h
  | cons x r =>
    obtain ⟨j, rfl⟩ : ∃ j, k = j + 1 := ⟨k - 1, by omega⟩
    have hj : j < r.length := by simpa using h
    have h1 := Lib.joinTail_take_succ [44, 32] (r.map (·.data.toList)) j r[j].data.toList (by simp [hj])
    simp only [joinB, List.take_succ_cons, List.map_cons, Lib.join_cons, List.getElem_cons_succ, List.map_take]
    rw [h1, text_cat, text_cat]
    simp [mkB]
theorem joinB_take_size {L : List ByteArray} (hs : ∀ s ∈ L, s.size ≤ 300) (hn : L.length ≤ 40) (k : Nat) : (joinB (L.take k)).size ≤ 20000 := by
  have h1 := joinB_size (L := L.take k) 300 fun s h => hs s (List.mem_of_mem_take h)
  have h2 : (L.take k).length ≤ 40 := by rw [List.length_take]; omega
  have h3 : (L.take k).length * 302 ≤ 40 * 302 := Nat.mul_le_mul h2 (Nat.le_refl _)
  omega
set_option maxRecDepth 100000 in
set_option maxHeartbeats 2000000 in
theorem refJoin_any (vs : Value) (L : List ByteArray) (w : World) (hL : StrsIn w vs L) (hs : ∀ s ∈ L, s.size ≤ 300) (hn20 : L.length ≤ 40) :
    Calls Tryd.prog 18 #[vs] w fun e w' => e = .returned (.string (joinB L)) ∧ w = w' := by
  obtain ⟨pv, cv, hvs⟩ := hL.sliced
  obtain ⟨n, hn⟩ : ∃ n, n = L.length := ⟨_, rfl⟩
  have HZ := Lib.hid (fun k => joinB_take_size hs hn20 k)
  rw [← hn] at hvs hn20
  subst hvs
  have HL := Lib.hid hL
  have HN := Lib.hid hn
  have HS := Lib.hid hs
  clear hL hn hs
  go_enter Tryd.func18, Tryd.ntmps18
  go_wp2
  go_loop [3, 4] (fun t i => ∃ (k : Nat) (s : ByteArray), k ≤ n ∧ i = .int .i64 k ∧ t = .string s ∧ Hid (s = joinB (L.take k)) ∧ s.size ≤ 20000) (fun _ i => (n - intOf i).toNat)
  case atStart => exact ⟨0, ⟨#[]⟩, Nat.zero_le _, rfl, rfl, rfl, by decide⟩
  case round =>
    obtain ⟨k, s, hk, rfl, rfl, HJ, hsz⟩ := hrel
    by_cases hlt : k < n
    · have hkL : k < L.length := by rw [← HN.out]; exact hlt
      obtain ⟨b, o, hix, c0⟩ := HL.out.at2 k hkL
      obtain ⟨x, hx⟩ : ∃ x, x = L[k] := ⟨_, rfl⟩
      rw [← hx] at c0
      have hxs : x.size ≤ 300 := by rw [hx]; exact HS.out _ (List.getElem_mem hkL)
      have HE0 := Lib.hid (fun h0 : k = 0 => show s ++ x = joinB (L.take (k + 1)) by
        subst h0
        rw [hx, HJ.out, joinB_first hkL, text_cat]
        simp [joinB, Lib.join_nil, mkB])
      have HE1 := Lib.hid (fun h0 : 0 < k => show s ++ ⟨#[44, 32]⟩ ++ x = joinB (L.take (k + 1)) by rw [hx, HJ.out, joinB_next h0 hkL])
      have HZ2 := Lib.hid (HZ.out (k + 1))
      clear hx hkL
      have g1 : (9223372036854775807 < s.size + x.size) = False := eq_false (by omega)
      have g2 : (9223372036854775807 < s.size + 2) = False := eq_false (by omega)
      have g3 : (9223372036854775807 < s.size + 2 + x.size) = False := eq_false (by omega)
      by_cases h0 : k = 0
      · have HE := Lib.hid (HE0.out h0)
        have h2 : ¬ ((0 : Int) < (k : Int)) := by omega
        clear h0
        go_wp2
        go_round
        case rel => exact ⟨k + 1, s ++ x, by omega, by go_num, rfl, HE.out, by rw [HE.out]; exact HZ2.out⟩
        case measure => simp [intOf]; omega
      · have HE := Lib.hid (HE1.out (by omega))
        have h2 : ((0 : Int) < (k : Int)) := by omega
        clear h0
        go_wp2
        go_round
        case rel => exact ⟨k + 1, s ++ ⟨#[44, 32]⟩ ++ x, by omega, by go_num, rfl, HE, by rw [HE.out]; exact HZ2.out⟩
        case measure => simp [intOf]; omega
    · obtain rfl : k = n := by omega
      have HJ2 := Lib.hid (show s = joinB L by rw [HJ.out, HN.out, List.take_length])
      go_wp2
      go_ret
      exact ⟨by rw [← HJ2.out]; rfl, rfl⟩
end Go.Proofs.YtfmcdhohmpffbaaDoor
