/- doorkeeperlaw01.Build makes a chain; doorkeeperref01.Text is the text of it. -/
import Derived.Test.YtnfmokhaghlfjaaDoorErrO
namespace Go.Proofs.YtnfmokhaghlfjaaDoor
open Go.RowKit Go.Extern.Stop Go.Stop Go.Extern

def baseOf (s n : Int) (f : Bool) : Value := if f then baseF s n else baseS s
theorem baseOf_iface (s n : Int) (f : Bool) : ∃ t x, baseOf s n f = .iface t x := by cases f <;> exact ⟨_, _, rfl⟩
def BuiltIn (ps : List ByteArray) (base : Value) (w : World) (e : Ending) (w' : World) : Prop := ∃ v, e = .returned v ∧ Chn w' ps base v ∧ Below w.heap.size w w'
theorem rev_succ (ps : List ByteArray) (k : Nat) (h : k < ps.length) : (ps.take (k + 1)).reverse = ps[k] :: (ps.take k).reverse := by
  rw [List.take_succ_eq_append_getElem h, List.reverse_append]; rfl

set_option maxRecDepth 100000 in
set_option maxHeartbeats 1000000 in
theorem build_any (sv : Value) (ps : List ByteArray) (s n : Int) (f : Bool) (w : World) (hs : Strs w sv ps) :
    Calls Tryd.prog 10 #[.agg #[sv, .int .i64 s, .int .i64 n, .bool f]] w (BuiltIn ps.reverse (baseOf s n f) w) := by
  rcases hs with ⟨rfl, a, cap, rfl⟩ | ⟨b, off, cap, rfl, hpos, hmax, hc, hz⟩
  · cases f
    all_goals
      go_enter Tryd.func10, Tryd.ntmps10
      go_wp2
      refine wp_loop_rounds 1 ?_
      rw [rounds_succ]
      go_wp2
      go_ret
      exact ⟨_, rfl, rfl, (Below.refl _ _).alloc (Nat.le_refl _) _⟩
  · have hlt := block_of_cell (hc 0 hpos)
    cases f
    · have hb0 : Below w.heap.size w (w.alloc (.cells #[.slice (some ⟨b, off, none⟩) ps.length cap, .int .i64 s, .int .i64 n, .bool false] 24)) := (Below.refl _ _).alloc (Nat.le_refl _) _
      have hbox : (w.alloc (.cells #[.slice (some ⟨b, off, none⟩) ps.length cap, .int .i64 s, .int .i64 n, .bool false] 24)).cell? ⟨w.heap.size, 0, none⟩ = some (.slice (some ⟨b, off, none⟩) ps.length cap) := by simp
      have HB := Lib.hid hbox
      clear hbox
      go_enter Tryd.func10, Tryd.ntmps10
      go_wp2
      go_loopw [3, 4] (fun v i wr => ∃ k : Nat, k ≤ ps.length ∧ i = .int .i64 k ∧ Chn wr (ps.take k).reverse (baseOf s n false) v ∧ Below (w.heap.size + 1) (w.alloc (.cells #[.slice (some ⟨b, off, none⟩) ps.length cap, .int .i64 s, .int .i64 n, .bool false] 24)) wr) (fun _ i _ => ps.length - (intOf i).toNat)
      case atStart => exact ⟨0, Nat.zero_le _, rfl, rfl, Below.refl _ _⟩
      case round =>
        obtain ⟨k, hk, rfl, hch, hbr⟩ := hrel
        obtain ⟨ti, xi, rfl⟩ := hch.iface (baseOf_iface s n false)
        have hcb : wr.cell? ⟨w.heap.size, 0, none⟩ = some (.slice (some ⟨b, off, none⟩) ps.length cap) := by rw [hbr.cell (p := ⟨w.heap.size, 0, none⟩) (by show w.heap.size < _; omega)]; exact HB.out
        by_cases hlk : k < ps.length
        · have hck : wr.cell? ⟨b, off + k, none⟩ = some (.string (ps.getD k ByteArray.empty)) := by
            rw [hbr.cell (p := ⟨b, off + k, none⟩) (by show b < _; omega), hb0.cell (p := ⟨b, off + k, none⟩) hlt]; exact hc k hlk
          go_wp2_with (go_at_call 14; refine (in_some _ _ _ _).mono ?_; rintro e w' ⟨rfl, rfl⟩)
          go_roundw
          case rel => exact ⟨k + 1, by omega, by go_num, by rw [rev_succ ps k hlk]; exact hch.wrap _, hbr.alloc (by have := hbr.size; simp at this; omega) _⟩
          case measure => simp [intOf]; omega
        · go_wp2
          go_ret
          exact ⟨_, rfl, by have := hch; rwa [List.take_of_length_le (by omega)] at this, hb0.trans (hbr.mono (by omega))⟩
    · have hb0 : Below w.heap.size w (w.alloc (.cells #[.slice (some ⟨b, off, none⟩) ps.length cap, .int .i64 s, .int .i64 n, .bool true] 24)) := (Below.refl _ _).alloc (Nat.le_refl _) _
      have hbox : (w.alloc (.cells #[.slice (some ⟨b, off, none⟩) ps.length cap, .int .i64 s, .int .i64 n, .bool true] 24)).cell? ⟨w.heap.size, 0, none⟩ = some (.slice (some ⟨b, off, none⟩) ps.length cap) := by simp
      have HB := Lib.hid hbox
      clear hbox
      go_enter Tryd.func10, Tryd.ntmps10
      go_wp2
      go_loopw [3, 4] (fun v i wr => ∃ k : Nat, k ≤ ps.length ∧ i = .int .i64 k ∧ Chn wr (ps.take k).reverse (baseOf s n true) v ∧ Below (w.heap.size + 1) (w.alloc (.cells #[.slice (some ⟨b, off, none⟩) ps.length cap, .int .i64 s, .int .i64 n, .bool true] 24)) wr) (fun _ i _ => ps.length - (intOf i).toNat)
      case atStart => exact ⟨0, Nat.zero_le _, rfl, rfl, Below.refl _ _⟩
      case round =>
        obtain ⟨k, hk, rfl, hch, hbr⟩ := hrel
        obtain ⟨ti, xi, rfl⟩ := hch.iface (baseOf_iface s n true)
        have hcb : wr.cell? ⟨w.heap.size, 0, none⟩ = some (.slice (some ⟨b, off, none⟩) ps.length cap) := by rw [hbr.cell (p := ⟨w.heap.size, 0, none⟩) (by show w.heap.size < _; omega)]; exact HB.out
        by_cases hlk : k < ps.length
        · have hck : wr.cell? ⟨b, off + k, none⟩ = some (.string (ps.getD k ByteArray.empty)) := by
            rw [hbr.cell (p := ⟨b, off + k, none⟩) (by show b < _; omega), hb0.cell (p := ⟨b, off + k, none⟩) hlt]; exact hc k hlk
          go_wp2_with (go_at_call 14; refine (in_some _ _ _ _).mono ?_; rintro e w' ⟨rfl, rfl⟩)
          go_roundw
          case rel => exact ⟨k + 1, by omega, by go_num, by rw [rev_succ ps k hlk]; exact hch.wrap _, hbr.alloc (by have := hbr.size; simp at this; omega) _⟩
          case measure => simp [intOf]; omega
        · go_wp2
          go_ret
          exact ⟨_, rfl, by have := hch; rwa [List.take_of_length_le (by omega)] at this, hb0.trans (hbr.mono (by omega))⟩

/-- The text of a chain, from the inside to the outside. -/
theorem text_succ (ps : List ByteArray) (k : Nat) (h : k < ps.length) (t : ByteArray) : (ps[k] ++ ⟨#[58, 32]⟩) ++ chText (ps.take k).reverse t = chText (ps.take (k + 1)).reverse t := by
  rw [rev_succ ps k h]; rfl
theorem take_short {ps : List ByteArray} (h : ∀ p ∈ ps, p.size ≤ 100) (k : Nat) : ∀ p ∈ (ps.take k).reverse, p.size ≤ 100 :=
  fun p hp => h p (List.mem_of_mem_take (List.mem_reverse.1 hp))

set_option maxRecDepth 100000 in
set_option maxHeartbeats 1000000 in
theorem text_any (sv : Value) (ps : List ByteArray) (s n : Int) (f : Bool) (w : World) (hs : Strs w sv ps) (h0 : -9223372036854775808 ≤ s) (h1 : s ≤ 9223372036854775807) (hlen : ps.length ≤ 20) (hshort : ∀ p ∈ ps, p.size ≤ 100) :
    Calls Tryd.prog 13 #[.agg #[sv, .int .i64 s, .int .i64 n, .bool f]] w (TextIn (chText ps.reverse (stText s)) w) := by
  have hl := Lib.itoa_length_le s h0 h1
  have hd : ¬ 9223372036854775807 < 7 + (Lib.itoa s).length := by omega
  have HL := Lib.hid (stText_size s h0 h1)
  have D := Lib.hid (dec_any s)
  have est := Lib.hid (show stText s = ⟨#[115, 116, 97, 116, 117, 115, 32]⟩ ++ ⟨(Lib.itoa s).toArray⟩ from rfl)
  rcases hs with ⟨rfl, a, cap, rfl⟩ | ⟨b, off, cap, rfl, hpos, hmax, hc, hz⟩
  · go_enter Tryd.func13, Tryd.ntmps13
    go_wp2_with (go_at_call 28; refine (D.out _ h0 h1).mono ?_; rintro e w' ⟨rfl, q, rfl⟩)
    refine wp_loop_rounds 1 ?_
    rw [rounds_succ]
    go_wp2
    go_ret
    exact ⟨ret_string est.out.symm, below_drewN ((Below.refl _ _).alloc (Nat.le_refl _) _) _⟩
  · have hlt := block_of_cell (hc 0 hpos)
    have hb0 : Below w.heap.size w (w.alloc (.cells #[.slice (some ⟨b, off, none⟩) ps.length cap, .int .i64 s, .int .i64 n, .bool f] 24)) := (Below.refl _ _).alloc (Nat.le_refl _) _
    go_enter Tryd.func13, Tryd.ntmps13
    go_wp2_with (go_at_call 28; refine (D.out _ h0 h1).mono ?_; rintro e w' ⟨rfl, q, rfl⟩)
    rw [← est.out]
    go_loop [3, 4] (fun v i => ∃ k : Nat, k ≤ ps.length ∧ i = .int .i64 k ∧ v = .string (chText (ps.take k).reverse (stText s))) (fun _ i => ps.length - (intOf i).toNat)
    case atStart => exact ⟨0, Nat.zero_le _, rfl, rfl⟩
    case round =>
      obtain ⟨k, hk, rfl, rfl⟩ := hrel
      by_cases hlk : k < ps.length
      · have hck := hc k hlk
        have z1 := hshort ps[k] (List.getElem_mem hlk)
        have z2 := chText_size (stText s) HL.out (ps.take k).reverse (take_short hshort k)
        have z3 : (ps.take k).reverse.length ≤ 20 := by rw [List.length_reverse]; exact Nat.le_trans (List.length_take_le _ _) (by omega)
        have d1 : ¬ 9223372036854775807 < ps[k].size + 2 := by omega
        have d2 : ¬ 9223372036854775807 < ps[k].size + 2 + (chText (ps.take k).reverse (stText s)).size := by omega
        have HT := Lib.hid (text_succ ps k hlk (stText s))
        clear z1 z2 z3
        go_wp2
        go_round
        case rel => exact ⟨k + 1, by omega, by go_num, by rw [HT.out]⟩
        case measure => simp [intOf]; omega
      · go_wp2
        go_ret
        exact ⟨ret_string (by rw [List.take_of_length_le (by omega)]), below_drewN hb0 _⟩
end Go.Proofs.YtnfmokhaghlfjaaDoor
