/- The reference's Lower: a string in small letters, appended byte by byte. -/
import Derived.Test.YtfmcdhohmpffbaaDoorOctF
import Derived.Laws.AppendOwn
namespace Go.Proofs.YtfmcdhohmpffbaaDoor
set_option linter.all false
open Go.RowKit

theorem Tryd.infoByte : (Tryd.prog.info? 5).map (fun i => (i.zero, i.size, i.bytes)) = some (some (.int .u8 0), 1, 1) := by kernel_rfl
def byteVals (l : List UInt8) : List Value := l.map fun b => .int .u8 (b.toNat : Int)
/-- A slice that the call itself made, with the bytes l. -/
def OwnBytes (w : World) (base : Nat) (v : Value) (l : List UInt8) : Prop := w.ownsRow base 5 1 v l.length (byteVals l)
theorem OwnBytes.nil (w : World) (base : Nat) : OwnBytes w base (.slice none 0 0) [] := World.ownsRow_nil _ _ _ _
theorem bytes_none (w : World) (src dst e : TypeId) (cap : Nat) {P : Program} (hs : P.underlying src = some (.slice e)) (he : P.underlying e = some (.int .u8)) (hd : P.underlying dst = some .string) :
    (convert src dst (.slice none 0 cap)).run P w = .ok (.string ⟨#[]⟩) w := by
  rw [run_convert_bytes_string w src dst e none 0 cap hs he hd]
  unfold Conv.bytesToString
  simp [Sem.run_pure]
  rfl
theorem OwnBytes.back {w : World} {base : Nat} {v : Value} {l : List UInt8} (h : OwnBytes w base v l) : (convert 43 9 v).run Tryd.prog w = .ok (.string ⟨l.toArray⟩) w := by
  have h0 : w.ownsRow base 5 1 v l.length (l.map fun b => .int .u8 (b.toNat : Int)) := h
  rcases h0.2 with ⟨rfl, hn⟩ | ⟨g, cap, cur, rfl, _⟩
  · have : l = [] := List.length_eq_zero_iff.1 hn
    subst this
    exact bytes_none w 43 9 5 0 Tryd.underlying43 Tryd.underlying5 Tryd.underlying9
  · exact run_convert_bytes_back w 43 9 5 ⟨g, 0, none⟩ cap l Tryd.underlying43 Tryd.underlying5 Tryd.underlying9 fun j hj =>
      h0.cells (g := g) rfl j _ (by simp [List.getElem?_eq_getElem hj])
theorem OwnBytes.more {w : World} {base : Nat} {v : Value} {l : List UInt8} {c : UInt8} {z : Int} (h : w.ownsRow base 5 1 v (l.length + 1) (byteVals l ++ [.int .u8 z])) (hz : z = (c.toNat : Int)) : OwnBytes w base v (l ++ [c]) := by
  subst hz
  unfold OwnBytes byteVals
  rw [List.length_append, List.map_append]
  exact h
theorem below_append {B : Nat} {w wr w1 : World} {v : Value} {l : List UInt8} {o : Obj} (hb : Below B w wr) (hB : B ≤ wr.heap.size) (h : OwnBytes wr B v l) (hg : (wr.alloc o).grownBy w1 v.ownBlock) : Below B w w1 :=
  (hb.alloc hB o).grown hg (by simp; omega) fun k hk => (World.ownsRow.lt h k hk).1
theorem OwnBytes.shape {w : World} {base : Nat} {v : Value} {l : List UInt8} (h : OwnBytes w base v l) : v = .slice none 0 0 ∨ ∃ g cap, v = .slice (some ⟨g, 0, none⟩) l.length cap := by
  have h0 : w.ownsRow base 5 1 v l.length (byteVals l) := h
  rcases h0.2 with ⟨rfl, hn⟩ | ⟨g, cap, cur, rfl, _⟩
  · exact .inl rfl
  · exact .inr ⟨g, cap, rfl⟩
/-- One byte more, at the operation append. -/
theorem wpList_append_byteL {ops : Array Oper} {rest : List Oper} {o : Oper} {a : Act} {Q : Exit → Act → World → Prop} (hgd : o.guard = none) (s x : Operand)
    (ho : o.op = .call { callee := .builtin .append, args := #[s, x], argTypes := #[43, 43] })
    (B : Nat) (w wr : World) (v : Value) (l : List UInt8) (c : UInt8) (z : Int) (hs : a.eval s = v) (hown : OwnBytes wr B v l) (hx : a.eval x = .slice (some ⟨wr.heap.size, 0, none⟩) 1 1) (hz : z = (c.toNat : Int))
    (hl : l.length ≤ 140737488351232) (hB : B ≤ wr.heap.size) (hbel : Below B w wr)
    (h : ∀ v' w', OwnBytes w' B v' (l ++ [c]) → Below B w w' → wpList Tryd.prog ops Q rest (a.put o.dst v') w') : wpList Tryd.prog ops Q (o :: rest) a (wr.alloc (.cells #[.int .u8 z] 5)) := by
  obtain ⟨i0, hi, hz0, hz1, hz2⟩ := info_parts Tryd.infoByte
  have h0 : wr.ownsRow B 5 1 v l.length (byteVals l) := hown
  refine wpList_append_own (P := Tryd.prog) (wr.alloc (.cells #[.int .u8 z] 5)) hgd s x 43 ho B 5 i0 (.int .u8 0) 1 1 Tryd.underlying43 hi hz0 hz1 hz2 rfl (by decide) v l.length _ hs (World.ownsRow.alloc h0 _) ⟨wr.heap.size, 0, none⟩ 1 1 [.int .u8 z] hx rfl ?_ ?_ ?_ ?_ ?_ ?_
  · intro j u hj
    match j, hj with
    | 0, hj =>
      simp at hj; subst hj
      show (wr.alloc _).cell? _ = _
      simp [Addr.add, World.cell?_alloc_mark]
  · intro u hu; simp at hu; subst hu; rfl
  · unfold maxLen; omega
  · omega
  · simp; omega
  · intro v' w' h1 h2 _
    exact h v' w' (OwnBytes.more h1 hz) (below_append hbel hB hown h2)
theorem wpList_append_byte {ops : Array Oper} {rest : List Oper} {o : Oper} {a : Act} {Q : Exit → Act → World → Prop} (hgd : o.guard = none) (s x : Operand)
    (ho : o.op = .call { callee := .builtin .append, args := #[s, x], argTypes := #[43, 43] })
    (B : Nat) (w wr : World) (v : Value) (l : List UInt8) (c : UInt8) (z : Int) (hs : a.eval s = v) (hown : OwnBytes wr B v l) (hx : a.eval x = .slice (some ⟨wr.heap.size, 0, none⟩) 1 1) (hz : z = (c.toNat : Int))
    (hl : l.length ≤ 1000000000) (hB : B ≤ wr.heap.size) (hbel : Below B w wr)
    (h : ∀ v' w', OwnBytes w' B v' (l ++ [c]) → Below B w w' → wpList Tryd.prog ops Q rest (a.put o.dst v') w') : wpList Tryd.prog ops Q (o :: rest) a (wr.alloc (.cells #[.int .u8 z] 5)) :=
  wpList_append_byteL hgd s x ho B w wr v l c z hs hown hx hz (by omega) hB hbel h
theorem ret_text {a b : ByteArray} (h : a = b) : Ending.returned (.string a) = .returned (.string b) := by rw [h]
set_option maxRecDepth 100000 in
theorem refLower_huge (s : ByteArray) (w : World) (hs : s.size ≤ 140737488351232) :
    Calls Tryd.prog 20 #[.string s] w fun e w' => e = .returned (.string (lowS s)) ∧ Below w.heap.size w w' := by
  go_enter Tryd.func20, Tryd.ntmps20
  go_wp2
  go_loopw [3, 4] (fun v i wr => ∃ (k : Nat) (l : List UInt8), k ≤ s.size ∧ i = .int .i64 k ∧ (s.data.toList.take k).map lowU = l ∧ OwnBytes wr w.heap.size v l ∧ Below w.heap.size w wr) (fun _ i _ => s.size - (intOf i).toNat)
  case atStart => exact ⟨0, [], Nat.zero_le _, rfl, rfl, OwnBytes.nil _ _, Below.refl _ _⟩
  case round =>
    obtain ⟨k, l, hk, rfl, hl, hown, hbel⟩ := hrel
    have hsz := hbel.size
    have hle : l.length ≤ 140737488351232 := by rw [← hl]; simp; omega
    have Hl := Lib.hid hl
    clear hl
    by_cases hlt : k < s.size
    · have Htake := Lib.hid (take_snoc s k hlt)
      by_cases hlow : 65 ≤ (s[k].toNat : Int) ∧ (s[k].toNat : Int) ≤ 90
      · obtain ⟨hl1, hl2⟩ := hlow
        have Hz := Lib.hid (show (s[k].toNat : Int) + 32 = ((lowU s[k]).toNat : Int) by rw [lowU_toNat, lowI_yes hl1 hl2])
        go_wp2_with (at_builtin; refine wpList_append_byteL rfl _ _ rfl w.heap.size w wr u3 l (lowU s[k]) _ rfl hown rfl Hz.out hle hsz hbel ?_)
        intro v' w1 hown' hbel'
        clear hown hbel
        have Hown := Lib.hid hown'
        clear hown'
        go_wp2
        go_roundw
        case rel => exact ⟨k + 1, _, by omega, by go_num, by rw [Htake.out, List.map_append, Hl.out]; rfl, Hown.out, hbel'⟩
        case measure => simp [intOf]; omega
      · have Hz := Lib.hid (show (s[k].toNat : Int) = ((lowU s[k]).toNat : Int) by rw [lowU_toNat, lowI_no hlow])
        by_cases hl1 : 65 ≤ (s[k].toNat : Int)
        all_goals
          have hl2 : 90 < (s[k].toNat : Int) ∨ ¬ 65 ≤ (s[k].toNat : Int) := by omega
          clear hlow
          first
          | (have hl3 : 90 < (s[k].toNat : Int) := by omega)
          | skip
          clear hl2
          go_wp2_with (at_builtin; refine wpList_append_byteL rfl _ _ rfl w.heap.size w wr u3 l (lowU s[k]) _ rfl hown rfl Hz.out hle hsz hbel ?_)
          intro v' w1 hown' hbel'
          clear hown hbel
          have Hown := Lib.hid hown'
          clear hown'
          go_wp2
          go_roundw
          case rel => exact ⟨k + 1, _, by omega, by go_num, by rw [Htake.out, List.map_append, Hl.out]; rfl, Hown.out, hbel'⟩
          case measure => simp [intOf]; omega
    · obtain rfl : k = s.size := by omega
      have hback := hown.back
      rcases hown.shape with rfl | ⟨g, cap, rfl⟩
      all_goals
        clear hown
        go_wp2
        go_ret
        exact ⟨ret_text (by rw [← Hl.out]; unfold lowS; rw [List.take_of_length_le (by simp)]), hbel⟩
theorem refLower_big (s : ByteArray) (w : World) (hs : s.size ≤ 4000000) :
    Calls Tryd.prog 20 #[.string s] w fun e w' => e = .returned (.string (lowS s)) ∧ Below w.heap.size w w' := refLower_huge s w (by omega)
theorem refLower_any (s : ByteArray) (w : World) (hs : s.size ≤ 1000000) :
    Calls Tryd.prog 20 #[.string s] w fun e w' => e = .returned (.string (lowS s)) ∧ Below w.heap.size w w' := refLower_big s w (by omega)
end Go.Proofs.YtfmcdhohmpffbaaDoor
