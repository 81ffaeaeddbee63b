/- Package field: the values of a name (Values$1, selected, Values). -/
import Derived.Test.YtehlhobogpgaaaaDoorFldD
namespace Go.Proofs.YtehlhobogpgaaaaDoor
set_option linter.all false
open Go.RowKit

/-- The values of the fields whose names are lo in small letters. -/
def selS (lo : ByteArray) : List FB → List ByteArray
  | [] => []
  | f :: l => if lowS f.1 = lo then f.2 :: selS lo l else selS lo l
theorem selS_append (lo : ByteArray) : ∀ a b : List FB, selS lo (a ++ b) = selS lo a ++ selS lo b
  | [], _ => rfl
  | f :: l, b => by
    simp only [List.cons_append, selS]
    split
    · rw [selS_append lo l b]; rfl
    · exact selS_append lo l b
theorem selS_len (lo : ByteArray) : ∀ L : List FB, (selS lo L).length ≤ L.length
  | [] => Nat.le_refl _
  | f :: l => by
    have := selS_len lo l
    simp only [selS]
    split <;> simp <;> omega
theorem selS_snoc (lo : ByteArray) (L : List FB) (k : Nat) (hk : k < L.length) : selS lo (L.take (k + 1)) = selS lo (L.take k) ++ (if lowS L[k].1 = lo then [L[k].2] else []) := by
  rw [List.take_succ_eq_append_getElem hk, selS_append]
  congr 1
def SelTo (V : ByteArray) (b : Bool) (w : World) (e : Ending) (w' : World) : Prop := e = .returned (.tuple #[.string V, .bool b]) ∧ Below w.heap.size w w'
theorem keep_sel {b q : Nat} {x y z : Value} {B : Nat} {w w1 w2 : World} (h : w1.cell? ⟨b, 0, none⟩ = some x ∧ w1.cell? ⟨b, 1, none⟩ = some y ∧ w1.cell? ⟨q, 0, none⟩ = some z ∧ Below B w w1) (hB : B ≤ w1.heap.size) (hw : Below w1.heap.size w1 w2) :
    w2.cell? ⟨b, 0, none⟩ = some x ∧ w2.cell? ⟨b, 1, none⟩ = some y ∧ w2.cell? ⟨q, 0, none⟩ = some z ∧ Below B w w2 :=
  ⟨by rw [hw.cell (p := ⟨b, 0, none⟩) (block_of_cell h.1)]; exact h.1, by rw [hw.cell (p := ⟨b, 1, none⟩) (block_of_cell h.2.1)]; exact h.2.1, by rw [hw.cell (p := ⟨q, 0, none⟩) (block_of_cell h.2.2.1)]; exact h.2.2.1, h.2.2.2.trans (hw.mono hB)⟩
set_option maxRecDepth 100000 in
set_option maxHeartbeats 1000000 in
theorem values1_any (N V lo : ByteArray) (q : Nat) (w : World) (hc : w.cell? ⟨q, 0, none⟩ = some (.string lo)) (hN : N.size ≤ 9223372036854775807) :
    Calls Tryd.prog 34 #[.agg #[.string N, .string V], .pointer (some ⟨q, 0, none⟩)] w (SelTo V (decide (lowS N = lo)) w) := by
  have HL := Lib.hid (fun w => lower_any N w hN)
  have b0 := (Below.refl w.heap.size w).alloc (Nat.le_refl _) (.cells #[.string N, .string V] 24)
  obtain ⟨x, hx⟩ : ∃ x, x = lowS N := ⟨_, rfl⟩
  rw [← hx] at HL ⊢
  have Hx := Lib.hid (bytesEq_bool x lo)
  clear hx
  have c2 : (w.alloc (.cells #[.string N, .string V] 24)).cell? ⟨q, 0, none⟩ = some (.string lo) := (b0.cell (World.block_lt_of_cell? w _ hc)).trans hc
  obtain ⟨c0, c1⟩ := (ValsAt.new w [.string N, .string V] 24).two
  have c0 : (w.alloc (.cells #[.string N, .string V] 24)).cell? ⟨w.heap.size, 0, none⟩ = some (.string N) := c0
  have c1 : (w.alloc (.cells #[.string N, .string V] 24)).cell? ⟨w.heap.size, 1, none⟩ = some (.string V) := c1
  go_enter Tryd.func34, Tryd.ntmps34
  go_wp2_with fail
  generalize w.alloc (.cells #[.string N, .string V] 24) = W at c0 c1 c2 b0 ⊢
  generalize hg : w.heap.size = g at c0 c1 ⊢
  have hgW : w.heap.size ≤ W.heap.size := b0.size
  go_region_held3 (fun w' => w'.cell? ⟨g, 0, none⟩ = some (.string N) ∧ w'.cell? ⟨g, 1, none⟩ = some (.string V) ∧ w'.cell? ⟨q, 0, none⟩ = some (.string lo) ∧ Below w.heap.size w w')
    (first | exact ⟨c0, c1, c2, b0⟩ | exact ⟨c0, c1, c2, b0.drew⟩ | exact keep_sel (by assumption) (Below.size (‹_ ∧ _ ∧ _ ∧ Below w.heap.size w _›).2.2.2) (by assumption) | assumption)
    (first | (go_at_call 26; refine (HL.out _).mono ?_; rintro e w' ⟨rfl, hw'⟩))
  go_wp2
  go_ret2
  exact ⟨by rw [Hx.out]; rfl, (‹_ ∧ _ ∧ _ ∧ Below w.heap.size w _›).2.2.2⟩
theorem OwnStrs.lower {w : World} {B B' : Nat} {v : Value} {L : List ByteArray} (h : OwnStrs w B v L) (hb : B' ≤ B) : OwnStrs w B' v L := by
  have h0 : w.ownsRow B 9 1 v L.length (strVals L) := h
  refine ⟨h0.1, ?_⟩
  rcases h0.2 with h2 | ⟨g, cap, cur, rfl, h3, r⟩
  · exact .inl h2
  · exact .inr ⟨g, cap, cur, rfl, Nat.le_trans hb h3, r⟩
def PicksTo (M : List ByteArray) (w : World) (e : Ending) (w' : World) : Prop := ∃ r, e = .returned r ∧ OwnStrs w' w.heap.size r M ∧ Below w.heap.size w w'
set_option maxRecDepth 100000 in
set_option maxHeartbeats 2000000 in
theorem selected_any (v : Value) (L : List FB) (lo : ByteArray) (q : Nat) (w : World) (h : FldsIn w v L) (hc : w.cell? ⟨q, 0, none⟩ = some (.string lo)) (hl : L.length ≤ 1000000) (hz : ∀ f ∈ L, f.1.size ≤ 9223372036854775807) :
    Calls Tryd.prog 33 #[v, .func (.func 34) #[] #[.pointer (some ⟨q, 0, none⟩)]] w (PicksTo (selS lo L) w) := by
  obtain ⟨p, c, rfl⟩ := h.sliced
  have HI := Lib.hid h
  have HC := Lib.hid hc
  have HZ := Lib.hid hz
  obtain ⟨n, hn⟩ : ∃ n, n = L.length := ⟨_, rfl⟩
  rw [← hn] at hl HI ⊢
  have HN := Lib.hid hn
  clear h hc hz hn
  go_enter Tryd.func33, Tryd.ntmps33
  go_wp2
  go_loopw [5, 12] (fun r i wr => ∃ k : Nat, k ≤ n ∧ i = .int .i64 k ∧ Hid (OwnStrs wr w.heap.size r (selS lo (L.take k))) ∧ Hid (Below w.heap.size w wr)) (fun _ i _ => (n - intOf i).toNat)
  case atStart => exact ⟨0, Nat.zero_le _, rfl, OwnStrs.nil _ _, Below.refl _ _⟩
  case round =>
    obtain ⟨k, hk, rfl, HO, HB⟩ := hrel
    by_cases hlt : k < n
    · have hkL : k < L.length := by rw [← HN.out]; exact hlt
      obtain ⟨b, o, hix, hf⟩ := (HI.out.below HB.out).at_ k hkL
      have HS := Lib.hid (selS_snoc lo L k hkL)
      have HLn := Lib.hid (selS_len lo (L.take k))
      have hsz := HZ.out _ (List.getElem_mem hkL)
      obtain ⟨N, hN⟩ : ∃ N, N = L[k].1 := ⟨_, rfl⟩
      obtain ⟨V, hV⟩ : ∃ V, V = L[k].2 := ⟨_, rfl⟩
      obtain ⟨M, hM⟩ : ∃ M, M = selS lo (L.take k) := ⟨_, rfl⟩
      have hf2 : FldAt wr b o (N, V) := by rw [hN, hV]; exact hf
      rw [← hN, ← hV, ← hM] at HS
      rw [← hN] at hsz
      rw [← hM] at HO HLn
      clear hN hV hM hf
      have HV1 := Lib.hid (fun W (hW : W.cell? ⟨q, 0, none⟩ = some (.string lo)) => values1_any N V lo q W hW hsz)
      have hml : M.length ≤ 1000000000 := by
        have h1 := HLn.out
        rw [List.length_take] at h1; omega
      have bA := (Below.refl wr.heap.size wr).alloc (Nat.le_refl _) (.cells #[.string N, .string V] 24)
      have HA := Lib.hid (HB.out.trans (bA.mono HB.out.size))
      have HCA := Lib.hid ((HA.out.cell (World.block_lt_of_cell? w _ HC.out)).trans HC.out)
      have HOA := Lib.hid (HO.out.below bA)
      obtain ⟨c0, c1⟩ := hf2
      have c0 : wr.cell? ⟨b, o, none⟩ = some (.string N) := c0
      have c1 : wr.cell? ⟨b, o + 1, none⟩ = some (.string V) := c1
      clear HLn hkL bA
      go_wp2_with fail
      refine (HV1.out _ HCA.out).mono ?_
      rintro e w' ⟨rfl, b1⟩
      have HO1 := Lib.hid (HOA.out.below b1)
      have HB1 := Lib.hid (HA.out.trans (b1.mono HA.out.size))
      have hBs := HB1.out.size
      clear b1 HOA HCA HA HO HB c0 c1 hix HV1
      by_cases hq : lowS N = lo
      · have hd : decide (lowS N = lo) = true := by simpa using hq
        have HS2 := Lib.hid (show selS lo (L.take (k + 1)) = M ++ [V] by rw [HS.out, if_pos hq])
        rw [hd]
        clear hd hq HS
        go_wp2_with (at_builtin; refine wpList_append_strAt rfl _ _ rfl w.heap.size w' u5 M V rfl HO1.out rfl hml hBs ?_)
        intro v' w3 hown hgr hpl
        have HO3 := Lib.hid hown
        have HB3 := Lib.hid (HB1.out.grown hgr hBs fun j hj => (World.ownsRow.lt HO1.out j hj).1)
        clear hown hgr hpl HO1 HB1
        go_wp2
        go_roundw
        case rel => exact ⟨k + 1, by omega, by go_num, by rw [HS2.out]; exact HO3, HB3⟩
        case measure => simp [intOf]; omega
      · have hd : decide (lowS N = lo) = false := by simpa using hq
        have HS2 := Lib.hid (show selS lo (L.take (k + 1)) = M by rw [HS.out, if_neg hq, List.append_nil])
        rw [hd]
        clear hd hq HS
        go_wp2
        go_roundw
        case rel => exact ⟨k + 1, by omega, by go_num, by rw [HS2.out]; exact HO1, HB1⟩
        case measure => simp [intOf]; omega
    · obtain rfl : k = n := by omega
      have HE := Lib.hid (show OwnStrs wr w.heap.size u5 (selS lo L) by
        have := HO.out
        rwa [List.take_of_length_le (by rw [← HN.out]; exact Nat.le_refl _)] at this)
      clear HO
      go_wp2
      go_ret
      exact ⟨_, rfl, HE.out, HB.out⟩
set_option maxRecDepth 100000 in
set_option maxHeartbeats 2000000 in
theorem values_any (v : Value) (L : List FB) (nm : ByteArray) (w : World) (h : FldsIn w v L) (hl : L.length ≤ 1000000) (hz : ∀ f ∈ L, f.1.size ≤ 9223372036854775807) (hn : nm.size ≤ 9223372036854775807) :
    Calls Tryd.prog 15 #[v, .string nm] w (PicksTo (selS (lowS nm) L) w) := by
  have HI := Lib.hid h
  have HL := Lib.hid (fun w => lower_any nm w hn)
  have HS := Lib.hid (fun q w h hc => selected_any v L (lowS nm) q w h hc hl hz)
  clear h hl hz hn
  obtain ⟨lo, hlo⟩ : ∃ lo, lo = lowS nm := ⟨_, rfl⟩
  rw [← hlo] at HL HS ⊢
  clear hlo
  go_enter Tryd.func15, Tryd.ntmps15
  go_wp2_with fail
  refine (HL.out _).mono ?_
  rintro e w1 ⟨rfl, b1⟩
  have HB1 := Lib.hid b1
  have bA := (Below.refl w1.heap.size w1).alloc (Nat.le_refl _) (.cells #[.string lo] 9)
  have HC := Lib.hid ((ValsAt.new w1 [.string lo] 9) 0 _ rfl)
  have HIA := Lib.hid ((HI.out.below b1).below bA)
  have HBA := Lib.hid (b1.trans (bA.mono b1.size))
  clear b1 bA
  go_wp2_with fail
  refine (HS.out _ _ HIA.out HC.out).mono ?_
  rintro e w2 ⟨r, rfl, ho, hb⟩
  have HO := Lib.hid ho
  have HB := Lib.hid (HBA.out.trans (hb.mono HBA.out.size))
  have HG := Lib.hid (HBA.out.size)
  clear ho hb
  go_wp2
  go_ret
  exact ⟨_, rfl, HO.out.lower HG.out, HB.out⟩
end Go.Proofs.YtehlhobogpgaaaaDoor
