/- Errors of package fault: the texts of errors. -/
import Derived.Test.YtnfmokhaghlfjaaDoorErrK
import Derived.Test.YtnfmokhaghlfjaaDoorShelf
import Derived.Lib.SmallJoins
import Derived.WalkSmall
import Derived.Lib.ItoaLen
import Derived.Lib.AppendIntMem
import Derived.Deep.RegionHeld3
namespace Go.Proofs.YtnfmokhaghlfjaaDoor
open Go.RowKit Go.Extern.Stop Go.Stop Go.Extern

/-- The table of package internal/strconv reads as its text lays it. -/
def Pow (w : World) : Prop := Lib.TabIs Tryd.prog w "internal/strconv.uint64pow10" .u64 Lib.pow10Tab
theorem Pow.below {w w' : World} (hb : Below w.heap.size w w') (h : Pow w) : Pow w' :=
  Joins.tab_stays (g := 1) (by kernel_rfl) h hb (Nat.le_refl _)
def TextIn (t : ByteArray) (w : World) (e : Ending) (w' : World) : Prop := e = .returned (.string t) ∧ Below w.heap.size w w'

/-- "status ", and the number. -/
def stText (s : Int) : ByteArray := ⟨#[115, 116, 97, 116, 117, 115, 32]⟩ ++ ⟨(Lib.itoa s).toArray⟩
theorem errorS_any (s : Int) (w : World) (h0 : -9223372036854775808 ≤ s) (h1 : s ≤ 9223372036854775807) (hp : Pow w) :
    Calls Tryd.prog 20 #[.int .i64 s] w (TextIn (stText s) w) := by
  have hl := Lib.itoa_length_le s h0 h1
  have hd : ¬ 9223372036854775807 < 7 + (Lib.itoa s).length := by omega
  unfold stText
  go_enter Tryd.func20, Tryd.ntmps20
  go_wp2_with (go_at_call 35; refine (Tryd.strconv_Itoa s h0 h1 _ hp).mono ?_; rintro e w' ⟨rfl, k, os, rfl⟩)
  go_ret
  exact ⟨rfl, Lib.below_grow _ _ (Nat.le_refl _) _ _⟩
theorem errorF_any (s n : Int) (w : World) (h0 : -9223372036854775808 ≤ s) (h1 : s ≤ 9223372036854775807) (hp : Pow w) :
    Calls Tryd.prog 71 #[.agg #[.int .i64 s, .int .i64 n]] w (TextIn (stText s) w) := by
  have hb : Below w.heap.size w (w.alloc (.cells #[.int .i64 s, .int .i64 n] 39)) := (Below.refl _ _).alloc (Nat.le_refl _) _
  go_enter Tryd.func71, Tryd.ntmps71
  go_wp2_with (go_at_call 20; refine (errorS_any s _ h0 h1 (hp.below hb)).mono ?_; rintro e w' ⟨rfl, hw⟩)
  go_ret
  exact ⟨rfl, hb.trans (hw.mono hb.size)⟩
/-- The names of a chain, each with a colon and a space behind it, ahead of a text. -/
def chText : List ByteArray → ByteArray → ByteArray
  | [], t => t
  | p :: ps, t => (p ++ ⟨#[58, 32]⟩) ++ chText ps t
theorem keep_call {b : Nat} {x y : Value} {w w1 w2 : World} (h : w1.cell? ⟨b, 0, none⟩ = some x ∧ w1.cell? ⟨b, 1, none⟩ = some y ∧ Below w.heap.size w w1) (hw : Below w1.heap.size w1 w2) :
    w2.cell? ⟨b, 0, none⟩ = some x ∧ w2.cell? ⟨b, 1, none⟩ = some y ∧ Below w.heap.size w w2 :=
  ⟨by rw [hw.cell (p := ⟨b, 0, none⟩) (block_of_cell h.1)]; exact h.1, by rw [hw.cell (p := ⟨b, 1, none⟩) (block_of_cell h.2.1)]; exact h.2.1, h.2.2.trans (hw.mono h.2.2.size)⟩
set_option maxRecDepth 100000 in
set_option maxHeartbeats 1000000 in
theorem errorW_one (p : ByteArray) (b : Nat) (t : TypeId) (x : Value) (f : Nat) (txt : ByteArray) (w : World) 
    (hc : w.cell? ⟨b, 0, none⟩ = some (.string p)) (hc1 : w.cell? ⟨b, 1, none⟩ = some (.iface t x)) (hs : p.size ≤ 1000000) (ht : txt.size ≤ 1000000)
    (hm : ∀ w, (Go.method 241 t x "Error").run Tryd.prog w = .ok (f, x) w)
    (hcall : ∀ w, (callFunc f #[x]).run Tryd.prog w = .ok (.enter f #[x]) w)
    (hf : ∀ w', Below w.heap.size w w' → Calls Tryd.prog f #[x] w' (TextIn txt w')) :
    Calls Tryd.prog 73 #[.pointer (some ⟨b, 0, none⟩)] w (TextIn ((p ++ ⟨#[58, 32]⟩) ++ txt) w) := by
  have s1 : ¬ 9223372036854775807 < p.size + 2 := by omega
  have s2 : ¬ 9223372036854775807 < p.size + 2 + txt.size := by omega
  go_enter Tryd.func73, Tryd.ntmps73
  go_wp2_with fail
  go_region_held3 (fun w' => w'.cell? ⟨b, 0, none⟩ = some (.string p) ∧ w'.cell? ⟨b, 1, none⟩ = some (.iface t x) ∧ Below w.heap.size w w') (first | exact ⟨hc, hc1, (Below.refl _ _).drew⟩ | exact keep_call (by assumption) (by assumption) | assumption)
    (first | (refine (hf _ (‹_ ∧ _ ∧ Below w.heap.size w _›).2.2).mono ?_; rintro e w' ⟨rfl, hw'⟩))
  go_wp2
  go_ret
  exact ⟨rfl, (‹_ ∧ _ ∧ Below w.heap.size w _›).2.2⟩
/-- The method Error of an error returns a text, now and whatever else is done in new memory. -/
def HasText (w : World) (v : Value) (txt : ByteArray) : Prop :=
  ∃ t x f, v = .iface t x ∧ (∀ w, (Go.method 241 t x "Error").run Tryd.prog w = .ok (f, x) w) ∧ (∀ w, (callFunc f #[x]).run Tryd.prog w = .ok (.enter f #[x]) w) ∧
    ∀ w', Below w.heap.size w w' → Calls Tryd.prog f #[x] w' (TextIn txt w')
theorem Tryd.enterS (x : Value) (w : World) : (callFunc 20 #[x]).run Tryd.prog w = .ok (.enter 20 #[x]) w := by kernel_rfl
theorem Tryd.enterF (x : Value) (w : World) : (callFunc 71 #[x]).run Tryd.prog w = .ok (.enter 71 #[x]) w := by kernel_rfl
theorem Tryd.enterW (x : Value) (w : World) : (callFunc 73 #[x]).run Tryd.prog w = .ok (.enter 73 #[x]) w := by kernel_rfl
theorem stText_size (s : Int) (h0 : -9223372036854775808 ≤ s) (h1 : s ≤ 9223372036854775807) : (stText s).size ≤ 28 := by
  have := Lib.itoa_length_le s h0 h1
  unfold stText
  rw [ByteArray.size_append]
  show 7 + (Lib.itoa s).toArray.size ≤ 28
  simp; omega
theorem chText_size (t : ByteArray) (ht : t.size ≤ 28) : ∀ ps : List ByteArray, (∀ p ∈ ps, p.size ≤ 100) → (chText ps t).size ≤ 102 * ps.length + 28
  | [], _ => by simpa [chText] using ht
  | p :: ps, h => by
    have h1 := h p (by simp)
    have h2 := chText_size t ht ps (fun q hq => h q (by simp [hq]))
    have h3 : (⟨#[58, 32]⟩ : ByteArray).size = 2 := rfl
    simp only [chText, ByteArray.size_append, List.length_cons, h3]
    omega
theorem hasText_S (s : Int) (h0 : -9223372036854775808 ≤ s) (h1 : s ≤ 9223372036854775807) (w : World) (hp : Pow w) : ∀ (ps : List ByteArray) (v : Value), Chn w ps (baseS s) v → ps.length ≤ 500 → (∀ p ∈ ps, p.size ≤ 100) → HasText w v (chText ps (stText s))
  | [], _, h, _, _ => ⟨_, _, _, h, Tryd.mErrorS _, Tryd.enterS _, fun w' hb => errorS_any s w' h0 h1 (hp.below hb)⟩
  | p :: ps, _, ⟨b, inner, h, hc, hc1, hi⟩, hl, hz => by
    obtain ⟨t, x, f, rfl, hm, he, hf⟩ := hasText_S s h0 h1 w hp ps inner hi (by simp at hl; omega) (fun q hq => hz q (by simp [hq]))
    refine ⟨_, _, _, h, Tryd.mErrorW _, Tryd.enterW _, fun w' hb => ?_⟩
    have hs := chText_size (stText s) (stText_size s h0 h1) ps (fun q hq => hz q (by simp [hq]))
    have := hz p (by simp)
    simp at hl
    exact errorW_one p b t x f _ w' (by rw [hb.cell (p := ⟨b, 0, none⟩) (block_of_cell hc)]; exact hc) (by rw [hb.cell (p := ⟨b, 1, none⟩) (block_of_cell hc)]; exact hc1) (by omega) (by omega) hm he (fun w'' hb' => hf w'' (hb.trans (hb'.mono hb.size)))
theorem hasText_F (s n : Int) (h0 : -9223372036854775808 ≤ s) (h1 : s ≤ 9223372036854775807) (w : World) (hp : Pow w) : ∀ (ps : List ByteArray) (v : Value), Chn w ps (baseF s n) v → ps.length ≤ 500 → (∀ p ∈ ps, p.size ≤ 100) → HasText w v (chText ps (stText s))
  | [], _, h, _, _ => ⟨_, _, _, h, Tryd.mErrorF _, Tryd.enterF _, fun w' hb => errorF_any s n w' h0 h1 (hp.below hb)⟩
  | p :: ps, _, ⟨b, inner, h, hc, hc1, hi⟩, hl, hz => by
    obtain ⟨t, x, f, rfl, hm, he, hf⟩ := hasText_F s n h0 h1 w hp ps inner hi (by simp at hl; omega) (fun q hq => hz q (by simp [hq]))
    refine ⟨_, _, _, h, Tryd.mErrorW _, Tryd.enterW _, fun w' hb => ?_⟩
    have hs := chText_size (stText s) (stText_size s h0 h1) ps (fun q hq => hz q (by simp [hq]))
    have := hz p (by simp)
    simp at hl
    exact errorW_one p b t x f _ w' (by rw [hb.cell (p := ⟨b, 0, none⟩) (block_of_cell hc)]; exact hc) (by rw [hb.cell (p := ⟨b, 1, none⟩) (block_of_cell hc)]; exact hc1) (by omega) (by omega) hm he (fun w'' hb' => hf w'' (hb.trans (hb'.mono hb.size)))
end Go.Proofs.YtnfmokhaghlfjaaDoor
