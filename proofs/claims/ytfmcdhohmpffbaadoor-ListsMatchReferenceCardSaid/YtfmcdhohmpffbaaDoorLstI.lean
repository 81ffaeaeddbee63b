/- awake of layer 12. -/
import Derived.Test.YtfmcdhohmpffbaaDoorLstH
namespace Go.Proofs.YtfmcdhohmpffbaaDoor
set_option linter.all false
open Go.RowKit Go.Shelf

theorem lit_strs (W : World) (xs : List ByteArray) (hn : xs.length ≤ 9223372036854775807) : StrsIn (W.alloc (.cells (xs.map Value.string).toArray 9)) (.slice (some ⟨W.heap.size, 0, none⟩) xs.length xs.length) xs := by
  refine .inr ⟨W.heap.size, 0, xs.length, rfl, Nat.le_refl _, hn, fun i u hi => ?_⟩
  have h1 := World.alloc_heap_new W (.cells (xs.map Value.string).toArray 9)
  unfold World.cell?
  rw [h1]
  simp [hi]
abbrev awA : List ByteArray := [⟨#[97, 44, 32, 44, 98]⟩, ⟨#[67]⟩]
abbrev awB : List ByteArray := [⟨#[97, 32, 98]⟩]
abbrev awC : List ByteArray := [⟨#[97, 44, 32, 99, 108, 111, 115, 101]⟩]
abbrev awD : List ByteArray := [⟨#[97]⟩]
abbrev awE : List ByteArray := [⟨#[97]⟩, ⟨#[98]⟩]
theorem aw1 : toksA awA = [⟨#[97]⟩, ⟨#[98]⟩, ⟨#[99]⟩] ∧ toksOk awA = true := by decide +kernel
theorem aw2 : toksOk awB = false := by decide +kernel
theorem aw3 : elsA awA = [⟨#[97]⟩, ⟨#[98]⟩, ⟨#[67]⟩] := by decide +kernel
theorem aw4 : hasA ⟨#[67, 76, 79, 83, 69]⟩ awC = true := by decide +kernel
theorem aw5 : hasA ⟨#[120]⟩ awD = false := by decide +kernel
theorem aw6 : joinB awE = ⟨#[97, 44, 32, 98]⟩ := by decide +kernel
theorem aw_small (L : List ByteArray) (h : L.all (fun s => decide (s.size ≤ 20000)) = true) : ∀ s ∈ L, s.size ≤ 20000 := fun s hs => of_decide_eq_true (List.all_eq_true.1 h s hs)
theorem gets_at {L M : List ByteArray} {w : World} {e : Ending} {w' : World} (h : Gets L w e w') (hm : L = M) : Gets M w e w' := hm ▸ h
theorem awTok1 (v : Value) (W : World) (h : StrsIn W v awA) : Calls Tryd.prog 10 #[v] W (Gets2 [⟨#[97]⟩, ⟨#[98]⟩, ⟨#[99]⟩] true W) := by
  have := tokens_gets v awA W h (aw_small _ (by decide)) (by decide)
  rwa [aw1.1, aw1.2] at this
theorem awTok2 (v : Value) (W : World) (h : StrsIn W v awB) : Calls Tryd.prog 10 #[v] W (Gets2 (toksA awB) false W) := by
  have := tokens_gets v awB W h (aw_small _ (by decide)) (by decide)
  rwa [aw2] at this
theorem awEls (v : Value) (W : World) (h : StrsIn W v awA) : Calls Tryd.prog 13 #[v] W (Gets [⟨#[97]⟩, ⟨#[98]⟩, ⟨#[67]⟩] W) := by
  have := elements_gets v awA W h (aw_small _ (by decide)) (by decide)
  rwa [aw3] at this
theorem awHas1 (v : Value) (W : World) (h : StrsIn W v awC) : Calls Tryd.prog 15 #[.string ⟨#[67, 76, 79, 83, 69]⟩, v] W (SaysIn true W) := by
  have := has_any ⟨#[67, 76, 79, 83, 69]⟩ v awC W h (aw_small _ (by decide)) (by decide) (by decide)
  rwa [aw4] at this
theorem awHas2 (v : Value) (W : World) (h : StrsIn W v awD) : Calls Tryd.prog 15 #[.string ⟨#[120]⟩, v] W (SaysIn false W) := by
  have := has_any ⟨#[120]⟩ v awD W h (aw_small _ (by decide)) (by decide) (by decide)
  rwa [aw5] at this
theorem awJoin (v : Value) (W : World) (h : StrsIn W v awE) : Calls Tryd.prog 17 #[v] W fun e w' => e = .returned (.string ⟨#[97, 44, 32, 98]⟩) ∧ Below W.heap.size W w' := by
  have := join_any v awE W h (by rw [aw6]; decide) (by decide)
  rwa [aw6] at this
theorem awTexts1 (v1 v2 : Value) (W : World) (h1 : StrsIn W v1 [⟨#[97]⟩, ⟨#[98]⟩, ⟨#[67]⟩]) (h2 : StrsIn W v2 [⟨#[97]⟩, ⟨#[98]⟩, ⟨#[67]⟩]) : Calls Tryd.prog 12 #[v1, v2] W (SaysIn true W) := texts_any v1 v2 _ W h1 h2 (by decide)
theorem awTexts2 (v1 v2 : Value) (W : World) (h1 : StrsIn W v1 [⟨#[97]⟩, ⟨#[98]⟩, ⟨#[99]⟩]) (h2 : StrsIn W v2 [⟨#[97]⟩, ⟨#[98]⟩, ⟨#[99]⟩]) : Calls Tryd.prog 12 #[v1, v2] W (SaysIn true W) := texts_any v1 v2 _ W h1 h2 (by decide)
theorem below_more {B : Nat} {w a : World} (h : Below B w a) (hB : B ≤ a.heap.size) (o : Obj) {b : World} (k : Below (a.alloc o).heap.size (a.alloc o) b) : Below B w b := (h.alloc hB o).trans (k.mono (by simp; omega))
theorem strs_more {a : World} {v : Value} {L : List ByteArray} (h : StrsIn a v L) (o : Obj) : StrsIn (a.alloc o) v L := h.below ((Below.refl _ a).alloc (Nat.le_refl _) o)

set_option maxRecDepth 100000 in
set_option maxHeartbeats 4000000 in
theorem awake12_any (w : World) : Calls Tryd.prog 8 #[] w (SaysIn true w) := by
  have T1 := Lib.hid awTok1
  have T2 := Lib.hid awTok2
  have E1 := Lib.hid awEls
  have H1 := Lib.hid awHas1
  have H2 := Lib.hid awHas2
  have J1 := Lib.hid awJoin
  have X1 := Lib.hid awTexts1
  have X2 := Lib.hid awTexts2
  have B0 := Lib.hid (Below.refl w.heap.size w)
  go_enter Tryd.func8, Tryd.ntmps8
  go_wp2_with (first
    | (go_at_call 10; refine (T1.out _ _ (lit_strs w awA (by decide))).mono ?_; clear T1; rintro e w1 ⟨v1, rfl, s1, b1⟩; have B1 := Lib.hid (below_more B0.out (Nat.le_refl _) _ b1); have S1 := Lib.hid s1; clear s1 b1; have Z1 := Lib.hid B1.out.size)
    | (go_at_call 10; refine (T2.out _ _ (lit_strs w1 awB (by decide))).mono ?_; clear T2; rintro e w2 ⟨v2, rfl, s2, b2⟩; have B2 := Lib.hid (below_more B1.out B1.out.size _ b2); have S2 := Lib.hid ((strs_more S1.out _).below b2); clear s2 b2)
    | (go_at_call 13; refine (E1.out _ _ (lit_strs w2 awA (by decide))).mono ?_; clear E1; rintro e w3 ⟨v3, rfl, s3, b3⟩; have B3 := Lib.hid (below_more B2.out B2.out.size _ b3); have S3 := Lib.hid ((strs_more S2.out _).below b3); have S3' := Lib.hid s3; clear s3 b3)
    | (go_at_call 12; refine (X1.out _ _ _ (strs_more S3'.out _) (lit_strs w3 [⟨#[97]⟩, ⟨#[98]⟩, ⟨#[67]⟩] (by decide))).mono ?_; clear X1; rintro e w4 ⟨rfl, b4⟩; have B4 := Lib.hid (below_more B3.out B3.out.size _ b4); have S4 := Lib.hid ((strs_more S3.out _).below b4); clear b4)
    | (go_at_call 12; refine (X2.out _ _ _ (strs_more S4.out _) (lit_strs w4 [⟨#[97]⟩, ⟨#[98]⟩, ⟨#[99]⟩] (by decide))).mono ?_; clear X2; rintro e w5 ⟨rfl, b5⟩; have B5 := Lib.hid (below_more B4.out B4.out.size _ b5); clear b5)
    | (go_at_call 15; refine (H1.out _ _ (lit_strs w5 awC (by decide))).mono ?_; clear H1; rintro e w6 ⟨rfl, b6⟩; have B6 := Lib.hid (below_more B5.out B5.out.size _ b6); clear b6)
    | (go_at_call 15; refine (H2.out _ _ (lit_strs w6 awD (by decide))).mono ?_; clear H2; rintro e w7 ⟨rfl, b7⟩; have B7 := Lib.hid (below_more B6.out B6.out.size _ b7); clear b7)
    | (go_at_call 17; refine (J1.out _ _ (lit_strs w7 awE (by decide))).mono ?_; clear J1; rintro e w8 ⟨rfl, b8⟩; have B8 := Lib.hid (below_more B7.out B7.out.size _ b8); clear b8))
  go_ret
  exact ⟨rfl, B8.out⟩
end Go.Proofs.YtfmcdhohmpffbaaDoor
