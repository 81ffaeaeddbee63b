/- Texts of one seat, merged: HedF, HedG. -/
import Derived.BigQuiet
import Derived.StillTailTactics
import Derived.Test.YtpplgdnklpchkaaGreatDoorQB2
import Derived.Test.YtpplgdnklpchkaaGreatDoorQD
import Derived.Test.YtpplgdnklpchkaaGreatDoorQHedC
namespace Go.Proofs.YtpplgdnklpchkaaGreatDoor
set_option linter.all false
open Go.RowKit
def reqL (A B : ByteArray) (m : Int) (fs bs : Value) : List Value := [.string A, .string B, .int .i64 m, fs, bs]
theorem reqL_one (A B : ByteArray) (m : Int) (p : Option Addr) (n c : Nat) (q : Option Addr) (n' c' : Nat) : ∀ v ∈ reqL A B m (.slice p n c) (.slice q n' c'), v.oneCell' = true := by
 intro v hv
 simp [reqL] at hv
 rcases hv with rfl | rfl | rfl | rfl | rfl <;> rfl
theorem Tryz.reqSize : (Tryz.prog.info? 48).map (·.size) = some 5 := by kernel_rfl
theorem Tryz.reqAgg (w : World) : (isAgg 48).run Tryz.prog w = .ok true w := by kernel_rfl
def ReqTo (A B : ByteArray) (m : Int) (F : List FB) (l : List UInt8) (w : World) (e : Ending) (w' : World) : Prop :=
 ∃ fs bs, e = .returned (.agg (reqL A B m fs bs).toArray) /\ OwnFlds w' w.heap.size fs F /\ OwnBytes w' w.heap.size bs l /\ Below w.heap.size w w'
def Cells4 (w : World) (g : Nat) (a b c d : Value) : Prop := w.cell? ⟨g, 0, none⟩ = some a /\ w.cell? ⟨g, 1, none⟩ = some b /\ w.cell? ⟨g, 2, none⟩ = some c /\ w.cell? ⟨g, 3, none⟩ = some d
theorem ValsAt.four {w : World} {g : Nat} {a b c d : Value} (h : ValsAt w g [a, b, c, d]) : Cells4 w g a b c d := ⟨h 0 _ rfl, h 1 _ rfl, h 2 _ rfl, h 3 _ rfl⟩
theorem Cells4.below {w w' : World} {g : Nat} {a b c d : Value} (h : Cells4 w g a b c d) (hb : Below w.heap.size w w') : Cells4 w' g a b c d :=
 ⟨(hb.cell (World.block_lt_of_cell? w _ h.1)).trans h.1, (hb.cell (World.block_lt_of_cell? w _ h.2.1)).trans h.2.1, (hb.cell (World.block_lt_of_cell? w _ h.2.2.1)).trans h.2.2.1, (hb.cell (World.block_lt_of_cell? w _ h.2.2.2)).trans h.2.2.2⟩
theorem cells4_below {w w' : World} {g : Nat} {a b c d : Value} (h : w.cell? ⟨g, 0, none⟩ = some a /\ w.cell? ⟨g, 1, none⟩ = some b /\ w.cell? ⟨g, 2, none⟩ = some c /\ w.cell? ⟨g, 3, none⟩ = some d) (hb : Below w.heap.size w w') :
  w'.cell? ⟨g, 0, none⟩ = some a /\ w'.cell? ⟨g, 1, none⟩ = some b /\ w'.cell? ⟨g, 2, none⟩ = some c /\ w'.cell? ⟨g, 3, none⟩ = some d := Cells4.below h hb
theorem cells4_only {w w' : World} {g q : Nat} {a b c d : Value} (h : w.cell? ⟨g, 0, none⟩ = some a /\ w.cell? ⟨g, 1, none⟩ = some b /\ w.cell? ⟨g, 2, none⟩ = some c /\ w.cell? ⟨g, 3, none⟩ = some d) (ho : Only (fun k => k = q) w w') (hq : g ≠ q) :
  w'.cell? ⟨g, 0, none⟩ = some a /\ w'.cell? ⟨g, 1, none⟩ = some b /\ w'.cell? ⟨g, 2, none⟩ = some c /\ w'.cell? ⟨g, 3, none⟩ = some d := ⟨ho.cell h.1 hq, ho.cell h.2.1 hq, ho.cell h.2.2.1 hq, ho.cell h.2.2.2 hq⟩
theorem put5_only (w : World) (q : Nat) (v0 v1 v2 v3 v4 : Value) : Only (fun k => k = q) w (((((w.setCell ⟨q, 0, none⟩ v0).setCell ⟨q, 1, none⟩ v1).setCell ⟨q, 2, none⟩ v2).setCell ⟨q, 3, none⟩ v3).setCell ⟨q, 4, none⟩ v4) := only_setCells q [v0, v1, v2, v3, v4] 0 w
theorem cells4_put5 {w : World} {g q : Nat} {a b c d v0 v1 v2 v3 v4 : Value} (h : w.cell? ⟨g, 0, none⟩ = some a /\ w.cell? ⟨g, 1, none⟩ = some b /\ w.cell? ⟨g, 2, none⟩ = some c /\ w.cell? ⟨g, 3, none⟩ = some d) (hq : g ≠ q) :
  (((((w.setCell ⟨q, 0, none⟩ v0).setCell ⟨q, 1, none⟩ v1).setCell ⟨q, 2, none⟩ v2).setCell ⟨q, 3, none⟩ v3).setCell ⟨q, 4, none⟩ v4).cell? ⟨g, 0, none⟩ = some a /\ (((((w.setCell ⟨q, 0, none⟩ v0).setCell ⟨q, 1, none⟩ v1).setCell ⟨q, 2, none⟩ v2).setCell ⟨q, 3, none⟩ v3).setCell ⟨q, 4, none⟩ v4).cell? ⟨g, 1, none⟩ = some b /\ (((((w.setCell ⟨q, 0, none⟩ v0).setCell ⟨q, 1, none⟩ v1).setCell ⟨q, 2, none⟩ v2).setCell ⟨q, 3, none⟩ v3).setCell ⟨q, 4, none⟩ v4).cell? ⟨g, 2, none⟩ = some c /\ (((((w.setCell ⟨q, 0, none⟩ v0).setCell ⟨q, 1, none⟩ v1).setCell ⟨q, 2, none⟩ v2).setCell ⟨q, 3, none⟩ v3).setCell ⟨q, 4, none⟩ v4).cell? ⟨g, 3, none⟩ = some d := cells4_only h (put5_only w q v0 v1 v2 v3 v4) hq
theorem own_ge {w : World} {B : Nat} {e : TypeId} {sz n : Nat} {v : Value} {xs : List Value} (h : w.ownsRow B e sz v n xs) : ∀ k, v.ownBlock = some k -> B <= k := by
 intro k hk
 rcases h.2 with ⟨rfl, _⟩ | ⟨g, cap, cur, rfl, h3, _⟩
 ·simp [Value.ownBlock] at hk
 ·simp [Value.ownBlock] at hk
  omega
theorem own_lower {w : World} {B B' : Nat} {e : TypeId} {sz n : Nat} {v : Value} {xs : List Value} (h : w.ownsRow B e sz v n xs) (hb : B' <= B) : w.ownsRow B' e sz v n xs := by
 refine ⟨h.1, ?_⟩
 rcases h.2 with h2 | ⟨g, cap, cur, rfl, h3, r⟩
 ·exact .inl h2
 ·exact .inr ⟨g, cap, cur, rfl, Nat.le_trans hb h3, r⟩
theorem OwnBytes.slicedF {w : World} {B : Nat} {v : Value} {l : List UInt8} (h : OwnBytes w B v l) : ∃ p c, v = .slice p l.length c := by
 have h0 : w.ownsRow B 5 1 v l.length (byteVals l) := h
 rcases h0.2 with ⟨rfl, hn⟩ | ⟨g, cap, cur, rfl, _⟩
 ·exact ⟨none, 0, by rw [hn]⟩
 ·exact ⟨_, _, rfl⟩
set_option maxRecDepth 100000 in
set_option maxHeartbeats 4000000 in
theorem hRequest_any (A B : ByteArray) (m : Int) (fv bv : Value) (F : List FB) (l : List UInt8) (w : World) (h : FldsIn w fv F) (hF : F.length <= 1000000) (hb : BytesIn w bv l) (hl : l.length <= 1000000000) :
  Calls Tryz.prog 44 #[headV A B m fv, bv] w (ReqTo A B m F l w) := by
 obtain ⟨p, c, rfl⟩ := h.sliced
 have bA := (Below.refl w.heap.size w).alloc (Nat.le_refl _) (.cells #[.string A, .string B, .int .i64 m, .slice p F.length c] 64)
 have hgs : (w.alloc (.cells #[.string A, .string B, .int .i64 m, .slice p F.length c] 64)).heap.size = w.heap.size + 1 := by rw [World.size_alloc]
 have bB := (Below.refl (w.alloc (.cells #[.string A, .string B, .int .i64 m, .slice p F.length c] 64)).heap.size (w.alloc (.cells #[.string A, .string B, .int .i64 m, .slice p F.length c] 64))).alloc (Nat.le_refl _) (.cells #[.string ⟨#[]⟩, .string ⟨#[]⟩, .int .i64 0, .slice none 0 0, .slice none 0 0] 48)
 have HR := Lib.hid (show Box ((w.alloc (.cells #[.string A, .string B, .int .i64 m, .slice p F.length c] 64)).alloc (.cells #[.string ⟨#[]⟩, .string ⟨#[]⟩, .int .i64 0, .slice none 0 0, .slice none 0 0] 48)) (w.alloc (.cells #[.string A, .string B, .int .i64 m, .slice p F.length c] 64)).heap.size (reqL ⟨#[]⟩ ⟨#[]⟩ 0 (.slice none 0 0) (.slice none 0 0)) from Box.new _ (reqL ⟨#[]⟩ ⟨#[]⟩ 0 (.slice none 0 0) (.slice none 0 0)) _)
 rw [hgs] at HR
 have HI := Lib.hid ((h.below bA).below bB)
 have HY := Lib.hid ((RowIn.below hb bA).below bB)
 have HV := Lib.hid (((ValsAt.new w [.string A, .string B, .int .i64 m, .slice p F.length c] 64).below bB).four)
 have HB := Lib.hid (bA.alloc bA.size (.cells #[.string ⟨#[]⟩, .string ⟨#[]⟩, .int .i64 0, .slice none 0 0, .slice none 0 0] 48))
 clear bA bB hgs h hb
 obtain ⟨W, hW⟩ : ∃ W, W = (w.alloc (.cells #[.string A, .string B, .int .i64 m, .slice p F.length c] 64)).alloc (.cells #[.string ⟨#[]⟩, .string ⟨#[]⟩, .int .i64 0, .slice none 0 0, .slice none 0 0] 48) := ⟨_, rfl⟩
 rw [<- hW] at HR HI HY HV HB
 unfold headV
 go_enter Tryz.func44, Tryz.ntmps44
 go_wp2_with fail
 rw [<- hW]
 clear hW
 have c0 : W.drew.cell? ⟨w.heap.size, 0, none⟩ = some (.string A) := HV.out.1
 have c1 : W.drew.cell? ⟨w.heap.size, 1, none⟩ = some (.string B) := HV.out.2.1
 have c2 : W.drew.cell? ⟨w.heap.size, 2, none⟩ = some (.int .i64 m) := HV.out.2.2.1
 have c3 : W.drew.cell? ⟨w.heap.size, 3, none⟩ = some (.slice p F.length c) := HV.out.2.2.2
 go_region_held3 (fun w' => w'.cell? ⟨w.heap.size, 0, none⟩ = some (.string A) /\ w'.cell? ⟨w.heap.size, 1, none⟩ = some (.string B) /\ w'.cell? ⟨w.heap.size, 2, none⟩ = some (.int .i64 m) /\ w'.cell? ⟨w.heap.size, 3, none⟩ = some (.slice p F.length c))
  (first | with_reducible exact ⟨c0, c1, c2, c3⟩ | with_reducible exact cells4_below ⟨c0, c1, c2, c3⟩ hs1 | with_reducible exact cells4_below (cells4_below ⟨c0, c1, c2, c3⟩ hs1) hs2 | with_reducible exact cells4_put5 (cells4_below (cells4_below ⟨c0, c1, c2, c3⟩ hs1) hs2) (by omega) | with_reducible assumption)
  (first
   | (refine step_append_flds0 (some 16) rfl rfl _ _ rfl W.drew rfl (.slice p F.length c) F rfl HI.out (by omega) ?_; intro v1 w1 h1 b0; have b1 : Below W.heap.size W w1 := (Below.refl _ W).drew.trans b0; have hs1 := b0; clear b0; obtain ⟨pF, cF, rfl⟩ := h1.sliced; have HF := Lib.hid h1; have HY1 := Lib.hid (RowIn.below HY.out b1); have HR1 := Lib.hid (HR.out.below b1); have HB1 := Lib.hid (HB.out.trans (b1.mono HB.out.size)); clear h1)
   | (refine step_append_bytes0 (some 18) rfl rfl _ _ rfl w1 rfl bv l rfl HY1.out hl ?_; intro v2 w2 h2 b2; obtain ⟨pY, cY, rfl⟩ := h2.slicedF; have HY2 := Lib.hid h2; have HF2 := Lib.hid (HF.out.below b2); have HR2 := Lib.hid (HR1.out.below b2); have HB2 := Lib.hid (HB1.out.trans (b2.mono HB1.out.size)); have hs2 := b2; have k0 : w2.cell? ⟨w.heap.size + 1, 0, none⟩ = some (.string ⟨#[]⟩) := HR2.out.vals 0 _ rfl; have f0 : w2.frozen? ⟨w.heap.size + 1, 0, none⟩ = false := HR2.out.free 0 (by decide); have k1 : w2.cell? ⟨w.heap.size + 1, 1, none⟩ = some (.string ⟨#[]⟩) := HR2.out.vals 1 _ rfl; have f1 : w2.frozen? ⟨w.heap.size + 1, 1, none⟩ = false := HR2.out.free 1 (by decide); have k2 : w2.cell? ⟨w.heap.size + 1, 2, none⟩ = some (.int .i64 0) := HR2.out.vals 2 _ rfl; have f2 : w2.frozen? ⟨w.heap.size + 1, 2, none⟩ = false := HR2.out.free 2 (by decide); have k3 : w2.cell? ⟨w.heap.size + 1, 3, none⟩ = some (.slice none 0 0) := HR2.out.vals 3 _ rfl; have f3 : w2.frozen? ⟨w.heap.size + 1, 3, none⟩ = false := HR2.out.free 3 (by decide); have k4 : w2.cell? ⟨w.heap.size + 1, 4, none⟩ = some (.slice none 0 0) := HR2.out.vals 4 _ rfl; have f4 : w2.frozen? ⟨w.heap.size + 1, 4, none⟩ = false := HR2.out.free 4 (by decide); clear h2))
 have b3 := HR2.out.setCells (reqL A B m (.slice pF F.length cF) (.slice pY l.length cY)) rfl
 have o3 := put5_only w2 (w.heap.size + 1) (.string A) (.string B) (.int .i64 m) (.slice pF F.length cF) (.slice pY l.length cY)
 have hlt := HR.out.lt (by simp [reqL])
 have hz1 := HB1.out.size
 have hF3 := o3.own HF2.out (fun k hk (e : k = w.heap.size + 1) => by have := own_ge HF2.out k hk; have h2 : W.drew.heap.size = W.heap.size := rfl; omega)
 have hY3 := o3.own HY2.out (fun k hk (e : k = w.heap.size + 1) => by have := own_ge HY2.out k hk; have := hs1.size; have h2 : W.drew.heap.size = W.heap.size := rfl; omega)
 have h4 : w.heap.size <= W.drew.heap.size := HB.out.size
 have HF4 := Lib.hid (own_lower hF3 h4)
 have HY4 := Lib.hid (own_lower hY3 hz1)
 have HB4 := Lib.hid (HB2.out.trans (only_eq_below o3 (by omega) HB2.out.size))
 have b3 : Box (((((w2.setCell ⟨w.heap.size + 1, 0, none⟩ (.string A)).setCell ⟨w.heap.size + 1, 1, none⟩ (.string B)).setCell ⟨w.heap.size + 1, 2, none⟩ (.int .i64 m)).setCell ⟨w.heap.size + 1, 3, none⟩ (.slice pF F.length cF)).setCell ⟨w.heap.size + 1, 4, none⟩ (.slice pY l.length cY)) (w.heap.size + 1) (reqL A B m (.slice pF F.length cF) (.slice pY l.length cY)) := b3
 clear hF3 hY3 o3 k0 k1 k2 k3 k4 f0 f1 f2 f3 f4 c0 c1 c2 c3
 generalize ((((w2.setCell ⟨w.heap.size + 1, 0, none⟩ (.string A)).setCell ⟨w.heap.size + 1, 1, none⟩ (.string B)).setCell ⟨w.heap.size + 1, 2, none⟩ (.int .i64 m)).setCell ⟨w.heap.size + 1, 3, none⟩ (.slice pF F.length cF)).setCell ⟨w.heap.size + 1, 4, none⟩ (.slice pY l.length cY) = w3 at b3 HF4 HY4 HB4 ⊢
 go_wp2
 refine bodyPost_ret (v := .agg (reqL A B m (.slice pF F.length cF) (.slice pY l.length cY)).toArray) ?_ rfl ⟨_, _, rfl, HF4.out, HY4.out, HB4.out⟩
 exact results_cell0 Tryz.reqSize Tryz.reqAgg Tryz.results44 _ _ rfl b3.vals rfl
end Go.Proofs.YtpplgdnklpchkaaGreatDoor
namespace Go.Proofs.YtpplgdnklpchkaaGreatDoor
set_option linter.all false
open Go.RowKit
theorem saysIn_g {a b : Bool} {w w' : World} (h : a = b) (hb : Below w.heap.size w w') : SaysIn b w (.returned (.bool a)) w' := ⟨by rw [h], hb⟩
theorem hSame_any (A B : ByteArray) (m : Int) (f1 f2 b1 b2 : Value) (F : List FB) (l : List UInt8) (w : World) (h1 : FldsIn w f1 F) (h2 : FldsIn w f2 F) (y1 : BytesIn w b1 l) (y2 : BytesIn w b2 l) (hl : F.length <= 1000000) :
  Calls Tryz.prog 28 #[.agg #[.string A, .string B, .int .i64 m, f1, b1], .agg #[.string A, .string B, .int .i64 m, f2, b2]] w (SaysIn true w) := by
 have bA := (Below.refl w.heap.size w).alloc (Nat.le_refl _) (.cells #[.string A, .string B, .int .i64 m, f1, b1] 48)
 have bB := bA.alloc bA.size (.cells #[.string A, .string B, .int .i64 m, f2, b2] 48)
 have bC := (Below.refl (w.alloc (.cells #[.string A, .string B, .int .i64 m, f1, b1] 48)).heap.size (w.alloc (.cells #[.string A, .string B, .int .i64 m, f1, b1] 48))).alloc (Nat.le_refl _) (.cells #[.string A, .string B, .int .i64 m, f2, b2] 48)
 have HV1 := Lib.hid ((ValsAt.new w [.string A, .string B, .int .i64 m, f1, b1] 48).below bC)
 have hgs : (w.alloc (.cells #[.string A, .string B, .int .i64 m, f1, b1] 48)).heap.size = w.heap.size + 1 := by rw [World.size_alloc]
 have HV2 := Lib.hid (ValsAt.new (w.alloc (.cells #[.string A, .string B, .int .i64 m, f1, b1] 48)) [.string A, .string B, .int .i64 m, f2, b2] 48)
 rw [hgs] at HV2
 have HS := Lib.hid (same_any f1 f2 F _ ((h1.below bA).below bC) ((h2.below bA).below bC) hl)
 have HY1 := Lib.hid ((RowIn.below y1 bA).below bC)
 have HY2 := Lib.hid ((RowIn.below y2 bA).below bC)
 have HB := Lib.hid bB
 obtain ⟨p1, c1, rfl⟩ := h1.sliced
 obtain ⟨p2, c2, rfl⟩ := h2.sliced
 have HA1 := Lib.hid (bytesEq_bool A A)
 clear bA bB bC hgs h1 h2 y1 y2
 go_enter Tryz.func28, Tryz.ntmps28
 go_wp2_with fail
 refine HS.out.mono ?_
 rintro e w1 ⟨rfl, b⟩
 have k3 : w1.cell? ⟨w.heap.size, 4, none⟩ = some b1 := (HV1.out.below b) 4 _ rfl
 have k4 : w1.cell? ⟨w.heap.size + 1, 4, none⟩ = some b2 := (HV2.out.below b) 4 _ rfl
 have c1 := BytesIn.back (RowIn.below HY1.out b)
 have c2 := BytesIn.back (RowIn.below HY2.out b)
 have HB1 := Lib.hid (HB.out.trans (b.mono HB.out.size))
 clear b
 go_wp2
 go_ret
 exact saysIn_g (by simp) HB1.out
end Go.Proofs.YtpplgdnklpchkaaGreatDoor
