/- Stage 24: awake, given FindC. -/
import Derived.Test.YtgfibbecnmmpjaaQFndK
import Derived.Test.YtgfibbecnmmpjaaQTreX
namespace Go.Proofs.Ytgfibbecnmmpjaa
set_option linter.all false
open Go.RowKit
def sR24 : ByteArray := ⟨#[114]⟩
def sI24 : ByteArray := ⟨#[105, 110, 100, 101, 120, 46, 104, 116, 109, 108]⟩
def sX24 : ByteArray := ⟨#[116]⟩
def F24 : FileV := ([sR24, sA19, sI24], false, sX24, [120])
def litF24 (g : Nat) : List Value := fileL (.slice (some ⟨g, 0, none⟩) 3 3) false sX24 (.slice (some ⟨g + 1, 0, none⟩) 1 1)
theorem lit_file24 (w W : World) (hW : W = (w.alloc (.cells #[.string sR24, .string sA19, .string sI24] 9)).alloc (.cells #[.int .u8 120] 5 (1, 2))) : fileK.In (fun k => k < W.heap.size) W (litF24 w.heap.size) F24 /\ Below w.heap.size w W /\ W.heap.size = w.heap.size + 2 := by
  have h1 := strs_lit w [sR24, sA19, sI24] (by decide) (by decide)
  have hb1 : Below w.heap.size w (w.alloc (.cells #[.string sR24, .string sA19, .string sI24] 9)) := (Below.refl _ _).alloc (Nat.le_refl _) _
  have hs1 : (w.alloc (.cells #[.string sR24, .string sA19, .string sI24] 9)).heap.size = w.heap.size + 1 := by simp
  have hb2 : Below (w.alloc (.cells #[.string sR24, .string sA19, .string sI24] 9)).heap.size (w.alloc (.cells #[.string sR24, .string sA19, .string sI24] 9)) W := by rw [hW]; exact (Below.refl _ _).alloc (Nat.le_refl _) _
  have hs2 : W.heap.size = w.heap.size + 2 := by rw [hW]; simp
  have h2 : BytesIn W (.slice (some ⟨w.heap.size + 1, 0, none⟩) 1 1) [120] := by
    refine .inr ⟨w.heap.size + 1, 0, 1, rfl, Nat.le_refl _, by omega, fun i u hu => ?_⟩
    rw [hW, Nat.zero_add]
    have := World.cell?_alloc_mark (w.alloc (.cells #[.string sR24, .string sA19, .string sI24] 9)) #[.int .u8 120] 5 (1, 2) i
    rw [hs1] at this
    rw [this]
    simpa [byteVals] using hu
  exact ⟨file_in (f := F24) (StrsIn.below h1 hb2) h2 (fun k hk => by
    have e : w.heap.size = k := Option.some.inj hk
    omega) (fun k hk => by
    have e : w.heap.size + 1 = k := Option.some.inj hk
    omega), hb1.trans (hb2.mono hb1.size), hs2⟩
theorem small24 : ∀ f ∈ [F24], SmallF f /\ f.1.length <= 1000 := by
  intro f hf
  rw [List.mem_singleton] at hf
  subst hf
  exact ⟨⟨by decide, by decide, by decide, by decide⟩, by decide⟩
theorem right24 : RightG okT ([F24].map tfOf) := right_of_check (by kernel_rfl)
theorem bad24 : badT [F24] = none := by kernel_rfl
theorem fnd24a : fndR [F24] [sR24] [sA19] false sI24 true = (2, none) := by kernel_rfl
theorem fnd24b : fndR [F24] [sR24] [sA19] true sI24 true = (1, some F24) := by kernel_rfl
theorem asked_lt {C : List ByteArray -> Prop} {w W : World} {g B n : Nat} {nv : Value} {no : List ByteArray} (h : Perm C w g B n nv no) (hb : Below w.heap.size w W) {k : Nat} (hk : Asked W g k) : B <= k /\ k < w.heap.size := by
  obtain ⟨av, xs, h1, h2, _⟩ := h.asked
  obtain ⟨u, hu, hk⟩ := hk
  have h3 : W.cell? ⟨g, 1, none⟩ = some av := (h1.below hb).cell rfl
  rw [h3] at hu
  obtain rfl := Option.some.inj hu
  exact World.ownsRow.lt h2 k hk
theorem asked_same {C : List ByteArray -> Prop} {w W : World} {g B n : Nat} {nv : Value} {no : List ByteArray} (h : Perm C w g B n nv no) (hb : Below w.heap.size w W) {k : Nat} (hk : Asked W g k) : Asked w g k := by
  obtain ⟨av, xs, h1, h2, _⟩ := h.asked
  obtain ⟨u, hu, hk⟩ := hk
  have h3 : W.cell? ⟨g, 1, none⟩ = some av := (h1.below hb).cell rfl
  rw [h3] at hu
  obtain rfl := Option.some.inj hu
  exact ⟨_, h1.cell rfl, hk⟩
set_option maxRecDepth 100000 in
set_option maxHeartbeats 16000000 in
theorem awake24 {G : World -> Prop} (hF : FindC G) (hgz : ∀ w, G w -> 0 <= w.heap.size) : Awake24 G := fun w hG0 => by
  have hfacts : ∀ W W1, W = ((w.alloc (.cells #[.string sR24, .string sA19, .string sI24] 9)).alloc (.cells #[.int .u8 120] 5 (1, 2))) -> W1 = W.alloc (.cells (litF24 w.heap.size).toArray 40) ->
      Below w.heap.size w W1 /\ fileK.rows (fun k => k < W1.heap.size) W1 (.slice (some ⟨w.heap.size + 2, 0, none⟩) 1 1) [F24] := by
    intro W W1 h0 h1
    obtain ⟨k1, k2, k3⟩ := lit_file24 w W h0
    have hb1 : Below W.heap.size W W1 := by rw [h1]; exact (Below.refl _ _).alloc (Nat.le_refl _) _
    refine ⟨k2.trans (hb1.mono k2.size), ?_⟩
    have := row_one k1 (fun k hk => hk) 40
    rw [k3, <- h1] at this
    exact this
  obtain ⟨B0, HR0⟩ := hfacts _ _ rfl rfl
  have HF := Lib.hid hF
  have HG0 := Lib.hid (hF.below _ _ hG0 B0)
  have Hgz := Lib.hid (hgz _ hG0)
  unfold litF24 fileL sR24 sA19 sI24 sX24 at B0 HR0 HG0
  generalize hW : ((w.alloc (.cells #[.string ⟨#[114]⟩, .string ⟨#[97]⟩, .string ⟨#[105, 110, 100, 101, 120, 46, 104, 116, 109, 108]⟩] 9)).alloc (.cells #[.int .u8 120] 5 (1, 2))).alloc (.cells [.slice (some ⟨w.heap.size, 0, none⟩) 3 3, .bool false, .string ⟨#[116]⟩, .slice (some ⟨w.heap.size + 1, 0, none⟩) 1 1].toArray 40) = W at B0 HR0 HG0
  have HB := Lib.hid B0
  have HNa := Lib.hid (newTree_any _ [F24] W HR0 small24 (by decide))
  have HWh := Lib.hid hW
  have hcv := Go.Joins.run_convert_bytes_const_at (P := Try.prog) (w.alloc (.cells #[.string ⟨#[114]⟩, .string ⟨#[97]⟩, .string ⟨#[105, 110, 100, 101, 120, 46, 104, 116, 109, 108]⟩] 9)) 38 5 #[.int .u8 120] 1 1 (w.heap.size + 1) (by simp) Try.underlying38 Try.underlying5
  clear hfacts B0 HR0 hF hG0 hgz hW
  go_enter Try.func7, Try.ntmps7
  go_wp2_with fail
  rw [show (w.heap.size + 1 + 1 : Nat) = w.heap.size + 2 from rfl]
  try rw [HWh.out]
  refine HNa.out.mono ?_
  rintro e w1 ⟨hr, hb⟩
  have hr : ∃ tp, e = .returned (.tuple #[.pointer (some ⟨tp, 0, none⟩), .nilIface]) /\ TreeAt (fun k => W.heap.size <= k /\ k < w1.heap.size) w1 tp [F24] := by
    rcases hr with ⟨_, h⟩ | ⟨i, h, _⟩
    · exact h
    · rw [bad24] at h; cases h
  obtain ⟨tp, rfl, ht⟩ := hr
  have HB1 := Lib.hid (HB.out.trans (hb.mono HB.out.size))
  have HG1 := Lib.hid (HF.out.below _ _ HG0.out hb)
  have HT1 := Lib.hid ht
  have HgW := Lib.hid (Nat.le_trans Hgz.out HB1.out.size)
  clear hb ht hcv HWh HNa HB HG0
  -- the permit, the root, the first path
  have hnw : ∀ W1 W2 W3, W1 = w1.alloc (.cells #[.slice none 0 0, .slice none 0 0] 37) -> W2 = W1.alloc (.cells #[.string ⟨#[114]⟩] 9) -> W3 = W2.alloc (.cells #[.string ⟨#[97]⟩] 9) ->
      Below w1.heap.size w1 W3 /\ Perm (fun _ => True) W3 w1.heap.size (w1.heap.size + 1) 0 (.slice none 0 0) [] /\ StrsIn W3 (.slice (some ⟨w1.heap.size + 1, 0, none⟩) 1 1) [sR24] /\ StrsIn W3 (.slice (some ⟨w1.heap.size + 1 + 1, 0, none⟩) 1 1) [sA19] /\ W3.heap.size = w1.heap.size + 3 /\ ∀ k, ¬ Asked W3 w1.heap.size k := by
    intro W1 W2 W3 h1 h2 h3
    have b1 : Below w1.heap.size w1 W1 := by rw [h1]; exact (Below.refl _ _).alloc (Nat.le_refl _) _
    have z1 : W1.heap.size = w1.heap.size + 1 := by rw [h1]; simp
    have b2 : Below W1.heap.size W1 W2 := by rw [h2]; exact (Below.refl _ _).alloc (Nat.le_refl _) _
    have z2 : W2.heap.size = w1.heap.size + 1 + 1 := by rw [h2]; simp [z1]
    have b3 : Below W2.heap.size W2 W3 := by rw [h3]; exact (Below.refl _ _).alloc (Nat.le_refl _) _
    have z3 : W3.heap.size = w1.heap.size + 3 := by rw [h3]; simp [z2]
    have p1 : Perm (fun _ => True) W1 w1.heap.size (w1.heap.size + 1) 0 (.slice none 0 0) [] := by rw [h1]; exact perm_new w1 _ _ (.inl ⟨rfl, .inl rfl⟩) (fun h => absurd rfl h)
    have r2 := strs_oneX W1 sR24
    rw [z1] at r2
    have r3 := strs_oneX W2 sA19
    rw [z2] at r3
    refine ⟨b1.trans ((b2.trans (b3.mono b2.size)).mono b1.size), (p1.below b2).below b3, StrsIn.below (by rw [h2]; exact r2) b3, by rw [h3]; exact r3, z3, fun k hk => ?_⟩
    obtain ⟨u, hu, hk⟩ := hk
    have e1 : W1.cell? ⟨w1.heap.size, 1, none⟩ = some (.slice none 0 0) := by rw [h1, World.cell?_alloc_mark]; rfl
    rw [b3.cell (by show w1.heap.size < _; omega), b2.cell (by show w1.heap.size < _; omega), e1] at hu
    obtain rfl := Option.some.inj hu
    cases hk
  obtain ⟨nb, np, nr, na, nz, nk⟩ := hnw _ _ _ rfl rfl rfl
  unfold sR24 at nr
  unfold sA19 at na
  obtain ⟨g, hg⟩ : ∃ g, g = w1.heap.size := ⟨_, rfl⟩
  obtain ⟨W3, hW3⟩ : ∃ x, x = ((w1.alloc (.cells #[.slice none 0 0, .slice none 0 0] 37)).alloc (.cells #[.string ⟨#[114]⟩] 9)).alloc (.cells #[.string ⟨#[97]⟩] 9) := ⟨_, rfl⟩
  rw [<- hg] at HgW
  have hnb : Below w1.heap.size w1 W3 := by rw [hW3]; exact nb
  have hnp : Perm (fun _ => True) W3 g (g + 1) 0 (.slice none 0 0) [] := by rw [hW3, hg]; exact np
  have hnr : StrsIn W3 (.slice (some ⟨g + 1, 0, none⟩) 1 1) [sR24] := by rw [hW3, hg]; exact nr
  have hna : StrsIn W3 (.slice (some ⟨g + 1 + 1, 0, none⟩) 1 1) [sA19] := by rw [hW3, hg]; exact na
  have hnz : W3.heap.size = g + 3 := by rw [hW3, hg]; exact nz
  have hnk : ∀ k, ¬ Asked W3 g k := by rw [hW3, hg]; exact nk
  have hR3 : ∀ k, (W.heap.size <= k /\ k < w1.heap.size) -> ¬ PermS W3 g k := by
    rintro k ⟨_, hk⟩ (e | e)
    · omega
    · exact hnk k e
  have ht3 := HT1.out.below hnb
  have hF1 := HF.out.find (fun _ => True) _ (.pointer (some ⟨tp, 0, none⟩)) (.slice (some ⟨g + 1, 0, none⟩) 1 1) (.slice (some ⟨g + 1 + 1, 0, none⟩) 1 1) (.slice none 0 0) (some [F24]) [sR24] [sA19] [] false sI24 g (g + 1) 0 W3 (HF.out.below _ _ HG1.out hnb) (.tree tp [F24] ht3 right24 (fun f hf => (small24 f hf).1) (by decide)) hR3 hnr (fun _ k hk e => by have e9 : g + 1 = k := Option.some.inj hk; rcases e with e | e; omega; exact hnk k e) hna (fun _ k hk e => by have e9 : g + 1 + 1 = k := Option.some.inj hk; rcases e with e | e; omega; exact hnk k e) hnp trivial (by omega) (by decide) (by decide) (by decide) (by decide) (by decide)
  rw [show mayP [] ([sA19] ++ [sI24]) = true from rfl, show fndO (some [F24]) [sR24] [sA19] false sI24 true = (2, none) from fnd24a] at hF1
  unfold mayV sI24 at hF1
  have HF1 := Lib.hid hF1
  have HW3 := Lib.hid hW3
  have Hg := Lib.hid hg
  have Hnb := Lib.hid hnb
  have Hnp := Lib.hid hnp
  have Hnr := Lib.hid hnr
  have Hnz := Lib.hid hnz
  have Hnk := Lib.hid hnk
  have HT3 := Lib.hid ht3
  clear hnw nb np nr na nz nk hW3 hg hnb hnp hnr hna hnz hnk hR3 ht3 hF1
  go_wp2_with fail
  rw [<- HW3.out, <- Hg.out]
  refine HF1.out.mono ?_
  rintro e w4 ⟨cs1, m1, rfl, hin1, hm1, hP1, hA1⟩
  have hO1 := Hnp.out.only hA1
  have hi1 : fileK.In _ w4 cs1 zeroF := hin1
  obtain ⟨q0, d0, q1, d1, rfl, _⟩ := fileK_parts hi1
  have e0 : zeroF.1.length = 0 := rfl
  have e1 : zeroF.2.2.2.length = 0 := rfl
  have e2 : zeroF.2.1 = false := rfl
  have e3 : zeroF.2.2.1 = ⟨#[]⟩ := rfl
  rw [e0, e1, e2, e3]
  obtain ⟨V4, hV4⟩ : ∃ x, x = w4.alloc (.cells #[.int .i64 2, .slice q0 0 d0, .bool false, .string ⟨#[]⟩, .slice q1 0 d1] 42) := ⟨_, rfl⟩
  obtain ⟨V5, hV5⟩ : ∃ x, x = V4.alloc (.cells #[.string ⟨#[97]⟩] 9) := ⟨_, rfl⟩
  have b4 : Below w4.heap.size w4 V4 := by rw [hV4]; exact (Below.refl _ _).alloc (Nat.le_refl _) _
  have z4 : V4.heap.size = w4.heap.size + 1 := by rw [hV4]; simp
  have b5 : Below V4.heap.size V4 V5 := by rw [hV5]; exact (Below.refl _ _).alloc (Nat.le_refl _) _
  have b45 : Below w4.heap.size w4 V5 := b4.trans (b5.mono b4.size)
  have xa4 : Box V5 w4.heap.size [.int .i64 2, .slice q0 0 d0, .bool false, .string ⟨#[]⟩, .slice q1 0 d1] := by
    have := Box.new w4 [.int .i64 2, .slice q0 0 d0, .bool false, .string ⟨#[]⟩, .slice q1 0 d1] 42
    rw [<- hV4] at this
    exact this.below b5
  have ha5 : StrsIn V5 (.slice (some ⟨V4.heap.size, 0, none⟩) 1 1) [sA19] := by rw [hV5]; exact strs_oneX V4 sA19
  rw [z4] at ha5
  have hP5 := hP1.below b45
  have hsz4 : g + 3 <= w4.heap.size := by rw [<- Hnz.out]; exact hO1.size
  have hk4 : ∀ k, k < g + 3 -> ¬ Asked V5 g k := fun k hk e => by
    have e9 : Asked w4 g k := by
      obtain ⟨av, xs, h1, h2, _⟩ := hP1.asked
      obtain ⟨u, hu, hk2⟩ := e
      have h3 : V5.cell? ⟨g, 1, none⟩ = some av := (h1.below b45).cell rfl
      rw [h3] at hu
      obtain rfl := Option.some.inj hu
      exact ⟨_, h1.cell rfl, hk2⟩
    rcases hA1.new k e9 with h | h
    · exact Hnk.out k h
    · have := Hnz.out; omega
  have hG4 := HF.out.asks _ _ _ _ (HF.out.below _ _ HG1.out Hnb.out) (Nat.lt_succ_self g) hO1 HgW.out
  have hG5 := HF.out.below _ _ hG4 b45
  have ht5 : TreeAt (fun k => W.heap.size <= k /\ k < w1.heap.size) V5 tp [F24] := (HT3.out.only hO1 (fun k hk e => by have := Hg.out; rcases e with e | e <;> omega)).below b45
  have hr5 : StrsIn V5 (.slice (some ⟨g + 1, 0, none⟩) 1 1) [sR24] := (Hnr.out.onlyN hA1.only (fun _ k hk e => by
    have e9 : g + 1 = k := Option.some.inj hk
    rcases e with e | e
    · omega
    · exact Hnk.out k e)).below b45
  have hR5 : ∀ k, (W.heap.size <= k /\ k < w1.heap.size) -> ¬ PermS V5 g k := by
    rintro k ⟨_, hk⟩ (e | e)
    · have := Hg.out; omega
    · exact hk4 k (by have := Hg.out; omega) e
  have hF2 := HF.out.find (fun _ => True) _ (.pointer (some ⟨tp, 0, none⟩)) (.slice (some ⟨g + 1, 0, none⟩) 1 1) (.slice (some ⟨w4.heap.size + 1, 0, none⟩) 1 1) (.slice none 0 0) (some [F24]) [sR24] [sA19] [] true sI24 g (g + 1) m1 V5 hG5 (.tree tp [F24] ht5 right24 (fun f hf => (small24 f hf).1) (by decide)) hR5 hr5 (fun _ k hk e => by have e9 : g + 1 = k := Option.some.inj hk; rcases e with e | e; omega; exact hk4 k (by omega) e) ha5 (fun _ k hk e => by have e9 : w4.heap.size + 1 = k := Option.some.inj hk; rcases e with e | e; omega; have := (asked_lt hP1 b45 e).2; omega) hP5 trivial (by omega) (by decide) (by decide) (by decide) (by decide) (by decide)
  rw [show mayP [] ([sA19] ++ [sI24]) = true from rfl, show fndO (some [F24]) [sR24] [sA19] true sI24 true = (1, some F24) from fnd24b] at hF2
  unfold mayV sI24 at hF2
  have HF2 := Lib.hid hF2
  have HV4 := Lib.hid hV4
  have HV5 := Lib.hid hV5
  have Hz4 := Lib.hid z4
  have HP5 := Lib.hid hP5
  have Hk4 := Lib.hid hk4
  have HG5 := Lib.hid hG5
  have HT5 := Lib.hid ht5
  have Hr5 := Lib.hid hr5
  have Hxa := Lib.hid xa4
  have Hs4 := Lib.hid hsz4
  have HB5 := Lib.hid (show Below w.heap.size w V5 from (HB1.out.trans (Hnb.out.mono HB1.out.size)).trans ((hO1.below w.heap.size (Nat.le_trans HB1.out.size Hnb.out.size) fun k hk => by have := HB1.out.size; have := Hg.out; rcases hk with e | e <;> omega).trans (b45.mono (Nat.le_trans (Nat.le_trans HB1.out.size Hnb.out.size) hO1.size))))
  have Ha4 := Lib.hid (fun k (e : Asked V5 g k) => (asked_lt hP1 b45 e).2)
  have Hm1 := Lib.hid hm1
  clear hin1 hm1 hP1 hA1 hO1 hi1 e0 e1 e2 e3 hV4 hV5 b4 z4 b5 b45 xa4 ha5 hP5 hsz4 hk4 hG4 hG5 ht5 hr5 hR5 hF2 HF1 HT3 HW3
  go_wp2_with fail
  rw [<- HV4.out, <- HV5.out]
  refine HF2.out.mono ?_
  rintro e w6 ⟨cs2, m2, rfl, hin2, hm2, hP2, hA2⟩
  have hO2 := HP5.out.only hA2
  have hi2 : fileK.In (fun k => V5.heap.size <= k /\ k < w6.heap.size /\ ¬ Asked w6 g k) w6 cs2 F24 := hin2
  obtain ⟨q2, d2, q3, d3, rfl, hq2⟩ := fileK_parts hi2
  have e0 : F24.1.length = 3 := rfl
  have e1 : F24.2.2.2.length = 1 := rfl
  have e2 : F24.2.1 = false := rfl
  have e3 : F24.2.2.1 = ⟨#[116]⟩ := rfl
  have e4 : F24.2.2.2 = [120] := rfl
  rw [e0, e1, e4] at hq2
  rw [e0, e1, e2, e3]
  obtain ⟨V6, hV6⟩ : ∃ x, x = w6.alloc (.cells #[.int .i64 1, .slice q2 3 d2, .bool false, .string ⟨#[116]⟩, .slice q3 1 d3] 42) := ⟨_, rfl⟩
  have b6 : Below w6.heap.size w6 V6 := by rw [hV6]; exact (Below.refl _ _).alloc (Nat.le_refl _) _
  have xb6 : Box V6 w6.heap.size [.int .i64 1, .slice q2 3 d2, .bool false, .string ⟨#[116]⟩, .slice q3 1 d3] := by rw [hV6]; exact Box.new w6 _ _
  have hP6 := hP2.below b6
  have hG6 := HF.out.below _ _ (HF.out.asks _ _ _ _ HG5.out (Nat.lt_succ_self g) hO2 HgW.out) b6
  have hna4 : ∀ k, k < V5.heap.size -> ¬ Asked V5 g k -> ¬ Asked V6 g k := fun k hk hn e => by
    rcases hA2.new k (asked_same hP2 b6 e) with h | h
    · exact hn h
    · omega
  have hs5 : w4.heap.size < V5.heap.size := Hxa.out.lt (by simp)
  have hn4 : ¬ Asked V5 g w4.heap.size := fun e => by have := Ha4.out _ e; omega
  have xa6 : Box V6 w4.heap.size [.int .i64 2, .slice q0 0 d0, .bool false, .string ⟨#[]⟩, .slice q1 0 d1] := (Hxa.out.only hA2.only (by
    have := Hs4.out
    rintro (e | e)
    · omega
    · exact hn4 e)).below b6
  have hr6 : StrsIn V6 (.slice (some ⟨g + 1, 0, none⟩) 1 1) [sR24] := (Hr5.out.onlyN hA2.only (fun _ k hk e => by
    have e9 : g + 1 = k := Option.some.inj hk
    rcases e with e | e
    · omega
    · exact Hk4.out k (by omega) e)).below b6
  have hs45 := Hs4.out
  have hm1 := Hm1.out
  have hF3 := HF.out.find (fun _ => True) (fun _ => False) (.pointer none) (.slice (some ⟨g + 1, 0, none⟩) 1 1) (.slice none 0 0) (.slice none 0 0) none [sR24] [] [] true sI24 g (g + 1) m2 V6 hG6 .nil (fun _ h => h.elim) hr6 (fun _ k hk e => by have e9 : g + 1 = k := Option.some.inj hk; rcases e with e | e; omega; exact hna4 k (by omega) (Hk4.out k (by omega)) e) (.inl ⟨rfl, .inl rfl⟩) (fun h => absurd rfl h) hP6 trivial (by omega) (by decide) (by decide) (by decide) (by decide) (by decide)
  rw [show fndO none [sR24] [] true sI24 (mayP [] ([] ++ [sI24])) = (0, none) from rfl] at hF3
  unfold mayV sI24 at hF3
  have HF3 := Lib.hid hF3
  have HV6 := Lib.hid hV6
  have HP6 := Lib.hid hP6
  have Hxa6 := Lib.hid xa6
  have Hxb6 := Lib.hid xb6
  have Hr6 := Lib.hid hr6
  have HG6 := Lib.hid hG6
  have Hna := Lib.hid (show ¬ Asked V6 g w4.heap.size from hna4 _ hs5 hn4)
  have Hnr6 := Lib.hid (show ¬ Asked V6 g (g + 1) from hna4 _ (by omega) (Hk4.out _ (by omega)))
  have Hnb6 := Lib.hid (show ¬ Asked V6 g w6.heap.size from fun e => by have := (asked_lt hP2 b6 e).2; omega)
  have Hq2 := Lib.hid (show ∀ w', Only (PermS V6 g) w6 w' -> BytesIn w' (.slice q3 1 d3) [120] from fun w' ho => (hq2 (PermS V6 g) w' ho (fun k hk e => by
    rcases e with e | e
    · have := hk.1; omega
    · exact hk.2.2 (asked_same hP2 b6 e))).2)
  have Hb6 := Lib.hid b6
  have HB6 := Lib.hid (HB5.out.trans ((hO2.below w.heap.size HB5.out.size fun k hk => by have := HB1.out.size; have := Hg.out; rcases hk with e | e <;> omega).trans (b6.mono (Nat.le_trans HB5.out.size hO2.size))))
  have Hg6 := Lib.hid (show g < w6.heap.size /\ w4.heap.size < w6.heap.size /\ g < w4.heap.size from by have := hO2.size; omega)
  clear hm1 hin2 hm2 hP2 hA2 hO2 hi2 hq2 e0 e1 e2 e3 e4 hV6 b6 xb6 hP6 hG6 hna4 hs5 hn4 xa6 hr6 hs45 hF3 HF2 HT5 HV4 HV5 Hz4 Hk4 Ha4 Hxa Hr5 HP5 HG5 Hm1
  go_wp2_with fail
  rw [<- HV6.out]
  refine HF3.out.mono ?_
  rintro e w7 ⟨cs3, m3, rfl, hin3, _, _, hA3⟩
  have hO3 := HP6.out.only hA3
  have hi3 : fileK.In _ w7 cs3 zeroF := hin3
  obtain ⟨q4, d4, q5, d5, rfl, _⟩ := fileK_parts hi3
  have e0 : zeroF.1.length = 0 := rfl
  have e1 : zeroF.2.2.2.length = 0 := rfl
  have e2 : zeroF.2.1 = false := rfl
  have e3 : zeroF.2.2.1 = ⟨#[]⟩ := rfl
  rw [e0, e1, e2, e3]
  obtain ⟨V7, hV7⟩ : ∃ x, x = w7.alloc (.cells #[.int .i64 0, .slice q4 0 d4, .bool false, .string ⟨#[]⟩, .slice q5 0 d5] 42) := ⟨_, rfl⟩
  have b7 : Below w7.heap.size w7 V7 := by rw [hV7]; exact (Below.refl _ _).alloc (Nat.le_refl _) _
  have xc7 : Box V7 w7.heap.size [.int .i64 0, .slice q4 0 d4, .bool false, .string ⟨#[]⟩, .slice q5 0 d5] := by rw [hV7]; exact Box.new w7 _ _
  have hg6 := Hg6.out
  have xa7 := (Hxa6.out.only hA3.only (by rintro (e | e); omega; exact Hna.out e)).below b7
  have xb7 := (Hxb6.out.only hA3.only (by rintro (e | e); omega; exact Hnb6.out e)).below b7
  have hr7 : StrsIn V7 (.slice (some ⟨g + 1, 0, none⟩) 1 1) [sR24] := (Hr6.out.onlyN hA3.only (fun _ k hk e => by
    have e9 : g + 1 = k := Option.some.inj hk
    subst e9
    rcases e with e | e
    · omega
    · exact Hnr6.out e)).below b7
  have hby : BytesIn V7 (.slice q3 1 d3) [120] := (Hq2.out w7 ((Only.of_below (S := PermS V6 g) Hb6.out).trans hA3.only (fun _ _ h => h))).below b7
  have hG7 := HF.out.below _ _ (HF.out.asks _ _ _ _ HG6.out (Nat.lt_succ_self g) hO3 HgW.out) b7
  have HB7 := Lib.hid (HB6.out.trans ((hO3.below w.heap.size HB6.out.size fun k hk => by have := HB1.out.size; have := Hg.out; rcases hk with e | e <;> omega).trans (b7.mono (Nat.le_trans HB6.out.size hO3.size))))
  have hcv := BytesIn.back hby
  rw [hV7] at hcv
  have y0 : (w7.alloc (.cells #[.int .i64 0, .slice q4 0 d4, .bool false, .string ⟨#[]⟩, .slice q5 0 d5] 42)).cell? ⟨w4.heap.size, 0, none⟩ = some (.int .i64 2) := by rw [<- hV7]; exact xa7.cell rfl
  have y1 : (w7.alloc (.cells #[.int .i64 0, .slice q4 0 d4, .bool false, .string ⟨#[]⟩, .slice q5 0 d5] 42)).cell? ⟨w6.heap.size, 0, none⟩ = some (.int .i64 1) := by rw [<- hV7]; exact xb7.cell rfl
  have y2 : (w7.alloc (.cells #[.int .i64 0, .slice q4 0 d4, .bool false, .string ⟨#[]⟩, .slice q5 0 d5] 42)).cell? ⟨w6.heap.size, 4, none⟩ = some (.slice q3 1 d3) := by rw [<- hV7]; exact xb7.cell rfl
  have HV7 := Lib.hid hV7
  have HG7 := Lib.hid hG7
  have Hr7 := Lib.hid hr7
  clear hin3 hA3 hO3 hi3 e0 e1 e2 e3 b7 xc7 hg6 xa7 xb7 hr7 hby hG7 HF3 HV6 Hxa6 Hxb6 Hr6
  have hbl := (Below.refl V7.heap.size V7).alloc (Nat.le_refl _) (.cells #[.string ⟨#[98]⟩] 9)
  have HFu := Lib.hid (HF.out.full (.slice (some ⟨g + 1, 0, none⟩) 1 1) (.slice (some ⟨V7.heap.size, 0, none⟩) 1 1) [sR24] [⟨#[98]⟩] _ (HF.out.below _ _ HG7.out hbl) (Hr7.out.below hbl) (strs_oneX V7 ⟨#[98]⟩) (by decide) (by decide))
  have Hbl := Lib.hid hbl
  clear hbl
  have hz7 : w7.heap.size + 1 = V7.heap.size := by rw [HV7.out]; simp
  have Hz7 := Lib.hid hz7
  clear hz7
  go_wp2_with fail
  rw [<- HV7.out, Hz7.out]
  refine HFu.out.mono ?_
  rintro e w9 ⟨v9, rfl, ho9, hb⟩
  have hB9 := Hbl.out.trans (hb.mono Hbl.out.size)
  have hlit := strs_lit w9 [sR24, ⟨#[98]⟩] (by decide) (by decide)
  have hbl2 : Below w9.heap.size w9 (w9.alloc (.cells #[.string ⟨#[114]⟩, .string ⟨#[98]⟩] 9)) := (Below.refl w9.heap.size w9).alloc (Nat.le_refl _) (.cells #[.string ⟨#[114]⟩, .string ⟨#[98]⟩] 9)
  have HT9 := Lib.hid ((texts_q v9 (.slice (some ⟨w9.heap.size, 0, none⟩) 2 2) [sR24, ⟨#[98]⟩] [sR24, ⟨#[98]⟩] (w9.alloc (.cells #[.string ⟨#[114]⟩, .string ⟨#[98]⟩] 9)) (ho9.strsIn.below hbl2) hlit).mono (fun _ _ h => h.says))
  rw [decide_eq_true rfl] at HT9
  have HG9 := Lib.hid (HF.out.below _ _ (HF.out.below _ _ HG7.out hB9) hbl2)
  have HB9 := Lib.hid ((HB7.out.trans (hB9.mono HB7.out.size)).trans (hbl2.mono (Nat.le_trans HB7.out.size hB9.size)))
  clear hb hB9 hlit hbl2 ho9
  go_wp2_with fail
  refine HT9.out.mono ?_
  rintro e w10 ⟨rfl, hb⟩
  have HB10 := Lib.hid (HB9.out.trans (hb.mono HB9.out.size))
  have HLk := Lib.hid (HF.out.looked (.slice none 0 0) [] true ⟨#[105]⟩ w10 (HF.out.below _ _ HG9.out hb) (.inl ⟨rfl, .inl rfl⟩) (by decide))
  clear hb
  go_wp2_with fail
  refine HLk.out.mono ?_
  rintro e w11 ⟨vl, rfl, hl, hb⟩
  obtain ⟨pl, cl, hvl⟩ := Kind.rows_sliced _ hl
  have hvl : vl = .slice pl 2 cl := hvl
  subst hvl
  have HB11 := Lib.hid (HB10.out.trans (hb.mono HB10.out.size))
  clear hb hl
  go_wp2
  go_ret
  exact saysIn_k24 rfl HB11.out
end Go.Proofs.Ytgfibbecnmmpjaa
