/- The reference of layer 19: SameFile, of whatever two files. -/
import Derived.Test.YtgfibbecnmmpjaaQO
import Derived.Test.YtgfibbecnmmpjaaQT5
namespace Go.Proofs.Ytgfibbecnmmpjaa
set_option linter.all false
open Go.RowKit
theorem file_eqS (f g : FileV) : decide (f = g) = (decide (f.1 = g.1) && ((f.2.1 == g.2.1) && (decide (f.2.2.1 = g.2.2.1) && decide ((⟨f.2.2.2.toArray⟩ : ByteArray) = ⟨g.2.2.2.toArray⟩)))) := by
  obtain ⟨f1, f2, f3, f4⟩ := f
  obtain ⟨g1, g2, g3, g4⟩ := g
  rw [Bool.eq_iff_iff]
  simp only [Prod.mk.injEq, decide_eq_true_eq, Bool.and_eq_true, beq_iff_eq, ByteArray.mk.injEq]
  exact ⟨fun ⟨a, b, c, d⟩ => ⟨a, b, c, by rw [d]⟩, fun ⟨a, b, c, d⟩ => ⟨a, b, c, Array.toList_inj.2 d |> fun h => by simpa using h⟩⟩
set_option maxRecDepth 100000 in
set_option maxHeartbeats 8000000 in
theorem sameFileG_any {R1 R2 : Nat -> Prop} (cs1 cs2 : List Value) (f g : FileV) (w : World) (h1 : fileK.In R1 w cs1 f) (h2 : fileK.In R2 w cs2 g) (hS : SmallF f) (hS2 : SmallF g) :
    Calls Try.prog 16 #[.agg cs1.toArray, .agg cs2.toArray] w (SaysIn (decide (f = g)) w) := by
  have HQ := Lib.hid (file_eqS f g)
  generalize decide (f = g) = X at HQ ⊢
  obtain ⟨p0, c0, p1, c1, rfl, hk1⟩ := fileK_parts h1
  obtain ⟨q0, d0, q1, d1, rfl, hk2⟩ := fileK_parts h2
  have HK1 := Lib.hid (fun w' (hb : Below w.heap.size w w') => hk1 (fun _ => False) w' (Only.of_below hb) fun _ _ h => h)
  have HK2 := Lib.hid (fun w' (hb : Below w.heap.size w w') => hk2 (fun _ => False) w' (Only.of_below hb) fun _ _ h => h)
  obtain ⟨L, hL⟩ : ∃ L, L = f.1 := ⟨_, rfl⟩
  obtain ⟨bs, hbs⟩ : ∃ L, L = f.2.2.2 := ⟨_, rfl⟩
  obtain ⟨M, hM⟩ : ∃ L, L = g.1 := ⟨_, rfl⟩
  obtain ⟨ds, hds⟩ : ∃ L, L = g.2.2.2 := ⟨_, rfl⟩
  have hl1 : L.length <= 1000000 := by rw [hL]; exact hS.1
  have hl2 : bs.length <= 1000000 := by rw [hbs]; exact hS.2.1
  have hl3 : M.length <= 1000000 := by rw [hM]; exact hS2.1
  have hl4 : ds.length <= 1000000 := by rw [hds]; exact hS2.2.1
  rw [<- hL, <- hbs] at HK1
  rw [<- hM, <- hds] at HK2
  rw [<- hL, <- hbs, <- hM, <- hds] at HQ
  rw [<- hL, <- hbs, <- hM, <- hds]
  have HT := Lib.hid (fun W (hb : Below w.heap.size w W) => (texts_q _ _ L M W (HK1.out W hb).1 (HK2.out W hb).1).mono (fun _ _ h => h.says))
  have HC1 := Lib.hid (fun W (hb : Below w.heap.size w W) => BytesIn.back (HK1.out W hb).2)
  have HC2 := Lib.hid (fun W (hb : Below w.heap.size w W) => BytesIn.back (HK2.out W hb).2)
  generalize decide (L = M) = tb at HT HQ
  generalize L.length = n0 at *
  generalize bs.length = n1 at *
  generalize M.length = m0 at *
  generalize ds.length = m1 at *
  generalize f.2.1 = d at *
  generalize f.2.2.1 = t at *
  generalize g.2.1 = d' at *
  generalize g.2.2.1 = t' at *
  obtain ⟨y, hy⟩ : ∃ y : ByteArray, y = ⟨bs.toArray⟩ := ⟨_, rfl⟩
  obtain ⟨z, hz⟩ : ∃ y : ByteArray, y = ⟨ds.toArray⟩ := ⟨_, rfl⟩
  rw [<- hy] at HC1 HQ
  rw [<- hz] at HC2 HQ
  have et := bytesEq_bool t t'
  have ey := bytesEq_bool y z
  generalize decide (t = t') = sb at et HQ
  generalize decide (y = z) = bb at ey HQ
  have hbx : ∀ W, W = ((w.alloc (.cells #[.slice p0 n0 c0, .bool d, .string t, .slice p1 n1 c1] 40)).alloc (.cells #[.slice q0 m0 d0, .bool d', .string t', .slice q1 m1 d1] 40)) -> Box W w.heap.size (fileL (.slice p0 n0 c0) d t (.slice p1 n1 c1)) /\ Box W (w.heap.size + 1) (fileL (.slice q0 m0 d0) d' t' (.slice q1 m1 d1)) /\ Below w.heap.size w W := fun W hW => by
    have e1 := Box.new w (fileL (.slice p0 n0 c0) d t (.slice p1 n1 c1)) 40
    have e2 := Box.new (w.alloc (.cells #[.slice p0 n0 c0, .bool d, .string t, .slice p1 n1 c1] 40)) (fileL (.slice q0 m0 d0) d' t' (.slice q1 m1 d1)) 40
    have hs : (w.alloc (.cells #[.slice p0 n0 c0, .bool d, .string t, .slice p1 n1 c1] 40)).heap.size = w.heap.size + 1 := by simp
    rw [hs] at e2
    subst hW
    exact ⟨e1.below ((Below.refl _ _).alloc (Nat.le_refl _) _), e2, ((Below.refl _ _).alloc (Nat.le_refl _) _).alloc (by simp) _⟩
  obtain ⟨X0, Z0, B0⟩ := hbx _ rfl
  generalize hW : ((w.alloc (.cells #[.slice p0 n0 c0, .bool d, .string t, .slice p1 n1 c1] 40)).alloc (.cells #[.slice q0 m0 d0, .bool d', .string t', .slice q1 m1 d1] 40)) = W at *
  have HX := Lib.hid X0
  have HZ := Lib.hid Z0
  have HB := Lib.hid B0
  have x0 := X0.cell (i := 0) rfl
  have z0 := Z0.cell (i := 0) rfl
  clear hk1 hk2 h1 h2 hL hbs hM hds hy hz hS hS2 hbx X0 Z0 B0 hl1 hl2 hl3 hl4
  go_enter Try.func16, Try.ntmps16
  go_wp2_with fail
  refine (HT.out _ HB.out).mono ?_
  rintro e w1 ⟨rfl, hb⟩
  have HX1 := HX.out.below hb
  have HZ1 := HZ.out.below hb
  have HB1 := Lib.hid (HB.out.trans (hb.mono HB.out.size))
  have y1 := HX1.cell (i := 1) rfl
  have y2 := HX1.cell (i := 2) rfl
  have y3 := HX1.cell (i := 3) rfl
  have v1 := HZ1.cell (i := 1) rfl
  have v2 := HZ1.cell (i := 2) rfl
  have v3 := HZ1.cell (i := 3) rfl
  have cv1 := HC1.out w1 HB1.out
  have cv2 := HC2.out w1 HB1.out
  clear hb HX1 HZ1 hW x0 z0
  cases tb
  · go_wp2_with fail
    go_ret
    exact ⟨by rw [HQ.out]; rfl, HB1.out⟩
  · cases d <;> cases d'
    case false.true | true.false =>
      go_wp2_with fail
      go_ret
      exact ⟨by rw [HQ.out]; rfl, HB1.out⟩
    all_goals
      cases sb
      · go_wp2_with fail
        go_ret
        exact ⟨by rw [HQ.out]; rfl, HB1.out⟩
      · cases bb
        all_goals
          go_wp2_with fail
          go_ret
          exact ⟨by rw [HQ.out]; rfl, HB1.out⟩
end Go.Proofs.Ytgfibbecnmmpjaa
