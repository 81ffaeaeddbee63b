/- The law of layer 19: awake. -/
import Derived.Lib.SmallJoins
import Derived.Deep.RegionHeld3
import Derived.Test.YthnnfppjadgldaaGreatDoorQT4
import Derived.Test.YthnnfppjadgldaaGreatDoorQT6
namespace Go.Proofs.YthnnfppjadgldaaGreatDoor
set_option linter.all false
open Go.RowKit
def sA19 : ByteArray := ⟨#[97]⟩
def sB19 : ByteArray := ⟨#[98, 46, 116, 120, 116]⟩
def sC19 : ByteArray := ⟨#[98]⟩
def sT19 : ByteArray := ⟨#[116, 101, 120, 116, 47, 112, 108, 97, 105, 110]⟩
def F19 : FileV := ([sA19, sB19], false, sT19, [120])
theorem strs_lit (w : World) (L : List ByteArray) (h : L.length <= 1000000) (hp : 0 < L.length) : StrsIn (w.alloc (.cells (strVals L).toArray 9)) (.slice (some ⟨w.heap.size, 0, none⟩) L.length L.length) L :=
  .inr ⟨w.heap.size, 0, L.length, rfl, Nat.le_refl _, by omega, fun i u hu => by
    rw [Nat.zero_add]
    exact (Box.new w (strVals L) 9).cell (by simp [strVals, hu])⟩
theorem row_one {R : Nat -> Prop} {w : World} {cs : List Value} {f : FileV} (hi : fileK.In R w cs f) (hR : ∀ k, R k -> k < w.heap.size) (E : TypeId) : fileK.rows (fun k => k < (w.alloc (.cells cs.toArray E)).heap.size) (w.alloc (.cells cs.toArray E)) (.slice (some ⟨w.heap.size, 0, none⟩) 1 1) [f] := by
  have hb : Below w.heap.size w (w.alloc (.cells cs.toArray E)) := (Below.refl _ _).alloc (Nat.le_refl _) _
  refine .inr ⟨w.heap.size, 0, 1, rfl, Nat.le_refl _, by omega, by simp, fun i x hx => ?_⟩
  rcases i with _ | i
  · have e : f = x := by simpa using hx
    subst e
    refine ⟨cs, fileK.mono (fileK.below hi hb) fun k hk => Nat.lt_of_lt_of_le (hR k hk) hb.size, fun j u hj => ?_⟩
    have := (Box.new w cs E).cell hj
    simpa using this
  · simp at hx
theorem row_two {R : Nat -> Prop} {w : World} {cs : List Value} {f : FileV} (hi : fileK.In R w cs f) (hR : ∀ k, R k -> k < w.heap.size) (E : TypeId) : fileK.rows (fun k => k < (w.alloc (.cells (cs ++ cs).toArray E)).heap.size) (w.alloc (.cells (cs ++ cs).toArray E)) (.slice (some ⟨w.heap.size, 0, none⟩) 2 2) [f, f] := by
  have hb : Below w.heap.size w (w.alloc (.cells (cs ++ cs).toArray E)) := (Below.refl _ _).alloc (Nat.le_refl _) _
  have hl : cs.length = 4 := fileK.len hi
  refine .inr ⟨w.heap.size, 0, 2, rfl, Nat.le_refl _, by omega, by simp, fun i x hx => ?_⟩
  have hin := fileK.mono (fileK.below hi hb) (R' := fun k => k < (w.alloc (.cells (cs ++ cs).toArray E)).heap.size) fun k hk => Nat.lt_of_lt_of_le (hR k hk) hb.size
  rcases i with _ | _ | i
  · have e : f = x := by simpa using hx
    subst e
    refine ⟨cs, hin, fun j u hj => ?_⟩
    have hj2 : (cs ++ cs)[j]? = some u := by rw [List.getElem?_append_left (List.getElem?_eq_some_iff.1 hj).1]; exact hj
    have := (Box.new w (cs ++ cs) E).cell hj2
    simpa using this
  · have e : f = x := by simpa using hx
    subst e
    refine ⟨cs, hin, fun j u hj => ?_⟩
    have hj2 : (cs ++ cs)[4 + j]? = some u := by rw [List.getElem?_append_right (by omega), hl]; simpa using hj
    have := (Box.new w (cs ++ cs) E).cell hj2
    show World.cell? _ ⟨w.heap.size, 0 + 1 * 4 + j, none⟩ = some u
    rw [show 0 + 1 * 4 + j = 4 + j by omega]
    exact this
  · simp at hx
def litF (g : Nat) : List Value := fileL (.slice (some ⟨g, 0, none⟩) 2 2) false sT19 (.slice (some ⟨g + 1, 0, none⟩) 1 1)
theorem lit_file (w W : World) (hW : W = (w.alloc (.cells #[.string sA19, .string sB19] 9)).alloc (.cells #[.int .u8 120] 5 (1, 2))) : fileK.In (fun k => k < W.heap.size) W (litF w.heap.size) F19 /\ Below w.heap.size w W /\ W.heap.size = w.heap.size + 2 := by
  have h1 := strs_lit w [sA19, sB19] (by decide) (by decide)
  have hb1 : Below w.heap.size w (w.alloc (.cells #[.string sA19, .string sB19] 9)) := (Below.refl _ _).alloc (Nat.le_refl _) _
  have hs1 : (w.alloc (.cells #[.string sA19, .string sB19] 9)).heap.size = w.heap.size + 1 := by simp
  have hb2 : Below (w.alloc (.cells #[.string sA19, .string sB19] 9)).heap.size (w.alloc (.cells #[.string sA19, .string sB19] 9)) W := by rw [hW]; exact (Below.refl _ _).alloc (Nat.le_refl _) _
  have hs2 : W.heap.size = w.heap.size + 2 := by rw [hW]; simp
  have h2 : BytesIn W (.slice (some ⟨w.heap.size + 1, 0, none⟩) 1 1) [120] := by
    refine .inr ⟨w.heap.size + 1, 0, 1, rfl, Nat.le_refl _, by omega, fun i u hu => ?_⟩
    rw [hW, Nat.zero_add]
    have := World.cell?_alloc_mark (w.alloc (.cells #[.string sA19, .string sB19] 9)) #[.int .u8 120] 5 (1, 2) i
    rw [hs1] at this
    rw [this]
    simpa [byteVals] using hu
  exact ⟨file_in (f := F19) (StrsIn.below h1 hb2) h2 (fun k hk => by
    have e : w.heap.size = k := Option.some.inj hk
    omega) (fun k hk => by
    have e : w.heap.size + 1 = k := Option.some.inj hk
    omega), hb1.trans (hb2.mono hb1.size), hs2⟩
theorem Tryz.eqNN19 (w : World) : (binOp .eql 28 .nilIface .nilIface).run Tryz.prog w = .ok (.bool true) w := by kernel_rfl
theorem rest_ofX {P G : Prop} (f : P -> G) (p : P) : G := f p
theorem file_path {R : Nat -> Prop} {w : World} {v a b c : Value} {f : FileV} (h : fileK.In R w [v, a, b, c] f) : StrsIn w v f.1 := by
  obtain ⟨p0, c0, p1, c1, e, h1, _⟩ := fileK_cells h
  injection e with e _
  rw [e]; exact h1
theorem small19 : ∀ f ∈ [F19], SmallF f /\ f.1.length <= 1000 := by
  intro f hf
  rw [List.mem_singleton] at hf
  subst hf
  exact ⟨⟨by decide, by decide, by decide, by decide⟩, by decide⟩
theorem small19b : ∀ f ∈ [F19, F19], SmallF f /\ f.1.length <= 1000 := by
  intro f hf
  have : f = F19 := by simpa using hf
  subst this
  exact ⟨⟨by decide, by decide, by decide, by decide⟩, by decide⟩
theorem right19 : RightG okT ([F19].map tfOf) := right_of_check (by kernel_rfl)
theorem bad19 : badT [F19] = none := by kernel_rfl
theorem bad19b : badT [F19, F19] = some 1 := by kernel_rfl
theorem kind19a : kindN ([F19].map tfOf) [sA19] = 2 := by rw [kindN_eq right19]; kernel_rfl
theorem kind19b : kindN ([F19].map tfOf) [sA19, sB19] = 1 := by rw [kindN_eq right19]; kernel_rfl
theorem kind19c : kindN ([F19].map tfOf) [sC19] = 0 := by rw [kindN_eq right19]; kernel_rfl
theorem kind19d : kindN ([F19].map tfOf) [] = 2 := by rw [kindN_eq right19]; kernel_rfl
theorem get19a : getF [F19] [sA19, sB19] = some F19 := by kernel_rfl
theorem get19b : getF [F19] [sA19] = none := by kernel_rfl
theorem list19 : listP ([F19].map tfOf) [] = [sA19] := by kernel_rfl
theorem plain19a : plainP sA19 = true := by kernel_rfl
theorem plain19b : plainP ⟨#[46, 46]⟩ = false := by kernel_rfl
theorem strs_oneX (w : World) (x : ByteArray) : StrsIn (w.alloc (.cells #[.string x] 9)) (.slice (some ⟨w.heap.size, 0, none⟩) 1 1) [x] := strs_lit w [x] (by simp) (by simp)
set_option maxRecDepth 100000 in
set_option maxHeartbeats 8000000 in
theorem awake19 (w : World) (hg : ErrType w) : Calls Tryz.prog 8 #[] w (SaysIn true w) := by
  have hfacts : ∀ W W1 W2, W = ((w.alloc (.cells #[.string sA19, .string sB19] 9)).alloc (.cells #[.int .u8 120] 5 (1, 2))) -> W1 = W.alloc (.cells (litF w.heap.size).toArray 39) -> W2 = W1.alloc (.cells (litF w.heap.size).toArray 39) ->
      Below w.heap.size w W2 /\ fileK.In (fun k => k < W2.heap.size) W2 (litF w.heap.size) F19 /\ Box W2 (w.heap.size + 2) (litF w.heap.size) /\ fileK.rows (fun k => k < W2.heap.size) W2 (.slice (some ⟨w.heap.size + 3, 0, none⟩) 1 1) [F19] := by
    intro W W1 W2 h0 h1 h2
    obtain ⟨k1, k2, k3⟩ := lit_file w W h0
    have hb1 : Below W.heap.size W W1 := by rw [h1]; exact (Below.refl _ _).alloc (Nat.le_refl _) _
    have hs1 : W1.heap.size = w.heap.size + 3 := by rw [h1]; simp [k3]
    have hb2 : Below W1.heap.size W1 W2 := by rw [h2]; exact (Below.refl _ _).alloc (Nat.le_refl _) _
    have hin1 : fileK.In (fun k => k < W1.heap.size) W1 (litF w.heap.size) F19 := fileK.mono (fileK.below k1 hb1) fun k hk => Nat.lt_of_lt_of_le hk hb1.size
    refine ⟨(k2.trans (hb1.mono k2.size)).trans (hb2.mono (Nat.le_trans k2.size hb1.size)), fileK.mono (fileK.below hin1 hb2) fun k hk => Nat.lt_of_lt_of_le hk hb2.size, ?_, ?_⟩
    · have := Box.new W (litF w.heap.size) 39
      rw [k3, <- h1] at this
      exact this.below hb2
    · have := row_one hin1 (fun k hk => hk) 39
      rw [hs1, <- h2] at this
      exact this
  obtain ⟨B0, HI0, X0, HR0⟩ := hfacts _ _ _ rfl rfl rfl
  have HG := Lib.hid hg
  unfold litF fileL sA19 sB19 sT19 at B0 HI0 X0 HR0
  generalize hW : (((w.alloc (.cells #[.string ⟨#[97]⟩, .string ⟨#[98, 46, 116, 120, 116]⟩] 9)).alloc (.cells #[.int .u8 120] 5 (1, 2))).alloc (.cells #[.slice (some ⟨w.heap.size, 0, none⟩) 2 2, .bool false, .string ⟨#[116, 101, 120, 116, 47, 112, 108, 97, 105, 110]⟩, .slice (some ⟨w.heap.size + 1, 0, none⟩) 1 1] 39)).alloc (.cells #[.slice (some ⟨w.heap.size, 0, none⟩) 2 2, .bool false, .string ⟨#[116, 101, 120, 116, 47, 112, 108, 97, 105, 110]⟩, .slice (some ⟨w.heap.size + 1, 0, none⟩) 1 1] 39) = W at B0 HI0 X0 HR0
  have HB := Lib.hid B0
  have HI := Lib.hid HI0
  have HX := Lib.hid X0
  have HNa := Lib.hid (newTree_any _ [F19] W HR0 small19 (by decide))
  have hcv := Go.Joins.run_convert_bytes_const_at (P := Tryz.prog) (w.alloc (.cells #[.string ⟨#[97]⟩, .string ⟨#[98, 46, 116, 120, 116]⟩] 9)) 37 5 #[.int .u8 120] 1 1 (w.heap.size + 1) (by simp) Tryz.underlying37 Tryz.underlying5
  clear hfacts B0 HI0 X0 HR0 hg
  go_enter Tryz.func8, Tryz.ntmps8
  go_wp2_with fail
  refine HNa.out.mono ?_
  rintro e w1 ⟨hr, hb⟩
  have hr : ∃ tp, e = .returned (.tuple #[.pointer (some ⟨tp, 0, none⟩), .nilIface]) /\ TreeAt (fun k => W.heap.size <= k /\ k < w1.heap.size) w1 tp [F19] := by
    rcases hr with ⟨_, h⟩ | ⟨i, h, _⟩
    · exact h
    · rw [bad19] at h; cases h
  obtain ⟨tp, rfl, ht⟩ := hr
  have HX1 := Lib.hid (HX.out.below hb)
  have hin1 := fileK.mono (fileK.below HI.out hb) (R' := fun k => k < w1.heap.size) fun k hk => Nat.lt_of_lt_of_le hk hb.size
  have HB1 := Lib.hid (HB.out.trans (hb.mono HB.out.size))
  have HT1 := Lib.hid ht
  have HI1 := Lib.hid hin1
  obtain ⟨fb, hfb⟩ : ∃ fb, fb = w.heap.size + 2 := ⟨_, rfl⟩
  have hfb2 : w.heap.size + 1 + 1 = fb := by omega
  obtain ⟨pb, hpb⟩ : ∃ pb, pb = w.heap.size := ⟨_, rfl⟩
  obtain ⟨bb, hbb⟩ : ∃ bb, bb = w.heap.size + 1 := ⟨_, rfl⟩
  rw [<- hbb, <- hpb] at HI1
  rw [<- hfb, <- hbb, <- hpb] at HX1
  obtain ⟨W3, hW3⟩ : ∃ W3, W3 = w1.alloc (.cells #[.slice (some ⟨pb, 0, none⟩) 2 2, .bool false, .string ⟨#[116, 101, 120, 116, 47, 112, 108, 97, 105, 110]⟩, .slice (some ⟨bb, 0, none⟩) 1 1, .slice (some ⟨pb, 0, none⟩) 2 2, .bool false, .string ⟨#[116, 101, 120, 116, 47, 112, 108, 97, 105, 110]⟩, .slice (some ⟨bb, 0, none⟩) 1 1] 39) := ⟨_, rfl⟩
  have hr2 := row_two HI1.out (fun k hk => hk) 39
  simp only [List.cons_append, List.nil_append] at hr2
  have hb2 : Below w1.heap.size w1 W3 := by rw [hW3]; exact (Below.refl _ _).alloc (Nat.le_refl _) _
  rw [<- hW3] at hr2
  have HNb := Lib.hid (newTree_any _ [F19, F19] _ hr2 small19b (by decide))
  have y0 := HX1.out.cell (i := 0) rfl
  have y1 := HX1.out.cell (i := 1) rfl
  have y2 := HX1.out.cell (i := 2) rfl
  have y3 := HX1.out.cell (i := 3) rfl
  have Hb2 := Lib.hid hb2
  have HP1 := Lib.hid (show StrsIn w1 (.slice (some ⟨pb, 0, none⟩) 2 2) [sA19, sB19] from file_path HI1.out)
  rw [hfb2]
  rw [<- hbb, <- hpb]
  clear hb ht hin1 hr2 hb2 hW hcv HX HI HNa HB hfb hfb2 hpb hbb hr
  go_wp2_with fail
  rw [<- hW3]
  clear hW3
  refine HNb.out.mono ?_
  rintro e w2 ⟨hr, hb⟩
  have hr : e = .returned (.tuple #[.pointer none, baseF 400 1]) := by
    rcases hr with ⟨h, _⟩ | ⟨i, h, h2⟩
    · rw [bad19b] at h; cases h
    · rw [bad19b] at h
      injection h with h
      rw [h2, <- h]; rfl
  subst hr
  have HB2 := Lib.hid (Hb2.out.trans (hb.mono Hb2.out.size))
  have HGw := Lib.hid ((HG.out.below HB1.out).below HB2.out)
  have u0 := (HX1.out.below HB2.out).cell (i := 0) rfl
  have HGa : Hid (Calls Tryz.prog 17 #[.pointer (some ⟨tp, 0, none⟩), .slice (some ⟨pb, 0, none⟩) 2 2] w2 fun e w' => ∃ cs, e = .returned (.tuple #[.agg (List.toArray cs), .bool true]) /\ fileW.In (fun k => w2.heap.size <= k /\ k < w'.heap.size) w' cs F19 /\ Below w2.heap.size w2 w') := Lib.hid (by
    have := treeGet_any _ [sA19, sB19] tp [F19] w2 (HT1.out.below HB2.out) right19 (HP1.out.below HB2.out) (by decide) fun f hf => (small19 f hf).1
    rw [get19a] at this
    exact this)
  clear hb HNb Hb2 y0 y1 y2 y3
  unfold baseF
  go_wp2_with fail
  refine HGa.out.mono ?_
  rintro e w3 ⟨cs, rfl, hin3, hb⟩
  obtain ⟨q0, d0, q1, d1, he3, _⟩ := fileK_parts hin3.1
  have he4 : cs = [.slice q0 2 d0, .bool false, .string ⟨#[116, 101, 120, 116, 47, 112, 108, 97, 105, 110]⟩, .slice q1 1 d1] := he3
  clear he3
  subst he4
  have HI3 := Lib.hid (fileK.mono hin3.1 (R' := fun k => k < w3.heap.size) fun k hk => hk.2)
  have HB3 := Lib.hid (HB2.out.trans (hb.mono HB2.out.size))
  have hb3 : Below w3.heap.size w3 ((w3.alloc (.cells #[.slice q0 2 d0, .bool false, .string ⟨#[116, 101, 120, 116, 47, 112, 108, 97, 105, 110]⟩, .slice q1 1 d1] 39)).alloc (.cells #[.string ⟨#[97]⟩] 9)) := ((Below.refl _ _).alloc (Nat.le_refl _) _).alloc (by simp) _
  have hs3 := strs_oneX (w3.alloc (.cells #[.slice q0 2 d0, .bool false, .string ⟨#[116, 101, 120, 116, 47, 112, 108, 97, 105, 110]⟩, .slice q1 1 d1] 39)) sA19
  rw [World.size_alloc] at hs3
  have hx3 := (Box.new w3 [.slice q0 2 d0, .bool false, .string ⟨#[116, 101, 120, 116, 47, 112, 108, 97, 105, 110]⟩, .slice q1 1 d1] 39).below ((Below.refl _ (w3.alloc (.cells #[.slice q0 2 d0, .bool false, .string ⟨#[116, 101, 120, 116, 47, 112, 108, 97, 105, 110]⟩, .slice q1 1 d1] 39))).alloc (Nat.le_refl _) (.cells #[.string ⟨#[97]⟩] 9))
  obtain ⟨gk, hgk⟩ : ∃ gk, gk = w3.heap.size := ⟨_, rfl⟩
  obtain ⟨W4, hW4⟩ : ∃ W4, W4 = (w3.alloc (.cells #[.slice q0 2 d0, .bool false, .string ⟨#[116, 101, 120, 116, 47, 112, 108, 97, 105, 110]⟩, .slice q1 1 d1] 39)).alloc (.cells #[.string ⟨#[97]⟩] 9) := ⟨_, rfl⟩
  unfold sA19 at hs3
  rw [<- hW4] at hb3 hs3 hx3
  have HGb : Hid (Calls Tryz.prog 17 #[.pointer (some ⟨tp, 0, none⟩), .slice (some ⟨w3.heap.size + 1, 0, none⟩) 1 1] W4 fun e w' => ∃ cs, e = .returned (.tuple #[.agg (List.toArray cs), .bool false]) /\ fileW.In (fun k => W4.heap.size <= k /\ k < w'.heap.size) w' cs zeroF /\ Below W4.heap.size W4 w') := Lib.hid (by
    have := treeGet_any _ [sA19] tp [F19] W4 ((HT1.out.below HB3.out).below hb3) right19 hs3 (by decide) fun f hf => (small19 f hf).1
    rw [get19b] at this
    exact this)
  have HB4 := Lib.hid (HB3.out.trans (hb3.mono HB3.out.size))
  have HX4 := Lib.hid hx3
  have HI4 := Lib.hid (fileK.mono (fileK.below HI3.out hb3) (R' := fun k => k < W4.heap.size) fun k hk => Nat.lt_of_lt_of_le hk hb3.size)
  rw [<- hgk] at HX4
  have hgk1 : w3.heap.size + 1 = gk + 1 := by rw [hgk]
  rw [hgk1] at HGb
  clear hin3 hb hb3 hs3 hx3 HGa u0 HI3
  go_wp2_with fail
  rw [<- hgk]
  rw [<- hW4]
  clear hW4
  have Hgk := Lib.hid hgk
  clear hgk hgk1
  have HGi := Lib.hid (fun W (hb : Below w1.heap.size w1 W) => (HG.out.below HB1.out).below hb)
  have HKd := Lib.hid (fun W v L k (hb : Below w1.heap.size w1 W) (hs : StrsIn W v L) (hx : ∀ x ∈ L, x.size <= 1000000) (hk : kindN ([F19].map tfOf) L = k) => show Calls Tryz.prog 20 #[.pointer (some ⟨tp, 0, none⟩), v] W (IntTo k W) by rw [<- hk]; exact treeKind_any v L tp [F19] W (HT1.out.below hb) hs hx)
  have HLs := Lib.hid (fun W (hb : Below w1.heap.size w1 W) => show Calls Tryz.prog 23 #[.pointer (some ⟨tp, 0, none⟩), .slice none 0 0] W (ListTo [sA19] W) by
    have := treeList_any (.slice none 0 0) [] tp [F19] W (HT1.out.below hb) right19 (.inl ⟨rfl, .inl rfl⟩) (by simp) fun f hf => (small19 f hf).1
    rw [list19] at this
    exact this)
  have HEn := Lib.hid (fun W (hb : Below w1.heap.size w1 W) => entries_any tp [F19] W (HT1.out.below hb) (fun f hf => (small19 f hf).1) (by decide))
  refine HGb.out.mono ?_
  rintro e w5 ⟨cs2, rfl, hin5, hb⟩
  obtain ⟨r0, e0, r1, e1, he5, _⟩ := fileK_parts hin5.1
  have he6 : cs2 = [.slice r0 0 e0, .bool false, .string ⟨#[]⟩, .slice r1 0 e1] := he5
  clear he5
  subst he6
  have HB5 := Lib.hid (HB4.out.trans (hb.mono HB4.out.size))
  have HX5 := Lib.hid (HX4.out.below hb)
  have HI5 := Lib.hid (fileK.mono (fileK.below HI4.out hb) (R' := fun k => k < w5.heap.size) fun k hk => Nat.lt_of_lt_of_le hk hb.size)
  obtain ⟨W5, hW5⟩ : ∃ W5, W5 = w5.alloc (.cells #[.slice r0 0 e0, .bool false, .string ⟨#[]⟩, .slice r1 0 e1] 39) := ⟨_, rfl⟩
  have hb5 : Below w5.heap.size w5 W5 := by rw [hW5]; exact (Below.refl _ _).alloc (Nat.le_refl _) _
  have HB6 := Lib.hid (HB5.out.trans (hb5.mono HB5.out.size))
  have HX6 := Lib.hid (HX5.out.below hb5)
  have HI6 := Lib.hid (fileK.mono (fileK.below HI5.out hb5) (R' := fun k => k < W5.heap.size) fun k hk => Nat.lt_of_lt_of_le hk hb5.size)
  have HBf := Lib.hid (fun W (hb : Below W5.heap.size W5 W) => HB6.out.trans (hb.mono HB6.out.size))
  have hnn := Tryz.eqNN19
  clear hin5 hb hb5 HGb HB2 HB3 HB4 HB5 HX4 HX5 HI4 HI5
  go_wp2_with fail
  rw [<- hW5]
  clear hW5
  have C5 := Lib.hid ((Below.refl W5.heap.size W5).drew)
  have HS := Lib.hid (fun V (hb : Below W5.heap.size W5 V) => show V.cell? ⟨gk, 0, none⟩ = some (.slice q0 2 d0) /\ V.cell? ⟨gk, 1, none⟩ = some (.bool false) /\ V.cell? ⟨gk, 2, none⟩ = some (.string ⟨#[116, 101, 120, 116, 47, 112, 108, 97, 105, 110]⟩) /\ V.cell? ⟨gk, 3, none⟩ = some (.slice q1 1 d1) /\ V.cell? ⟨fb, 0, none⟩ = some (.slice (some ⟨pb, 0, none⟩) 2 2) /\ V.cell? ⟨fb, 1, none⟩ = some (.bool false) /\ V.cell? ⟨fb, 2, none⟩ = some (.string ⟨#[116, 101, 120, 116, 47, 112, 108, 97, 105, 110]⟩) /\ V.cell? ⟨fb, 3, none⟩ = some (.slice (some ⟨bb, 0, none⟩) 1 1) from
    ⟨(HX6.out.below hb).cell (i := 0) rfl, (HX6.out.below hb).cell (i := 1) rfl, (HX6.out.below hb).cell (i := 2) rfl, (HX6.out.below hb).cell (i := 3) rfl, (HX1.out.below (HBf.out _ hb)).cell (i := 0) rfl, (HX1.out.below (HBf.out _ hb)).cell (i := 1) rfl, (HX1.out.below (HBf.out _ hb)).cell (i := 2) rfl, (HX1.out.below (HBf.out _ hb)).cell (i := 3) rfl⟩)
  simp only [List.append]
  refine wp_region_held_drew (S := fun W => W.cell? ⟨gk, 0, none⟩ = some (.slice q0 2 d0) /\ W.cell? ⟨gk, 1, none⟩ = some (.bool false) /\ W.cell? ⟨gk, 2, none⟩ = some (.string ⟨#[116, 101, 120, 116, 47, 112, 108, 97, 105, 110]⟩) /\ W.cell? ⟨gk, 3, none⟩ = some (.slice q1 1 d1) /\ W.cell? ⟨fb, 0, none⟩ = some (.slice (some ⟨pb, 0, none⟩) 2 2) /\ W.cell? ⟨fb, 1, none⟩ = some (.bool false) /\ W.cell? ⟨fb, 2, none⟩ = some (.string ⟨#[116, 101, 120, 116, 47, 112, 108, 97, 105, 110]⟩) /\ W.cell? ⟨fb, 3, none⟩ = some (.slice (some ⟨bb, 0, none⟩) 1 1)) (by kernel_rfl) (HS.out _ C5.out) (fun hHeld => ?_)
  refine wpAnyH_take (i := 0) (oi := _) (v := ?_) rfl (by kernel_rfl) (by kernel_rfl) (by kernel_rfl) (fun _ _ _ h => h) (Or.inl ⟨by kernel_rfl, ?_⟩) (by assumption) ?_
  rotate_left
  · intro w hSw
    obtain ⟨hS1, hS2, hS3, hS4, hS5, hS6, hS7, hS8⟩ := hSw
    go_simp
    all_goals with_reducible rfl
  try simp only [Act.put, List.setIfInBounds_toArray, List.set_cons_zero, List.set_cons_succ]
  refine wpAnyH_take (i := 1) (oi := _) (v := ?_) rfl (by kernel_rfl) (by kernel_rfl) (by kernel_rfl) (fun _ _ _ h => h) (Or.inl ⟨by kernel_rfl, ?_⟩) (by assumption) ?_
  rotate_left
  · intro w hSw
    obtain ⟨hS1, hS2, hS3, hS4, hS5, hS6, hS7, hS8⟩ := hSw
    go_simp
    all_goals with_reducible rfl
  try simp only [Act.put, List.setIfInBounds_toArray, List.set_cons_zero, List.set_cons_succ]
  refine wpAnyH_take (i := 2) (oi := _) (v := ?_) rfl (by kernel_rfl) (by kernel_rfl) (by kernel_rfl) (fun _ _ _ h => h) (Or.inl ⟨by kernel_rfl, ?_⟩) (by assumption) ?_
  rotate_left
  · intro w hSw
    obtain ⟨hS1, hS2, hS3, hS4, hS5, hS6, hS7, hS8⟩ := hSw
    go_simp
    all_goals with_reducible rfl
  try simp only [Act.put, List.setIfInBounds_toArray, List.set_cons_zero, List.set_cons_succ]
  refine wpAnyH_take (i := 3) (oi := _) (v := ?_) rfl (by kernel_rfl) (by kernel_rfl) (by kernel_rfl) (fun _ _ _ h => h) (Or.inl ⟨by kernel_rfl, ?_⟩) (by assumption) ?_
  rotate_left
  · intro w hSw
    obtain ⟨hS1, hS2, hS3, hS4, hS5, hS6, hS7, hS8⟩ := hSw
    go_simp
    all_goals with_reducible rfl
  try simp only [Act.put, List.setIfInBounds_toArray, List.set_cons_zero, List.set_cons_succ]
  refine wpAnyH_ready (rs := [4]) (by kernel_rfl) (by simp) ?_
  refine AllReadyH.cons (o := _) rfl (fun K hK => ?_) AllReadyH.nil
  go_simp
  go_at_call 14
  refine (wrong19_F 1 1 _ (HGi.out _ (HBf.out _ C5.out))).mono ?_
  rintro e w6 ⟨rfl, hb⟩
  have C6 := Lib.hid (C5.out.trans (hb.mono C5.out.size))
  clear hb
  refine hK.out _ _ (HS.out _ C6.out) (fun hHeld => ?_)
  clear hK K
  try simp only [Act.put, List.setIfInBounds_toArray, List.set_cons_zero, List.set_cons_succ]
  refine wpAnyH_take (i := 5) (oi := _) (v := ?_) rfl (by kernel_rfl) (by kernel_rfl) (by kernel_rfl) (fun _ _ _ h => h) (Or.inl ⟨by kernel_rfl, ?_⟩) (by assumption) ?_
  rotate_left
  · intro w hSw
    obtain ⟨hS1, hS2, hS3, hS4, hS5, hS6, hS7, hS8⟩ := hSw
    go_simp
    all_goals with_reducible rfl
  try simp only [Act.put, List.setIfInBounds_toArray, List.set_cons_zero, List.set_cons_succ]
  refine wpAnyH_take (i := 6) (oi := _) (v := ?_) rfl (by kernel_rfl) (by kernel_rfl) (by kernel_rfl) (fun _ _ _ h => h) (Or.inl ⟨by kernel_rfl, ?_⟩) (by assumption) ?_
  rotate_left
  · intro w hSw
    obtain ⟨hS1, hS2, hS3, hS4, hS5, hS6, hS7, hS8⟩ := hSw
    go_simp
    all_goals with_reducible rfl
  try simp only [Act.put, List.setIfInBounds_toArray, List.set_cons_zero, List.set_cons_succ]
  refine wpAnyH_take (i := 7) (oi := _) (v := ?_) rfl (by kernel_rfl) (by kernel_rfl) (by kernel_rfl) (fun _ _ _ h => h) (Or.inl ⟨by kernel_rfl, ?_⟩) (by assumption) ?_
  rotate_left
  · intro w hSw
    obtain ⟨hS1, hS2, hS3, hS4, hS5, hS6, hS7, hS8⟩ := hSw
    go_simp
    all_goals with_reducible rfl
  try simp only [Act.put, List.setIfInBounds_toArray, List.set_cons_zero, List.set_cons_succ]
  refine wpAnyH_ready (rs := [8]) (by kernel_rfl) (by simp) ?_
  refine AllReadyH.cons (o := _) rfl (fun K hK => ?_) AllReadyH.nil
  go_simp
  refine hK.out _ _ (HS.out _ (C6.out.alloc C6.out.size _)) (fun hHeld => ?_)
  clear hK K
  try simp only [Act.put, List.setIfInBounds_toArray, List.set_cons_zero, List.set_cons_succ]
  refine wpAnyH_ready (rs := [9]) (by kernel_rfl) (by simp) ?_
  refine AllReadyH.cons (o := _) rfl (fun K hK => ?_) AllReadyH.nil
  go_simp
  go_at_call 20
  refine (HKd.out (w6.alloc (.cells #[.string ⟨#[97]⟩] 9)) (.slice (some ⟨w6.heap.size, 0, none⟩) 1 1) [sA19] 2 (HBf.out _ (C6.out.alloc C6.out.size _)) (strs_oneX w6 sA19) (by decide) kind19a).mono ?_
  rintro e w7 ⟨rfl, hb⟩
  have C7 := Lib.hid ((C6.out.alloc C6.out.size (.cells #[.string ⟨#[97]⟩] 9)).trans (hb.mono (C6.out.alloc C6.out.size (.cells #[.string ⟨#[97]⟩] 9)).size))
  clear hb
  refine hK.out _ _ (HS.out _ C7.out) (fun hHeld => ?_)
  clear hK K
  try simp only [Act.put, List.setIfInBounds_toArray, List.set_cons_zero, List.set_cons_succ]
  refine wpAnyH_take (i := 10) (oi := _) (v := ?_) rfl (by kernel_rfl) (by kernel_rfl) (by kernel_rfl) (fun _ _ _ h => h) (Or.inl ⟨by kernel_rfl, ?_⟩) (by assumption) ?_
  rotate_left
  · intro w hSw
    obtain ⟨hS1, hS2, hS3, hS4, hS5, hS6, hS7, hS8⟩ := hSw
    go_simp
    all_goals with_reducible rfl
  try simp only [Act.put, List.setIfInBounds_toArray, List.set_cons_zero, List.set_cons_succ]
  refine wpAnyH_take (i := 11) (oi := _) (v := ?_) rfl (by kernel_rfl) (by kernel_rfl) (by kernel_rfl) (fun _ _ _ h => h) (Or.inl ⟨by kernel_rfl, ?_⟩) (by assumption) ?_
  rotate_left
  · intro w hSw
    obtain ⟨hS1, hS2, hS3, hS4, hS5, hS6, hS7, hS8⟩ := hSw
    go_simp
    all_goals with_reducible rfl
  try simp only [Act.put, List.setIfInBounds_toArray, List.set_cons_zero, List.set_cons_succ]
  refine wpAnyH_take (i := 12) (oi := _) (v := ?_) rfl (by kernel_rfl) (by kernel_rfl) (by kernel_rfl) (fun _ _ _ h => h) (Or.inl ⟨by kernel_rfl, ?_⟩) (by assumption) ?_
  rotate_left
  · intro w hSw
    obtain ⟨hS1, hS2, hS3, hS4, hS5, hS6, hS7, hS8⟩ := hSw
    go_simp
    all_goals with_reducible rfl
  try simp only [Act.put, List.setIfInBounds_toArray, List.set_cons_zero, List.set_cons_succ]
  refine wpAnyH_take (i := 13) (oi := _) (v := ?_) rfl (by kernel_rfl) (by kernel_rfl) (by kernel_rfl) (fun _ _ _ h => h) (Or.inl ⟨by kernel_rfl, ?_⟩) (by assumption) ?_
  rotate_left
  · intro w hSw
    obtain ⟨hS1, hS2, hS3, hS4, hS5, hS6, hS7, hS8⟩ := hSw
    go_simp
    all_goals with_reducible rfl
  try simp only [Act.put, List.setIfInBounds_toArray, List.set_cons_zero, List.set_cons_succ]
  refine wpAnyH_take (i := 14) (oi := _) (v := ?_) rfl (by kernel_rfl) (by kernel_rfl) (by kernel_rfl) (fun _ _ _ h => h) (Or.inl ⟨by kernel_rfl, ?_⟩) (by assumption) ?_
  rotate_left
  · intro w hSw
    obtain ⟨hS1, hS2, hS3, hS4, hS5, hS6, hS7, hS8⟩ := hSw
    go_simp
    all_goals with_reducible rfl
  try simp only [Act.put, List.setIfInBounds_toArray, List.set_cons_zero, List.set_cons_succ]
  refine wpAnyH_take (i := 15) (oi := _) (v := ?_) rfl (by kernel_rfl) (by kernel_rfl) (by kernel_rfl) (fun _ _ _ h => h) (Or.inl ⟨by kernel_rfl, ?_⟩) (by assumption) ?_
  rotate_left
  · intro w hSw
    obtain ⟨hS1, hS2, hS3, hS4, hS5, hS6, hS7, hS8⟩ := hSw
    go_simp
    all_goals with_reducible rfl
  try simp only [Act.put, List.setIfInBounds_toArray, List.set_cons_zero, List.set_cons_succ]
  refine wpAnyH_ready (rs := [16]) (by kernel_rfl) (by simp) ?_
  refine AllReadyH.cons (o := _) rfl (fun K hK => ?_) AllReadyH.nil
  go_simp
  go_at_call 20
  refine (HKd.out w7 (.slice (some ⟨pb, 0, none⟩) 2 2) [sA19, sB19] 1 (HBf.out _ C7.out) (HP1.out.below (HBf.out _ C7.out)) (by decide) kind19b).mono ?_
  rintro e w8 ⟨rfl, hb⟩
  have C8 := Lib.hid (C7.out.trans (hb.mono C7.out.size))
  clear hb
  refine hK.out _ _ (HS.out _ C8.out) (fun hHeld => ?_)
  clear hK K
  try simp only [Act.put, List.setIfInBounds_toArray, List.set_cons_zero, List.set_cons_succ]
  refine wpAnyH_take (i := 17) (oi := _) (v := ?_) rfl (by kernel_rfl) (by kernel_rfl) (by kernel_rfl) (fun _ _ _ h => h) (Or.inl ⟨by kernel_rfl, ?_⟩) (by assumption) ?_
  rotate_left
  · intro w hSw
    obtain ⟨hS1, hS2, hS3, hS4, hS5, hS6, hS7, hS8⟩ := hSw
    go_simp
    all_goals with_reducible rfl
  try simp only [Act.put, List.setIfInBounds_toArray, List.set_cons_zero, List.set_cons_succ]
  refine wpAnyH_take (i := 18) (oi := _) (v := ?_) rfl (by kernel_rfl) (by kernel_rfl) (by kernel_rfl) (fun _ _ _ h => h) (Or.inl ⟨by kernel_rfl, ?_⟩) (by assumption) ?_
  rotate_left
  · intro w hSw
    obtain ⟨hS1, hS2, hS3, hS4, hS5, hS6, hS7, hS8⟩ := hSw
    go_simp
    all_goals with_reducible rfl
  try simp only [Act.put, List.setIfInBounds_toArray, List.set_cons_zero, List.set_cons_succ]
  refine wpAnyH_take (i := 19) (oi := _) (v := ?_) rfl (by kernel_rfl) (by kernel_rfl) (by kernel_rfl) (fun _ _ _ h => h) (Or.inl ⟨by kernel_rfl, ?_⟩) (by assumption) ?_
  rotate_left
  · intro w hSw
    obtain ⟨hS1, hS2, hS3, hS4, hS5, hS6, hS7, hS8⟩ := hSw
    go_simp
    all_goals with_reducible rfl
  try simp only [Act.put, List.setIfInBounds_toArray, List.set_cons_zero, List.set_cons_succ]
  refine wpAnyH_take (i := 20) (oi := _) (v := ?_) rfl (by kernel_rfl) (by kernel_rfl) (by kernel_rfl) (fun _ _ _ h => h) (Or.inl ⟨by kernel_rfl, ?_⟩) (by assumption) ?_
  rotate_left
  · intro w hSw
    obtain ⟨hS1, hS2, hS3, hS4, hS5, hS6, hS7, hS8⟩ := hSw
    go_simp
    all_goals with_reducible rfl
  try simp only [Act.put, List.setIfInBounds_toArray, List.set_cons_zero, List.set_cons_succ]
  refine wpAnyH_ready (rs := [21]) (by kernel_rfl) (by simp) ?_
  refine AllReadyH.cons (o := _) rfl (fun K hK => ?_) AllReadyH.nil
  go_simp
  refine hK.out _ _ (HS.out _ (C8.out.alloc C8.out.size _)) (fun hHeld => ?_)
  clear hK K
  try simp only [Act.put, List.setIfInBounds_toArray, List.set_cons_zero, List.set_cons_succ]
  refine wpAnyH_ready (rs := [22]) (by kernel_rfl) (by simp) ?_
  refine AllReadyH.cons (o := _) rfl (fun K hK => ?_) AllReadyH.nil
  go_simp
  go_at_call 20
  refine (HKd.out (w8.alloc (.cells #[.string ⟨#[98]⟩] 9)) (.slice (some ⟨w8.heap.size, 0, none⟩) 1 1) [sC19] 0 (HBf.out _ (C8.out.alloc C8.out.size _)) (strs_oneX w8 sC19) (by decide) kind19c).mono ?_
  rintro e w9 ⟨rfl, hb⟩
  have C9 := Lib.hid ((C8.out.alloc C8.out.size (.cells #[.string ⟨#[98]⟩] 9)).trans (hb.mono (C8.out.alloc C8.out.size (.cells #[.string ⟨#[98]⟩] 9)).size))
  clear hb
  refine hK.out _ _ (HS.out _ C9.out) (fun hHeld => ?_)
  clear hK K
  try simp only [Act.put, List.setIfInBounds_toArray, List.set_cons_zero, List.set_cons_succ]
  refine wpAnyH_take (i := 23) (oi := _) (v := ?_) rfl (by kernel_rfl) (by kernel_rfl) (by kernel_rfl) (fun _ _ _ h => h) (Or.inl ⟨by kernel_rfl, ?_⟩) (by assumption) ?_
  rotate_left
  · intro w hSw
    obtain ⟨hS1, hS2, hS3, hS4, hS5, hS6, hS7, hS8⟩ := hSw
    go_simp
    all_goals with_reducible rfl
  try simp only [Act.put, List.setIfInBounds_toArray, List.set_cons_zero, List.set_cons_succ]
  refine wpAnyH_take (i := 24) (oi := _) (v := ?_) rfl (by kernel_rfl) (by kernel_rfl) (by kernel_rfl) (fun _ _ _ h => h) (Or.inl ⟨by kernel_rfl, ?_⟩) (by assumption) ?_
  rotate_left
  · intro w hSw
    obtain ⟨hS1, hS2, hS3, hS4, hS5, hS6, hS7, hS8⟩ := hSw
    go_simp
    all_goals with_reducible rfl
  try simp only [Act.put, List.setIfInBounds_toArray, List.set_cons_zero, List.set_cons_succ]
  refine wpAnyH_take (i := 25) (oi := _) (v := ?_) rfl (by kernel_rfl) (by kernel_rfl) (by kernel_rfl) (fun _ _ _ h => h) (Or.inl ⟨by kernel_rfl, ?_⟩) (by assumption) ?_
  rotate_left
  · intro w hSw
    obtain ⟨hS1, hS2, hS3, hS4, hS5, hS6, hS7, hS8⟩ := hSw
    go_simp
    all_goals with_reducible rfl
  try simp only [Act.put, List.setIfInBounds_toArray, List.set_cons_zero, List.set_cons_succ]
  refine wpAnyH_take (i := 26) (oi := _) (v := ?_) rfl (by kernel_rfl) (by kernel_rfl) (by kernel_rfl) (fun _ _ _ h => h) (Or.inl ⟨by kernel_rfl, ?_⟩) (by assumption) ?_
  rotate_left
  · intro w hSw
    obtain ⟨hS1, hS2, hS3, hS4, hS5, hS6, hS7, hS8⟩ := hSw
    go_simp
    all_goals with_reducible rfl
  try simp only [Act.put, List.setIfInBounds_toArray, List.set_cons_zero, List.set_cons_succ]
  refine wpAnyH_ready (rs := [27]) (by kernel_rfl) (by simp) ?_
  refine AllReadyH.cons (o := _) rfl (fun K hK => ?_) AllReadyH.nil
  go_simp
  go_at_call 20
  refine (HKd.out w9 (.slice none 0 0) [] 2 (HBf.out _ C9.out) (.inl ⟨rfl, .inl rfl⟩) (by simp) kind19d).mono ?_
  rintro e w10 ⟨rfl, hb⟩
  have C10 := Lib.hid (C9.out.trans (hb.mono C9.out.size))
  clear hb
  refine hK.out _ _ (HS.out _ C10.out) (fun hHeld => ?_)
  clear hK K
  try simp only [Act.put, List.setIfInBounds_toArray, List.set_cons_zero, List.set_cons_succ]
  refine wpAnyH_take (i := 28) (oi := _) (v := ?_) rfl (by kernel_rfl) (by kernel_rfl) (by kernel_rfl) (fun _ _ _ h => h) (Or.inl ⟨by kernel_rfl, ?_⟩) (by assumption) ?_
  rotate_left
  · intro w hSw
    obtain ⟨hS1, hS2, hS3, hS4, hS5, hS6, hS7, hS8⟩ := hSw
    go_simp
    all_goals with_reducible rfl
  try simp only [Act.put, List.setIfInBounds_toArray, List.set_cons_zero, List.set_cons_succ]
  refine wpAnyH_take (i := 29) (oi := _) (v := ?_) rfl (by kernel_rfl) (by kernel_rfl) (by kernel_rfl) (fun _ _ _ h => h) (Or.inl ⟨by kernel_rfl, ?_⟩) (by assumption) ?_
  rotate_left
  · intro w hSw
    obtain ⟨hS1, hS2, hS3, hS4, hS5, hS6, hS7, hS8⟩ := hSw
    go_simp
    all_goals with_reducible rfl
  try simp only [Act.put, List.setIfInBounds_toArray, List.set_cons_zero, List.set_cons_succ]
  refine wpAnyH_take (i := 30) (oi := _) (v := ?_) rfl (by kernel_rfl) (by kernel_rfl) (by kernel_rfl) (fun _ _ _ h => h) (Or.inl ⟨by kernel_rfl, ?_⟩) (by assumption) ?_
  rotate_left
  · intro w hSw
    obtain ⟨hS1, hS2, hS3, hS4, hS5, hS6, hS7, hS8⟩ := hSw
    go_simp
    all_goals with_reducible rfl
  try simp only [Act.put, List.setIfInBounds_toArray, List.set_cons_zero, List.set_cons_succ]
  refine wpAnyH_take (i := 31) (oi := _) (v := ?_) rfl (by kernel_rfl) (by kernel_rfl) (by kernel_rfl) (fun _ _ _ h => h) (Or.inl ⟨by kernel_rfl, ?_⟩) (by assumption) ?_
  rotate_left
  · intro w hSw
    obtain ⟨hS1, hS2, hS3, hS4, hS5, hS6, hS7, hS8⟩ := hSw
    go_simp
    all_goals with_reducible rfl
  try simp only [Act.put, List.setIfInBounds_toArray, List.set_cons_zero, List.set_cons_succ]
  refine wpAnyH_take (i := 32) (oi := _) (v := ?_) rfl (by kernel_rfl) (by kernel_rfl) (by kernel_rfl) (fun _ _ _ h => h) (Or.inl ⟨by kernel_rfl, ?_⟩) (by assumption) ?_
  rotate_left
  · intro w hSw
    obtain ⟨hS1, hS2, hS3, hS4, hS5, hS6, hS7, hS8⟩ := hSw
    go_simp
    all_goals with_reducible rfl
  try simp only [Act.put, List.setIfInBounds_toArray, List.set_cons_zero, List.set_cons_succ]
  refine wpAnyH_ready (rs := [33]) (by kernel_rfl) (by simp) ?_
  refine AllReadyH.cons (o := _) rfl (fun K hK => ?_) AllReadyH.nil
  go_simp
  go_at_call 19
  refine (sameFile_any _ _ F19 w10 (fileK.below HI6.out C10.out) (fileK.below HI1.out (HBf.out _ C10.out)) (small19 F19 (by simp)).1).mono ?_
  rintro e w11 ⟨rfl, hb⟩
  have C11 := Lib.hid (C10.out.trans (hb.mono C10.out.size))
  clear hb
  refine hK.out _ _ (HS.out _ C11.out) (fun hHeld => ?_)
  clear hK K
  try simp only [Act.put, List.setIfInBounds_toArray, List.set_cons_zero, List.set_cons_succ]
  refine wpAnyH_take (i := 34) (oi := _) (v := ?_) rfl (by kernel_rfl) (by kernel_rfl) (by kernel_rfl) (fun _ _ _ h => h) (Or.inl ⟨by kernel_rfl, ?_⟩) (by assumption) ?_
  rotate_left
  · intro w hSw
    obtain ⟨hS1, hS2, hS3, hS4, hS5, hS6, hS7, hS8⟩ := hSw
    go_simp
    all_goals with_reducible rfl
  try simp only [Act.put, List.setIfInBounds_toArray, List.set_cons_zero, List.set_cons_succ]
  refine wpAnyH_take (i := 35) (oi := _) (v := ?_) rfl (by kernel_rfl) (by kernel_rfl) (by kernel_rfl) (fun _ _ _ h => h) (Or.inl ⟨by kernel_rfl, ?_⟩) (by assumption) ?_
  rotate_left
  · intro w hSw
    obtain ⟨hS1, hS2, hS3, hS4, hS5, hS6, hS7, hS8⟩ := hSw
    go_simp
    all_goals with_reducible rfl
  try simp only [Act.put, List.setIfInBounds_toArray, List.set_cons_zero, List.set_cons_succ]
  refine wpAnyH_take (i := 36) (oi := _) (v := ?_) rfl (by kernel_rfl) (by kernel_rfl) (by kernel_rfl) (fun _ _ _ h => h) (Or.inl ⟨by kernel_rfl, ?_⟩) (by assumption) ?_
  rotate_left
  · intro w hSw
    obtain ⟨hS1, hS2, hS3, hS4, hS5, hS6, hS7, hS8⟩ := hSw
    go_simp
    all_goals with_reducible rfl
  try simp only [Act.put, List.setIfInBounds_toArray, List.set_cons_zero, List.set_cons_succ]
  refine wpAnyH_take (i := 37) (oi := _) (v := ?_) rfl (by kernel_rfl) (by kernel_rfl) (by kernel_rfl) (fun _ _ _ h => h) (Or.inl ⟨by kernel_rfl, ?_⟩) (by assumption) ?_
  rotate_left
  · intro w hSw
    obtain ⟨hS1, hS2, hS3, hS4, hS5, hS6, hS7, hS8⟩ := hSw
    go_simp
    all_goals with_reducible rfl
  try simp only [Act.put, List.setIfInBounds_toArray, List.set_cons_zero, List.set_cons_succ]
  refine wpAnyH_take (i := 38) (oi := _) (v := ?_) rfl (by kernel_rfl) (by kernel_rfl) (by kernel_rfl) (fun _ _ _ h => h) (Or.inl ⟨by kernel_rfl, ?_⟩) (by assumption) ?_
  rotate_left
  · intro w hSw
    obtain ⟨hS1, hS2, hS3, hS4, hS5, hS6, hS7, hS8⟩ := hSw
    go_simp
    all_goals with_reducible rfl
  try simp only [Act.put, List.setIfInBounds_toArray, List.set_cons_zero, List.set_cons_succ]
  refine wpAnyH_take (i := 39) (oi := _) (v := ?_) rfl (by kernel_rfl) (by kernel_rfl) (by kernel_rfl) (fun _ _ _ h => h) (Or.inl ⟨by kernel_rfl, ?_⟩) (by assumption) ?_
  rotate_left
  · intro w hSw
    obtain ⟨hS1, hS2, hS3, hS4, hS5, hS6, hS7, hS8⟩ := hSw
    go_simp
    all_goals with_reducible rfl
  try simp only [Act.put, List.setIfInBounds_toArray, List.set_cons_zero, List.set_cons_succ]
  refine wpAnyH_take (i := 40) (oi := _) (v := ?_) rfl (by kernel_rfl) (by kernel_rfl) (by kernel_rfl) (fun _ _ _ h => h) (Or.inl ⟨by kernel_rfl, ?_⟩) (by assumption) ?_
  rotate_left
  · intro w hSw
    obtain ⟨hS1, hS2, hS3, hS4, hS5, hS6, hS7, hS8⟩ := hSw
    go_simp
    all_goals with_reducible rfl
  try simp only [Act.put, List.setIfInBounds_toArray, List.set_cons_zero, List.set_cons_succ]
  refine wpAnyH_take (i := 41) (oi := _) (v := ?_) rfl (by kernel_rfl) (by kernel_rfl) (by kernel_rfl) (fun _ _ _ h => h) (Or.inl ⟨by kernel_rfl, ?_⟩) (by assumption) ?_
  rotate_left
  · intro w hSw
    obtain ⟨hS1, hS2, hS3, hS4, hS5, hS6, hS7, hS8⟩ := hSw
    go_simp
    all_goals with_reducible rfl
  try simp only [Act.put, List.setIfInBounds_toArray, List.set_cons_zero, List.set_cons_succ]
  refine wpAnyH_take (i := 42) (oi := _) (v := ?_) rfl (by kernel_rfl) (by kernel_rfl) (by kernel_rfl) (fun _ _ _ h => h) (Or.inl ⟨by kernel_rfl, ?_⟩) (by assumption) ?_
  rotate_left
  · intro w hSw
    obtain ⟨hS1, hS2, hS3, hS4, hS5, hS6, hS7, hS8⟩ := hSw
    go_simp
    all_goals with_reducible rfl
  try simp only [Act.put, List.setIfInBounds_toArray, List.set_cons_zero, List.set_cons_succ]
  refine wpAnyH_take (i := 43) (oi := _) (v := ?_) rfl (by kernel_rfl) (by kernel_rfl) (by kernel_rfl) (fun _ _ _ h => h) (Or.inl ⟨by kernel_rfl, ?_⟩) (by assumption) ?_
  rotate_left
  · intro w hSw
    obtain ⟨hS1, hS2, hS3, hS4, hS5, hS6, hS7, hS8⟩ := hSw
    go_simp
    all_goals with_reducible rfl
  try simp only [Act.put, List.setIfInBounds_toArray, List.set_cons_zero, List.set_cons_succ]
  apply rest_ofX
  · intro REST
    refine wpAnyH_ready (rs := [44, 45]) (by kernel_rfl) (by simp) ?_
    refine AllReadyH.cons (o := _) rfl (fun K hK => ?_) (AllReadyH.cons (o := _) rfl (fun K hK => ?_) AllReadyH.nil)
    · go_simp
      go_at_call 23
      refine (HLs.out w11 (HBf.out _ C11.out)).mono ?_
      rintro e w12 ⟨v12, rfl, ho12, hb⟩
      have C12x := Lib.hid (C11.out.trans (hb.mono C11.out.size))
      have HO12x := Lib.hid ho12.strsIn
      clear hb ho12
      refine hK.out _ _ (HS.out _ C12x.out) (fun hHeld => ?_)
      clear hK K
      try simp only [Act.put, List.setIfInBounds_toArray, List.set_cons_zero, List.set_cons_succ]
      refine wpAnyH_ready (rs := [45]) (by kernel_rfl) (by simp) ?_
      refine AllReadyH.cons (o := _) rfl (fun K hK => ?_) AllReadyH.nil
      go_simp
      refine hK.out _ _ (HS.out _ (C12x.out.alloc C12x.out.size _)) (fun hHeld => ?_)
      clear hK K
      try simp only [Act.put, List.setIfInBounds_toArray, List.set_cons_zero, List.set_cons_succ]
      have C12 := Lib.hid (C12x.out.alloc C12x.out.size (.cells #[.string ⟨#[97]⟩] 9))
      have HO12 := Lib.hid (StrsIn.below HO12x.out ((Below.refl w12.heap.size w12).alloc (Nat.le_refl _) (.cells #[.string ⟨#[97]⟩] 9)))
      have HSz := Lib.hid (strs_oneX w12 sA19)
      unfold sA19 at HSz
      generalize (Value.slice (some ⟨w12.heap.size, 0, none⟩) 1 1) = zz at HSz ⊢
      generalize w12.alloc (.cells #[.string ⟨#[97]⟩] 9) = WW at HSz HO12 C12 ⊢
      clear C12x HO12x hHeld
      revert C12
      revert HO12
      revert HSz
      revert zz
      revert v12
      revert WW
      exact REST
    · go_simp
      refine hK.out _ _ (HS.out _ (C11.out.alloc C11.out.size _)) (fun hHeld => ?_)
      clear hK K
      try simp only [Act.put, List.setIfInBounds_toArray, List.set_cons_zero, List.set_cons_succ]
      refine wpAnyH_ready (rs := [44]) (by kernel_rfl) (by simp) ?_
      refine AllReadyH.cons (o := _) rfl (fun K hK => ?_) AllReadyH.nil
      go_simp
      go_at_call 23
      refine (HLs.out (w11.alloc (.cells #[.string ⟨#[97]⟩] 9)) (HBf.out _ (C11.out.alloc C11.out.size _))).mono ?_
      rintro e WW ⟨v12, rfl, ho12, hb⟩
      have C12 := Lib.hid ((C11.out.alloc C11.out.size (.cells #[.string ⟨#[97]⟩] 9)).trans (hb.mono (C11.out.alloc C11.out.size (.cells #[.string ⟨#[97]⟩] 9)).size))
      have HO12 := Lib.hid ho12.strsIn
      have HSz := Lib.hid (StrsIn.below (strs_oneX w11 sA19) hb)
      unfold sA19 at HSz
      clear hb ho12
      refine hK.out _ _ (HS.out _ C12.out) (fun hHeld => ?_)
      clear hK K
      try simp only [Act.put, List.setIfInBounds_toArray, List.set_cons_zero, List.set_cons_succ]
      generalize (Value.slice (some ⟨w11.heap.size, 0, none⟩) 1 1) = zz at HSz ⊢
      clear hHeld
      revert C12
      revert HO12
      revert HSz
      revert zz
      revert v12
      revert WW
      exact REST
  intro WW v12 zz HSz HO12 C12
  clear C6 C7 C8 C9 C10 C11
  have hHeld := HS.out _ C12.out
  refine wpAnyH_ready (rs := [46]) (by kernel_rfl) (by simp) ?_
  refine AllReadyH.cons (o := _) rfl (fun K hK => ?_) AllReadyH.nil
  go_simp
  go_at_call 22
  refine ((texts_iff v12 zz [sA19] [sA19] WW HO12.out HSz.out).mono (fun e w' h => (by rw [decide_eq_true rfl] at h; exact h : SaysIn true WW e w'))).mono ?_
  rintro e w13 ⟨rfl, hb⟩
  have C13 := Lib.hid (C12.out.trans (hb.mono C12.out.size))
  clear hb
  refine hK.out _ _ (HS.out _ C13.out) (fun hHeld => ?_)
  clear hK K
  try simp only [Act.put, List.setIfInBounds_toArray, List.set_cons_zero, List.set_cons_succ]
  refine wpAnyH_take (i := 47) (oi := _) (v := ?_) rfl (by kernel_rfl) (by kernel_rfl) (by kernel_rfl) (fun _ _ _ h => h) (Or.inl ⟨by kernel_rfl, ?_⟩) (by assumption) ?_
  rotate_left
  · intro w hSw
    obtain ⟨hS1, hS2, hS3, hS4, hS5, hS6, hS7, hS8⟩ := hSw
    go_simp
    all_goals with_reducible rfl
  try simp only [Act.put, List.setIfInBounds_toArray, List.set_cons_zero, List.set_cons_succ]
  refine wpAnyH_take (i := 48) (oi := _) (v := ?_) rfl (by kernel_rfl) (by kernel_rfl) (by kernel_rfl) (fun _ _ _ h => h) (Or.inl ⟨by kernel_rfl, ?_⟩) (by assumption) ?_
  rotate_left
  · intro w hSw
    obtain ⟨hS1, hS2, hS3, hS4, hS5, hS6, hS7, hS8⟩ := hSw
    go_simp
    all_goals with_reducible rfl
  try simp only [Act.put, List.setIfInBounds_toArray, List.set_cons_zero, List.set_cons_succ]
  refine wpAnyH_take (i := 49) (oi := _) (v := ?_) rfl (by kernel_rfl) (by kernel_rfl) (by kernel_rfl) (fun _ _ _ h => h) (Or.inl ⟨by kernel_rfl, ?_⟩) (by assumption) ?_
  rotate_left
  · intro w hSw
    obtain ⟨hS1, hS2, hS3, hS4, hS5, hS6, hS7, hS8⟩ := hSw
    go_simp
    all_goals with_reducible rfl
  try simp only [Act.put, List.setIfInBounds_toArray, List.set_cons_zero, List.set_cons_succ]
  refine wpAnyH_take (i := 51) (oi := _) (v := ?_) rfl (by kernel_rfl) (by kernel_rfl) (by kernel_rfl) (fun _ _ _ h => h) (Or.inl ⟨by kernel_rfl, ?_⟩) (by assumption) ?_
  rotate_left
  · intro w hSw
    obtain ⟨hS1, hS2, hS3, hS4, hS5, hS6, hS7, hS8⟩ := hSw
    go_simp
    all_goals with_reducible rfl
  try simp only [Act.put, List.setIfInBounds_toArray, List.set_cons_zero, List.set_cons_succ]
  clear HSz HO12 C12
  apply rest_ofX
  · intro REST
    refine wpAnyH_ready (rs := [50, 52]) (by kernel_rfl) (by simp) ?_
    refine AllReadyH.cons (o := _) rfl (fun K hK => ?_) (AllReadyH.cons (o := _) rfl (fun K hK => ?_) AllReadyH.nil)
    · go_simp
      go_at_call 26
      refine (HEn.out w13 (HBf.out _ C13.out)).mono ?_
      rintro e w14 ⟨v14, rfl, hr14, hb⟩
      have C14x := Lib.hid (C13.out.trans (hb.mono C13.out.size))
      have HR14x := Lib.hid (rowsW hr14)
      clear hb hr14
      refine hK.out _ _ (HS.out _ C14x.out) (fun hHeld => ?_)
      clear hK K
      try simp only [Act.put, List.setIfInBounds_toArray, List.set_cons_zero, List.set_cons_succ]
      refine wpAnyH_ready (rs := [52]) (by kernel_rfl) (by simp) ?_
      refine AllReadyH.cons (o := _) rfl (fun K hK => ?_) AllReadyH.nil
      go_simp
      refine hK.out _ _ (HS.out _ (C14x.out.alloc C14x.out.size _)) (fun hHeld => ?_)
      clear hK K
      try simp only [Act.put, List.setIfInBounds_toArray, List.set_cons_zero, List.set_cons_succ]
      have C14 := Lib.hid (C14x.out.alloc C14x.out.size (.cells #[.slice (some ⟨pb, 0, none⟩) 2 2, .bool false, .string ⟨#[116, 101, 120, 116, 47, 112, 108, 97, 105, 110]⟩, .slice (some ⟨bb, 0, none⟩) 1 1] 39))
      have HR14 := Lib.hid (show ∃ R, fileK.rows R (w14.alloc (.cells #[.slice (some ⟨pb, 0, none⟩) 2 2, .bool false, .string ⟨#[116, 101, 120, 116, 47, 112, 108, 97, 105, 110]⟩, .slice (some ⟨bb, 0, none⟩) 1 1] 39)) v14 [F19] from ⟨_, fileK.rows_below HR14x.out ((Below.refl w14.heap.size w14).alloc (Nat.le_refl _) (.cells #[.slice (some ⟨pb, 0, none⟩) 2 2, .bool false, .string ⟨#[116, 101, 120, 116, 47, 112, 108, 97, 105, 110]⟩, .slice (some ⟨bb, 0, none⟩) 1 1] 39))⟩)
      have HQ14 := Lib.hid (show ∃ R, fileK.rows R _ _ [F19] from ⟨_, row_one (fileK.below HI1.out (HBf.out _ C14x.out)) (fun k hk => Nat.lt_of_lt_of_le hk (HBf.out _ C14x.out).size) 39⟩)
      generalize (Value.slice (some ⟨w14.heap.size, 0, none⟩) 1 1) = zz at HQ14 ⊢
      generalize w14.alloc (.cells #[.slice (some ⟨pb, 0, none⟩) 2 2, .bool false, .string ⟨#[116, 101, 120, 116, 47, 112, 108, 97, 105, 110]⟩, .slice (some ⟨bb, 0, none⟩) 1 1] 39) = WW at HQ14 HR14 C14 ⊢
      clear C14x HR14x hHeld
      revert C14
      revert HR14
      revert HQ14
      revert zz
      revert v14
      revert WW
      exact REST
    · go_simp
      refine hK.out _ _ (HS.out _ (C13.out.alloc C13.out.size _)) (fun hHeld => ?_)
      clear hK K
      try simp only [Act.put, List.setIfInBounds_toArray, List.set_cons_zero, List.set_cons_succ]
      refine wpAnyH_ready (rs := [50]) (by kernel_rfl) (by simp) ?_
      refine AllReadyH.cons (o := _) rfl (fun K hK => ?_) AllReadyH.nil
      go_simp
      go_at_call 26
      refine (HEn.out (w13.alloc (.cells #[.slice (some ⟨pb, 0, none⟩) 2 2, .bool false, .string ⟨#[116, 101, 120, 116, 47, 112, 108, 97, 105, 110]⟩, .slice (some ⟨bb, 0, none⟩) 1 1] 39)) (HBf.out _ (C13.out.alloc C13.out.size _))).mono ?_
      rintro e WW ⟨v14, rfl, hr14, hb⟩
      have C14 := Lib.hid ((C13.out.alloc C13.out.size (.cells #[.slice (some ⟨pb, 0, none⟩) 2 2, .bool false, .string ⟨#[116, 101, 120, 116, 47, 112, 108, 97, 105, 110]⟩, .slice (some ⟨bb, 0, none⟩) 1 1] 39)).trans (hb.mono (C13.out.alloc C13.out.size (.cells #[.slice (some ⟨pb, 0, none⟩) 2 2, .bool false, .string ⟨#[116, 101, 120, 116, 47, 112, 108, 97, 105, 110]⟩, .slice (some ⟨bb, 0, none⟩) 1 1] 39)).size))
      have HR14 := Lib.hid (show ∃ R, fileK.rows R WW v14 [F19] from ⟨_, rowsW hr14⟩)
      have HQ14 := Lib.hid (show ∃ R, fileK.rows R WW (.slice (some ⟨w13.heap.size, 0, none⟩) 1 1) [F19] from ⟨_, fileK.rows_below (row_one (fileK.below HI1.out (HBf.out _ C13.out)) (fun k hk => Nat.lt_of_lt_of_le hk (HBf.out _ C13.out).size) 39) hb⟩)
      clear hb hr14
      refine hK.out _ _ (HS.out _ C14.out) (fun hHeld => ?_)
      clear hK K
      try simp only [Act.put, List.setIfInBounds_toArray, List.set_cons_zero, List.set_cons_succ]
      generalize (Value.slice (some ⟨w13.heap.size, 0, none⟩) 1 1) = zz at HQ14 ⊢
      clear hHeld
      revert C14
      revert HR14
      revert HQ14
      revert zz
      revert v14
      revert WW
      exact REST
  intro WW v14 zz HQ14 HR14 C14
  clear C13
  have hHeld := HS.out _ C14.out
  obtain ⟨R1, HR14⟩ := HR14.out
  obtain ⟨R2, HQ14⟩ := HQ14.out
  refine wpAnyH_ready (rs := [53]) (by kernel_rfl) (by simp) ?_
  refine AllReadyH.cons (o := _) rfl (fun K hK => ?_) AllReadyH.nil
  go_simp
  go_at_call 25
  refine (same_any v14 zz [F19] WW HR14 HQ14 (fun f hf => (small19 f hf).1) (by decide)).mono ?_
  rintro e w15 ⟨rfl, hb⟩
  have C15 := Lib.hid (C14.out.trans (hb.mono C14.out.size))
  clear hb
  clear HR14 HQ14
  refine hK.out _ _ (HS.out _ C15.out) (fun hHeld => ?_)
  clear hK K
  try simp only [Act.put, List.setIfInBounds_toArray, List.set_cons_zero, List.set_cons_succ]
  refine wpAnyH_take (i := 54) (oi := _) (v := ?_) rfl (by kernel_rfl) (by kernel_rfl) (by kernel_rfl) (fun _ _ _ h => h) (Or.inl ⟨by kernel_rfl, ?_⟩) (by assumption) ?_
  rotate_left
  · intro w hSw
    obtain ⟨hS1, hS2, hS3, hS4, hS5, hS6, hS7, hS8⟩ := hSw
    go_simp
    all_goals with_reducible rfl
  try simp only [Act.put, List.setIfInBounds_toArray, List.set_cons_zero, List.set_cons_succ]
  refine wpAnyH_take (i := 55) (oi := _) (v := ?_) rfl (by kernel_rfl) (by kernel_rfl) (by kernel_rfl) (fun _ _ _ h => h) (Or.inl ⟨by kernel_rfl, ?_⟩) (by assumption) ?_
  rotate_left
  · intro w hSw
    obtain ⟨hS1, hS2, hS3, hS4, hS5, hS6, hS7, hS8⟩ := hSw
    go_simp
    all_goals with_reducible rfl
  try simp only [Act.put, List.setIfInBounds_toArray, List.set_cons_zero, List.set_cons_succ]
  refine wpAnyH_ready (rs := [56]) (by kernel_rfl) (by simp) ?_
  refine AllReadyH.cons (o := _) rfl (fun K hK => ?_) AllReadyH.nil
  go_simp
  go_at_call 12
  refine ((plainT_any sA19 w15 (by decide)).mono (fun e w' h => (by rw [plain19a] at h; exact h : SaysIn true w15 e w'))).mono ?_
  rintro e w16 ⟨rfl, hb⟩
  have C16 := Lib.hid (C15.out.trans (hb.mono C15.out.size))
  clear hb
  refine hK.out _ _ (HS.out _ C16.out) (fun hHeld => ?_)
  clear hK K
  try simp only [Act.put, List.setIfInBounds_toArray, List.set_cons_zero, List.set_cons_succ]
  refine wpAnyH_take (i := 57) (oi := _) (v := ?_) rfl (by kernel_rfl) (by kernel_rfl) (by kernel_rfl) (fun _ _ _ h => h) (Or.inl ⟨by kernel_rfl, ?_⟩) (by assumption) ?_
  rotate_left
  · intro w hSw
    obtain ⟨hS1, hS2, hS3, hS4, hS5, hS6, hS7, hS8⟩ := hSw
    go_simp
    all_goals with_reducible rfl
  try simp only [Act.put, List.setIfInBounds_toArray, List.set_cons_zero, List.set_cons_succ]
  refine wpAnyH_take (i := 58) (oi := _) (v := ?_) rfl (by kernel_rfl) (by kernel_rfl) (by kernel_rfl) (fun _ _ _ h => h) (Or.inl ⟨by kernel_rfl, ?_⟩) (by assumption) ?_
  rotate_left
  · intro w hSw
    obtain ⟨hS1, hS2, hS3, hS4, hS5, hS6, hS7, hS8⟩ := hSw
    go_simp
    all_goals with_reducible rfl
  try simp only [Act.put, List.setIfInBounds_toArray, List.set_cons_zero, List.set_cons_succ]
  refine wpAnyH_ready (rs := [59]) (by kernel_rfl) (by simp) ?_
  refine AllReadyH.cons (o := _) rfl (fun K hK => ?_) AllReadyH.nil
  go_simp
  go_at_call 12
  refine ((plainT_any ⟨#[46, 46]⟩ w16 (by decide)).mono (fun e w' h => (by rw [plain19b] at h; exact h : SaysIn false w16 e w'))).mono ?_
  rintro e w17 ⟨rfl, hb⟩
  have C17 := Lib.hid (C16.out.trans (hb.mono C16.out.size))
  clear hb
  refine hK.out _ _ (HS.out _ C17.out) (fun hHeld => ?_)
  clear hK K
  try simp only [Act.put, List.setIfInBounds_toArray, List.set_cons_zero, List.set_cons_succ]
  refine wpAnyH_take (i := 60) (oi := _) (v := ?_) rfl (by kernel_rfl) (by kernel_rfl) (by kernel_rfl) (fun _ _ _ h => h) (Or.inl ⟨by kernel_rfl, ?_⟩) (by assumption) ?_
  rotate_left
  · intro w hSw
    obtain ⟨hS1, hS2, hS3, hS4, hS5, hS6, hS7, hS8⟩ := hSw
    go_simp
    all_goals with_reducible rfl
  try simp only [Act.put, List.setIfInBounds_toArray, List.set_cons_zero, List.set_cons_succ]
  refine wpAnyH_take (i := 61) (oi := _) (v := ?_) rfl (by kernel_rfl) (by kernel_rfl) (by kernel_rfl) (fun _ _ _ h => h) (Or.inl ⟨by kernel_rfl, ?_⟩) (by assumption) ?_
  rotate_left
  · intro w hSw
    obtain ⟨hS1, hS2, hS3, hS4, hS5, hS6, hS7, hS8⟩ := hSw
    go_simp
    all_goals with_reducible rfl
  try simp only [Act.put, List.setIfInBounds_toArray, List.set_cons_zero, List.set_cons_succ]
  refine wpAnyH_take (i := 62) (oi := _) (v := ?_) rfl (by kernel_rfl) (by kernel_rfl) (by kernel_rfl) (fun _ _ _ h => h) (Or.inl ⟨by kernel_rfl, ?_⟩) (by assumption) ?_
  rotate_left
  · intro w hSw
    obtain ⟨hS1, hS2, hS3, hS4, hS5, hS6, hS7, hS8⟩ := hSw
    go_simp
    all_goals with_reducible rfl
  try simp only [Act.put, List.setIfInBounds_toArray, List.set_cons_zero, List.set_cons_succ]
  refine wpAnyH_take (i := 63) (oi := _) (v := ?_) rfl (by kernel_rfl) (by kernel_rfl) (by kernel_rfl) (fun _ _ _ h => h) (Or.inl ⟨by kernel_rfl, ?_⟩) (by assumption) ?_
  rotate_left
  · intro w hSw
    obtain ⟨hS1, hS2, hS3, hS4, hS5, hS6, hS7, hS8⟩ := hSw
    go_simp
    all_goals with_reducible rfl
  try simp only [Act.put, List.setIfInBounds_toArray, List.set_cons_zero, List.set_cons_succ]
  refine wpAnyH_ready (rs := [64]) (by kernel_rfl) (by simp) ?_
  refine AllReadyH.cons (o := _) rfl (fun K hK => ?_) AllReadyH.nil
  go_simp
  go_at_call 20
  refine (treeKindNil_any (.slice none 0 0) w17).mono ?_
  rintro e w18 ⟨rfl, hb⟩
  have C18 := Lib.hid (C17.out.trans (hb.mono C17.out.size))
  clear hb
  refine hK.out _ _ (HS.out _ C18.out) (fun hHeld => ?_)
  clear hK K
  try simp only [Act.put, List.setIfInBounds_toArray, List.set_cons_zero, List.set_cons_succ]
  refine wpAnyH_take (i := 65) (oi := _) (v := ?_) rfl (by kernel_rfl) (by kernel_rfl) (by kernel_rfl) (fun _ _ _ h => h) (Or.inl ⟨by kernel_rfl, ?_⟩) (by assumption) ?_
  rotate_left
  · intro w hSw
    obtain ⟨hS1, hS2, hS3, hS4, hS5, hS6, hS7, hS8⟩ := hSw
    go_simp
    all_goals with_reducible rfl
  try simp only [Act.put, List.setIfInBounds_toArray, List.set_cons_zero, List.set_cons_succ]
  refine wpAnyH_take (i := 66) (oi := _) (v := ?_) rfl (by kernel_rfl) (by kernel_rfl) (by kernel_rfl) (fun _ _ _ h => h) (Or.inl ⟨by kernel_rfl, ?_⟩) (by assumption) ?_
  rotate_left
  · intro w hSw
    obtain ⟨hS1, hS2, hS3, hS4, hS5, hS6, hS7, hS8⟩ := hSw
    go_simp
    all_goals with_reducible rfl
  try simp only [Act.put, List.setIfInBounds_toArray, List.set_cons_zero, List.set_cons_succ]
  refine wpAnyH_take (i := 67) (oi := _) (v := ?_) rfl (by kernel_rfl) (by kernel_rfl) (by kernel_rfl) (fun _ _ _ h => h) (Or.inl ⟨by kernel_rfl, ?_⟩) (by assumption) ?_
  rotate_left
  · intro w hSw
    obtain ⟨hS1, hS2, hS3, hS4, hS5, hS6, hS7, hS8⟩ := hSw
    go_simp
    all_goals with_reducible rfl
  try simp only [Act.put, List.setIfInBounds_toArray, List.set_cons_zero, List.set_cons_succ]
  refine wpAnyH_take (i := 68) (oi := _) (v := ?_) rfl (by kernel_rfl) (by kernel_rfl) (by kernel_rfl) (fun _ _ _ h => h) (Or.inl ⟨by kernel_rfl, ?_⟩) (by assumption) ?_
  rotate_left
  · intro w hSw
    obtain ⟨hS1, hS2, hS3, hS4, hS5, hS6, hS7, hS8⟩ := hSw
    go_simp
    all_goals with_reducible rfl
  try simp only [Act.put, List.setIfInBounds_toArray, List.set_cons_zero, List.set_cons_succ]
  refine wpAnyH_ready (rs := [69]) (by kernel_rfl) (by simp) ?_
  refine AllReadyH.cons (o := _) rfl (fun K hK => ?_) AllReadyH.nil
  go_simp
  go_at_call 26
  refine (entriesNil_any w18).mono ?_
  rintro e w19 ⟨rfl, hb⟩
  have C19 := Lib.hid (C18.out.trans (hb.mono C18.out.size))
  clear hb
  refine hK.out _ _ (HS.out _ C19.out) (fun hHeld => ?_)
  clear hK K
  try simp only [Act.put, List.setIfInBounds_toArray, List.set_cons_zero, List.set_cons_succ]
  refine wpAnyH_take (i := 70) (oi := _) (v := ?_) rfl (by kernel_rfl) (by kernel_rfl) (by kernel_rfl) (fun _ _ _ h => h) (Or.inl ⟨by kernel_rfl, ?_⟩) (by assumption) ?_
  rotate_left
  · intro w hSw
    obtain ⟨hS1, hS2, hS3, hS4, hS5, hS6, hS7, hS8⟩ := hSw
    go_simp
    all_goals with_reducible rfl
  try simp only [Act.put, List.setIfInBounds_toArray, List.set_cons_zero, List.set_cons_succ]
  refine wpAnyH_take (i := 71) (oi := _) (v := ?_) rfl (by kernel_rfl) (by kernel_rfl) (by kernel_rfl) (fun _ _ _ h => h) (Or.inl ⟨by kernel_rfl, ?_⟩) (by assumption) ?_
  rotate_left
  · intro w hSw
    obtain ⟨hS1, hS2, hS3, hS4, hS5, hS6, hS7, hS8⟩ := hSw
    go_simp
    all_goals with_reducible rfl
  try simp only [Act.put, List.setIfInBounds_toArray, List.set_cons_zero, List.set_cons_succ]
  refine wpAnyH_take (i := 72) (oi := _) (v := ?_) rfl (by kernel_rfl) (by kernel_rfl) (by kernel_rfl) (fun _ _ _ h => h) (Or.inl ⟨by kernel_rfl, ?_⟩) (by assumption) ?_
  rotate_left
  · intro w hSw
    obtain ⟨hS1, hS2, hS3, hS4, hS5, hS6, hS7, hS8⟩ := hSw
    go_simp
    all_goals with_reducible rfl
  try simp only [Act.put, List.setIfInBounds_toArray, List.set_cons_zero, List.set_cons_succ]
  refine wpAnyH_take (i := 73) (oi := _) (v := ?_) rfl (by kernel_rfl) (by kernel_rfl) (by kernel_rfl) (fun _ _ _ h => h) (Or.inl ⟨by kernel_rfl, ?_⟩) (by assumption) ?_
  rotate_left
  · intro w hSw
    obtain ⟨hS1, hS2, hS3, hS4, hS5, hS6, hS7, hS8⟩ := hSw
    go_simp
    all_goals with_reducible rfl
  try simp only [Act.put, List.setIfInBounds_toArray, List.set_cons_zero, List.set_cons_succ]
  refine wpAnyH_done (by kernel_rfl) ?_ _
  simp only [Act.put, List.getElem_toArray, List.getElem_cons_succ, List.getElem_cons_zero, List.setIfInBounds_toArray, List.set_cons_zero, List.set_cons_succ]
  go_wp2
  go_ret
  refine ⟨?_, HB1.out.trans ((HBf.out _ C19.out).mono HB1.out.size)⟩
  kernel_rfl
end Go.Proofs.YthnnfppjadgldaaGreatDoor
