/- Texts of one seat, merged: TreH, TreJ, TreK. -/
import Derived.Test.YtgfibbecnmmpjaaQV
import Derived.Test.YtgfibbecnmmpjaaQF
import Derived.Test.YtgfibbecnmmpjaaQT1
import Derived.Test.YtgfibbecnmmpjaaQT2
import Derived.Test.YtgfibbecnmmpjaaQE3
namespace Go.Proofs.Ytgfibbecnmmpjaa
set_option linter.all false
open Go.RowKit
theorem results_cell0K {P : Program} {T : TypeId} {n : Nat} (hs : (P.info? T).map (·.size) = some n) (hagg : ∀ w, (isAgg T).run P w = .ok true w) {fn : Func} {p : Tmp} (h : fn.results = #[.cell p T]) (tmps : Array Value) (w : World)
    {g : Nat} {vs : List Value} (hp : tmps.getD p undef = .pointer (some ⟨g, 0, none⟩)) (hv : ValsAt w g vs) (hl : vs.length = n) : (results fn tmps).run P w = .ok (.agg vs.toArray) w := by
  have hp' : tmps[p]?.getD undef = .pointer (some ⟨g, 0, none⟩) := by simpa using hp
  simp [results, h, hp', asAddr, hv.load T hs hagg hl]
theorem Try.eFile : EInfo 23 40 (.agg fileZ.toArray) 4 72 := EInfo.of (by kernel_rfl) (by kernel_rfl) rfl (by decide)
theorem str_rows {R : Nat -> Prop} {w : World} {v : Value} {L : List ByteArray} (h : StrsIn w v L) (hR : ∀ k, v.ownBlock = some k -> R k) : Kind.str.rows R w v L := by
  rcases h with h | ⟨b, off, cap, rfl, h1, h2, h3⟩
  · exact .inl h
  · exact .inr ⟨b, off, cap, rfl, h1, h2, hR b rfl, fun i x hx => ⟨[.string x], rfl, fun j u hu => by
      rcases j with _ | j
      · have e : Value.string x = u := by simpa using hu
        rw [<- e]
        have := h3 i x hx
        rwa [show Kind.str.sz = 1 from rfl, Nat.mul_one, Nat.add_zero]
      · simp at hu⟩⟩
theorem byte_rows {R : Nat -> Prop} {w : World} {v : Value} {l : List UInt8} (h : BytesIn w v l) (hR : ∀ k, v.ownBlock = some k -> R k) : Kind.u8.rows R w v l := by
  rcases h with ⟨h, hv⟩ | ⟨b, off, cap, hv, h1, h2, h3⟩
  · exact .inl ⟨by simpa [byteVals] using h, hv⟩
  · rw [byteVals_len] at hv h1
    refine .inr ⟨b, off, cap, hv, h1, h2, hR b (by rw [hv]; rfl), fun i x hx => ⟨[.int .u8 (x.toNat : Int)], rfl, fun j u hu => ?_⟩⟩
    rcases j with _ | j
    · have e : Value.int .u8 (x.toNat : Int) = u := by simpa using hu
      rw [<- e]
      have := h3 i (.int .u8 (x.toNat : Int)) (by simp [byteVals, hx])
      rwa [show Kind.u8.sz = 1 from rfl, Nat.mul_one, Nat.add_zero]
    · simp at hu
theorem file_in {R : Nat -> Prop} {w : World} {v u : Value} {f : FileV} (h1 : StrsIn w v f.1) (h2 : BytesIn w u f.2.2.2) (hv : ∀ k, v.ownBlock = some k -> R k) (hu : ∀ k, u.ownBlock = some k -> R k) : fileK.In R w (fileL v f.2.1 f.2.2.1 u) f :=
  ⟨[v], [.bool f.2.1, .string f.2.2.1, u], rfl, ⟨v, rfl, str_rows h1 hv⟩, [.bool f.2.1], [.string f.2.2.1, u], rfl, rfl, [.string f.2.2.1], [u], rfl, rfl, ⟨u, rfl, byte_rows h2 hu⟩⟩
def FreeS (R : Nat -> Prop) (w : World) (cs : List Value) : Prop := ∀ v ∈ cs, ∀ b o n c, v = .slice (some ⟨b, o, none⟩) n c -> 0 < n -> b < w.heap.size /\ R b /\ ∀ i, i < n -> w.frozen? ⟨b, o + i, none⟩ = false
theorem FreeS.only {R S : Nat -> Prop} {w w' : World} {cs : List Value} (h : FreeS R w cs) (ho : Only S w w') (hR : ∀ k, R k -> ¬ S k) : FreeS R w' cs := fun v hv b o n c e hn => by
  obtain ⟨h1, h2, h3⟩ := h v hv b o n c e hn
  exact ⟨Nat.lt_of_lt_of_le h1 ho.size, h2, fun i hi => by rw [ho.frozen (p := ⟨b, o + i, none⟩) h1 (hR _ h2)]; exact h3 i hi⟩
def fileW : Kind FileV where
  sz := fileK.sz
  In := fun R w cs f => fileK.In R w cs f /\ FreeS R w cs
  len := fun h => fileK.len h.1
  one := fun h => fileK.one h.1
  only := fun h ho hR => ⟨fileK.only h.1 ho hR, h.2.only ho hR⟩
  mono := fun h hR => ⟨fileK.mono h.1 hR, fun v hv b o n c e hn => ⟨(h.2 v hv b o n c e hn).1, hR _ (h.2 v hv b o n c e hn).2.1, (h.2 v hv b o n c e hn).2.2⟩⟩
theorem rowsW {R : Nat -> Prop} {w : World} {v : Value} {T : List FileV} (h : fileW.rows R w v T) : fileK.rows R w v T := by
  rcases h with h | ⟨b, off, cap, hv, h1, h2, hb, h3⟩
  · exact .inl h
  · exact .inr ⟨b, off, cap, hv, h1, h2, hb, fun i x hx => by obtain ⟨cs, k1, k2⟩ := h3 i x hx; exact ⟨cs, k1.1, k2⟩⟩
theorem own_free {w : World} {B n : Nat} {E : TypeId} {v : Value} {xs : List Value} (h : w.ownsRow B E 1 v n xs) (b o : Nat) (m c : Nat) (e : v = .slice (some ⟨b, o, none⟩) m c) : b < w.heap.size /\ ∀ i, w.frozen? ⟨b, o + i, none⟩ = false := by
  rcases h.2 with ⟨h1, _⟩ | ⟨g, cap, cur, h1, h2, h3, _⟩
  · rw [h1] at e; cases e
  · rw [h1] at e
    injection e with e
    injection e with e
    injection e with e1 e2
    subst e1 e2
    refine ⟨(Array.getElem?_eq_some_iff.1 h3).1, fun i => ?_⟩
    unfold World.frozen?
    rw [h3]
    simp
theorem fileW_in {R : Nat -> Prop} {w : World} {v u : Value} {f : FileV} {B1 B2 : Nat} (h1 : OwnStrs w B1 v f.1) (h2 : OwnBytes w B2 u f.2.2.2) (hv : ∀ k, v.ownBlock = some k -> R k) (hu : ∀ k, u.ownBlock = some k -> R k) : fileW.In R w (fileL v f.2.1 f.2.2.1 u) f := by
  refine ⟨file_in h1.strsIn (OwnBytes.bytesIn h2) hv hu, fun x hx b o n c e hn => ?_⟩
  simp only [fileL, List.mem_cons, List.not_mem_nil, or_false] at hx
  rcases hx with rfl | rfl | rfl | rfl
  · obtain ⟨k1, k2⟩ := own_free h1 b o n c e
    exact ⟨k1, hv _ (by rw [e]; rfl), fun i _ => k2 i⟩
  · cases e
  · cases e
  · obtain ⟨k1, k2⟩ := own_free h2 b o n c e
    exact ⟨k1, hu _ (by rw [e]; rfl), fun i _ => k2 i⟩
def CopyTo (f : FileV) (w : World) (e : Ending) (w' : World) : Prop := ∃ cs, e = .returned (.agg (List.toArray cs)) /\ fileW.In (fun k => w.heap.size <= k /\ k < w'.heap.size) w' cs f /\ Below w.heap.size w w'
set_option maxRecDepth 100000 in
set_option maxHeartbeats 4000000 in
theorem copyOf_any {R0 : Nat -> Prop} (cs : List Value) (f : FileV) (w : World) (hi : fileK.In R0 w cs f) (hxb : f.2.2.2.length <= 1000000) (hxp : f.1.length <= 1000000) :
    Calls Try.prog 39 #[.agg cs.toArray] w (CopyTo f w) := by
  obtain ⟨p0, c0, p1, c1, rfl, hk⟩ := fileK_parts hi
  have HKs := Lib.hid (fun w' (hb : Below w.heap.size w w') => hk (fun _ => False) w' (Only.of_below hb) fun _ _ h => h)
  have HFi := Lib.hid (fun (R : Nat -> Prop) (W : World) (v u : Value) (B1 B2 : Nat) (h1 : OwnStrs W B1 v f.1) (h2 : OwnBytes W B2 u f.2.2.2) hv hu => fileW_in (f := f) (R := R) h1 h2 hv hu)
  obtain ⟨L, hL⟩ : ∃ L, L = f.1 := ⟨_, rfl⟩
  obtain ⟨bs, hbs⟩ : ∃ L, L = f.2.2.2 := ⟨_, rfl⟩
  obtain ⟨n0, hn0⟩ : ∃ n, n = L.length := ⟨_, rfl⟩
  obtain ⟨n1, hn1⟩ : ∃ n, n = bs.length := ⟨_, rfl⟩
  obtain ⟨d, hd⟩ : ∃ d, d = f.2.1 := ⟨_, rfl⟩
  obtain ⟨t, htt⟩ : ∃ t, t = f.2.2.1 := ⟨_, rfl⟩
  rw [<- hL, <- hbs, <- hd, <- htt] at HFi
  rw [<- hL, <- hbs, <- hn0, <- hn1] at HKs
  rw [<- hL, <- hbs, <- hd, <- htt, <- hn0, <- hn1]
  rw [<- hL, <- hn0] at hxp
  rw [<- hbs, <- hn1] at hxb
  have Hn0 := Lib.hid hn0
  have Hn1 := Lib.hid hn1
  have hbx : ∀ W, W = ((w.alloc (.cells #[.slice p0 n0 c0, .bool d, .string t, .slice p1 n1 c1] 40)).alloc (.cells #[.slice none 0 0, .bool false, .string ⟨#[]⟩, .slice none 0 0] 40)) -> Box W w.heap.size (fileL (.slice p0 n0 c0) d t (.slice p1 n1 c1)) /\ Box W (w.heap.size + 1) fileZ /\ Below w.heap.size w W /\ W.heap.size = w.heap.size + 2 := fun W hW => by
    have e1 := Box.new w (fileL (.slice p0 n0 c0) d t (.slice p1 n1 c1)) 40
    have e2 := Box.new (w.alloc (.cells #[.slice p0 n0 c0, .bool d, .string t, .slice p1 n1 c1] 40)) fileZ 40
    have hs : (w.alloc (.cells #[.slice p0 n0 c0, .bool d, .string t, .slice p1 n1 c1] 40)).heap.size = w.heap.size + 1 := by simp
    rw [hs] at e2
    subst hW
    exact ⟨e1.below ((Below.refl _ _).alloc (Nat.le_refl _) _), e2, ((Below.refl _ _).alloc (Nat.le_refl _) _).alloc (by simp) _, by simp⟩
  obtain ⟨X0, Z0, B0, hsz⟩ := hbx _ rfl
  generalize hW : ((w.alloc (.cells #[.slice p0 n0 c0, .bool d, .string t, .slice p1 n1 c1] 40)).alloc (.cells #[.slice none 0 0, .bool false, .string ⟨#[]⟩, .slice none 0 0] 40)) = W at *
  obtain ⟨g, hg⟩ : ∃ g, g = w.heap.size := ⟨_, rfl⟩
  have HSz := Lib.hid hsz
  have HB := Lib.hid B0
  have q0 := X0.cell (i := 0) rfl
  have q1 := X0.free 0 (by simp [fileL])
  have HX := Lib.hid X0
  have HZ := Lib.hid Z0
  clear hk hi hn0 hn1 hd htt hL hbs hbx B0 hsz X0 Z0
  go_enter Try.func39, Try.ntmps39
  go_wp2_with (refine wpList_append_strsOf rfl _ _ rfl W.heap.size W W (.slice none 0 0) [] rfl (OwnStrs.nil _ _) (.slice p0 n0 c0) L rfl (HKs.out _ HB.out).1 (by rw [<- Hn0.out]; simp; omega) (Nat.le_refl _) (Below.refl _ _) ?_)
  intro v' w1 ho hb
  try rw [List.nil_append] at ho
  obtain ⟨pv, cv, rfl⟩ := ho.sliced
  rw [<- Hn0.out] at ho ⊢
  have hbx2 : ∀ W2, W2 = w1.setCell ⟨w.heap.size, 0, none⟩ (.slice pv n0 cv) -> Box W2 w.heap.size (fileL (.slice pv n0 cv) d t (.slice p1 n1 c1)) /\ Box W2 (w.heap.size + 1) fileZ /\ OwnStrs W2 W.heap.size (.slice pv n0 cv) L /\ Below w.heap.size w W2 := fun W2 hW2 => by
    have hO : Only (fun k => k = w.heap.size) w1 (w1.setCell ⟨w.heap.size, 0, none⟩ (.slice pv n0 cv)) := Only.setCell (S := fun k => k = w.heap.size) (p := ⟨w.heap.size, 0, none⟩) (Only.refl _ w1) (fun _ => rfl) _
    subst hW2
    refine ⟨(HX.out.below hb).set1 0 (by simp [fileL]) _, (HZ.out.below hb).only hO (by omega), hO.own ho fun k hk => ?_, ?_⟩
    · have := ho.ge k hk
      have := HSz.out
      omega
    · exact (HB.out.trans (hb.mono HB.out.size)).trans (hO.below _ (HB.out.trans (hb.mono HB.out.size)).size fun k hk => by rw [hk]; exact Nat.le_refl _)
  have q0 := (HX.out.below hb).cell (i := 0) rfl
  have q3 := (HX.out.below hb).cell (i := 3) rfl
  have z0 := (HX.out.below hb).free 0 (by simp [fileL])
  obtain ⟨X2, Z2, O2, B2⟩ := hbx2 _ rfl
  generalize hW2 : w1.setCell ⟨w.heap.size, 0, none⟩ (.slice pv n0 cv) = W2 at *
  have r3 := X2.cell (i := 3) rfl
  have HX2 := Lib.hid X2
  have HZ2 := Lib.hid Z2
  have HO2 := Lib.hid O2
  have HB2 := Lib.hid B2
  clear hbx2 X2 Z2 O2 B2 hb ho
  go_wp2_with (refine wpList_append_bytes rfl _ _ rfl W2.heap.size W2 W2 (.slice none 0 0) [] rfl (OwnBytes.nil _ _) (.slice p1 n1 c1) bs rfl (HKs.out _ HB2.out).2 (by simp) (by rw [<- Hn1.out]; omega) (Nat.le_refl _) (Below.refl _ _) ?_)
  intro u' w3 hob hb3 hkp
  try rw [List.nil_append] at hob
  clear hkp q0 q3 r3 z0 hW2
  obtain ⟨pu, cu, rfl⟩ : ∃ p c, u' = .slice p n1 c := by
    rcases hob.2 with ⟨rfl, hz⟩ | ⟨gb, cap, cur, rfl, _⟩
    · exact ⟨none, 0, by rw [Hn1.out, hz]⟩
    · exact ⟨_, _, by rw [Hn1.out]⟩
  have q0 := (HX2.out.below hb3).cell (i := 0) rfl
  have q3 := (HX2.out.below hb3).cell (i := 3) rfl
  have z3 := (HX2.out.below hb3).free 3 (by simp [fileL])
  have hbx4 : ∀ W4, W4 = w3.setCell ⟨w.heap.size, 3, none⟩ (.slice pu n1 cu) -> Box W4 w.heap.size (fileL (.slice pv n0 cv) d t (.slice pu n1 cu)) /\ Box W4 (w.heap.size + 1) fileZ /\ OwnStrs W4 W.heap.size (.slice pv n0 cv) L /\ OwnBytes W4 W2.heap.size (.slice pu n1 cu) bs /\ Below w.heap.size w W4 := fun W4 hW4 => by
    have hO : Only (fun k => k = w.heap.size) w3 (w3.setCell ⟨w.heap.size, 3, none⟩ (.slice pu n1 cu)) := Only.setCell (S := fun k => k = w.heap.size) (p := ⟨w.heap.size, 3, none⟩) (Only.refl _ w3) (fun _ => rfl) _
    subst hW4
    have hwW : w.heap.size < W2.heap.size := HX2.out.lt (by simp [fileL])
    refine ⟨(HX2.out.below hb3).set1 3 (by simp [fileL]) _, (HZ2.out.below hb3).only hO (by omega), hO.own (HO2.out.below hb3) fun k hk => ?_, hO.own hob fun k hk => ?_, ?_⟩
    · have := HO2.out.ge k hk
      have := HSz.out
      omega
    · have := (World.ownsRow.lt hob k hk).1
      omega
    · exact (HB2.out.trans (hb3.mono HB2.out.size)).trans (hO.below _ (HB2.out.trans (hb3.mono HB2.out.size)).size fun k hk => by rw [hk]; exact Nat.le_refl _)
  obtain ⟨X4, Z4, O4, U4, B4⟩ := hbx4 _ rfl
  generalize hW4 : w3.setCell ⟨w.heap.size, 3, none⟩ (.slice pu n1 cu) = W4 at *
  have HX4 := Lib.hid X4
  have HZ4 := Lib.hid Z4
  have HO4 := Lib.hid O4
  have HU4 := Lib.hid U4
  have HB4 := Lib.hid B4
  have HS2 := Lib.hid (show w.heap.size <= W2.heap.size from HB2.out.size)
  have k0 := X4.cell (i := 0) rfl
  have k1 := X4.cell (i := 1) rfl
  have k2 := X4.cell (i := 2) rfl
  have k3 := X4.cell (i := 3) rfl
  clear hbx4 X4 Z4 O4 U4 B4 hb3 hob
  go_wp2_with (refine wpList_store_box (n := 4) Try.fileSize rfl _ _ rfl (g := w.heap.size + 1) (vs := fileL (.slice pv n0 cv) d t (.slice pu n1 cu)) rfl rfl HZ4.out rfl rfl fileL_one ?_)
  intro w5 b5 o5
  go_wp2
  refine bodyPost_ret (v := .agg (fileL (.slice pv n0 cv) d t (.slice pu n1 cu)).toArray) ?_ rfl ⟨_, rfl, ?_, HB4.out.trans (o5.below _ HB4.out.size fun k hk => by rw [hk]; omega)⟩
  · exact results_cell0K Try.fileSize Try.fileAgg Try.results39 _ _ rfl b5.vals rfl
  · have e1 : OwnStrs w5 W.heap.size (.slice pv n0 cv) L := o5.own HO4.out fun k hk h => by have := HO4.out.ge k hk; have := HSz.out; omega
    have e2 : OwnBytes w5 W2.heap.size (.slice pu n1 cu) bs := o5.own HU4.out fun k hk h => by
      have := (World.ownsRow.lt HU4.out k hk).1
      have := HZ2.out.lt (by simp [fileZ, fileL])
      omega
    exact HFi.out _ _ _ _ _ _ e1 e2 (fun k hk => ⟨by have := e1.ge k hk; have := HSz.out; omega, (World.ownsRow.lt e1 k hk).2⟩) fun k hk => ⟨by have := (World.ownsRow.lt e2 k hk).1; have := HS2.out; omega, (World.ownsRow.lt e2 k hk).2⟩
end Go.Proofs.Ytgfibbecnmmpjaa
namespace Go.Proofs.Ytgfibbecnmmpjaa
set_option linter.all false
open Go.RowKit
def RowR (B S : Nat) (v : Value) (k : Nat) : Prop := B <= k /\ k < S /\ v.ownBlock ≠ some k
def CopsSt (B : Nat) (W : World) (v : Value) (T : List FileV) : Prop := ∃ css, fileW.own 40 (RowR B W.heap.size v) W B v T css
theorem Kind.own_mono {α : Type} (K : Kind α) {E : TypeId} {R R' : Nat -> Prop} {w : World} {B : Nat} {v : Value} {L : List α} {css : List (List Value)} (h : K.own E R w B v L css) (hR : ∀ k, R k -> R' k) : K.own E R' w B v L css := ⟨K.each_mono h.each hR, h.row⟩
theorem CopsSt.nil (W : World) (B : Nat) : CopsSt B W (.slice none 0 0) [] := ⟨[], fileW.own_nil _ _ _ _⟩
theorem CopsSt.below {B : Nat} {W W' : World} {v : Value} {T : List FileV} (h : CopsSt B W v T) (hb : Below W.heap.size W W') : CopsSt B W' v T := by
  obtain ⟨css, h⟩ := h
  exact ⟨css, Kind.own_mono _ (fileW.own_below h hb) fun k hk => ⟨hk.1, Nat.lt_of_lt_of_le hk.2.1 hb.size, hk.2.2⟩⟩
theorem CopsSt.sliced {B : Nat} {W : World} {v : Value} {T : List FileV} (h : CopsSt B W v T) : ∃ p c, v = .slice p T.length c := by
  obtain ⟨css, h⟩ := h
  rcases h.row.2 with ⟨rfl, hn⟩ | ⟨g, cap, cur, rfl, _⟩
  · exact ⟨none, 0, by rw [hn]⟩
  · exact ⟨_, _, rfl⟩
theorem CopsSt.rows {B : Nat} {W : World} {v : Value} {T : List FileV} (h : CopsSt B W v T) : fileW.rows (fun k => B <= k /\ k < W.heap.size) W v T := by
  obtain ⟨css, h⟩ := h
  exact fileW.own_rows h (fun k hk => ⟨hk.1, hk.2.1⟩) fun k hk => World.ownsRow.lt h.row k hk
theorem CopsSt.flat {B : Nat} {W : World} {v : Value} {T : List FileV} (h : CopsSt B W v T) : ∃ xs, W.ownsRow B 40 4 v T.length xs /\ ∀ (w2 w3 : World) (E : TypeId) (cs : List Value) (f : FileV) (v' : Value) (m : Nat), Below W.heap.size W w2 -> W.heap.size <= m -> fileW.In (fun k => m <= k /\ k < w2.heap.size) w2 cs f -> B <= W.heap.size ->
    w3.ownsRow B 40 4 v' (T.length + 1) (xs ++ cs) -> (w2.alloc (.cells cs.toArray E)).grownBy w3 v.ownBlock -> Placed (w2.alloc (.cells cs.toArray E)) v v' -> CopsSt B w3 v' (T ++ [f]) := by
  obtain ⟨css, h⟩ := h
  refine ⟨css.flatten, h.row, fun w2 w3 E cs f v' m hb hm hi hB g1 g2 g3 => ⟨css ++ [cs], ?_⟩⟩
  have hs : (w2.alloc (.cells cs.toArray E)).heap.size = w2.heap.size + 1 := by simp
  have hb2 : Below w2.heap.size w2 (w2.alloc (.cells cs.toArray E)) := (Below.refl _ _).alloc (Nat.le_refl _) _
  have h2 : fileW.own 40 (RowR B w2.heap.size v) (w2.alloc (.cells cs.toArray E)) B v T css :=
    Kind.own_mono _ (fileW.own_below (fileW.own_below h hb) hb2) fun k hk => ⟨hk.1, Nat.lt_of_lt_of_le hk.2.1 hb.size, hk.2.2⟩
  have hM : fileW.Each (RowR B w2.heap.size v) (w2.alloc (.cells cs.toArray E)) [cs] [f] := by
    refine ⟨fileW.mono (fileW.below hi hb2) fun k hk => ⟨by omega, hk.2, fun e => ?_⟩, trivial⟩
    have := (World.ownsRow.lt h.row k e).2
    omega
  have := fileW.own_more h2 hM (fun k hk => hk.2.2) (v' := v') (w' := w3) (by
    have h9 : w3.ownsRow B 40 fileW.sz v' (T.length + 1) (css.flatten ++ cs) := g1
    simpa using h9) g2
  refine Kind.own_mono _ this fun k hk => ⟨hk.1, Nat.lt_of_lt_of_le hk.2.1 (by have := g2.size; omega), ?_⟩
  exact g3.ne (by have := hk.2.1; omega) hk.2.2
def CopiesTo (T : List FileV) (w : World) (e : Ending) (w' : World) : Prop := ∃ v, e = .returned v /\ fileW.rows (fun k => w.heap.size <= k /\ k < w'.heap.size) w' v T /\ Below w.heap.size w w'
set_option maxRecDepth 100000 in
set_option maxHeartbeats 4000000 in
theorem copies_any {R0 : Nat -> Prop} (v : Value) (T : List FileV) (w : World) (hv : fileK.rows R0 w v T) (hS : ∀ f ∈ T, SmallF f) (hT : T.length <= 1000000) :
    Calls Try.prog 27 #[v] w (CopiesTo T w) := by
  obtain ⟨p, c, rfl⟩ := fileK.rows_sliced hv
  obtain ⟨n, hn⟩ : ∃ n, n = T.length := ⟨_, rfl⟩
  have HV := Lib.hid hv
  have HSm := Lib.hid hS
  rw [<- hn] at HV hT ⊢
  have Hn := Lib.hid hn
  clear hv hS hn
  go_enter Try.func27, Try.ntmps27
  go_wp2
  go_loopw [3, 8] (fun x j wi => ∃ (q : Nat) (pv : Option Addr) (cv : Nat), q <= n /\ j = .int .i64 q /\ x = .slice pv q cv /\ Hid (CopsSt w.heap.size wi (.slice pv q cv) (T.take q)) /\ Hid (Below w.heap.size w wi)) (fun _ j _ => (n - intOf j).toNat)
  case atStart => exact ⟨0, none, 0, Nat.zero_le _, rfl, rfl, Lib.hid (by rw [List.take_zero]; exact CopsSt.nil _ _), Lib.hid (Below.refl _ _)⟩
  case round =>
    obtain ⟨q, pv, cv, hq, rfl, rfl, HC, HB⟩ := hrel
    by_cases hqn : q < n
    · have hqL : q < T.length := by rw [<- Hn.out]; exact hqn
      obtain ⟨b, o, p0, c0, p1, c1, hat, hRb, hin, hcl⟩ := file_at (fileK.rows_below HV.out HB.out) q hqL
      have HT := Lib.hid (List.take_succ_eq_append_getElem hqL)
      have hsm := HSm.out T[q] (List.getElem_mem hqL)
      obtain ⟨f, hf⟩ : ∃ f, f = T[q] := ⟨_, rfl⟩
      rw [<- hf] at hin hcl HT hsm
      have HLen := Lib.hid (show (T.take q).length = q by rw [List.length_take]; omega)
      have hwr : IntKind.i64.wrap ((q : Int) + 1) = (q : Int) + 1 := by rw [IntKind.wrap_i64] <;> omega
      obtain ⟨n0, hn0⟩ : ∃ n, n = f.1.length := ⟨_, rfl⟩
      obtain ⟨n1, hn1⟩ : ∃ n, n = f.2.2.2.length := ⟨_, rfl⟩
      obtain ⟨d, hd⟩ : ∃ d, d = f.2.1 := ⟨_, rfl⟩
      obtain ⟨t, htt⟩ : ∃ t, t = f.2.2.1 := ⟨_, rfl⟩
      rw [<- hn0, <- hn1, <- hd, <- htt] at hin hcl
      unfold fileL at hin hcl
      have a0 : wr.cell? ⟨b, o, none⟩ = some (.slice p0 n0 c0) := hcl 0 _ rfl
      have a1 : wr.cell? ⟨b, o + 1, none⟩ = some (.bool d) := hcl 1 _ rfl
      have a2 : wr.cell? ⟨b, o + 2, none⟩ = some (.string t) := hcl 2 _ rfl
      have a3 : wr.cell? ⟨b, o + 3, none⟩ = some (.slice p1 n1 c1) := hcl 3 _ rfl
      have HCo := Lib.hid (fun W (hb : Below wr.heap.size wr W) => copyOf_any _ f W (fileK.below hin hb) hsm.2.1 hsm.1)
      have HF := Lib.hid (And.intro hn0 (And.intro hn1 (And.intro hd htt)))
      clear hcl hin hf hn0 hn1 hd htt hRb hsm
      go_wp2_with fail
      refine (HCo.out _ ((Below.refl _ _).alloc (Nat.le_refl _) _)).mono ?_
      rintro e w2 ⟨cs, rfl, hin2, hb2⟩
      obtain ⟨q0, d0, q1, d1, rfl, hk2⟩ := fileK_parts hin2.1
      have HIn := Lib.hid hin2
      have HB2 := Lib.hid (((Below.refl wr.heap.size wr).alloc (Nat.le_refl _) _).trans (hb2.mono (by simp)))
      have HBw := Lib.hid (HB.out.trans (HB2.out.mono HB.out.size))
      obtain ⟨xs, hrow, hmore⟩ := HC.out.flat
      rw [HLen.out] at hrow hmore
      have HRow := Lib.hid (show w2.ownsRow w.heap.size 40 4 (.slice pv q cv) q xs from (Only.of_below (S := fun _ => False) HB2.out).own hrow fun _ _ h => h)
      have HMore := Lib.hid hmore
      have Hsz := Lib.hid (show wr.heap.size <= (wr.alloc (.cells #[.slice p0 n0 c0, .bool d, .string t, .slice p1 n1 c1] 40)).heap.size by simp)
      clear hrow hmore hk2 hin2 hb2 a0 a1 a2 a3 hat
      go_wp2_with (refine wpList_append_at Try.eFile rfl _ _ rfl w.heap.size (w2.alloc (.cells #[.slice q0 f.1.length d0, .bool f.2.1, .string f.2.2.1, .slice q1 f.2.2.2.length d1] 40)) (.slice pv q cv) q xs rfl (World.ownsRow.alloc HRow.out _) (.slice (some ⟨w2.heap.size, 0, none⟩) 1 1) 1 (fileL (.slice q0 f.1.length d0) f.2.1 f.2.2.1 (.slice q1 f.2.2.2.length d1)) rfl (SrcAt.new w2 (fileL (.slice q0 f.1.length d0) f.2.1 f.2.2.1 (.slice q1 f.2.2.2.length d1)) 40 4 rfl) fileL_one (by omega) (by omega) (by have := HBw.out.size; simp; omega) ?_)
      intro v' w3 g1 g2 g3
      have HC3 := Lib.hid (HMore.out w2 w3 40 (fileL (.slice q0 f.1.length d0) f.2.1 f.2.2.1 (.slice q1 f.2.2.2.length d1)) f v' _ HB2.out Hsz.out HIn.out HB.out.size g1 g2 g3)
      obtain ⟨pv', cv', rfl⟩ := HC3.out.sliced
      have HB3 := Lib.hid (show Below w.heap.size w w3 from (HBw.out.alloc (Nat.le_trans HB.out.size HB2.out.size) _).grown g2 (by have := HBw.out.size; simp; omega) fun k hk => (World.ownsRow.lt HRow.out k hk).1)
      rw [show (T.take q ++ [f]).length = q + 1 by rw [List.length_append, HLen.out]; rfl] at HC3 ⊢
      rw [<- HT.out] at HC3
      clear g1 g2 g3
      go_wp2_with fail
      go_roundw
      case rel => exact ⟨q + 1, pv', cv', by omega, by go_num, rfl, HC3, HB3⟩
      case measure => simp [intOf]; omega
    · obtain rfl : q = n := by omega
      go_wp2
      go_ret
      have e : T.take q = T := List.take_of_length_le (by rw [Hn.out]; exact Nat.le_refl _)
      have := HC.out
      rw [e] at this
      exact ⟨_, rfl, this.rows, HB.out⟩
end Go.Proofs.Ytgfibbecnmmpjaa
namespace Go.Proofs.Ytgfibbecnmmpjaa
set_option linter.all false
open Go.RowKit
theorem TreeSt.mono {R : Nat -> Prop} {N N' : Nat} {w : World} {tp root : Nat} {vE : Value} {T : List TF} (h : TreeSt R N w tp root vE T) (hn : N <= N') : TreeSt R N' w tp root vE T := by
  obtain ⟨nd, mb, h1, h2, h3⟩ := h
  exact ⟨nd, mb, h1, h2, h3.mono hn⟩
theorem TreeSt.start {R : Nat -> Prop} {w w1 : World} {e : Ending} (h : NodeTo w e w1) (h1 : R (w.heap.size + 1)) (h2 : R w.heap.size) (E : TypeId) : TreeSt R 0 (w1.alloc (.cells #[.pointer (some ⟨w.heap.size + 1, 0, none⟩), .slice none 0 0] E)) w1.heap.size (w.heap.size + 1) (.slice none 0 0) [] := by
  obtain ⟨_, hb, hbox, hpm⟩ := h
  have hb1 : Below w1.heap.size w1 (w1.alloc (.cells #[.pointer (some ⟨w.heap.size + 1, 0, none⟩), .slice none 0 0] E)) := (Below.refl _ _).alloc (Nat.le_refl _) _
  refine ⟨_, _, Box.new w1 [.pointer (some ⟨w.heap.size + 1, 0, none⟩), .slice none 0 0] E, if_pos rfl, (Forest.root h1 h2 (by omega) (hbox.below hb1) (hpm.below hb1)).congr (fun q => ?_) (fun _ _ => rfl) fun _ _ => rfl⟩
  exact ⟨fun h => .inl h, fun h => h.elim (fun h => h) fun ⟨f, hf, _⟩ => by simp at hf⟩
def TreeAt (R : Nat -> Prop) (w : World) (tp : Nat) (T : List FileV) : Prop := ∃ root N v, R tp /\ TreeSt R N w tp root v (T.map tfOf) /\ fileK.rows R w v T /\ N <= 1000000
theorem TreeAt.only {R S : Nat -> Prop} {w w' : World} {tp : Nat} {T : List FileV} (h : TreeAt R w tp T) (ho : Only S w w') (hR : ∀ k, R k -> ¬ S k) : TreeAt R w' tp T := by
  obtain ⟨root, N, v, h1, h2, h3, h4⟩ := h
  exact ⟨root, N, v, h1, h2.only ho hR (hR _ h1), fileK.rows_only h3 ho hR, h4⟩
theorem TreeAt.below {R : Nat -> Prop} {w w' : World} {tp : Nat} {T : List FileV} (h : TreeAt R w tp T) (hb : Below w.heap.size w w') : TreeAt R w' tp T := h.only (S := fun _ => False) (Only.of_below hb) fun _ _ h => h
def badT (T : List FileV) : Option Nat := badR (rightR plainP contF (T.map tfOf)) 0 (T.map tfOf)
def NewTreeTo (T : List FileV) (w : World) (e : Ending) (w' : World) : Prop :=
  (badT T = none /\ (∃ tp, e = .returned (.tuple #[.pointer (some ⟨tp, 0, none⟩), .nilIface]) /\ TreeAt (fun k => w.heap.size <= k /\ k < w'.heap.size) w' tp T) \/ (∃ i : Nat, badT T = some i /\ e = .returned (.tuple #[.pointer none, baseF 400 i]))) /\ Below w.heap.size w w'
theorem map_take_succ {T : List FileV} {q : Nat} (h : q < T.length) : (T.take (q + 1)).map tfOf = (T.take q).map tfOf ++ [tfOf T[q]] := by
  rw [List.take_succ_eq_append_getElem h, List.map_append]; rfl
theorem TreeSt.finish {w w' wf : World} {B tp root N : Nat} {v : Value} {T : List FileV} (h : TreeSt (fun k => B <= k /\ k ≠ tp) N w tp root (.slice none 0 0) (T.map tfOf)) (hN : N <= 1000000) (hB : B <= tp) (hb : Below w.heap.size w w') (hv : fileK.rows (fun k => w.heap.size <= k /\ k < w'.heap.size) w' v T) (hs : wf = w'.setCell ⟨tp, 1, none⟩ v) (hBw : B <= w.heap.size) :
    TreeAt (fun k => B <= k /\ k < wf.heap.size) wf tp T := by
  obtain ⟨nd, mb, h1, h2, h3⟩ := h.below hb
  have hO : Only (fun k => k = tp) w' (w'.setCell ⟨tp, 1, none⟩ v) := Only.setCell (S := fun k => k = tp) (p := ⟨tp, 1, none⟩) (Only.refl _ w') (fun _ => rfl) _
  have hlt := h1.lt (by simp)
  obtain ⟨nd0, mb0, h10, _⟩ := h
  have hlt0 := h10.lt (by simp)
  have hsz : wf.heap.size = w'.heap.size := by rw [hs]; simp
  rw [hsz]
  subst hs
  refine ⟨root, N, v, ⟨hB, hlt⟩, ⟨nd, mb, h1.set1 1 (by simp) v, h2, (h3.low.only hO fun k hk => hk.1.2).imp fun k hk => ⟨hk.1.1, hk.2⟩⟩, ?_, hN⟩
  exact fileK.rows_mono (fileK.rows_only hv hO fun k hk e => by omega) fun k hk => ⟨Nat.le_trans hBw hk.1, hk.2⟩
set_option maxRecDepth 100000 in
set_option maxHeartbeats 4000000 in
theorem newTree_any (v : Value) (T : List FileV) (w : World) (hv : fileK.rows (fun k => k < w.heap.size) w v T) (hS : ∀ f ∈ T, SmallF f /\ f.1.length <= 1000) (hT : T.length <= 1000) :
    Calls Try.prog 10 #[v] w (NewTreeTo T w) := by
  obtain ⟨p, c, rfl⟩ := fileK.rows_sliced hv
  obtain ⟨n, hn⟩ : ∃ n, n = T.length := ⟨_, rfl⟩
  have HV := Lib.hid hv
  have HSm := Lib.hid hS
  rw [<- hn] at HV hT ⊢
  have Hn := Lib.hid hn
  clear hv hS hn
  go_enter Try.func10, Try.ntmps10
  go_wp2_with fail
  refine (newNode_any w).mono ?_
  rintro e w1 hN
  have h0 := hN.1
  subst h0
  obtain ⟨tp, htp⟩ : ∃ tp, tp = w1.heap.size := ⟨_, rfl⟩
  have hb1 := hN.2.1
  have hst := TreeSt.start (R := fun k => w.heap.size <= k /\ k ≠ tp) hN (by have := hN.2.2.1.lt (by simp); omega) (by have := hN.2.2.2.lt; omega) 60
  have hb2 : Below w.heap.size w (w1.alloc (.cells #[.pointer (some ⟨w.heap.size + 1, 0, none⟩), .slice none 0 0] 60)) := hb1.alloc hb1.size _
  have hlt : tp < (w1.alloc (.cells #[.pointer (some ⟨w.heap.size + 1, 0, none⟩), .slice none 0 0] 60)).heap.size := by rw [htp]; simp
  have hle : w.heap.size <= tp := by rw [htp]; exact hb1.size
  obtain ⟨root, hroot⟩ : ∃ r, r = w.heap.size + 1 := ⟨_, rfl⟩
  rw [<- hroot] at hst hb2 hlt ⊢
  rw [<- htp] at hst
  generalize hW : w1.alloc (.cells #[.pointer (some ⟨root, 0, none⟩), .slice none 0 0] 60) = W at *
  have HSt := Lib.hid hst
  have HB2 := Lib.hid hb2
  have Hlt := Lib.hid hlt
  have Hle := Lib.hid hle
  clear hN hb1 hst hb2 hlt hle hroot
  go_wp2_with fail
  rw [<- htp]
  clear hW htp
  go_loopw [14] (fun j wi => ∃ q : Nat, q <= n /\ j = .int .i64 q /\ Hid (TreeSt (fun k => w.heap.size <= k /\ k ≠ tp) (q * 1000) wi tp root (.slice none 0 0) ((T.take q).map tfOf)) /\ Hid (Below w.heap.size w wi) /\ Hid (tp < wi.heap.size)) (fun j _ => (n - intOf j).toNat)
  case atStart => exact ⟨0, Nat.zero_le _, rfl, Lib.hid (by rw [List.take_zero]; exact HSt.out.mono (Nat.zero_le _)), HB2, Hlt⟩
  case round =>
    clear HSt HB2 Hlt
    obtain ⟨q, hq, rfl, HSt, HBw, Hlt⟩ := hrel
    by_cases hqn : q < n
    · have hqL : q < T.length := by rw [<- Hn.out]; exact hqn
      obtain ⟨b, o, p0, c0, p1, c1, hat, hRb, hin, hcl⟩ := file_at (fileK.rows_below HV.out HBw.out) q hqL
      have hsm := HSm.out T[q] (List.getElem_mem hqL)
      have HT := Lib.hid (map_take_succ hqL)
      obtain ⟨f, hf⟩ : ∃ f, f = T[q] := ⟨_, rfl⟩
      rw [<- hf] at hin hcl hsm HT
      have hwr : IntKind.i64.wrap ((q : Int) + 1) = (q : Int) + 1 := by rw [IntKind.wrap_i64] <;> omega
      obtain ⟨n0, hn0⟩ : ∃ n, n = f.1.length := ⟨_, rfl⟩
      obtain ⟨n1, hn1⟩ : ∃ n, n = f.2.2.2.length := ⟨_, rfl⟩
      obtain ⟨d, hd⟩ : ∃ d, d = f.2.1 := ⟨_, rfl⟩
      obtain ⟨t, htt⟩ : ∃ t, t = f.2.2.1 := ⟨_, rfl⟩
      rw [<- hn0, <- hn1, <- hd, <- htt] at hin hcl
      unfold fileL at hin hcl
      have a0 : wr.cell? ⟨b, o, none⟩ = some (.slice p0 n0 c0) := hcl 0 _ rfl
      have a1 : wr.cell? ⟨b, o + 1, none⟩ = some (.bool d) := hcl 1 _ rfl
      have a2 : wr.cell? ⟨b, o + 2, none⟩ = some (.string t) := hcl 2 _ rfl
      have a3 : wr.cell? ⟨b, o + 3, none⟩ = some (.slice p1 n1 c1) := hcl 3 _ rfl
      have HPut := Lib.hid (fun W (hb : Below wr.heap.size wr W) => put_any (R := fun k => w.heap.size <= k /\ k ≠ tp) ((T.take q).map tfOf) tp root (.slice none 0 0) q _ f W (HSt.out.below hb) (fun h => h.2 rfl) (fun k hk h => absurd h.1 (by omega)) (fileK.below hin hb) (by simp; omega) hsm.1.2.2.2 (by have h1 := hsm.2; omega) (fun k hk => ⟨Nat.le_trans HBw.out.size (Nat.le_trans hb.size hk), by have := hb.size; have := Hlt.out; omega⟩))
      have Hfl := Lib.hid hsm.2
      clear hcl hin hf hn0 hn1 hd htt hRb hsm
      go_wp2_with fail
      refine (HPut.out _ ((Below.refl _ _).alloc (Nat.le_refl _) _)).mono ?_
      rintro e w2 ⟨rfl, hst2, ho2⟩
      have HSt2 := Lib.hid (show TreeSt (fun k => w.heap.size <= k /\ k ≠ tp) ((q + 1) * 1000) w2 tp root (.slice none 0 0) ((T.take (q + 1)).map tfOf) by
        rw [HT.out]
        exact hst2.mono (by have := Hfl.out; omega))
      have HB3 := Lib.hid (show Below w.heap.size w w2 from ((HBw.out.alloc HBw.out.size (.cells #[.slice p0 n0 c0, .bool d, .string t, .slice p1 n1 c1] 40))).trans (ho2.below _ (by have := HBw.out.size; simp; omega) fun k hk => hk.1))
      have Hlt2 := Lib.hid (show tp < w2.heap.size by
        have h1 := ho2.size
        have h2 := Hlt.out
        have h3 : wr.heap.size <= (wr.alloc (.cells #[.slice p0 n0 c0, .bool d, .string t, .slice p1 n1 c1] 40)).heap.size := by simp
        omega)
      clear hst2 ho2 a0 a1 a2 a3 hat
      go_wp2_with fail
      go_roundw
      case rel => exact ⟨q + 1, by omega, by go_num, HSt2, HB3, Hlt2⟩
      case measure => simp [intOf]; omega
    · obtain rfl : q = n := by omega
      have hte : T.take q = T := List.take_of_length_le (by rw [Hn.out]; exact Nat.le_refl _)
      rw [hte] at HSt
      clear hte hqn
      obtain ⟨ws, hws⟩ : ∃ ws, ws = wr := ⟨_, rfl⟩
      rw [<- hws] at HSt HBw Hlt ⊢
      clear hws
      go_wp2_with fail
      go_loopw [26] (fun j wi => ∃ k : Nat, k <= q /\ j = .int .i64 k /\ Hid (badT T = badR (rightR plainP contF (T.map tfOf)) k ((T.map tfOf).drop k)) /\ Hid (Below ws.heap.size ws wi)) (fun j _ => (q - intOf j).toNat)
      case atStart => exact ⟨0, Nat.zero_le _, rfl, Lib.hid rfl, Lib.hid (Below.refl _ _)⟩
      case round =>
        obtain ⟨k, hk, rfl, HQ, HBs⟩ := hrel
        have HBx := Lib.hid (HBw.out.trans (HBs.out.mono HBw.out.size))
        by_cases hkn : k < q
        · have hqL : k < T.length := by rw [<- Hn.out]; exact hkn
          obtain ⟨b, o, p0, c0, p1, c1, hat, hRb, hin, hcl⟩ := file_at (fileK.rows_below HV.out HBx.out) k hqL
          have hsm := HSm.out T[k] (List.getElem_mem hqL)
          have HSb := Lib.hid (badR_step (rightR plainP contF (T.map tfOf)) (T.map tfOf) k (by rw [List.length_map]; exact hqL))
          have hmem : tfOf T[k] ∈ T.map tfOf := List.mem_map_of_mem (List.getElem_mem hqL)
          rw [List.getElem_map] at HSb
          obtain ⟨f, hf⟩ : ∃ f, f = T[k] := ⟨_, rfl⟩
          rw [<- hf] at hin hcl hsm HSb hmem
          have hwr : IntKind.i64.wrap ((k : Int) + 1) = (k : Int) + 1 := by rw [IntKind.wrap_i64] <;> omega
          obtain ⟨n0, hn0⟩ : ∃ n, n = f.1.length := ⟨_, rfl⟩
          obtain ⟨n1, hn1⟩ : ∃ n, n = f.2.2.2.length := ⟨_, rfl⟩
          obtain ⟨d, hd⟩ : ∃ d, d = f.2.1 := ⟨_, rfl⟩
          obtain ⟨t, htt⟩ : ∃ t, t = f.2.2.1 := ⟨_, rfl⟩
          rw [<- hn0, <- hn1, <- hd, <- htt] at hin hcl
          unfold fileL at hin hcl
          have a0 : wr.cell? ⟨b, o, none⟩ = some (.slice p0 n0 c0) := hcl 0 _ rfl
          have a1 : wr.cell? ⟨b, o + 1, none⟩ = some (.bool d) := hcl 1 _ rfl
          have a2 : wr.cell? ⟨b, o + 2, none⟩ = some (.string t) := hcl 2 _ rfl
          have a3 : wr.cell? ⟨b, o + 3, none⟩ = some (.slice p1 n1 c1) := hcl 3 _ rfl
          have HRi := Lib.hid (fun W (hb : Below wr.heap.size wr W) => right_any (T.map tfOf) tp root (.slice none 0 0) k _ f W ((HSt.out.below HBs.out).below hb) (fileK.below hin hb) hmem hsm.1.2.2.2 hsm.1.2.2.1 hsm.1.2.1 hsm.1.1)
          have HN := Lib.hid (fun W => new_any 400 (k : Int) W)
          clear hcl hin hf hn0 hn1 hd htt hRb hsm hmem
          cases hr : rightR plainP contF (T.map tfOf) k (tfOf f)
          · rw [hr] at HRi HSb
            have HE := Lib.hid (show badT T = some k by rw [HQ.out, HSb.out]; rfl)
            clear HQ HSb hr
            go_wp2_with fail
            refine (HRi.out _ ((Below.refl _ _).alloc (Nat.le_refl _) _)).mono ?_
            rintro e w2 ⟨rfl, hb⟩
            have HB3 := Lib.hid (show Below w.heap.size w w2 from ((HBx.out.alloc HBx.out.size (.cells #[.slice p0 n0 c0, .bool d, .string t, .slice p1 n1 c1] 40))).trans (hb.mono (by have := HBx.out.size; simp; omega)))
            clear hb a0 a1 a2 a3 hat
            go_wp2_with fail
            refine (HN.out _).mono ?_
            rintro e w3 ⟨rfl, rfl⟩
            unfold baseF
            go_wp2_with fail
            go_ret2
            exact ⟨.inr ⟨k, HE.out, rfl⟩, HB3.out⟩
          · rw [hr] at HRi HSb
            have HE := Lib.hid (show badT T = badR (rightR plainP contF (T.map tfOf)) (k + 1) ((T.map tfOf).drop (k + 1)) by rw [HQ.out, HSb.out]; rfl)
            clear HQ HSb hr
            go_wp2_with fail
            refine (HRi.out _ ((Below.refl _ _).alloc (Nat.le_refl _) _)).mono ?_
            rintro e w2 ⟨rfl, hb⟩
            have HB3 := Lib.hid (show Below ws.heap.size ws w2 from ((HBs.out.alloc HBs.out.size (.cells #[.slice p0 n0 c0, .bool d, .string t, .slice p1 n1 c1] 40))).trans (hb.mono (by have := HBs.out.size; simp; omega)))
            clear hb a0 a1 a2 a3 hat
            go_wp2_with fail
            go_roundw
            case rel => exact ⟨k + 1, by omega, by go_num, HE, HB3⟩
            case measure => simp [intOf]; omega
        · obtain rfl : k = q := by omega
          have HE := Lib.hid (show badT T = none by rw [HQ.out, badR_end _ _ _ (by rw [List.length_map, <- Hn.out]; exact Nat.le_refl _)])
          have HCo := Lib.hid (copies_any _ T wr (fileK.rows_below HV.out HBx.out) (fun f hf => (HSm.out f hf).1) (by rw [<- Hn.out]; omega))
          clear HQ hkn
          go_wp2_with fail
          refine HCo.out.mono ?_
          rintro e w3 ⟨v, rfl, hrowsW, hb3⟩
          have hrows := rowsW hrowsW
          clear hrowsW
          obtain ⟨pv, cv, rfl⟩ := fileK.rows_sliced hrows
          have hB3 := HBx.out.trans (hb3.mono HBx.out.size)
          have HFin := Lib.hid (fun wf (hw : wf = w3.setCell ⟨tp, 1, none⟩ (.slice pv T.length cv)) => (HSt.out.below HBs.out).finish (by omega) Hle.out hb3 hrows hw HBx.out.size)
          obtain ⟨nd, mb, hbox, _⟩ := (HSt.out.below HBs.out).below hb3
          have z1 := hbox.free 1 (by simp)
          have e1 := hbox.cell (i := 1) rfl
          have HB4 := Lib.hid (show Below w.heap.size w (w3.setCell ⟨tp, 1, none⟩ (.slice pv T.length cv)) from hB3.trans (Only.below (S := fun k => k = tp) (Only.setCell (S := fun k => k = tp) (p := ⟨tp, 1, none⟩) (Only.refl _ w3) (fun _ => rfl) _) _ hB3.size fun k hk => by rw [hk]; exact Hle.out))
          clear hbox hrows hb3 hB3
          go_wp2_with fail
          go_ret2
          exact ⟨.inl ⟨HE.out, tp, rfl, HFin.out _ rfl⟩, HB4.out⟩
end Go.Proofs.Ytgfibbecnmmpjaa
