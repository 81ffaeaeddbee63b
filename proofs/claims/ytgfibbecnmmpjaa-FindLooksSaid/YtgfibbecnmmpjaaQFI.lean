/- Texts of one seat, merged: FndI, FndJ, FndL. -/
import Derived.Defers
import Derived.Recover
import Derived.Deep.Onto
import Derived.Test.YtgfibbecnmmpjaaQFA
namespace Go.Proofs.Ytgfibbecnmmpjaa
set_option linter.all false
open Go.RowKit
set_option maxRecDepth 100000 in
set_option maxHeartbeats 4000000 in
theorem pfFull_any (v1 v2 : Value) (A B : List ByteArray) (w : World) (h1 : StrsIn w v1 A) (h2 : StrsIn w v2 B) (hA : A.length <= 100000000) (hB : B.length <= 100000000) :
    Calls Try.prog 20 #[v1, v2] w (FullTo (A ++ B) w) := by
  obtain ⟨p1, c1, rfl⟩ := h1.sliced
  obtain ⟨p2, c2, rfl⟩ := h2.sliced
  have HA := Lib.hid h1
  have HBb := Lib.hid h2
  have HO := Lib.hid (OwnStrs.nil w w.heap.size)
  have HLa := Lib.hid hA
  have HLb := Lib.hid hB
  have HBl := Lib.hid (Below.refl w.heap.size w)
  clear h1 h2 hA hB
  go_enter Try.func20, Try.ntmps20
  go_wp2_with (at_builtin; refine wpList_append_strsOf rfl _ _ rfl w.heap.size w w (.slice none 0 0) [] rfl HO.out (.slice p1 A.length c1) A rfl HA.out (by have := HLa.out; simp; omega) (Nat.le_refl _) HBl.out ?_)
  intro v3 w3 ho3 hb3
  have HO3 := Lib.hid ho3
  have HB3 := Lib.hid (HBb.out.below hb3)
  have HBw := Lib.hid hb3
  obtain ⟨p3, c3, rfl⟩ := ho3.sliced
  clear ho3 hb3
  go_wp2_with (at_builtin; refine wpList_append_strsOf rfl _ _ rfl w.heap.size w w3 (.slice p3 ([] ++ A).length c3) ([] ++ A) rfl HO3.out (.slice p2 B.length c2) B rfl HB3.out (by have := HLa.out; have := HLb.out; simp; omega) HBw.out.size HBw.out ?_)
  intro v4 w4 ho4 hb4
  have HO4 := Lib.hid ho4
  have HB4 := Lib.hid hb4
  clear ho4 hb4
  go_wp2
  go_ret
  exact ⟨_, rfl, HO4.out, HB4.out⟩
set_option maxRecDepth 100000 in
set_option maxHeartbeats 4000000 in
theorem pfIndex_any (v : Value) (A : List ByteArray) (index : ByteArray) (w : World) (h1 : StrsIn w v A) (hA : A.length <= 1000000) :
    Calls Try.prog 29 #[v, .string index] w (FullTo (A ++ [index]) w) := by
  obtain ⟨p1, c1, rfl⟩ := h1.sliced
  have bA : Below w.heap.size w (w.alloc (.cells ([index].map Value.string).toArray 9)) := (Below.refl _ _).alloc (Nat.le_refl _) _
  have HF := Lib.hid (pfFull_any _ _ A [index] _ (h1.below bA) (lit_strsA w [index] (by simp)) (by omega) (by simp))
  have HB := Lib.hid bA
  clear h1 hA bA
  generalize A ++ [index] = L at HF ⊢
  go_enter Try.func29, Try.ntmps29
  go_wp2_with fail
  refine HF.out.mono ?_
  rintro e w1 ⟨v1, rfl, ho, hb⟩
  have HO := Lib.hid ho
  have HB1 := Lib.hid (HB.out.trans (hb.mono HB.out.size))
  obtain ⟨p3, c3, rfl⟩ := ho.sliced
  clear ho hb
  go_wp2_with fail
  go_ret
  exact ⟨_, rfl, (show OwnStrs w1 w.heap.size _ _ from World.ownsRow.mono HO.out HB.out.size), HB1.out⟩
theorem pfPermits_idle (w : World) :
    CallsD Try.prog 42 #[] .returning w fun e u' w' => e = .returned (.tuple #[]) /\ u' = .returning /\ w' = w := by
  refine callsD_of_wpS Try.func42 rfl fun c₀ cs hu => ?_
  apply wpS_region
  simp [wpOpsS, go_sem, recoverD, hu, Try.ntmps42, Exit.thenS]
  cases c₀
  simp_all [bodyPostS, results, Try.results42]
set_option maxRecDepth 100000 in
set_option maxHeartbeats 4000000 in
theorem pfPermits_any {C : List ByteArray -> Prop} (g B n : Nat) (nv pv : Value) (no at_ : List ByteArray) (w : World) (h : Perm C w g B n nv no) (hp : StrsIn w pv at_) (hC : C at_) (hn : n <= 100000) (hl : at_.length <= 1000000) :
    Calls Try.prog 30 #[mayV g, pv] w (MayTo C g B n nv no (mayP no at_) w) := by
  obtain ⟨p1, c1, rfl⟩ := hp.sliced
  have HF := Lib.hid (pfFull_any (.slice none 0 0) _ [] at_ w (.inl ⟨rfl, .inl rfl⟩) hp (by simp) (by omega))
  have HM := Lib.hid (fun v W (hb : Below w.heap.size w W) (ho : OwnStrs W w.heap.size v at_) => may_any g B n nv v no at_ W (h.below hb) ho.strsIn (blockIs_of_own ho) (fun k hk => by have := ho.ge k hk; have := h.lt; have := h.le; omega) hC (by omega) hl)
  have HA := Lib.hid (fun W (hb : Below w.heap.size w W) => h.asks hb)
  generalize mayP no at_ = b at HM ⊢
  clear h hp hC hn hl
  unfold mayV
  rw [List.nil_append] at HF
  go_enter_defers Try.func30, Try.ntmps30
  go_wp2_with fail
  refine HF.out.mono ?_
  rintro e w1 ⟨v1, rfl, ho, hb⟩
  have HMv := Lib.hid (HM.out _ w1 hb ho)
  have HB1 := Lib.hid hb
  obtain ⟨p3, c3, rfl⟩ := ho.sliced
  clear ho hb HM HF
  go_wp2_with fail
  refine HMv.out.mono ?_
  rintro e w2 ⟨rfl, hP, hQ⟩
  have HP := Lib.hid hP
  have HQ := Lib.hid ((HA.out _ HB1.out).trans hQ)
  clear hP hQ HMv
  go_wp2_with fail
  refine leaves_cons (f := 42) (args := #[]) (by simp) (by simp [go_sem]) ?_
  refine (pfPermits_idle _).mono ?_
  rintro e u' w'' ⟨rfl, rfl, rfl⟩
  simp [Leaves, settle, results, Try.results30, go_sem]
  exact ⟨rfl, HP.out, HQ.out⟩
end Go.Proofs.Ytgfibbecnmmpjaa
namespace Go.Proofs.Ytgfibbecnmmpjaa
set_option linter.all false
open Go.RowKit
theorem strs_rowsT {w : World} {v : Value} {L : List ByteArray} (h : StrsIn w v L) : Kind.str.rows (fun _ => True) w v L := by
  rcases h with h | ⟨b, off, cap, hv, h1, h2, h3⟩
  · exact .inl h
  · refine .inr ⟨b, off, cap, hv, h1, h2, trivial, fun i u hu => ⟨[.string u], rfl, fun j x hx => ?_⟩⟩
    match j, hx with
    | 0, hx =>
      obtain rfl : Value.string u = x := by simpa using hx
      have := h3 i u hu
      rw [show off + i * Kind.str.sz + 0 = off + i by rw [show Kind.str.sz = 1 from rfl]; omega]
      exact this
theorem pfPaths_rows {w : World} {v : Value} {xs : List Value} {L : List (List ByteArray)} (h : RowIn w v xs) (hl : xs.length = L.length) (hx : ∀ (i : Nat) (x : List ByteArray), L[i]? = some x -> ∃ u, xs[i]? = some u /\ StrsIn w u x) : (Kind.slice Kind.str).rows (fun _ => True) w v L := by
  rcases h with ⟨h0, h⟩ | ⟨b, off, cap, rfl, h1, h2, h3⟩
  · refine .inl ⟨List.length_eq_zero_iff.1 (by rw [<- hl, h0]; rfl), h⟩
  · rw [hl] at h1 ⊢
    refine .inr ⟨b, off, cap, rfl, h1, h2, trivial, fun i x hi => ?_⟩
    obtain ⟨u, hu, hs⟩ := hx i x hi
    refine ⟨[u], ⟨u, rfl, strs_rowsT hs⟩, fun j y hy => ?_⟩
    match j, hy with
    | 0, hy =>
      obtain rfl : u = y := by simpa using hy
      rw [show off + i * (Kind.slice Kind.str).sz + 0 = off + i by rw [show (Kind.slice Kind.str).sz = 1 from rfl]; omega]
      exact h3 i u hu
theorem sPathBox (w : World) (p : Option Addr) (n c : Nat) (d : Bool) : ∀ W, W = w.alloc (.cells #[.slice p n c, .bool d] 44) -> Box W w.heap.size [.slice p n c, .bool d] /\ Below w.heap.size w W := fun W hW => by
  subst hW
  exact ⟨Box.new w _ _, (Below.refl _ _).alloc (Nat.le_refl _) _⟩
theorem own_one {w : World} (x : Value) (E : TypeId) : (w.alloc (.cells #[x] E)).ownsRow w.heap.size E 1 (.slice (some ⟨w.heap.size, 0, none⟩) 1 1) 1 [x] :=
  World.ownsRow_lit w #[x] 1 (Nat.le_refl _) (by unfold maxLen; omega) rfl
theorem looked_two {w1 w3 w5 : World} {A Bd B0 : Nat} {x y v5 : Value} {L M : List ByteArray} (h1 : OwnStrs w1 A x L) (hb : Below (w1.alloc (.cells #[x] 24)).heap.size (w1.alloc (.cells #[x] 24)) w3) (h3 : OwnStrs w3 Bd y M) (hBd : w1.heap.size + 1 <= Bd)
    (hg : (w3.alloc (.cells #[y] 24)).grownBy w5 (some w1.heap.size)) (h5 : w5.ownsRow B0 24 1 v5 2 [x, y]) : (Kind.slice Kind.str).rows (fun _ => True) w5 v5 [L, M] := by
  have hx : OwnStrs w5 A x L := by
    refine World.ownsRow.kept (World.ownsRow.alloc ((h1.alloc (.cells #[x] 24)).later hb) _) hg ?_
    cases hk : x.ownBlock with
    | none => exact .inl rfl
    | some k => exact .inr (by have := World.ownsRow.lt h1 k hk; intro e; have := Option.some.inj e; omega)
  have hy : OwnStrs w5 Bd y M := by
    refine World.ownsRow.kept (World.ownsRow.alloc h3 _) hg ?_
    cases hk : y.ownBlock with
    | none => exact .inl rfl
    | some k => exact .inr (by have := h3.ge k hk; intro e; have := Option.some.inj e; omega)
  refine pfPaths_rows (rowIn_of_own h5) rfl fun i z hz => ?_
  match i, hz with
  | 0, hz => obtain rfl : L = z := by simpa using hz
             exact ⟨x, rfl, hx.strsIn⟩
  | 1, hz => obtain rfl : M = z := by simpa using hz
             exact ⟨y, rfl, hy.strsIn⟩
set_option maxRecDepth 100000 in
set_option maxHeartbeats 8000000 in
theorem pfLooked_any (vs : Value) (segs : List ByteArray) (dir : Bool) (index : ByteArray) (w : World) (h : StrsIn w vs segs) (hl : segs.length <= 1000) :
    Calls Try.prog 17 #[.agg #[vs, .bool dir], .string index] w (LookedTo (if dir then [segs, segs ++ [index]] else [segs]) w) := by
  obtain ⟨ps, cs, rfl⟩ := h.sliced
  obtain ⟨ns, hns⟩ : ∃ n, n = segs.length := ⟨_, rfl⟩
  rw [<- hns] at h ⊢
  obtain ⟨X0, B0⟩ := sPathBox w ps ns cs dir _ rfl
  generalize hW : w.alloc (.cells #[.slice ps ns cs, .bool dir] 44) = W at X0 B0
  have HF := Lib.hid (pfFull_any (.slice none 0 0) (.slice ps ns cs) [] segs W (.inl ⟨rfl, .inl rfl⟩) (h.below B0) (by simp) (by omega))
  have HI := Lib.hid (fun W1 (hb : Below w.heap.size w W1) => pfIndex_any (.slice ps ns cs) segs index W1 (h.below hb) (by omega))
  rw [List.nil_append] at HF
  have HBx := Lib.hid X0
  have HB := Lib.hid B0
  have x0 := X0.cell (i := 0) rfl
  have HW := Lib.hid hW
  clear X0 B0 h hl hns
  cases dir
  · go_enter Try.func17, Try.ntmps17
    go_wp2_with fail
    refine HF.out.mono ?_
    rintro e w1 ⟨v1, rfl, ho, hb⟩
    obtain ⟨p1, c1, rfl⟩ := ho.sliced
    generalize segs.length = n1 at ho ⊢
    have HO1 := Lib.hid ho
    have HB1 := Lib.hid (HB.out.trans (hb.mono HB.out.size))
    have HBx1 := Lib.hid (HBx.out.below hb)
    have hbn : Below w1.heap.size w1 (w1.alloc (.cells #[.slice p1 n1 c1] 24)) := (Below.refl _ _).alloc (Nat.le_refl _) _
    have y1 : (w1.alloc (.cells #[.slice p1 n1 c1] 24)).cell? ⟨w.heap.size, 1, none⟩ = some (.bool false) := (HBx1.out.below hbn).cell (i := 1) rfl
    have HB2 := Lib.hid (HB1.out.trans (hbn.mono HB1.out.size))
    have HR1 := Lib.hid (own_one (w := w1) (.slice p1 n1 c1) 24)
    have HO2 := Lib.hid (HO1.out.later hbn)
    clear ho hb HF HBx hbn x0 HBx1 hW
    go_wp2_with fail
    go_ret
    refine ⟨_, rfl, pfPaths_rows (rowIn_of_own HR1.out) rfl (fun i z hz => ?_), HB2.out⟩
    match i, hz with
    | 0, hz => obtain rfl : segs = z := by simpa using hz
               exact ⟨_, rfl, HO2.out.strsIn⟩
  · go_enter Try.func17, Try.ntmps17
    go_wp2_with fail
    refine HF.out.mono ?_
    rintro e w1 ⟨v1, rfl, ho, hb⟩
    obtain ⟨p1, c1, rfl⟩ := ho.sliced
    generalize segs.length = n1 at ho ⊢
    have HO1 := Lib.hid ho
    have HB1 := Lib.hid (HB.out.trans (hb.mono HB.out.size))
    have HBx1 := Lib.hid (HBx.out.below hb)
    obtain ⟨q, hq⟩ : ∃ q, q = w1.heap.size := ⟨_, rfl⟩
    obtain ⟨W2, hW2⟩ : ∃ x, x = w1.alloc (.cells #[.slice p1 n1 c1] 24) := ⟨_, rfl⟩
    have hbn : Below w1.heap.size w1 W2 := by rw [hW2]; exact (Below.refl _ _).alloc (Nat.le_refl _) _
    have y1 : (w1.alloc (.cells #[.slice p1 n1 c1] 24)).cell? ⟨w.heap.size, 1, none⟩ = some (.bool true) := by rw [<- hW2]; exact (HBx1.out.below hbn).cell (i := 1) rfl
    have y0 : (w1.alloc (.cells #[.slice p1 n1 c1] 24)).cell? ⟨w.heap.size, 0, none⟩ = some (.slice ps ns cs) := by rw [<- hW2]; exact (HBx1.out.below hbn).cell (i := 0) rfl
    have HB2 := Lib.hid (HB1.out.trans (hbn.mono HB1.out.size))
    have HR1 := Lib.hid (show W2.ownsRow q 24 1 (.slice (some ⟨q, 0, none⟩) 1 1) 1 [.slice p1 n1 c1] by rw [hW2, hq]; exact own_one (w := w1) (.slice p1 n1 c1) 24)
    have HI2 := Lib.hid (HI.out W2 HB2.out)
    have HW2 := Lib.hid hW2
    have HQ := Lib.hid hq
    clear ho hb HF HBx hbn x0 HBx1 HI hW2 hq hW
    go_wp2_with fail
    rw [<- HW2.out, <- HQ.out]
    refine HI2.out.mono ?_
    rintro e w3 ⟨v3, rfl, ho, hb⟩
    obtain ⟨p3, c3, rfl⟩ := ho.sliced
    have HO3 := Lib.hid ho
    have HB3 := Lib.hid hb
    obtain ⟨n3, hn3⟩ : ∃ n, n = (segs ++ [index]).length := ⟨_, rfl⟩
    rw [<- hn3] at HO3 ⊢
    have HR3 := Lib.hid (World.ownsRow.alloc ((Only.of_below (S := fun _ => False) hb).own HR1.out (fun _ _ h => h)) (.cells #[.slice p3 n3 c3] 24))
    have HS3 := Lib.hid (SrcAt.new w3 [.slice p3 n3 c3] 24 1 rfl)
    have HQ3 := Lib.hid (show q <= (w3.alloc (.cells #[.slice p3 n3 c3] 24)).heap.size by
      have h1 := hb.size
      rw [HW2.out, World.size_alloc] at h1
      rw [World.size_alloc, HQ.out]; omega)
    clear ho hb hn3 y0 y1 HI2
    go_wp2_with (at_builtin; refine wpList_append_at Try.ePath rfl _ _ rfl q (w3.alloc (.cells #[.slice p3 n3 c3] 24)) (.slice (some ⟨q, 0, none⟩) 1 1) 1 [.slice p1 n1 c1] rfl HR3.out (.slice (some ⟨w3.heap.size, 0, none⟩) 1 1) 1 [.slice p3 n3 c3] rfl HS3.out (by intro u hu; rw [List.mem_singleton.1 hu]; rfl) (by omega) (by omega) HQ3.out ?_)
    intro v5 w5 h1 h2 h3
    obtain ⟨q5, d5, rfl⟩ := row_sliced1 h1
    have HR5 := Lib.hid h1
    have HG5 := Lib.hid h2
    clear h1 h2 h3
    go_wp2
    go_ret
    refine ⟨_, rfl, looked_two (w1 := w1) (w3 := w3) HO1.out (by rw [<- HW2.out]; exact HB3.out) HO3.out (by rw [HW2.out, World.size_alloc]; exact Nat.le_refl _) (by rw [<- HQ.out]; exact HG5.out) HR5.out, ?_⟩
    have hb5 : Below w.heap.size w (w3.alloc (.cells #[.slice p3 n3 c3] 24)) := (HB2.out.trans (HB3.out.mono HB2.out.size)).alloc (HB2.out.trans (HB3.out.mono HB2.out.size)).size _
    exact hb5.grown HG5.out hb5.size (fun j hj => by
      have hj2 : q = j := Option.some.inj hj
      have := HB1.out.size
      rw [<- hj2, HQ.out]; exact this)
theorem Try.fResSize : (Try.prog.info? 42).map (·.size) = some 5 := by kernel_rfl
theorem Try.fResAgg (w : World) : (isAgg 42).run Try.prog w = .ok true w := by kernel_rfl
def fResL (k : Int) (v : Value) (d : Bool) (t : ByteArray) (u : Value) : List Value := .int .i64 k :: fileL v d t u
def fResZ : List Value := fResL 0 (.slice none 0 0) false ⟨#[]⟩ (.slice none 0 0)
theorem fResL_one {k : Int} {p0 p1 : Option Addr} {n0 c0 n1 c1 : Nat} {d : Bool} {t : ByteArray} : ∀ v ∈ fResL k (.slice p0 n0 c0) d t (.slice p1 n1 c1), v.oneCell' = true := by
  intro v hv
  simp only [fResL, fileL, List.mem_cons, List.not_mem_nil, or_false] at hv
  rcases hv with rfl | rfl | rfl | rfl | rfl <;> rfl
def ServedTo (r : Option FileV) (w : World) (e : Ending) (w' : World) : Prop := ∃ cs, e = .returned (.agg (List.toArray (.int .i64 (if r.isSome then 1 else 0) :: cs))) /\ fileK.In (fun k => w.heap.size <= k /\ k < w'.heap.size) w' cs (r.getD zeroF) /\ Below w.heap.size w w'
theorem fResBox (w : World) : ∀ W, W = w.alloc (.cells #[.int .i64 0, .slice none 0 0, .bool false, .string ⟨#[]⟩, .slice none 0 0] 42) -> Box W w.heap.size fResZ /\ Below w.heap.size w W := fun W hW => by
  subst hW
  exact ⟨Box.new w fResZ _, (Below.refl _ _).alloc (Nat.le_refl _) _⟩
set_option maxRecDepth 100000 in
set_option maxHeartbeats 8000000 in
theorem pfServed_any {R : Nat -> Prop} (v : Value) (L : List ByteArray) (tp : Nat) (T : List FileV) (w : World) (h : TreeAt R w tp T) (hg : RightG okT (T.map tfOf)) (hv : StrsIn w v L) (hx : ∀ x ∈ L, x.size <= 1000000) (hS : ∀ f ∈ T, SmallF f) :
    Calls Try.prog 31 #[.pointer (some ⟨tp, 0, none⟩), v] w (ServedTo (getF T L) w) := by
  obtain ⟨pv, cv, rfl⟩ := hv.sliced
  have HG := Lib.hid (fun W (hb : Below w.heap.size w W) => treeGet_any (.slice pv L.length cv) L tp T W (h.below hb) hg (hv.below hb) hx hS)
  generalize getF T L = r at HG ⊢
  generalize L.length = nv at HG ⊢
  clear h hg hv hx hS
  obtain ⟨X0, B0⟩ := fResBox w _ rfl
  generalize hW : w.alloc (.cells #[.int .i64 0, .slice none 0 0, .bool false, .string ⟨#[]⟩, .slice none 0 0] 42) = W at X0 B0
  have HX := Lib.hid X0
  have HB := Lib.hid B0
  have HWh := Lib.hid hW
  have HLt := Lib.hid (show w.heap.size < W.heap.size from X0.lt (by simp [fResZ, fResL, fileL]))
  clear X0 B0
  go_enter Try.func31, Try.ntmps31
  cases r with
  | none =>
    go_wp2_with fail
    refine (HG.out _ HB.out).mono ?_
    rintro e w1 ⟨cs, rfl, hin, hb⟩
    generalize (Option.getD none zeroF) = f at hin
    obtain ⟨q0, d0, q1, d1, rfl, _⟩ := fileK_parts hin.1
    obtain ⟨m0, hm0⟩ : ∃ x, x = f.1.length := ⟨_, rfl⟩
    obtain ⟨fd, hfd⟩ : ∃ x, x = f.2.1 := ⟨_, rfl⟩
    obtain ⟨ft, hft⟩ : ∃ x, x = f.2.2.1 := ⟨_, rfl⟩
    obtain ⟨m1, hm1⟩ : ∃ x, x = f.2.2.2.length := ⟨_, rfl⟩
    rw [<- hm0, <- hfd, <- hft, <- hm1] at hin ⊢
    obtain ⟨W2, hW2⟩ : ∃ x, x = w1.alloc (.cells #[.slice q0 m0 d0, .bool fd, .string ft, .slice q1 m1 d1] 40) := ⟨_, rfl⟩
    have hb2 : Below w1.heap.size w1 W2 := by rw [hW2]; exact (Below.refl _ _).alloc (Nat.le_refl _) _
    have HB2 := Lib.hid ((HB.out.trans (hb.mono HB.out.size)).trans (hb2.mono (HB.out.trans (hb.mono HB.out.size)).size))
    have HX2 := Lib.hid ((HX.out.below hb).below hb2)
    have HIn := Lib.hid (fileW.below hin hb2)
    have HL := Lib.hid (show W.heap.size <= W2.heap.size /\ w1.heap.size <= W2.heap.size from ⟨Nat.le_trans hb.size hb2.size, hb2.size⟩)
    have HW2 := Lib.hid hW2
    clear hin hb hb2 HG HX hW hW2 hm0 hfd hft hm1
    go_wp2_with (rw [<- HW2.out]; refine wpList_store_box (n := 5) Try.fResSize rfl _ _ rfl (g := w.heap.size) (vs := fResL 0 (.slice none 0 0) false ⟨#[]⟩ (.slice none 0 0)) rfl rfl HX2.out rfl rfl fResL_one ?_)
    intro w5 b5 o5
    have HB5 := Lib.hid (HB2.out.trans (o5.below _ HB2.out.size fun k hk => by rw [hk]; exact Nat.le_refl _))
    go_wp2
    refine bodyPost_ret (v := .agg (fResL 0 (.slice none 0 0) false ⟨#[]⟩ (.slice none 0 0)).toArray) ?_ rfl ⟨_, rfl, ?_, HB5.out⟩
    · exact results_cell0A Try.fResSize Try.fResAgg Try.results31 _ _ rfl b5.vals rfl
    · exact (zeroF_in _ _).1
  | some f =>
    go_wp2_with fail
    refine (HG.out _ HB.out).mono ?_
    rintro e w1 ⟨cs, rfl, hin, hb⟩
    have hin : fileW.In (fun k => W.heap.size <= k /\ k < w1.heap.size) w1 cs f := hin
    obtain ⟨q0, d0, q1, d1, rfl, _⟩ := fileK_parts hin.1
    obtain ⟨m0, hm0⟩ : ∃ x, x = f.1.length := ⟨_, rfl⟩
    obtain ⟨fd, hfd⟩ : ∃ x, x = f.2.1 := ⟨_, rfl⟩
    obtain ⟨ft, hft⟩ : ∃ x, x = f.2.2.1 := ⟨_, rfl⟩
    obtain ⟨m1, hm1⟩ : ∃ x, x = f.2.2.2.length := ⟨_, rfl⟩
    rw [<- hm0, <- hfd, <- hft, <- hm1] at hin ⊢
    obtain ⟨W2, hW2⟩ : ∃ x, x = w1.alloc (.cells #[.slice q0 m0 d0, .bool fd, .string ft, .slice q1 m1 d1] 40) := ⟨_, rfl⟩
    have hb2 : Below w1.heap.size w1 W2 := by rw [hW2]; exact (Below.refl _ _).alloc (Nat.le_refl _) _
    have HB2 := Lib.hid ((HB.out.trans (hb.mono HB.out.size)).trans (hb2.mono (HB.out.trans (hb.mono HB.out.size)).size))
    have HX2 := Lib.hid ((HX.out.below hb).below hb2)
    have HIn := Lib.hid (fileW.below hin hb2)
    have HL := Lib.hid (show W.heap.size <= W2.heap.size /\ w1.heap.size <= W2.heap.size from ⟨Nat.le_trans hb.size hb2.size, hb2.size⟩)
    have HW2 := Lib.hid hW2
    have hz : Box W2 w1.heap.size (fileL (.slice q0 m0 d0) fd ft (.slice q1 m1 d1)) := by rw [hW2]; exact Box.new w1 _ _
    have z0 : (w1.alloc (.cells #[.slice q0 m0 d0, .bool fd, .string ft, .slice q1 m1 d1] 40)).cell? ⟨w1.heap.size, 0, none⟩ = some (.slice q0 m0 d0) := by rw [<- hW2]; exact hz.cell rfl
    clear hin hb hb2 HG HX hW hW2 hm0 hfd hft hm1 hz z0
    go_wp2_with (rw [<- HW2.out]; refine wpList_store_box (n := 5) Try.fResSize rfl _ _ rfl (g := w.heap.size) (vs := fResL 1 (.slice q0 m0 d0) fd ft (.slice q1 m1 d1)) rfl rfl HX2.out rfl rfl fResL_one ?_)
    intro w5 b5 o5
    have HB5 := Lib.hid (HB2.out.trans (o5.below _ HB2.out.size fun k hk => by rw [hk]; exact Nat.le_refl _))
    go_wp2
    refine bodyPost_ret (v := .agg (fResL 1 (.slice q0 m0 d0) fd ft (.slice q1 m1 d1)).toArray) ?_ rfl ⟨_, rfl, ?_, HB5.out⟩
    · exact results_cell0A Try.fResSize Try.fResAgg Try.results31 _ _ rfl b5.vals rfl
    · refine (fileW.mono (fileW.only HIn.out o5 fun k hk e => ?_) (R' := fun k => w.heap.size <= k /\ k < w5.heap.size) fun k hk => ?_).1
      · have h1 : W.heap.size <= k := hk.1
        have := HLt.out
        omega
      · have h1 : W.heap.size <= k /\ k < w1.heap.size := hk
        have := HLt.out
        have := HL.out
        have := o5.size
        exact ⟨by omega, by omega⟩
end Go.Proofs.Ytgfibbecnmmpjaa
namespace Go.Proofs.Ytgfibbecnmmpjaa
set_option linter.all false
open Go.RowKit
theorem asked_sameL {C : List ByteArray -> Prop} {w W : World} {g B n : Nat} {nv : Value} {no : List ByteArray} (h : Perm C w g B n nv no) (hb : Below w.heap.size w W) {k : Nat} (hk : Asked W g k) : Asked w g k := by
  obtain ⟨av, xs, h1, h2, _⟩ := h.asked
  obtain ⟨u, hu, hk⟩ := hk
  have h3 : W.cell? ⟨g, 1, none⟩ = some av := (h1.below hb).cell rfl
  rw [h3] at hu
  obtain rfl := Option.some.inj hu
  exact ⟨_, h1.cell rfl, hk⟩
theorem permS_lt {C : List ByteArray -> Prop} {w W : World} {g B n : Nat} {nv : Value} {no : List ByteArray} (h : Perm C w g B n nv no) (hb : Below w.heap.size w W) {k : Nat} (hk : PermS W g k) : PermS w g k /\ k < w.heap.size := by
  rcases hk with hk | hk
  · exact ⟨.inl hk, by have := h.lt; have := h.le; omega⟩
  · have := asked_sameL h hb hk
    exact ⟨.inr this, (h.askedGe this).2⟩
theorem sPathRes (w : World) (p : Option Addr) (n c : Nat) (d : Bool) : ∀ W, W = (w.alloc (.cells #[.slice p n c, .bool d] 44)).alloc (.cells #[.int .i64 0, .slice none 0 0, .bool false, .string ⟨#[]⟩, .slice none 0 0] 42) ->
    Box W w.heap.size [.slice p n c, .bool d] /\ Box W (w.heap.size + 1) fResZ /\ Below w.heap.size w W := fun W hW => by
  subst hW
  refine ⟨(Box.new w _ _).below ((Below.refl _ _).alloc (Nat.le_refl _) _), ?_, ((Below.refl _ _).alloc (Nat.le_refl _) _).alloc (by simp) _⟩
  have := Box.new (w.alloc (.cells #[.slice p n c, .bool d] 44)) fResZ 42
  rwa [show (w.alloc (.cells #[.slice p n c, .bool d] 44)).heap.size = w.heap.size + 1 by simp] at this
def TyAt (w : World) (b : Nat) (E : TypeId) : Prop := ∃ cur, w.heap[b]? = some (.cells cur E (0, 0))
theorem TyAt.only {S : Nat -> Prop} {w w' : World} {b : Nat} {E : TypeId} (h : TyAt w b E) (ho : Only S w w') (hb : ¬ S b) : TyAt w' b E := by
  obtain ⟨cur, h⟩ := h
  exact ⟨cur, (ho.block b (lt_of_cells h) hb).trans h⟩
theorem TyAt.below {w w' : World} {b : Nat} {E : TypeId} (h : TyAt w b E) (hb : Below w.heap.size w w') : TyAt w' b E := h.only (S := fun _ => False) (Only.of_below hb) fun h => h
theorem Perm.putT {C : List ByteArray -> Prop} {w w' : World} {g B n b : Nat} {nv : Value} {no : List ByteArray} {E : TypeId} (h : Perm C w g B n nv no) (ho : Only (fun k => k = b) w w') (hg : g < b) (hT : TyAt w b E) (hE : E ≠ 9) (hE2 : E ≠ 24) : Perm C w' g B n nv no := by
  obtain ⟨av, xs, h1, h2, h3⟩ := h.asked
  obtain ⟨cb, hT⟩ := hT
  refine ⟨h.lt, Nat.le_trans h.le ho.size, h.noIn.onlyN ho fun hn k hk e => by have := h.noLt hn k hk; omega, h.noLt, av, xs, h1.only ho (by omega), ho.own h2 fun k hk e => ?_, fun x hx => ?_⟩
  · rcases h2.2 with ⟨rfl, _⟩ | ⟨g2, cap, cur, rfl, _, hh, _⟩
    · cases hk
    · obtain rfl : g2 = k := Option.some.inj hk
      rw [e, hT] at hh
      exact hE2 (by injection hh with hh; injection hh)
  · obtain ⟨h4, L, h5, h6, h7⟩ := h3 x hx
    have hne : ∀ k, x.ownBlock = some k -> ¬ k = b := fun k hk e => by
      rcases h5 with ⟨_, rfl | ⟨ad, cap, rfl⟩⟩ | ⟨b2, off, cap, rfl, _⟩
      · cases hk
      · obtain ⟨cur, hh⟩ := h6 _ _ _ rfl
        obtain rfl : ad.block = k := Option.some.inj hk
        rw [e, hT] at hh
        exact hE (by injection hh with hh; injection hh)
      · obtain ⟨cur, hh⟩ := h6 _ _ _ rfl
        obtain rfl : b2 = k := Option.some.inj hk
        rw [show (⟨b2, off, none⟩ : Addr).block = b2 from rfl, e, hT] at hh
        exact hE (by injection hh with hh; injection hh)
    exact ⟨h4, L, rowIn_only h5 ho hne, blockIs_only h6 ho hne, h7⟩
theorem asked_put {C : List ByteArray -> Prop} {w w' : World} {g B n b : Nat} {nv : Value} {no : List ByteArray} (h : Perm C w g B n nv no) (ho : Only (fun k => k = b) w w') (hg : g < b) {k : Nat} (hk : Asked w' g k) : Asked w g k := by
  obtain ⟨av, xs, h1, h2, _⟩ := h.asked
  obtain ⟨u, hu, hk⟩ := hk
  have h3 : w'.cell? ⟨g, 1, none⟩ = some av := (h1.only ho (by omega)).cell rfl
  rw [h3] at hu
  obtain rfl := Option.some.inj hu
  exact ⟨_, h1.cell rfl, hk⟩
theorem Asks.put {C : List ByteArray -> Prop} {w w1 w' : World} {g B n b : Nat} {nv : Value} {no : List ByteArray} (h : Perm C w1 g B n nv no) (ha : Asks g w w1) (ho : Only (fun k => k = b) w1 w') (hg : g < b) (hb : w.heap.size <= b) : Asks g w w' :=
  ⟨ha.only.trans ho fun i hi e => by omega, fun k hk => ha.new k (asked_put h ho hg hk)⟩
theorem Asks.plus {C : List ByteArray -> Prop} {w w1 w' : World} {g B n : Nat} {nv : Value} {no : List ByteArray} (h : Perm C w1 g B n nv no) (ha : Asks g w w1) (hb : Below w1.heap.size w1 w') : Asks g w w' := ha.trans (h.asks hb)
theorem fResTy (w : World) (o : Obj) : TyAt ((w.alloc o).alloc (.cells #[.int .i64 0, .slice none 0 0, .bool false, .string ⟨#[]⟩, .slice none 0 0] 42)) (w.heap.size + 1) 42 := by
  have h := Array.getElem?_push_size (xs := w.heap.push o) (x := Obj.cells #[.int .i64 0, .slice none 0 0, .bool false, .string ⟨#[]⟩, .slice none 0 0] 42 (0, 0))
  rw [Array.size_push] at h
  exact ⟨_, h⟩
theorem found_zero {C : List ByteArray -> Prop} {g B n m : Nat} {nv : Value} {no : List ByteArray} {w w' : World} (k : Int) (hm : m <= n + 10) (hp : Perm C w' g B m nv no) (ha : Asks g w w') : FoundTo C g B n nv no (k, none) w (.returned (.agg (fResL k (.slice none 0 0) false ⟨#[]⟩ (.slice none 0 0)).toArray)) w' :=
  ⟨fileZ, m, rfl, (zeroF_in _ _).1, hm, hp, ha⟩
theorem Try.sPathSize : (Try.prog.info? 44).map (·.size) = some 2 := by kernel_rfl
theorem sPath_one {p : Option Addr} {n c : Nat} {d : Bool} : ∀ v ∈ ([.slice p n c, .bool d] : List Value), v.oneCell' = true := by
  intro v hv
  simp only [List.mem_cons, List.not_mem_nil, or_false] at hv
  rcases hv with rfl | rfl <;> rfl
def kindO (o : Option (List FileV)) (q : List ByteArray) : Nat := match o with
  | none => 0
  | some T => kindP (T.map tfOf) q
theorem TreeP.below {R : Nat -> Prop} {w w' : World} {v : Value} {o : Option (List FileV)} (h : TreeP R w v o) (hb : Below w.heap.size w w') : TreeP R w' v o := by
  cases h with
  | nil => exact .nil
  | tree tp T h1 h2 h3 h4 => exact .tree tp T (h1.below hb) h2 h3 h4
theorem TreeP.only {R S : Nat -> Prop} {w w' : World} {v : Value} {o : Option (List FileV)} (h : TreeP R w v o) (ho : Only S w w') (hR : ∀ k, R k -> ¬ S k) : TreeP R w' v o := by
  cases h with
  | nil => exact .nil
  | tree tp T h1 h2 h3 h4 => exact .tree tp T (h1.only ho hR) h2 h3 h4
theorem kindO_any {R : Nat -> Prop} {tv v : Value} {o : Option (List FileV)} {L : List ByteArray} {w : World} (h : TreeP R w tv o) (hv : StrsIn w v L) (hx : ∀ x ∈ L, x.size <= 1000000) : Calls Try.prog 28 #[tv, v] w (IntTo (kindO o L) w) := by
  cases h with
  | nil => exact treeKindNil_any v w
  | tree tp T h1 h2 h3 h4 =>
    rw [show kindO (some T) L = kindN (T.map tfOf) L from (kindN_eq h2 L).symm]
    exact treeKind_any v L tp T w h1 hv hx
theorem fndR_index {ok : TF -> Bool} {T : List FileV} (h : RightG ok (T.map tfOf)) {root segs : List ByteArray} {index : ByteArray} (hk : kindP (T.map tfOf) (root ++ segs) = 2) :
    fndR T root segs true index true = ((if (getF T (root ++ (segs ++ [index]))).isSome then 1 else 0), getF T (root ++ (segs ++ [index]))) := by
  have g2 := getF_kind h (root ++ segs ++ [index])
  unfold fndR
  rw [if_neg (by rintro ⟨_, e⟩; cases e), if_neg (by rintro ⟨_, e⟩; cases e), <- List.append_assoc]
  by_cases h3 : kindP (T.map tfOf) (root ++ segs ++ [index]) = 1
  · rw [if_pos ⟨hk, rfl, h3⟩, g2, decide_eq_true h3]; rfl
  · rw [if_neg (fun e => h3 e.2.2)]
    rw [decide_eq_false h3] at g2
    have g3 : getF T (root ++ segs ++ [index]) = none := by simpa using g2
    rw [g3]; rfl
theorem fndR_file {ok : TF -> Bool} {T : List FileV} (h : RightG ok (T.map tfOf)) {root segs : List ByteArray} {index : ByteArray} {may : Bool} (hk : kindP (T.map tfOf) (root ++ segs) = 1) :
    fndR T root segs false index may = ((if (getF T (root ++ segs)).isSome then 1 else 0), getF T (root ++ segs)) := by
  have g1 := getF_kind h (root ++ segs)
  unfold fndR
  rw [if_pos ⟨hk, rfl⟩, g1, decide_eq_true hk]; rfl
theorem fndO_no {o : Option (List FileV)} {root segs : List ByteArray} {dir : Bool} {index : ByteArray} {may : Bool} (h : kindO o (root ++ segs) ≠ 1 \/ dir = true) (h2 : kindO o (root ++ segs) ≠ 2 \/ dir = true /\ may = false) : fndO o root segs dir index may = (0, none) := by
  cases o with
  | none => rfl
  | some T =>
    show fndR T root segs dir index may = (0, none)
    unfold fndR
    have h : kindP (T.map tfOf) (root ++ segs) ≠ 1 \/ dir = true := h
    have h2 : kindP (T.map tfOf) (root ++ segs) ≠ 2 \/ dir = true /\ may = false := h2
    rw [if_neg, if_neg, if_neg]
    · rintro ⟨e, e2, _⟩
      rcases h2 with h2 | ⟨_, h2⟩
      · exact h2 e
      · rw [h2] at e2; cases e2
    · rintro ⟨e, e2⟩
      rcases h2 with h2 | ⟨h2, _⟩
      · exact h2 e
      · rw [h2] at e2; cases e2
    · rintro ⟨e, e2⟩
      rcases h with h | h
      · exact h e
      · rw [h] at e2; cases e2
theorem kindO_pos {o : Option (List FileV)} {q : List ByteArray} (h : kindO o q ≠ 0) : ∃ T, o = some T := by
  cases o with
  | none => exact absurd rfl h
  | some T => exact ⟨T, rfl⟩
set_option maxRecDepth 100000 in
set_option maxHeartbeats 16000000 in
theorem pfFind_any {C : List ByteArray -> Prop} {R : Nat -> Prop} (tv vr vs nv : Value) (o : Option (List FileV)) (root segs no : List ByteArray) (dir : Bool) (index : ByteArray) (g B n : Nat) (w : World) (hT : TreeP R w tv o) (hR : ∀ k, R k -> ¬ PermS w g k) (hr : StrsIn w vr root) (hra : Apart w g vr root) (hs : StrsIn w vs segs) (hsa : Apart w g vs segs)
    (hP : Perm C w g B n nv no) (hC : C (segs ++ [index])) (hn : n <= 1000) (hrl : root.length <= 1000) (hsl : segs.length <= 1000) (hrx : ∀ x ∈ root, x.size <= 100000) (hsx : ∀ x ∈ segs, x.size <= 100000) (hix : index.size <= 100000) :
    Calls Try.prog 11 #[tv, vr, .agg #[vs, .bool dir], .string index, mayV g] w (FoundTo C g B n nv no (fndO o root segs dir index (mayP no (segs ++ [index]))) w) := by
  obtain ⟨pr, cr, rfl⟩ := hr.sliced
  obtain ⟨ps, cs, rfl⟩ := hs.sliced
  obtain ⟨tp, rfl⟩ : ∃ tp, tv = .pointer tp := by cases hT <;> exact ⟨_, rfl⟩
  obtain ⟨nr, hnr⟩ : ∃ n, n = root.length := ⟨_, rfl⟩
  obtain ⟨ns, hns⟩ : ∃ n, n = segs.length := ⟨_, rfl⟩
  rw [<- hnr] at hr hra ⊢
  rw [<- hns] at hs hsa ⊢
  obtain ⟨X0, X1, B0⟩ := sPathRes w ps ns cs dir _ rfl
  generalize hW : (w.alloc (.cells #[.slice ps ns cs, .bool dir] 44)).alloc (.cells #[.int .i64 0, .slice none 0 0, .bool false, .string ⟨#[]⟩, .slice none 0 0] 42) = W at X0 X1 B0
  have hfx : ∀ x ∈ root ++ segs, x.size <= 1000000 := fun x hx => by
    rcases List.mem_append.1 hx with hx | hx
    · have := hrx x hx; omega
    · have := hsx x hx; omega
  have hix2 : ∀ x ∈ root ++ (segs ++ [index]), x.size <= 1000000 := fun x hx => by
    rw [<- List.append_assoc] at hx
    rcases List.mem_append.1 hx with hx | hx
    · exact hfx x hx
    · rw [List.mem_singleton.1 hx]; omega
  have hPlt : ∀ k, PermS w g k -> k < w.heap.size := fun k hk => (permS_lt hP (Below.refl _ _) hk).2
  have HPS := Lib.hid (fun W (hb : Below w.heap.size w W) k (hk : PermS W g k) => (permS_lt hP hb hk).1)
  have HPl := Lib.hid hPlt
  have HFu := Lib.hid (pfFull_any _ _ root segs W (hr.below B0) (hs.below B0) (by omega) (by omega))
  have HK := Lib.hid (fun v W (hb : Below w.heap.size w W) (hv : StrsIn W v (root ++ segs)) => kindO_any (hT.below hb) hv hfx)
  have HI := Lib.hid (fun W (hb : Below w.heap.size w W) => pfIndex_any (.slice ps ns cs) segs index W (hs.below hb) (by omega))
  have HPm := Lib.hid (fun v W (hb : Below w.heap.size w W) (hv : StrsIn W v (segs ++ [index])) => pfPermits_any g B n nv v no (segs ++ [index]) W (hP.below hb) hv hC (by omega) (by rw [List.length_append]; simp; omega))
  have HTr := Lib.hid (fun W1 W2 (hb : Below w.heap.size w W1) (ho : Only (PermS W1 g) W1 W2) => (hT.below hb).only ho fun k hk e => hR k hk (permS_lt hP hb e).1)
  have HRo := Lib.hid (fun W1 W2 (hb : Below w.heap.size w W1) (ho : Only (PermS W1 g) W1 W2) => (hr.below hb).onlyN ho fun hn k hk e => hra hn k hk (permS_lt hP hb e).1)
  have HSo := Lib.hid (fun W (hb : Below w.heap.size w W) => hs.below hb)
  have HFx := Lib.hid hfx
  have HIx := Lib.hid hix2
  have HP := Lib.hid hP
  have HLr := Lib.hid hrl
  have HLs := Lib.hid hsl
  have HN := Lib.hid hn
  have HX0 := Lib.hid X0
  have HX1 := Lib.hid X1
  have HB := Lib.hid B0
  have HTy := Lib.hid (show TyAt W (w.heap.size + 1) 42 by rw [<- hW]; exact fResTy w _)
  have HLt := Lib.hid (show w.heap.size + 1 < W.heap.size from X1.lt (by simp [fResZ, fResL, fileL]))
  have x0 := X0.cell (i := 0) rfl
  generalize mayP no (segs ++ [index]) = may at HPm ⊢
  clear X0 X1 B0 hT hR hr hra hs hsa hP hC hn hrl hsl hrx hsx hix hfx hix2 hPlt hnr hns
  unfold mayV at *
  go_enter Try.func11, Try.ntmps11
  go_wp2_with fail
  refine HFu.out.mono ?_
  rintro e w1 ⟨v1, rfl, ho, hb⟩
  obtain ⟨p1, c1, rfl⟩ := ho.sliced
  generalize (root ++ segs).length = n1 at ho ⊢
  have HB1 := Lib.hid (HB.out.trans (hb.mono HB.out.size))
  have HBW := Lib.hid hb
  have HX01 := Lib.hid (HX0.out.below hb)
  have HX11 := Lib.hid (HX1.out.below hb)
  have HKv := Lib.hid (HK.out _ w1 HB1.out ho.strsIn)
  obtain ⟨k, hk⟩ : ∃ k, k = kindO o (root ++ segs) := ⟨_, rfl⟩
  rw [<- hk] at HKv
  have Hk := Lib.hid hk
  clear hk ho hb HK HFu HX0 HX1 x0 hW
  go_wp2_with fail
  refine HKv.out.mono ?_
  rintro e w2 ⟨rfl, hb⟩
  have HB2 := Lib.hid (HB1.out.trans (hb.mono HB1.out.size))
  have HX02 := Lib.hid (HX01.out.below hb)
  have HX12 := Lib.hid (HX11.out.below hb)
  have HTy2 := Lib.hid (HTy.out.below (HBW.out.trans (hb.mono HBW.out.size)))
  have HLt2 := Lib.hid (show w.heap.size + 1 < w2.heap.size by have := HLt.out; have := HBW.out.size; have := hb.size; omega)
  have x0 := HX02.out.cell (i := 0) rfl
  have x1 := HX02.out.cell (i := 1) rfl
  clear hb HKv HX01 HX11
  by_cases h2 : k = 2
  · subst h2
    cases dir
    · have HE := Lib.hid (show fndO o root segs false index may = (2, none) by
        obtain ⟨T, rfl⟩ := kindO_pos (o := o) (q := root ++ segs) (by rw [<- Hk.out]; decide)
        have hk : kindP (T.map tfOf) (root ++ segs) = 2 := Hk.out.symm
        show fndR T root segs false index may = (2, none)
        unfold fndR
        rw [if_neg (by rw [hk]; rintro ⟨e, _⟩; cases e), if_pos ⟨hk, rfl⟩])
      go_wp2_with (refine wpList_store_box (n := 5) Try.fResSize rfl _ _ rfl (g := w.heap.size + 1) (vs := fResL 2 (.slice none 0 0) false ⟨#[]⟩ (.slice none 0 0)) rfl rfl HX12.out rfl rfl fResL_one ?_)
      intro w8 b8 o8
      have HB8 := Lib.hid (HB2.out.trans (o8.below _ HB2.out.size fun k hk => by rw [hk]; exact Nat.le_succ _))
      go_wp2
      refine bodyPost_ret (v := .agg (fResL 2 (.slice none 0 0) false ⟨#[]⟩ (.slice none 0 0)).toArray) ?_ rfl ?_
      · exact results_cell0A Try.fResSize Try.fResAgg Try.results11 _ _ rfl b8.vals rfl
      · rw [HE.out]
        exact found_zero 2 (by omega) (HP.out.below HB8.out) (HP.out.asks HB8.out)
    · have HIv := Lib.hid (HI.out w2 HB2.out)
      clear HI
      go_wp2_with fail
      refine HIv.out.mono ?_
      rintro e w3 ⟨v3, rfl, ho, hb⟩
      obtain ⟨p3, c3, rfl⟩ := ho.sliced
      obtain ⟨n3, hn3⟩ : ∃ n, n = (segs ++ [index]).length := ⟨_, rfl⟩
      rw [<- hn3] at ho ⊢
      have HO3 := Lib.hid ho
      have HN3 := Lib.hid hn3
      have HB3 := Lib.hid (HB2.out.trans (hb.mono HB2.out.size))
      have HX03 := Lib.hid (HX02.out.below hb)
      have HX13 := Lib.hid (HX12.out.below hb)
      have HTy3 := Lib.hid (HTy2.out.below hb)
      have HL3 := Lib.hid hb.size
      clear ho hb hn3 x0 x1 HIv HX02 HX12 HTy2
      go_wp2_with (refine wpList_store_box (n := 2) Try.sPathSize rfl _ _ rfl (g := w.heap.size) (vs := [.slice p3 n3 c3, .bool false]) rfl rfl HX03.out rfl rfl sPath_one ?_)
      intro w4 b4 o4
      have HB4 := Lib.hid (HB3.out.trans (o4.below _ HB3.out.size fun k hk => by rw [hk]; exact Nat.le_refl _))
      have HX04 := Lib.hid b4
      have HX14 := Lib.hid (HX13.out.only o4 (by omega))
      have HTy4 := Lib.hid (HTy3.out.only o4 (by omega))
      have HO4 := Lib.hid (show OwnStrs w4 w2.heap.size (.slice p3 n3 c3) (segs ++ [index]) from o4.own HO3.out fun k hk e => by have := HO3.out.ge k hk; have := HLt2.out; omega)
      have HL4 := Lib.hid o4.size
      have x0 := b4.cell (i := 0) rfl
      have HPv := Lib.hid (HPm.out (.slice p3 n3 c3) w4 HB4.out HO4.out.strsIn)
      clear b4 o4 HX03 HX13 HTy3 HO3 HPm
      go_wp2_with fail
      refine HPv.out.mono ?_
      rintro e w5 ⟨rfl, hP5, hA5⟩
      have HNS := Lib.hid (fun k (hk : PermS w4 g k) => HPl.out k (HPS.out w4 HB4.out k hk))
      have HX05 := Lib.hid (HX04.out.only hA5.only fun e => by have := HNS.out _ e; omega)
      have HX15 := Lib.hid (HX14.out.only hA5.only fun e => by have := HNS.out _ e; omega)
      have HTy5 := Lib.hid (HTy4.out.only hA5.only fun e => by have := HNS.out _ e; omega)
      have HO5 := Lib.hid (show OwnStrs w5 w2.heap.size (.slice p3 n3 c3) (segs ++ [index]) from hA5.only.own HO4.out fun k hk e => by have := HO4.out.ge k hk; have := HNS.out _ e; have := HLt2.out; omega)
      have HP5 := Lib.hid hP5
      have HA5 := Lib.hid ((HP.out.asks HB4.out).trans hA5)
      have HR5 := Lib.hid (HRo.out w4 w5 HB4.out hA5.only)
      have HTrr := Lib.hid (HTr.out w4 w5 HB4.out hA5.only)
      have HS5 := Lib.hid (show w.heap.size + 1 < w5.heap.size by have := HLt2.out; have := HL3.out; have := HL4.out; have := hA5.only.size; omega)
      have HGb := Lib.hid (show g < w.heap.size by have := HP.out.lt; have := HP.out.le; omega)
      have x1 := HX05.out.cell (i := 1) rfl
      have x0 := HX05.out.cell (i := 0) rfl
      have hO5 := hA5.only
      have HOn := Lib.hid hO5
      clear hP5 hA5 HPv HX04 HX14 HTy4 HO4 hO5
      cases may
      · have HE := Lib.hid (show fndO o root segs true index false = (0, none) from fndO_no (.inr rfl) (.inr ⟨rfl, rfl⟩))
        go_wp2_with (refine wpList_store_box (n := 5) Try.fResSize rfl _ _ rfl (g := w.heap.size + 1) (vs := fResL 0 (.slice none 0 0) false ⟨#[]⟩ (.slice none 0 0)) rfl rfl HX15.out rfl rfl fResL_one ?_)
        intro w8 b8 o8
        have HO8 := Lib.hid o8
        go_wp2
        refine bodyPost_ret (v := .agg (fResL 0 (.slice none 0 0) false ⟨#[]⟩ (.slice none 0 0)).toArray) ?_ rfl ?_
        · exact results_cell0A Try.fResSize Try.fResAgg Try.results11 _ _ rfl b8.vals rfl
        · rw [HE.out]
          have hgb := HGb.out
          exact found_zero 0 (by omega) (HP5.out.putT HO8.out (by omega) HTy5.out (by decide) (by decide)) (HA5.out.put HP5.out HO8.out (by omega) (by omega))
      · obtain ⟨T, hoT⟩ := kindO_pos (o := o) (q := root ++ segs) (by rw [<- Hk.out]; decide)
        subst hoT
        obtain ⟨tp, htp⟩ : ∃ t, tp = some ⟨t, 0, none⟩ := by
          have := HTr.out w w (Below.refl _ _) (Only.refl _ _)
          cases this
          exact ⟨_, rfl⟩
        subst htp
        have HTp := Lib.hid (fun W1 W2 hb ho => show TreeAt R W2 tp T by
          have := HTr.out W1 W2 hb ho
          cases this with
          | tree t T h1 h2 h3 h4 => exact h1)
        have HRG := Lib.hid (show RightG okT (T.map tfOf) by
          have := HTr.out w w (Below.refl _ _) (Only.refl _ _)
          cases this with
          | tree t T h1 h2 h3 h4 => exact h2)
        have HSm := Lib.hid (show ∀ f ∈ T, SmallF f by
          have := HTr.out w w (Below.refl _ _) (Only.refl _ _)
          cases this with
          | tree t T h1 h2 h3 h4 => exact h3)
        have HEr := Lib.hid (show fndO (some T) root segs true index true = _ from fndR_index HRG.out Hk.out.symm)
        have HLx := Lib.hid (show (segs ++ [index]).length <= 1001 by rw [List.length_append]; have := HLs.out; simp; omega)
        have HNn := Lib.hid HN3.out
        go_wp2_with fail
        refine (pfFull_any _ _ _ _ _ HR5.out HO5.out.strsIn (by have := HLr.out; omega) (by have := HLs.out; have := HLx.out; omega)).mono ?_
        rintro e w6 ⟨v6, rfl, ho6, hb6⟩
        obtain ⟨p6, c6, rfl⟩ := ho6.sliced
        have HX16 := Lib.hid (HX15.out.below hb6)
        have HTy6 := Lib.hid (HTy5.out.below hb6)
        have HL6 := Lib.hid hb6.size
        have HB6 := Lib.hid hb6
        obtain ⟨n6, hn6⟩ : ∃ n, n = (root ++ (segs ++ [index])).length := ⟨_, rfl⟩
        rw [<- hn6] at ho6 ⊢
        have HSv := Lib.hid (pfServed_any (.slice p6 n6 c6) (root ++ (segs ++ [index])) tp T w6 (((HTp.out w4 w5 HB4.out HOn.out)).below hb6) HRG.out ho6.strsIn HIx.out HSm.out)
        obtain ⟨r, hr⟩ : ∃ r, r = getF T (root ++ (segs ++ [index])) := ⟨_, rfl⟩
        rw [<- hr] at HSv HEr
        clear hr
        clear ho6 hb6 hn6
        go_wp2_with fail
        refine HSv.out.mono ?_
        rintro e w7 ⟨cf, rfl, hin, hb⟩
        obtain ⟨q0, d0, q1, d1, rfl, _⟩ := fileK_parts hin
        obtain ⟨f, hf⟩ : ∃ f, f = r.getD zeroF := ⟨_, rfl⟩
        obtain ⟨kk, hkk⟩ : ∃ k : Int, k = (if r.isSome then 1 else 0) := ⟨_, rfl⟩
        rw [<- hf] at hin ⊢
        rw [<- hkk]
        obtain ⟨m0, hm0⟩ : ∃ x, x = f.1.length := ⟨_, rfl⟩
        obtain ⟨fd, hfd⟩ : ∃ x, x = f.2.1 := ⟨_, rfl⟩
        obtain ⟨ft, hft⟩ : ∃ x, x = f.2.2.1 := ⟨_, rfl⟩
        obtain ⟨m1, hm1⟩ : ∃ x, x = f.2.2.2.length := ⟨_, rfl⟩
        rw [<- hm0, <- hfd, <- hft, <- hm1] at hin ⊢
        have HIn := Lib.hid hin
        have HF := Lib.hid hf
        have HKk := Lib.hid hkk
        have HX7 := Lib.hid (HX16.out.below hb)
        have HTy7 := Lib.hid (HTy6.out.below hb)
        have HB7 := Lib.hid (HB6.out.trans (hb.mono HB6.out.size))
        clear hin hb hf hkk hm0 hfd hft hm1 HSv
        go_wp2_with (refine wpList_store_box (n := 5) Try.fResSize rfl _ _ rfl (g := w.heap.size + 1) (vs := fResL kk (.slice q0 m0 d0) fd ft (.slice q1 m1 d1)) rfl rfl HX7.out rfl rfl fResL_one ?_)
        intro w8 b8 o8
        go_wp2
        refine bodyPost_ret (v := .agg (fResL kk (.slice q0 m0 d0) fd ft (.slice q1 m1 d1)).toArray) ?_ rfl ?_
        · exact results_cell0A Try.fResSize Try.fResAgg Try.results11 _ _ rfl b8.vals rfl
        · have hgb := HGb.out
          have hs5 := HS5.out
          have hl6 := HL6.out
          have hP7 := HP5.out.below HB7.out
          have hO8 : Only (fun k => k = w.heap.size + 1) w7 w8 := o8
          rw [HEr.out]
          refine ⟨fileL (.slice q0 m0 d0) fd ft (.slice q1 m1 d1), n + 1, by rw [HKk.out]; rfl, ?_, by omega, hP7.putT hO8 (by omega) HTy7.out (by decide) (by decide), (HA5.out.plus HP5.out HB7.out).put hP7 hO8 (by omega) (by omega)⟩
          show fileK.In _ w8 _ (r.getD zeroF)
          rw [<- HF.out]
          refine fileK.mono (fileK.only HIn.out hO8 fun k hk e => ?_) fun k hk => ⟨?_, ?_, fun e => ?_⟩
          · have := hk.1; omega
          · have := hk.1; omega
          · have := hk.2; have := hO8.size; omega
          · have h9 := asked_sameL HP5.out HB7.out (asked_put hP7 hO8 (by omega) e)
            have := (HP5.out.askedGe h9).2
            have := hk.1
            omega
  · have hkb : ((k : Int) == 2) = false := by rw [beq_eq_false_iff_ne]; omega
    by_cases h1 : k = 1
    · subst h1
      cases dir
      · obtain ⟨T, hoT⟩ := kindO_pos (o := o) (q := root ++ segs) (by rw [<- Hk.out]; decide)
        subst hoT
        obtain ⟨tp, htp⟩ : ∃ t, tp = some ⟨t, 0, none⟩ := by
          have := HTr.out w w (Below.refl _ _) (Only.refl _ _)
          cases this
          exact ⟨_, rfl⟩
        subst htp
        have HTp := Lib.hid (fun W1 W2 hb ho => show TreeAt R W2 tp T by
          have := HTr.out W1 W2 hb ho
          cases this with
          | tree t T h1 h2 h3 h4 => exact h1)
        have HRG := Lib.hid (show RightG okT (T.map tfOf) by
          have := HTr.out w w (Below.refl _ _) (Only.refl _ _)
          cases this with
          | tree t T h1 h2 h3 h4 => exact h2)
        have HSm := Lib.hid (show ∀ f ∈ T, SmallF f by
          have := HTr.out w w (Below.refl _ _) (Only.refl _ _)
          cases this with
          | tree t T h1 h2 h3 h4 => exact h3)
        have HEr := Lib.hid (show fndO (some T) root segs false index may = _ from fndR_file HRG.out Hk.out.symm)
        go_wp2_with fail
        refine (pfFull_any _ _ _ _ _ (HRo.out w2 w2 HB2.out (Only.refl _ _)) (HSo.out w2 HB2.out) (by have := HLr.out; omega) (by have := HLs.out; omega)).mono ?_
        rintro e w6 ⟨v6, rfl, ho6, hb6⟩
        obtain ⟨p6, c6, rfl⟩ := ho6.sliced
        have HX16 := Lib.hid (HX12.out.below hb6)
        have HL6 := Lib.hid hb6.size
        have HB6 := Lib.hid (HB2.out.trans (hb6.mono HB2.out.size))
        obtain ⟨n6, hn6⟩ : ∃ n, n = (root ++ segs).length := ⟨_, rfl⟩
        rw [<- hn6] at ho6 ⊢
        have HSv := Lib.hid (pfServed_any (.slice p6 n6 c6) (root ++ segs) tp T w6 (HTp.out w w6 (Below.refl _ _) (Only.of_below (HB2.out.trans (hb6.mono HB2.out.size)))) HRG.out ho6.strsIn HFx.out HSm.out)
        obtain ⟨r, hr⟩ : ∃ r, r = getF T (root ++ segs) := ⟨_, rfl⟩
        rw [<- hr] at HSv HEr
        clear hr
        clear ho6 hb6 hn6
        go_wp2_with fail
        refine HSv.out.mono ?_
        rintro e w7 ⟨cf, rfl, hin, hb⟩
        obtain ⟨q0, d0, q1, d1, rfl, _⟩ := fileK_parts hin
        obtain ⟨f, hf⟩ : ∃ f, f = r.getD zeroF := ⟨_, rfl⟩
        obtain ⟨kk, hkk⟩ : ∃ k : Int, k = (if r.isSome then 1 else 0) := ⟨_, rfl⟩
        rw [<- hf] at hin ⊢
        rw [<- hkk]
        obtain ⟨m0, hm0⟩ : ∃ x, x = f.1.length := ⟨_, rfl⟩
        obtain ⟨fd, hfd⟩ : ∃ x, x = f.2.1 := ⟨_, rfl⟩
        obtain ⟨ft, hft⟩ : ∃ x, x = f.2.2.1 := ⟨_, rfl⟩
        obtain ⟨m1, hm1⟩ : ∃ x, x = f.2.2.2.length := ⟨_, rfl⟩
        rw [<- hm0, <- hfd, <- hft, <- hm1] at hin ⊢
        have HIn := Lib.hid hin
        have HF := Lib.hid hf
        have HKk := Lib.hid hkk
        have HX7 := Lib.hid (HX16.out.below hb)
        have HB7 := Lib.hid (HB6.out.trans (hb.mono HB6.out.size))
        clear hin hb hf hkk hm0 hfd hft hm1 HSv
        go_wp2_with (refine wpList_store_box (n := 5) Try.fResSize rfl _ _ rfl (g := w.heap.size + 1) (vs := fResL kk (.slice q0 m0 d0) fd ft (.slice q1 m1 d1)) rfl rfl HX7.out rfl rfl fResL_one ?_)
        intro w8 b8 o8
        go_wp2
        refine bodyPost_ret (v := .agg (fResL kk (.slice q0 m0 d0) fd ft (.slice q1 m1 d1)).toArray) ?_ rfl ?_
        · exact results_cell0A Try.fResSize Try.fResAgg Try.results11 _ _ rfl b8.vals rfl
        · have hl2 := HLt2.out
          have hl6 := HL6.out
          have HB8 := HB7.out.trans (o8.below _ HB7.out.size fun k hk => by rw [hk]; exact Nat.le_succ _)
          have hO8 : Only (fun k => k = w.heap.size + 1) w7 w8 := o8
          rw [HEr.out]
          refine ⟨fileL (.slice q0 m0 d0) fd ft (.slice q1 m1 d1), n, by rw [HKk.out]; rfl, ?_, by omega, HP.out.below HB8, HP.out.asks HB8⟩
          show fileK.In _ w8 _ (r.getD zeroF)
          rw [<- HF.out]
          refine fileK.mono (fileK.only HIn.out hO8 fun k hk e => ?_) fun k hk => ⟨?_, ?_, fun e => ?_⟩
          · have := hk.1; omega
          · have := hk.1; omega
          · have := hk.2; have := hO8.size; omega
          · have := (HP.out.askedGe (asked_sameL HP.out HB8 e)).2
            have := hk.1
            omega
      · have HE := Lib.hid (show fndO o root segs true index may = (0, none) from fndO_no (.inr rfl) (.inl (by rw [<- Hk.out]; decide)))
        go_wp2_with (refine wpList_store_box (n := 5) Try.fResSize rfl _ _ rfl (g := w.heap.size + 1) (vs := fResL 0 (.slice none 0 0) false ⟨#[]⟩ (.slice none 0 0)) rfl rfl HX12.out rfl rfl fResL_one ?_)
        intro w8 b8 o8
        have HB8 := Lib.hid (HB2.out.trans (o8.below _ HB2.out.size fun k hk => by rw [hk]; exact Nat.le_succ _))
        go_wp2
        refine bodyPost_ret (v := .agg (fResL 0 (.slice none 0 0) false ⟨#[]⟩ (.slice none 0 0)).toArray) ?_ rfl ?_
        · exact results_cell0A Try.fResSize Try.fResAgg Try.results11 _ _ rfl b8.vals rfl
        · rw [HE.out]
          exact found_zero 0 (by omega) (HP.out.below HB8.out) (HP.out.asks HB8.out)
    · have hkc : ((k : Int) == 1) = false := by rw [beq_eq_false_iff_ne]; omega
      have HE := Lib.hid (show fndO o root segs dir index may = (0, none) from fndO_no (.inl (by rw [<- Hk.out]; exact h1)) (.inl (by rw [<- Hk.out]; exact h2)))
      go_wp2_with (refine wpList_store_box (n := 5) Try.fResSize rfl _ _ rfl (g := w.heap.size + 1) (vs := fResL 0 (.slice none 0 0) false ⟨#[]⟩ (.slice none 0 0)) rfl rfl HX12.out rfl rfl fResL_one ?_)
      intro w8 b8 o8
      have HB8 := Lib.hid (HB2.out.trans (o8.below _ HB2.out.size fun k hk => by rw [hk]; exact Nat.le_succ _))
      go_wp2
      refine bodyPost_ret (v := .agg (fResL 0 (.slice none 0 0) false ⟨#[]⟩ (.slice none 0 0)).toArray) ?_ rfl ?_
      · exact results_cell0A Try.fResSize Try.fResAgg Try.results11 _ _ rfl b8.vals rfl
      · rw [HE.out]
        exact found_zero 0 (by omega) (HP.out.below HB8.out) (HP.out.asks HB8.out)
theorem findC : FindC (fun _ => True) where
  below := fun _ _ _ _ => trivial
  asks := fun _ _ _ _ _ _ _ _ => trivial
  full := fun v1 v2 A B w _ h1 h2 hA hB => pfFull_any v1 v2 A B w h1 h2 (by omega) (by omega)
  find := fun C R tv vr vs nv o root segs no dir index g B n w _ hT hR hr hra hs hsa hP hC hn hrl hsl hrx hsx hix => pfFind_any tv vr vs nv o root segs no dir index g B n w hT hR hr hra hs hsa hP hC hn hrl hsl hrx hsx hix
  looked := fun vs segs dir index w _ h hl => pfLooked_any vs segs dir index w h hl
end Go.Proofs.Ytgfibbecnmmpjaa
