/- Stage 24: FindLooks, given FindC and awake. -/
import Derived.Test.YtgfibbecnmmpjaaQFndG
import Derived.Test.YtgfibbecnmmpjaaQFndS
namespace Go.Proofs.Ytgfibbecnmmpjaa
set_option linter.all false
open Go.RowKit
theorem Try.uPaths : Try.prog.underlying 35 = some (.slice (Try.prog.elem 35)) := by kernel_rfl
theorem Try.zPaths (w : World) : (sizeOf (Try.prog.elem 35)).run Try.prog w = .ok (Kind.slice Kind.str).sz w := by kernel_rfl
def AgreeQ (A B : List FileV) (q : List ByteArray) : Prop := kindP (A.map tfOf) q = kindP (B.map tfOf) q /\ getF A q = getF B q
theorem fndR_agree {A B : List FileV} {root segs : List ByteArray} {dir : Bool} {index : ByteArray} {may : Bool} (h1 : AgreeQ A B (root ++ segs)) (h2 : dir = true -> AgreeQ A B (root ++ (segs ++ [index]))) : fndR A root segs dir index may = fndR B root segs dir index may := by
  unfold fndR
  rw [h1.1, h1.2]
  cases dir with
  | false =>
    by_cases e1 : kindP (B.map tfOf) (root ++ segs) = 1
    · simp [e1]
    · by_cases e2 : kindP (B.map tfOf) (root ++ segs) = 2
      · simp [e2]
      · simp [e1, e2]
  | true =>
    have h3 := h2 rfl
    rw [<- List.append_assoc] at h3
    rw [h3.1, h3.2]
theorem rows_of_strsK {w : World} {v : Value} {L : List ByteArray} (h : StrsIn w v L) : Kind.str.rows (fun _ => True) w v L := by
  rcases h with ⟨rfl, h⟩ | ⟨b, off, cap, rfl, h1, h2, h3⟩
  · exact .inl ⟨rfl, h⟩
  · refine .inr ⟨b, off, cap, rfl, h1, h2, trivial, fun i x hx => ⟨[.string x], rfl, fun j u hu => ?_⟩⟩
    match j, hu with
    | 0, hu =>
      obtain rfl : Value.string x = u := by simpa using hu
      have := h3 i x hx
      rwa [show off + i * Kind.str.sz + 0 = off + i by show off + i * 1 + 0 = off + i; omega]
    | j + 1, hu => simp at hu
theorem paths_rows {W : World} {b c : Nat} {Ls : List (List ByteArray)} (hc : Ls.length <= c) (hm : c <= 1000) (h : ∀ i L, Ls[i]? = some L -> ∃ v, W.cell? ⟨b, i, none⟩ = some v /\ StrsIn W v L) : (Kind.slice Kind.str).rows (fun _ => True) W (.slice (some ⟨b, 0, none⟩) Ls.length c) Ls := by
  refine .inr ⟨b, 0, c, rfl, hc, by omega, trivial, fun i x hx => ?_⟩
  obtain ⟨v, hv, hs⟩ := h i x hx
  refine ⟨[v], ⟨v, rfl, rows_of_strsK hs⟩, fun j u hu => ?_⟩
  match j, hu with
  | 0, hu =>
    obtain rfl : v = u := by simpa using hu
    rwa [show 0 + i * (Kind.slice Kind.str).sz + 0 = i by show 0 + i * 1 + 0 = i; omega]
  | j + 1, hu => simp at hu
theorem small_found {T : List FileV} {root segs : List ByteArray} {dir : Bool} {index : ByteArray} {may : Bool} {r : Int × Option FileV} (h : FndIs T root segs dir index may r) (hS : ∀ f ∈ T, SmallF f) : SmallF (r.2.getD zeroF) := by
  cases h with
  | file f _ _ hf => exact hS f (getF_path hf).2
  | index f _ _ _ hf => exact hS f (getF_path hf).2
  | redir _ _ => exact ⟨by decide, by decide, by decide, by decide⟩
  | none _ _ => exact ⟨by decide, by decide, by decide, by decide⟩
theorem agree_none {ok : TF -> Bool} {A B : List FileV} (hB : RightG ok (B.map tfOf)) {q : List ByteArray} {ok2 : TF -> Bool} (hA : RightG ok2 (A.map tfOf)) (hk : kindP (A.map tfOf) q = kindP (B.map tfOf) q) (hf : getF A q = none) : getF B q = none := by
  have h1 := getF_kind hA q
  have h2 := getF_kind hB q
  rw [hf, hk] at h1
  rw [<- h1] at h2
  cases e : getF B q with
  | none => rfl
  | some f => rw [e] at h2; cases h2
theorem agree_some {ok : TF -> Bool} {A B : List FileV} (hB : RightG ok (B.map tfOf)) {q : List ByteArray} {ok2 : TF -> Bool} (hA : RightG ok2 (A.map tfOf)) (hk : kindP (A.map tfOf) q = kindP (B.map tfOf) q) {f : FileV} (hf : getF A q = some f) : ∃ g, getF B q = some g := by
  have h1 := getF_kind hA q
  have h2 := getF_kind hB q
  rw [hf, hk] at h1
  rw [<- h1] at h2
  exact Option.isSome_iff_exists.1 h2
theorem apart_old {C : List ByteArray -> Prop} {w0 w : World} {g B n : Nat} {nv v : Value} {no L : List ByteArray} (h : StrsIn w0 v L) (hg : w0.heap.size <= g) (hP : Perm C w g B n nv no) : Apart w g v L := fun hn k hk hs => by
  have h1 := strs_lt h hn k hk
  have h2 := hP.lt
  rcases hs with e | e
  · omega
  · have := (hP.askedGe e).1
    omega
set_option maxRecDepth 100000 in
set_option maxHeartbeats 32000000 in
theorem findLooks_any {G : World -> Prop} (hF : FindC G) (haw : Awake24 G) (vA vB vr vs : Value) (A B : List FileV) (root segs : List ByteArray) (dir : Bool) (index : ByteArray) (w : World) (hG : G w) (hA : fileK.rows (fun k => k < w.heap.size) w vA A) (hB : fileK.rows (fun k => k < w.heap.size) w vB B) (hr : StrsIn w vr root) (hs : StrsIn w vs segs) (hgz : 0 <= w.heap.size) :
    Calls Try.prog 5 #[vA, vB, vr, .agg #[vs, .bool dir], .string index] w (SaysIn true w) := by
  have HAw := Lib.hid haw
  have HGb := Lib.hid hF.below
  obtain ⟨ps, cs, rfl⟩ := hs.sliced
  obtain ⟨pA, cA, rfl⟩ := fileK.rows_sliced hA
  obtain ⟨pB, cB, rfl⟩ := fileK.rows_sliced hB
  obtain ⟨ns, hns⟩ : ∃ n, n = segs.length := ⟨_, rfl⟩
  obtain ⟨nA, hnA⟩ : ∃ n, n = A.length := ⟨_, rfl⟩
  obtain ⟨nB, hnB⟩ : ∃ n, n = B.length := ⟨_, rfl⟩
  rw [<- hns] at hs ⊢
  rw [<- hnA] at hA ⊢
  rw [<- hnB] at hB ⊢
  obtain ⟨X0, B0⟩ := pathBox24 w ps ns cs dir _ rfl
  generalize hW : w.alloc (.cells #[.slice ps ns cs, .bool dir] 26) = Wb at X0 B0
  have HVa := Lib.hid (fun W (hb : Below w.heap.size w W) => fileK.rows_mono (fileK.rows_below hA hb) (R' := fun k => k < W.heap.size) fun k hk => Nat.lt_of_lt_of_le hk hb.size)
  have HVb := Lib.hid (fun W (hb : Below w.heap.size w W) => fileK.rows_mono (fileK.rows_below hB hb) (R' := fun k => k < W.heap.size) fun k hk => Nat.lt_of_lt_of_le hk hb.size)
  have HPr := Lib.hid (fun W (hb : Below w.heap.size w W) => hr.below hb)
  have HPs := Lib.hid (fun W (hb : Below w.heap.size w W) => hs.below hb)
  have HRa := Lib.hid (fun W (hb : Below w.heap.size w W) => rightT_any (.slice pA nA cA) A W (HVa.out W hb))
  have HRb := Lib.hid (fun W (hb : Below w.heap.size w W) => rightT_any (.slice pB nB cB) B W (HVb.out W hb))
  have HA := Lib.hid (fun W (hb : Below w.heap.size w W) => few16w_any vr root W (HPr.out W hb))
  have HS := Lib.hid (fun W (hb : Below w.heap.size w W) => few16w_any (.slice ps ns cs) segs W (HPs.out W hb))
  have XB0 := Lib.hid X0
  have HBb := Lib.hid B0
  have HG := Lib.hid (hF.below _ _ hG B0)
  have xb0_0 := X0.cell (i := 0) rfl
  have xb0_1 := X0.cell (i := 1) rfl
  have Hns := Lib.hid hns
  have HnA := Lib.hid hnA
  have HnB := Lib.hid hnB
  have HF := Lib.hid hF
  have Hgz := Lib.hid hgz
  clear X0 B0 hG hns hnA hnB haw hA hB hr hs hF hgz
  cases hRa : rightT A
  · rw [hRa] at HRa
    clear hRa
    go_enter Try.func5, Try.ntmps5
    go_wp2_with fail
    refine (HAw.out _ HG.out).mono ?_
    rintro e w1 ⟨rfl, hb⟩
    have HB1 := Lib.hid (HBb.out.trans (hb.mono HBb.out.size))
    have HG1 := Lib.hid (HGb.out _ _ HG.out hb)
    have XB1 := Lib.hid (XB0.out.below hb)
    have xb1_0 := XB1.out.cell (i := 0) rfl
    have xb1_1 := XB1.out.cell (i := 1) rfl
    clear xb0_0 xb0_1
    clear hb
    go_wp2_with fail
    refine (HRa.out _ HB1.out).mono ?_
    rintro e w2 ⟨rfl, hb⟩
    have HB2 := Lib.hid (HB1.out.trans (hb.mono HB1.out.size))
    have HG2 := Lib.hid (HGb.out _ _ HG1.out hb)
    have XB2 := Lib.hid (XB1.out.below hb)
    have xb2_0 := XB2.out.cell (i := 0) rfl
    have xb2_1 := XB2.out.cell (i := 1) rfl
    clear xb1_0 xb1_1
    clear hb
    go_wp2_with fail
    refine (HAw.out _ HG2.out).mono ?_
    rintro e w3 ⟨rfl, hb⟩
    have HB3 := Lib.hid (HB2.out.trans (hb.mono HB2.out.size))
    have HG3 := Lib.hid (HGb.out _ _ HG2.out hb)
    have XB3 := Lib.hid (XB2.out.below hb)
    have xb3_0 := XB3.out.cell (i := 0) rfl
    have xb3_1 := XB3.out.cell (i := 1) rfl
    clear xb2_0 xb2_1
    clear hb
    go_wp2_with fail
    go_ret
    exact saysIn_k24 rfl HB3.out
  rw [hRa] at HRa
  cases hRb : rightT B
  · rw [hRb] at HRb
    clear hRb
    go_enter Try.func5, Try.ntmps5
    go_wp2_with fail
    refine (HAw.out _ HG.out).mono ?_
    rintro e w1 ⟨rfl, hb⟩
    have HB1 := Lib.hid (HBb.out.trans (hb.mono HBb.out.size))
    have HG1 := Lib.hid (HGb.out _ _ HG.out hb)
    have XB1 := Lib.hid (XB0.out.below hb)
    have xb1_0 := XB1.out.cell (i := 0) rfl
    have xb1_1 := XB1.out.cell (i := 1) rfl
    clear xb0_0 xb0_1
    clear hb
    go_wp2_with fail
    refine (HRa.out _ HB1.out).mono ?_
    rintro e w2 ⟨rfl, hb⟩
    have HB2 := Lib.hid (HB1.out.trans (hb.mono HB1.out.size))
    have HG2 := Lib.hid (HGb.out _ _ HG1.out hb)
    have XB2 := Lib.hid (XB1.out.below hb)
    have xb2_0 := XB2.out.cell (i := 0) rfl
    have xb2_1 := XB2.out.cell (i := 1) rfl
    clear xb1_0 xb1_1
    clear hb
    go_wp2_with fail
    refine (HRb.out _ HB2.out).mono ?_
    rintro e w3 ⟨rfl, hb⟩
    have HB3 := Lib.hid (HB2.out.trans (hb.mono HB2.out.size))
    have HG3 := Lib.hid (HGb.out _ _ HG2.out hb)
    have XB3 := Lib.hid (XB2.out.below hb)
    have xb3_0 := XB3.out.cell (i := 0) rfl
    have xb3_1 := XB3.out.cell (i := 1) rfl
    clear xb2_0 xb2_1
    clear hb
    go_wp2_with fail
    refine (HAw.out _ HG3.out).mono ?_
    rintro e w4 ⟨rfl, hb⟩
    have HB4 := Lib.hid (HB3.out.trans (hb.mono HB3.out.size))
    have HG4 := Lib.hid (HGb.out _ _ HG3.out hb)
    have XB4 := Lib.hid (XB3.out.below hb)
    have xb4_0 := XB4.out.cell (i := 0) rfl
    have xb4_1 := XB4.out.cell (i := 1) rfl
    clear xb3_0 xb3_1
    clear hb
    go_wp2_with fail
    go_ret
    exact saysIn_k24 rfl HB4.out
  rw [hRb] at HRb
  cases hA : fewSW root
  · rw [hA] at HA
    clear hA
    go_enter Try.func5, Try.ntmps5
    go_wp2_with fail
    refine (HAw.out _ HG.out).mono ?_
    rintro e w1 ⟨rfl, hb⟩
    have HB1 := Lib.hid (HBb.out.trans (hb.mono HBb.out.size))
    have HG1 := Lib.hid (HGb.out _ _ HG.out hb)
    have XB1 := Lib.hid (XB0.out.below hb)
    have xb1_0 := XB1.out.cell (i := 0) rfl
    have xb1_1 := XB1.out.cell (i := 1) rfl
    clear xb0_0 xb0_1
    clear hb
    go_wp2_with fail
    refine (HRa.out _ HB1.out).mono ?_
    rintro e w2 ⟨rfl, hb⟩
    have HB2 := Lib.hid (HB1.out.trans (hb.mono HB1.out.size))
    have HG2 := Lib.hid (HGb.out _ _ HG1.out hb)
    have XB2 := Lib.hid (XB1.out.below hb)
    have xb2_0 := XB2.out.cell (i := 0) rfl
    have xb2_1 := XB2.out.cell (i := 1) rfl
    clear xb1_0 xb1_1
    clear hb
    go_wp2_with fail
    refine (HRb.out _ HB2.out).mono ?_
    rintro e w3 ⟨rfl, hb⟩
    have HB3 := Lib.hid (HB2.out.trans (hb.mono HB2.out.size))
    have HG3 := Lib.hid (HGb.out _ _ HG2.out hb)
    have XB3 := Lib.hid (XB2.out.below hb)
    have xb3_0 := XB3.out.cell (i := 0) rfl
    have xb3_1 := XB3.out.cell (i := 1) rfl
    clear xb2_0 xb2_1
    clear hb
    go_wp2_with fail
    refine (HA.out _ HB3.out).mono ?_
    rintro e w4 ⟨rfl, hb⟩
    have HB4 := Lib.hid (HB3.out.trans (hb.mono HB3.out.size))
    have HG4 := Lib.hid (HGb.out _ _ HG3.out hb)
    have XB4 := Lib.hid (XB3.out.below hb)
    have xb4_0 := XB4.out.cell (i := 0) rfl
    have xb4_1 := XB4.out.cell (i := 1) rfl
    clear xb3_0 xb3_1
    clear hb
    go_wp2_with fail
    refine (HAw.out _ HG4.out).mono ?_
    rintro e w5 ⟨rfl, hb⟩
    have HB5 := Lib.hid (HB4.out.trans (hb.mono HB4.out.size))
    have HG5 := Lib.hid (HGb.out _ _ HG4.out hb)
    have XB5 := Lib.hid (XB4.out.below hb)
    have xb5_0 := XB5.out.cell (i := 0) rfl
    have xb5_1 := XB5.out.cell (i := 1) rfl
    clear xb4_0 xb4_1
    clear hb
    go_wp2_with fail
    go_ret
    exact saysIn_k24 rfl HB5.out
  rw [hA] at HA
  cases hS : fewSW segs
  · rw [hS] at HS
    clear hS
    go_enter Try.func5, Try.ntmps5
    go_wp2_with fail
    refine (HAw.out _ HG.out).mono ?_
    rintro e w1 ⟨rfl, hb⟩
    have HB1 := Lib.hid (HBb.out.trans (hb.mono HBb.out.size))
    have HG1 := Lib.hid (HGb.out _ _ HG.out hb)
    have XB1 := Lib.hid (XB0.out.below hb)
    have xb1_0 := XB1.out.cell (i := 0) rfl
    have xb1_1 := XB1.out.cell (i := 1) rfl
    clear xb0_0 xb0_1
    clear hb
    go_wp2_with fail
    refine (HRa.out _ HB1.out).mono ?_
    rintro e w2 ⟨rfl, hb⟩
    have HB2 := Lib.hid (HB1.out.trans (hb.mono HB1.out.size))
    have HG2 := Lib.hid (HGb.out _ _ HG1.out hb)
    have XB2 := Lib.hid (XB1.out.below hb)
    have xb2_0 := XB2.out.cell (i := 0) rfl
    have xb2_1 := XB2.out.cell (i := 1) rfl
    clear xb1_0 xb1_1
    clear hb
    go_wp2_with fail
    refine (HRb.out _ HB2.out).mono ?_
    rintro e w3 ⟨rfl, hb⟩
    have HB3 := Lib.hid (HB2.out.trans (hb.mono HB2.out.size))
    have HG3 := Lib.hid (HGb.out _ _ HG2.out hb)
    have XB3 := Lib.hid (XB2.out.below hb)
    have xb3_0 := XB3.out.cell (i := 0) rfl
    have xb3_1 := XB3.out.cell (i := 1) rfl
    clear xb2_0 xb2_1
    clear hb
    go_wp2_with fail
    refine (HA.out _ HB3.out).mono ?_
    rintro e w4 ⟨rfl, hb⟩
    have HB4 := Lib.hid (HB3.out.trans (hb.mono HB3.out.size))
    have HG4 := Lib.hid (HGb.out _ _ HG3.out hb)
    have XB4 := Lib.hid (XB3.out.below hb)
    have xb4_0 := XB4.out.cell (i := 0) rfl
    have xb4_1 := XB4.out.cell (i := 1) rfl
    clear xb3_0 xb3_1
    clear hb
    go_wp2_with fail
    refine (HS.out _ HB4.out).mono ?_
    rintro e w5 ⟨rfl, hb⟩
    have HB5 := Lib.hid (HB4.out.trans (hb.mono HB4.out.size))
    have HG5 := Lib.hid (HGb.out _ _ HG4.out hb)
    have XB5 := Lib.hid (XB4.out.below hb)
    have xb5_0 := XB5.out.cell (i := 0) rfl
    have xb5_1 := XB5.out.cell (i := 1) rfl
    clear xb4_0 xb4_1
    clear hb
    go_wp2_with fail
    refine (HAw.out _ HG5.out).mono ?_
    rintro e w6 ⟨rfl, hb⟩
    have HB6 := Lib.hid (HB5.out.trans (hb.mono HB5.out.size))
    have HG6 := Lib.hid (HGb.out _ _ HG5.out hb)
    have XB6 := Lib.hid (XB5.out.below hb)
    have xb6_0 := XB6.out.cell (i := 0) rfl
    have xb6_1 := XB6.out.cell (i := 1) rfl
    clear xb5_0 xb5_1
    clear hb
    go_wp2_with fail
    go_ret
    exact saysIn_k24 rfl HB6.out
  rw [hS] at HS
  by_cases hI : index.size <= 100
  case neg =>
    have bI : decide (100 < (index.size : Int)) = true := by simp; omega
    clear hI
    go_enter Try.func5, Try.ntmps5
    go_wp2_with fail
    refine (HAw.out _ HG.out).mono ?_
    rintro e w1 ⟨rfl, hb⟩
    have HB1 := Lib.hid (HBb.out.trans (hb.mono HBb.out.size))
    have HG1 := Lib.hid (HGb.out _ _ HG.out hb)
    have XB1 := Lib.hid (XB0.out.below hb)
    have xb1_0 := XB1.out.cell (i := 0) rfl
    have xb1_1 := XB1.out.cell (i := 1) rfl
    clear xb0_0 xb0_1
    clear hb
    go_wp2_with fail
    refine (HRa.out _ HB1.out).mono ?_
    rintro e w2 ⟨rfl, hb⟩
    have HB2 := Lib.hid (HB1.out.trans (hb.mono HB1.out.size))
    have HG2 := Lib.hid (HGb.out _ _ HG1.out hb)
    have XB2 := Lib.hid (XB1.out.below hb)
    have xb2_0 := XB2.out.cell (i := 0) rfl
    have xb2_1 := XB2.out.cell (i := 1) rfl
    clear xb1_0 xb1_1
    clear hb
    go_wp2_with fail
    refine (HRb.out _ HB2.out).mono ?_
    rintro e w3 ⟨rfl, hb⟩
    have HB3 := Lib.hid (HB2.out.trans (hb.mono HB2.out.size))
    have HG3 := Lib.hid (HGb.out _ _ HG2.out hb)
    have XB3 := Lib.hid (XB2.out.below hb)
    have xb3_0 := XB3.out.cell (i := 0) rfl
    have xb3_1 := XB3.out.cell (i := 1) rfl
    clear xb2_0 xb2_1
    clear hb
    go_wp2_with fail
    refine (HA.out _ HB3.out).mono ?_
    rintro e w4 ⟨rfl, hb⟩
    have HB4 := Lib.hid (HB3.out.trans (hb.mono HB3.out.size))
    have HG4 := Lib.hid (HGb.out _ _ HG3.out hb)
    have XB4 := Lib.hid (XB3.out.below hb)
    have xb4_0 := XB4.out.cell (i := 0) rfl
    have xb4_1 := XB4.out.cell (i := 1) rfl
    clear xb3_0 xb3_1
    clear hb
    go_wp2_with fail
    refine (HS.out _ HB4.out).mono ?_
    rintro e w5 ⟨rfl, hb⟩
    have HB5 := Lib.hid (HB4.out.trans (hb.mono HB4.out.size))
    have HG5 := Lib.hid (HGb.out _ _ HG4.out hb)
    have XB5 := Lib.hid (XB4.out.below hb)
    have xb5_0 := XB5.out.cell (i := 0) rfl
    have xb5_1 := XB5.out.cell (i := 1) rfl
    clear xb4_0 xb4_1
    clear hb
    go_wp2_with fail
    refine (HAw.out _ HG5.out).mono ?_
    rintro e w6 ⟨rfl, hb⟩
    have HB6 := Lib.hid (HB5.out.trans (hb.mono HB5.out.size))
    have HG6 := Lib.hid (HGb.out _ _ HG5.out hb)
    have XB6 := Lib.hid (XB5.out.below hb)
    have xb6_0 := XB6.out.cell (i := 0) rfl
    have xb6_1 := XB6.out.cell (i := 1) rfl
    clear xb5_0 xb5_1
    clear hb
    go_wp2_with fail
    go_ret
    exact saysIn_k24 rfl HB6.out
  have bI : decide (100 < (index.size : Int)) = false := by simp; omega
  obtain ⟨hs1, hT30, hs3, hRG, hbad⟩ := rightT_parts hRa
  obtain ⟨hs1b, hT30b, hs3b, hRGb, hbadb⟩ := rightT_parts hRb
  obtain ⟨ha1, ha2⟩ := fewS_partsW hA
  obtain ⟨hb1, hb2⟩ := fewS_partsW hS
  have HN := Lib.hid (fun W (hb : Below w.heap.size w W) => (newTree_any (.slice pA nA cA) A W (HVa.out W hb) hs1 (by omega)).mono fun e w' h => (show (∃ tp, e = .returned (.tuple #[.pointer (some ⟨tp, 0, none⟩), .nilIface]) /\ TreeAt (fun k => W.heap.size <= k /\ k < w'.heap.size) w' tp A) /\ Below W.heap.size W w' from ⟨by
        rcases h.1 with ⟨_, h1⟩ | ⟨i, h1, _⟩
        · exact h1
        · rw [hbad] at h1; exact (nomatch h1), h.2⟩))
  have HNb := Lib.hid (fun W (hb : Below w.heap.size w W) => (newTree_any (.slice pB nB cB) B W (HVb.out W hb) hs1b (by omega)).mono fun e w' h => (show (∃ tp, e = .returned (.tuple #[.pointer (some ⟨tp, 0, none⟩), .nilIface]) /\ TreeAt (fun k => W.heap.size <= k /\ k < w'.heap.size) w' tp B) /\ Below W.heap.size W w' from ⟨by
        rcases h.1 with ⟨_, h1⟩ | ⟨i, h1, _⟩
        · exact h1
        · rw [hbadb] at h1; exact (nomatch h1), h.2⟩))
  have HRG := Lib.hid hRG
  have HSm := Lib.hid (fun f hf => (hs1 f hf).1)
  have HT30 := Lib.hid hT30
  have HRGb := Lib.hid hRGb
  have HSmb := Lib.hid (fun f hf => (hs1b f hf).1)
  have HT30b := Lib.hid hT30b
  have HA1 := Lib.hid ha1
  have HA2 := Lib.hid ha2
  have HB1s := Lib.hid hb1
  have HB2s := Lib.hid hb2
  have HIz := Lib.hid hI
  clear hs1 hT30 hs3 hRG hbad hs1b hT30b hs3b hRGb hbadb ha1 ha2 hb1 hb2 hRa hRb hA hS hI
  go_enter Try.func5, Try.ntmps5
  go_wp2_with fail
  refine (HAw.out _ HG.out).mono ?_
  rintro e w1 ⟨rfl, hb⟩
  have HB1 := Lib.hid (HBb.out.trans (hb.mono HBb.out.size))
  have HG1 := Lib.hid (HGb.out _ _ HG.out hb)
  have XB1 := Lib.hid (XB0.out.below hb)
  have xb1_0 := XB1.out.cell (i := 0) rfl
  have xb1_1 := XB1.out.cell (i := 1) rfl
  clear xb0_0 xb0_1
  clear hb
  go_wp2_with fail
  refine (HRa.out _ HB1.out).mono ?_
  rintro e w2 ⟨rfl, hb⟩
  have HB2 := Lib.hid (HB1.out.trans (hb.mono HB1.out.size))
  have HG2 := Lib.hid (HGb.out _ _ HG1.out hb)
  have XB2 := Lib.hid (XB1.out.below hb)
  have xb2_0 := XB2.out.cell (i := 0) rfl
  have xb2_1 := XB2.out.cell (i := 1) rfl
  clear xb1_0 xb1_1
  clear hb
  go_wp2_with fail
  refine (HRb.out _ HB2.out).mono ?_
  rintro e w3 ⟨rfl, hb⟩
  have HB3 := Lib.hid (HB2.out.trans (hb.mono HB2.out.size))
  have HG3 := Lib.hid (HGb.out _ _ HG2.out hb)
  have XB3 := Lib.hid (XB2.out.below hb)
  have xb3_0 := XB3.out.cell (i := 0) rfl
  have xb3_1 := XB3.out.cell (i := 1) rfl
  clear xb2_0 xb2_1
  clear hb
  go_wp2_with fail
  refine (HA.out _ HB3.out).mono ?_
  rintro e w4 ⟨rfl, hb⟩
  have HB4 := Lib.hid (HB3.out.trans (hb.mono HB3.out.size))
  have HG4 := Lib.hid (HGb.out _ _ HG3.out hb)
  have XB4 := Lib.hid (XB3.out.below hb)
  have xb4_0 := XB4.out.cell (i := 0) rfl
  have xb4_1 := XB4.out.cell (i := 1) rfl
  clear xb3_0 xb3_1
  clear hb
  go_wp2_with fail
  refine (HS.out _ HB4.out).mono ?_
  rintro e w5 ⟨rfl, hb⟩
  have HB5 := Lib.hid (HB4.out.trans (hb.mono HB4.out.size))
  have HG5 := Lib.hid (HGb.out _ _ HG4.out hb)
  have XB5 := Lib.hid (XB4.out.below hb)
  have xb5_0 := XB5.out.cell (i := 0) rfl
  have xb5_1 := XB5.out.cell (i := 1) rfl
  clear xb4_0 xb4_1
  clear hb
  go_wp2_with fail
  refine (HN.out _ HB5.out).mono ?_
  rintro e w6 ⟨⟨tp, rfl, ht⟩, hb⟩
  have HTa := Lib.hid ht
  clear ht
  have HB6 := Lib.hid (HB5.out.trans (hb.mono HB5.out.size))
  have HG6 := Lib.hid (HGb.out _ _ HG5.out hb)
  have XB6 := Lib.hid (XB5.out.below hb)
  have xb6_0 := XB6.out.cell (i := 0) rfl
  have xb6_1 := XB6.out.cell (i := 1) rfl
  clear xb5_0 xb5_1
  clear hb
  go_wp2_with fail
  refine (HNb.out _ HB6.out).mono ?_
  rintro e w7 ⟨⟨tq, rfl, ht⟩, hb⟩
  have HTb := Lib.hid ht
  clear ht
  have HTa := Lib.hid (HTa.out.below hb)
  have H67a := Lib.hid hb.size
  have HB7 := Lib.hid (HB6.out.trans (hb.mono HB6.out.size))
  have HG7 := Lib.hid (HGb.out _ _ HG6.out hb)
  have XB7 := Lib.hid (XB6.out.below hb)
  have xb7_0 := XB7.out.cell (i := 0) rfl
  have xb7_1 := XB7.out.cell (i := 1) rfl
  clear xb6_0 xb6_1
  clear hb
  have HLk := Lib.hid (HF.out.looked (.slice ps ns cs) segs dir index w7 HG7.out (HPs.out _ HB7.out) (by have := HB2s.out; omega))
  cases dir
  · have HLk := Lib.hid (show Calls _ _ _ w7 (LookedTo [segs] w7) from HLk.out)
    go_wp2_with fail
    refine HLk.out.mono ?_
    rintro e w8 ⟨vl, rfl, hl8, hb⟩
    have HB8 := Lib.hid (HB7.out.trans (hb.mono HB7.out.size))
    have XB8 := Lib.hid (XB7.out.below hb)
    have HTa8 := Lib.hid (HTa.out.below hb)
    have H78 := Lib.hid hb.size
    have HTb8 := Lib.hid (HTb.out.below hb)
    have HG8 := Lib.hid (HGb.out _ _ HG7.out hb)
    obtain ⟨pl, cl, hvl⟩ := Kind.rows_sliced _ hl8
    have hvl : vl = .slice pl 1 cl := hvl
    subst hvl
    have HL8 := Lib.hid hl8
    clear hb hl8 xb7_0 xb7_1
    have y0 : w8.drew.cell? ⟨w.heap.size, 0, none⟩ = some (.slice ps ns cs) := XB8.out.cell rfl
    have bB : Below w8.heap.size w8 ((w8.alloc (.cells #[.string index] 9)).drew) := ((Below.refl _ _).alloc (Nat.le_refl _) _).drew
    have yB0 : ((w8.alloc (.cells #[.string index] 9)).drew).cell? ⟨w.heap.size, 0, none⟩ = some (.slice ps ns cs) := (XB8.out.below bB).cell rfl
    have HLit := Lib.hid (show StrsIn ((w8.alloc (.cells #[.string index] 9)).drew) (.slice (some ⟨w8.heap.size, 0, none⟩) 1 1) [index] from lit_strsA w8 [index] (by simp))
    have HBl := Lib.hid (HB8.out.trans (bB.mono HB8.out.size))
    have HFu := Lib.hid (refFull_any (.slice ps ns cs) (.slice (some ⟨w8.heap.size, 0, none⟩) 1 1) segs [index] _ (HPs.out _ HBl.out) HLit.out (by have := HB2s.out; omega) (by simp))
    go_wp2_with fail
    go_region_held3 (fun W => W.cell? ⟨w.heap.size, 0, none⟩ = some (.slice ps ns cs)) (first | with_reducible exact y0 | with_reducible exact yB0 | with_reducible exact yC0 | with_reducible exact yD0) ((go_at_call 13; refine HFu.out.mono ?_; rintro e wr1 ⟨vw, rfl, hsw, _, hb⟩; obtain ⟨pw, cw, hvw⟩ := hsw.sliced; obtain ⟨nq, hnq⟩ : ∃ x, x = (segs ++ [index]).length := ⟨_, rfl⟩; rw [<- hnq] at hvw; subst hvw; have Hnq := Lib.hid hnq; have HSw := Lib.hid hsw; have HJ1 := Lib.hid (bB.trans (hb.mono bB.size)); have yC0 : wr1.cell? ⟨w.heap.size, 0, none⟩ = some (.slice ps ns cs) := (XB8.out.below HJ1.out).cell rfl; have HJ2 := Lib.hid (HJ1.out.alloc HJ1.out.size (.cells #[.slice ps ns cs, .slice pw nq cw] 24)); have yD0 : (wr1.alloc (.cells #[.slice ps ns cs, .slice pw nq cw] 24)).cell? ⟨w.heap.size, 0, none⟩ = some (.slice ps ns cs) := (XB8.out.below HJ2.out).cell rfl; clear hb hsw hnq))
    all_goals
      obtain ⟨W9, hW9⟩ : ∃ x, x = wr1.alloc (.cells #[.slice ps ns cs, .slice pw nq cw] 24) := ⟨_, rfl⟩
      obtain ⟨bw, hbw⟩ : ∃ x, x = wr1.heap.size := ⟨_, rfl⟩
      have hb9 : Below wr1.heap.size wr1 W9 := by rw [hW9]; exact (Below.refl _ _).alloc (Nat.le_refl _) _
      have HJ9 := Lib.hid (HJ1.out.trans (hb9.mono HJ1.out.size))
      have HB9 := Lib.hid (HB8.out.trans (HJ9.out.mono HB8.out.size))
      have hc9 : Box W9 bw [.slice ps ns cs, .slice pw nq cw] := by rw [hW9, hbw]; exact Box.new wr1 _ _
      have HSe9 := Lib.hid (HPs.out _ HB9.out)
      have HSw9 := Lib.hid (HSw.out.below hb9)
      have HW9 := Lib.hid (show (Kind.slice Kind.str).rows (fun _ => True) W9 (.slice (some ⟨bw, 0, none⟩) 1 2) [segs] from paths_rows (by simp) (by decide) (fun i Q hQ => by
          match i, hQ with
          | 0, hQ =>
            obtain rfl := by simpa using hQ
            exact ⟨_, hc9.cell (i := 0) rfl, HSe9.out⟩
          | i + 1, hQ => simp at hQ))
      have HL9 := Lib.hid (show (Kind.slice Kind.str).rows (fun _ => True) W9 (.slice pl 1 cl) [segs] from Kind.rows_below _ HL8.out HJ9.out)
      have yP1 : W9.cell? ⟨w.heap.size, 1, none⟩ = some (.bool false) := (XB8.out.below HJ9.out).cell (i := 1) rfl
      have XB9 := Lib.hid (XB8.out.below HJ9.out)
      have HTa9 := Lib.hid (HTa8.out.below HJ9.out)
      have HTb9 := Lib.hid (HTb8.out.below HJ9.out)
      have HG9 := Lib.hid (HGb.out _ _ HG8.out HJ9.out)
      rw [<- hW9, <- hbw]
      clear hW9 hbw hb9 hc9 HJ1 HJ2 yC0 yD0 y0 yB0 HFu HLit HBl bB
      go_wp2
      go_loopw [17] (fun j wi => ∃ k : Nat, k <= 1 /\ j = .int .i64 k /\ Hid (∀ i (h : i < ([segs] : List (List ByteArray)).length), i < k -> AgreeQ A B (root ++ ([segs] : List (List ByteArray))[i])) /\ Hid (Below W9.heap.size W9 wi)) (fun j _ => (1 - intOf j).toNat)
      case atStart => exact ⟨0, by decide, rfl, Lib.hid (fun i _ h => by omega), Lib.hid (Below.refl _ _)⟩
      case round =>
        obtain ⟨k, hk, rfl, HAg, HBi⟩ := hrel
        by_cases hkn : k < 1
        · skip
          have hkl : k < ([segs] : List (List ByteArray)).length := hkn
          obtain ⟨b1, o1, cs1, hat1, _, hin1, hc1⟩ := Kind.rows_at _ Try.uPaths Try.zPaths (Kind.rows_below _ HL9.out HBi.out) k hkl
          obtain ⟨b2, o2, cs2, hat2, _, hin2, hc2⟩ := Kind.rows_at _ Try.uPaths Try.zPaths (Kind.rows_below _ HW9.out HBi.out) k hkl
          have HQk := Lib.hid (fun (P : AgreeQ A B (root ++ ([segs] : List (List ByteArray))[k])) => show ∀ i (h : i < ([segs] : List (List ByteArray)).length), i < k + 1 -> AgreeQ A B (root ++ ([segs] : List (List ByteArray))[i]) from fun i h hi => by
              rcases Nat.lt_succ_iff_lt_or_eq.1 hi with h2 | h2
              · exact HAg.out i h h2
              · subst h2; exact P)
          obtain ⟨Q, hQ⟩ : ∃ Q, Q = ([segs] : List (List ByteArray))[k] := ⟨_, rfl⟩
          rw [<- hQ] at hin1 hin2 HQk
          have HQl := Lib.hid (show Q.length <= 31 by
              rw [hQ]
              have := List.getElem_mem hkl
              generalize ([segs] : List (List ByteArray))[k] = z at this
              simp only [List.mem_cons, List.not_mem_nil, or_false] at this
              have h2 := HB2s.out
              subst this; omega)
          obtain ⟨x1, rfl, hx1⟩ := hin1
          obtain ⟨x2, rfl, hx2⟩ := hin2
          have g1 : wr.cell? ⟨b1, o1, none⟩ = some x1 := hc1 0 _ rfl
          have g2 : wr.cell? ⟨b2, o2, none⟩ = some x2 := hc2 0 _ rfl
          have HS1 := Lib.hid (Kind.strs_of hx1)
          have HS2 := Lib.hid (Kind.strs_of hx2)
          have k1 : wr.drew.cell? ⟨b1, o1, none⟩ = some x1 := g1
          have k2 : wr.drew.cell? ⟨b2, o2, none⟩ = some x2 := g2
          have bD : Below wr.heap.size wr wr.drew := (Below.refl _ _).drew
          have HT := Lib.hid ((texts_q x1 x2 Q Q wr.drew (HS1.out.below bD) (HS2.out.below bD)).mono (fun _ _ h => h.says))
          rw [decide_eq_true rfl] at HT
          have hwr : IntKind.i64.wrap ((k : Int) + 1) = (k : Int) + 1 := by rw [IntKind.wrap_i64] <;> omega
          have hki : (k : Int) < 1 := by omega
          clear hQ hx1 hx2 hc1 hc2 hkl
          go_wp2_with fail
          go_region_held3 (fun W => W.cell? ⟨b1, o1, none⟩ = some x1 /\ W.cell? ⟨b2, o2, none⟩ = some x2) (first | with_reducible exact ⟨k1, k2⟩ | with_reducible exact ⟨m1, m2⟩) ((go_at_call 15; refine HT.out.mono ?_; rintro e wt ⟨rfl, hb⟩; have HJt := Lib.hid (bD.trans (hb.mono bD.size)); have m1 : wt.cell? ⟨b1, o1, none⟩ = some x1 := (HJt.out.cell (World.block_lt_of_cell? _ _ g1)).trans g1; have m2 : wt.cell? ⟨b2, o2, none⟩ = some x2 := (HJt.out.cell (World.block_lt_of_cell? _ _ g2)).trans g2; clear hb))
          all_goals
            have HBt := Lib.hid (HBi.out.trans (HJt.out.mono HBi.out.size))
            have HBtw := Lib.hid (HB9.out.trans (HBt.out.mono HB9.out.size))
            have HFl := Lib.hid (refFull_any vr x2 root Q wt (HPr.out _ HBtw.out) (HS2.out.below HJt.out) (by have := HA2.out; omega) (by have := HQl.out; omega))
            clear k1 k2 g1 g2 bD HT
            go_wp2_with fail
            refine HFl.out.mono ?_
            rintro e wf ⟨vf, rfl, hsf, _, hb⟩
            have HBf := Lib.hid (HBtw.out.trans (hb.mono HBtw.out.size))
            have HBfi := Lib.hid (HBt.out.trans (hb.mono HBt.out.size))
            have HSf := Lib.hid hsf
            clear hb hsf
            obtain ⟨q, hq⟩ : ∃ q, q = root ++ Q := ⟨_, rfl⟩
            rw [<- hq] at HSf HQk
            clear hq
            obtain ⟨i1, hi1⟩ : ∃ x, x = getI q 0 A := ⟨_, rfl⟩
            obtain ⟨i2, hi2⟩ : ∃ x, x = getI q 0 B := ⟨_, rfl⟩
            have Hi1 := Lib.hid hi1
            have Hi2 := Lib.hid hi2
            have HGa := Lib.hid (show Calls _ _ _ wf (ZTo i1 wf) by rw [Hi1.out]; exact refGet_any (.slice pA nA cA) vf A q wf (HVa.out _ HBf.out) HSf.out (by have := HT30.out; omega))
            clear hi1 hi2
            go_wp2_with fail
            refine HGa.out.mono ?_
            rintro e wg ⟨rfl, hb⟩
            have HBg := Lib.hid (HBf.out.trans (hb.mono HBf.out.size))
            have HBgi := Lib.hid (HBfi.out.trans (hb.mono HBfi.out.size))
            have HSg := Lib.hid (HSf.out.below hb)
            clear hb
            have HGc := Lib.hid (show Calls _ _ _ wg (ZTo i2 wg) by rw [Hi2.out]; exact refGet_any (.slice pB nB cB) vf B q wg (HVb.out _ HBg.out) HSg.out (by have := HT30b.out; omega))
            go_wp2_with fail
            refine HGc.out.mono ?_
            rintro e wh ⟨rfl, hb⟩
            have HBh := Lib.hid (HBg.out.trans (hb.mono HBg.out.size))
            have HBhi := Lib.hid (HBgi.out.trans (hb.mono HBgi.out.size))
            have HSh := Lib.hid (HSg.out.below hb)
            clear hb HGa HGc HSf HSg
            obtain ⟨ka, hka⟩ : ∃ x, x = kindP (A.map tfOf) q := ⟨_, rfl⟩
            obtain ⟨kb, hkb⟩ : ∃ x, x = kindP (B.map tfOf) q := ⟨_, rfl⟩
            have Hka := Lib.hid hka
            have Hkb := Lib.hid hkb
            have HKa := Lib.hid (fun W (hb : Below wh.heap.size wh W) => show Calls _ _ _ W (IntTo ka W) by rw [Hka.out]; exact refKindT_any (.slice pA nA cA) vf A q W (HVa.out _ (HBh.out.trans (hb.mono HBh.out.size))) (HSh.out.below hb) (by have := HT30.out; omega))
            have HKb := Lib.hid (fun W (hb : Below wh.heap.size wh W) => show Calls _ _ _ W (IntTo kb W) by rw [Hkb.out]; exact refKindT_any (.slice pB nB cB) vf B q W (HVb.out _ (HBh.out.trans (hb.mono HBh.out.size))) (HSh.out.below hb) (by have := HT30b.out; omega))
            have hyp := (XB9.out.below HBhi.out).cell (i := 1) rfl
            have Z2 : Hid (wh.cell? ⟨w.heap.size, 1, none⟩ = some (.bool false)) := Lib.hid hyp
            have Hl2 := Lib.hid (World.block_lt_of_cell? wh _ hyp)
            have HJb := Lib.hid (Below.refl wh.heap.size wh)
            have HBb := HBh
            clear hyp hka hkb
            by_cases hkk : ka = kb
            case neg =>
              have hne : ((ka : Int) != (kb : Int)) = true := by simpa using (fun e => hkk (by omega))
              clear hkk
              go_wp2_with fail
              have q0_0 : wh.drew.cell? ⟨w.heap.size, 1, none⟩ = some (.bool false) := Z2.out
              have HJ0 := Lib.hid HJb.out.drew
              have HR0 := Lib.hid HBb.out.drew
              refine wp_region_held_drew (S := (fun W => W.cell? ⟨w.heap.size, 1, none⟩ = some (.bool false))) (by kernel_rfl) q0_0 (fun hHeld => ?_)
              refine wpAnyH_take (i := 0) (oi := _) (v := ?_) rfl (by kernel_rfl) (by kernel_rfl) (by kernel_rfl) (fun _ _ _ h => h) (Or.inl ⟨by kernel_rfl, ?_⟩) (by assumption) ?_
              rotate_left
              · intro w hSw
                obtain hS0 := hSw
                go_simp
                all_goals with_reducible rfl
              try simp only [Act.put, List.getElem_toArray, List.getElem_cons_zero, List.getElem_cons_succ, List.setIfInBounds_toArray, List.set_cons_zero, List.set_cons_succ]
              refine wpAnyH_take (i := 1) (oi := _) (v := ?_) rfl (by kernel_rfl) (by kernel_rfl) (by kernel_rfl) (fun _ _ _ h => h) (Or.inl ⟨by kernel_rfl, ?_⟩) (by assumption) ?_
              rotate_left
              · intro w hSw
                obtain hS0 := hSw
                go_simp
                all_goals with_reducible rfl
              try simp only [Act.put, List.getElem_toArray, List.getElem_cons_zero, List.getElem_cons_succ, List.setIfInBounds_toArray, List.set_cons_zero, List.set_cons_succ]
              refine wpAnyH_take (i := 3) (oi := _) (v := ?_) rfl (by kernel_rfl) (by kernel_rfl) (by kernel_rfl) (fun _ _ _ h => h) (Or.inl ⟨by kernel_rfl, ?_⟩) (by assumption) ?_
              rotate_left
              · intro w hSw
                obtain hS0 := hSw
                go_simp
                all_goals with_reducible rfl
              try simp only [Act.put, List.getElem_toArray, List.getElem_cons_zero, List.getElem_cons_succ, List.setIfInBounds_toArray, List.set_cons_zero, List.set_cons_succ]
              refine wpAnyH_take (i := 4) (oi := _) (v := ?_) rfl (by kernel_rfl) (by kernel_rfl) (by kernel_rfl) (fun _ _ _ h => h) (Or.inl ⟨by kernel_rfl, ?_⟩) (by assumption) ?_
              rotate_left
              · intro w hSw
                obtain hS0 := hSw
                go_simp
                all_goals with_reducible rfl
              try simp only [Act.put, List.getElem_toArray, List.getElem_cons_zero, List.getElem_cons_succ, List.setIfInBounds_toArray, List.set_cons_zero, List.set_cons_succ]
              refine wpAnyH_ready (rs := [2]) (by kernel_rfl) (by simp) ?_
              refine AllReadyH.cons (o := _) rfl (fun K hK => ?_) AllReadyH.nil
              go_simp
              go_at_call 19
              refine (HKa.out _ HJ0.out).mono ?_
              rintro e wr1 ⟨rfl, hb⟩
              have HJ1 := Lib.hid (HJ0.out.trans (hb.mono HJ0.out.size))
              have HR1 := Lib.hid (HR0.out.trans (hb.mono HR0.out.size))
              have q1_0 : wr1.cell? ⟨w.heap.size, 1, none⟩ = some (.bool false) := (HJ1.out.cell Hl2.out).trans Z2.out
              clear hb
              clear hHeld
              refine hK.out _ _ ?_ (fun hHeld => ?_)
              · exact q1_0
              clear hK K
              try simp only [Act.put, List.getElem_toArray, List.getElem_cons_zero, List.getElem_cons_succ, List.setIfInBounds_toArray, List.set_cons_zero, List.set_cons_succ]
              refine wpAnyH_ready (rs := [5]) (by kernel_rfl) (by simp) ?_
              refine AllReadyH.cons (o := _) rfl (fun K hK => ?_) AllReadyH.nil
              go_simp
              go_at_call 19
              refine (HKb.out _ HJ1.out).mono ?_
              rintro e wr2 ⟨rfl, hb⟩
              have HJ2 := Lib.hid (HJ1.out.trans (hb.mono HJ1.out.size))
              have HR2 := Lib.hid (HR1.out.trans (hb.mono HR1.out.size))
              have q2_0 : wr2.cell? ⟨w.heap.size, 1, none⟩ = some (.bool false) := (HJ2.out.cell Hl2.out).trans Z2.out
              clear hb
              clear hHeld
              refine hK.out _ _ ?_ (fun hHeld => ?_)
              · exact q2_0
              clear hK K
              try simp only [Act.put, List.getElem_toArray, List.getElem_cons_zero, List.getElem_cons_succ, List.setIfInBounds_toArray, List.set_cons_zero, List.set_cons_succ]
              refine wpAnyH_take (i := 6) (oi := _) (v := ?_) rfl (by kernel_rfl) (by kernel_rfl) (by kernel_rfl) (fun _ _ _ h => h) (Or.inl ⟨by kernel_rfl, ?_⟩) (by assumption) ?_
              rotate_left
              · intro w hSw
                obtain hS0 := hSw
                go_simp
                all_goals with_reducible rfl
              try simp only [Act.put, List.getElem_toArray, List.getElem_cons_zero, List.getElem_cons_succ, List.setIfInBounds_toArray, List.set_cons_zero, List.set_cons_succ]
              refine wpAnyH_take (i := 7) (oi := _) (v := ?_) rfl (by kernel_rfl) (by kernel_rfl) (by kernel_rfl) (fun _ _ _ h => h) (Or.inl ⟨by kernel_rfl, ?_⟩) (by assumption) ?_
              rotate_left
              · intro w hSw
                obtain hS0 := hSw
                go_simp
                all_goals with_reducible rfl
              try simp only [Act.put, List.getElem_toArray, List.getElem_cons_zero, List.getElem_cons_succ, List.setIfInBounds_toArray, List.set_cons_zero, List.set_cons_succ]
              refine wpAnyH_take (i := 8) (oi := _) (v := undef) rfl (by kernel_rfl) (by kernel_rfl) (by kernel_rfl) (fun _ _ _ h => h) (Or.inr ⟨by kernel_rfl, rfl⟩) (by assumption) ?_
              try simp only [Act.put, List.getElem_toArray, List.getElem_cons_zero, List.getElem_cons_succ, List.setIfInBounds_toArray, List.set_cons_zero, List.set_cons_succ]
              refine wpAnyH_take (i := 9) (oi := _) (v := undef) rfl (by kernel_rfl) (by kernel_rfl) (by kernel_rfl) (fun _ _ _ h => h) (Or.inr ⟨by kernel_rfl, rfl⟩) (by assumption) ?_
              try simp only [Act.put, List.getElem_toArray, List.getElem_cons_zero, List.getElem_cons_succ, List.setIfInBounds_toArray, List.set_cons_zero, List.set_cons_succ]
              refine wpAnyH_take (i := 10) (oi := _) (v := undef) rfl (by kernel_rfl) (by kernel_rfl) (by kernel_rfl) (fun _ _ _ h => h) (Or.inr ⟨by kernel_rfl, rfl⟩) (by assumption) ?_
              try simp only [Act.put, List.getElem_toArray, List.getElem_cons_zero, List.getElem_cons_succ, List.setIfInBounds_toArray, List.set_cons_zero, List.set_cons_succ]
              refine wpAnyH_take (i := 11) (oi := _) (v := undef) rfl (by kernel_rfl) (by kernel_rfl) (by kernel_rfl) (fun _ _ _ h => h) (Or.inr ⟨by kernel_rfl, rfl⟩) (by assumption) ?_
              try simp only [Act.put, List.getElem_toArray, List.getElem_cons_zero, List.getElem_cons_succ, List.setIfInBounds_toArray, List.set_cons_zero, List.set_cons_succ]
              refine wpAnyH_take (i := 12) (oi := _) (v := undef) rfl (by kernel_rfl) (by kernel_rfl) (by kernel_rfl) (fun _ _ _ h => h) (Or.inr ⟨by kernel_rfl, rfl⟩) (by assumption) ?_
              try simp only [Act.put, List.getElem_toArray, List.getElem_cons_zero, List.getElem_cons_succ, List.setIfInBounds_toArray, List.set_cons_zero, List.set_cons_succ]
              refine wpAnyH_take (i := 13) (oi := _) (v := undef) rfl (by kernel_rfl) (by kernel_rfl) (by kernel_rfl) (fun _ _ _ h => h) (Or.inr ⟨by kernel_rfl, rfl⟩) (by assumption) ?_
              try simp only [Act.put, List.getElem_toArray, List.getElem_cons_zero, List.getElem_cons_succ, List.setIfInBounds_toArray, List.set_cons_zero, List.set_cons_succ]
              refine wpAnyH_take (i := 14) (oi := _) (v := undef) rfl (by kernel_rfl) (by kernel_rfl) (by kernel_rfl) (fun _ _ _ h => h) (Or.inr ⟨by kernel_rfl, rfl⟩) (by assumption) ?_
              try simp only [Act.put, List.getElem_toArray, List.getElem_cons_zero, List.getElem_cons_succ, List.setIfInBounds_toArray, List.set_cons_zero, List.set_cons_succ]
              refine wpAnyH_take (i := 15) (oi := _) (v := undef) rfl (by kernel_rfl) (by kernel_rfl) (by kernel_rfl) (fun _ _ _ h => h) (Or.inr ⟨by kernel_rfl, rfl⟩) (by assumption) ?_
              try simp only [Act.put, List.getElem_toArray, List.getElem_cons_zero, List.getElem_cons_succ, List.setIfInBounds_toArray, List.set_cons_zero, List.set_cons_succ]
              refine wpAnyH_take (i := 16) (oi := _) (v := undef) rfl (by kernel_rfl) (by kernel_rfl) (by kernel_rfl) (fun _ _ _ h => h) (Or.inr ⟨by kernel_rfl, rfl⟩) (by assumption) ?_
              try simp only [Act.put, List.getElem_toArray, List.getElem_cons_zero, List.getElem_cons_succ, List.setIfInBounds_toArray, List.set_cons_zero, List.set_cons_succ]
              refine wpAnyH_take (i := 17) (oi := _) (v := undef) rfl (by kernel_rfl) (by kernel_rfl) (by kernel_rfl) (fun _ _ _ h => h) (Or.inr ⟨by kernel_rfl, rfl⟩) (by assumption) ?_
              try simp only [Act.put, List.getElem_toArray, List.getElem_cons_zero, List.getElem_cons_succ, List.setIfInBounds_toArray, List.set_cons_zero, List.set_cons_succ]
              refine wpAnyH_take (i := 18) (oi := _) (v := undef) rfl (by kernel_rfl) (by kernel_rfl) (by kernel_rfl) (fun _ _ _ h => h) (Or.inr ⟨by kernel_rfl, rfl⟩) (by assumption) ?_
              try simp only [Act.put, List.getElem_toArray, List.getElem_cons_zero, List.getElem_cons_succ, List.setIfInBounds_toArray, List.set_cons_zero, List.set_cons_succ]
              refine wpAnyH_take (i := 19) (oi := _) (v := undef) rfl (by kernel_rfl) (by kernel_rfl) (by kernel_rfl) (fun _ _ _ h => h) (Or.inr ⟨by kernel_rfl, rfl⟩) (by assumption) ?_
              try simp only [Act.put, List.getElem_toArray, List.getElem_cons_zero, List.getElem_cons_succ, List.setIfInBounds_toArray, List.set_cons_zero, List.set_cons_succ]
              refine wpAnyH_take (i := 20) (oi := _) (v := undef) rfl (by kernel_rfl) (by kernel_rfl) (by kernel_rfl) (fun _ _ _ h => h) (Or.inr ⟨by kernel_rfl, rfl⟩) (by assumption) ?_
              try simp only [Act.put, List.getElem_toArray, List.getElem_cons_zero, List.getElem_cons_succ, List.setIfInBounds_toArray, List.set_cons_zero, List.set_cons_succ]
              refine wpAnyH_take (i := 21) (oi := _) (v := undef) rfl (by kernel_rfl) (by kernel_rfl) (by kernel_rfl) (fun _ _ _ h => h) (Or.inr ⟨by kernel_rfl, rfl⟩) (by assumption) ?_
              try simp only [Act.put, List.getElem_toArray, List.getElem_cons_zero, List.getElem_cons_succ, List.setIfInBounds_toArray, List.set_cons_zero, List.set_cons_succ]
              refine wpAnyH_take (i := 22) (oi := _) (v := undef) rfl (by kernel_rfl) (by kernel_rfl) (by kernel_rfl) (fun _ _ _ h => h) (Or.inr ⟨by kernel_rfl, rfl⟩) (by assumption) ?_
              try simp only [Act.put, List.getElem_toArray, List.getElem_cons_zero, List.getElem_cons_succ, List.setIfInBounds_toArray, List.set_cons_zero, List.set_cons_succ]
              refine wpAnyH_take (i := 23) (oi := _) (v := undef) rfl (by kernel_rfl) (by kernel_rfl) (by kernel_rfl) (fun _ _ _ h => h) (Or.inr ⟨by kernel_rfl, rfl⟩) (by assumption) ?_
              try simp only [Act.put, List.getElem_toArray, List.getElem_cons_zero, List.getElem_cons_succ, List.setIfInBounds_toArray, List.set_cons_zero, List.set_cons_succ]
              refine wpAnyH_take (i := 24) (oi := _) (v := undef) rfl (by kernel_rfl) (by kernel_rfl) (by kernel_rfl) (fun _ _ _ h => h) (Or.inr ⟨by kernel_rfl, rfl⟩) (by assumption) ?_
              try simp only [Act.put, List.getElem_toArray, List.getElem_cons_zero, List.getElem_cons_succ, List.setIfInBounds_toArray, List.set_cons_zero, List.set_cons_succ]
              refine wpAnyH_take (i := 25) (oi := _) (v := undef) rfl (by kernel_rfl) (by kernel_rfl) (by kernel_rfl) (fun _ _ _ h => h) (Or.inr ⟨by kernel_rfl, rfl⟩) (by assumption) ?_
              try simp only [Act.put, List.getElem_toArray, List.getElem_cons_zero, List.getElem_cons_succ, List.setIfInBounds_toArray, List.set_cons_zero, List.set_cons_succ]
              refine wpAnyH_take (i := 26) (oi := _) (v := ?_) rfl (by kernel_rfl) (by kernel_rfl) (by kernel_rfl) (fun _ _ _ h => h) (Or.inl ⟨by kernel_rfl, ?_⟩) (by assumption) ?_
              rotate_left
              · intro w hSw
                obtain hS0 := hSw
                go_simp
                all_goals with_reducible rfl
              try simp only [Act.put, List.getElem_toArray, List.getElem_cons_zero, List.getElem_cons_succ, List.setIfInBounds_toArray, List.set_cons_zero, List.set_cons_succ]
              refine wpAnyH_done (by kernel_rfl) ?_ _
              go_wp2
              go_ret
              exact saysIn_k24 rfl HR2.out
            cases hga : getF A q with
            | none =>
              have hne : ((ka : Int) != (kb : Int)) = false := by rw [hkk]; simp
              have hke : kindP (A.map tfOf) q = kindP (B.map tfOf) q := by rw [<- Hka.out, <- Hkb.out]; exact hkk
              have HAn := Lib.hid (HQk.out ⟨hke, by rw [hga, agree_none HRGb.out HRG.out hke hga]⟩)
              have h1 : i1 = -1 := by rw [Hi1.out]; exact getI_none hga
              subst h1
              clear hkk hke hga
              go_wp2_with fail
              have q0_0 : wh.drew.cell? ⟨w.heap.size, 1, none⟩ = some (.bool false) := Z2.out
              have HJ0 := Lib.hid HJb.out.drew
              have HR0 := Lib.hid HBb.out.drew
              refine wp_region_held_drew (S := (fun W => W.cell? ⟨w.heap.size, 1, none⟩ = some (.bool false))) (by kernel_rfl) q0_0 (fun hHeld => ?_)
              refine wpAnyH_take (i := 0) (oi := _) (v := ?_) rfl (by kernel_rfl) (by kernel_rfl) (by kernel_rfl) (fun _ _ _ h => h) (Or.inl ⟨by kernel_rfl, ?_⟩) (by assumption) ?_
              rotate_left
              · intro w hSw
                obtain hS0 := hSw
                go_simp
                all_goals with_reducible rfl
              try simp only [Act.put, List.getElem_toArray, List.getElem_cons_zero, List.getElem_cons_succ, List.setIfInBounds_toArray, List.set_cons_zero, List.set_cons_succ]
              refine wpAnyH_take (i := 1) (oi := _) (v := ?_) rfl (by kernel_rfl) (by kernel_rfl) (by kernel_rfl) (fun _ _ _ h => h) (Or.inl ⟨by kernel_rfl, ?_⟩) (by assumption) ?_
              rotate_left
              · intro w hSw
                obtain hS0 := hSw
                go_simp
                all_goals with_reducible rfl
              try simp only [Act.put, List.getElem_toArray, List.getElem_cons_zero, List.getElem_cons_succ, List.setIfInBounds_toArray, List.set_cons_zero, List.set_cons_succ]
              refine wpAnyH_take (i := 3) (oi := _) (v := ?_) rfl (by kernel_rfl) (by kernel_rfl) (by kernel_rfl) (fun _ _ _ h => h) (Or.inl ⟨by kernel_rfl, ?_⟩) (by assumption) ?_
              rotate_left
              · intro w hSw
                obtain hS0 := hSw
                go_simp
                all_goals with_reducible rfl
              try simp only [Act.put, List.getElem_toArray, List.getElem_cons_zero, List.getElem_cons_succ, List.setIfInBounds_toArray, List.set_cons_zero, List.set_cons_succ]
              refine wpAnyH_take (i := 4) (oi := _) (v := ?_) rfl (by kernel_rfl) (by kernel_rfl) (by kernel_rfl) (fun _ _ _ h => h) (Or.inl ⟨by kernel_rfl, ?_⟩) (by assumption) ?_
              rotate_left
              · intro w hSw
                obtain hS0 := hSw
                go_simp
                all_goals with_reducible rfl
              try simp only [Act.put, List.getElem_toArray, List.getElem_cons_zero, List.getElem_cons_succ, List.setIfInBounds_toArray, List.set_cons_zero, List.set_cons_succ]
              refine wpAnyH_ready (rs := [2]) (by kernel_rfl) (by simp) ?_
              refine AllReadyH.cons (o := _) rfl (fun K hK => ?_) AllReadyH.nil
              go_simp
              go_at_call 19
              refine (HKa.out _ HJ0.out).mono ?_
              rintro e wr1 ⟨rfl, hb⟩
              have HJ1 := Lib.hid (HJ0.out.trans (hb.mono HJ0.out.size))
              have HR1 := Lib.hid (HR0.out.trans (hb.mono HR0.out.size))
              have q1_0 : wr1.cell? ⟨w.heap.size, 1, none⟩ = some (.bool false) := (HJ1.out.cell Hl2.out).trans Z2.out
              clear hb
              clear hHeld
              refine hK.out _ _ ?_ (fun hHeld => ?_)
              · exact q1_0
              clear hK K
              try simp only [Act.put, List.getElem_toArray, List.getElem_cons_zero, List.getElem_cons_succ, List.setIfInBounds_toArray, List.set_cons_zero, List.set_cons_succ]
              refine wpAnyH_ready (rs := [5]) (by kernel_rfl) (by simp) ?_
              refine AllReadyH.cons (o := _) rfl (fun K hK => ?_) AllReadyH.nil
              go_simp
              go_at_call 19
              refine (HKb.out _ HJ1.out).mono ?_
              rintro e wr2 ⟨rfl, hb⟩
              have HJ2 := Lib.hid (HJ1.out.trans (hb.mono HJ1.out.size))
              have HR2 := Lib.hid (HR1.out.trans (hb.mono HR1.out.size))
              have q2_0 : wr2.cell? ⟨w.heap.size, 1, none⟩ = some (.bool false) := (HJ2.out.cell Hl2.out).trans Z2.out
              clear hb
              clear hHeld
              refine hK.out _ _ ?_ (fun hHeld => ?_)
              · exact q2_0
              clear hK K
              try simp only [Act.put, List.getElem_toArray, List.getElem_cons_zero, List.getElem_cons_succ, List.setIfInBounds_toArray, List.set_cons_zero, List.set_cons_succ]
              refine wpAnyH_take (i := 6) (oi := _) (v := ?_) rfl (by kernel_rfl) (by kernel_rfl) (by kernel_rfl) (fun _ _ _ h => h) (Or.inl ⟨by kernel_rfl, ?_⟩) (by assumption) ?_
              rotate_left
              · intro w hSw
                obtain hS0 := hSw
                go_simp
                all_goals with_reducible rfl
              try simp only [Act.put, List.getElem_toArray, List.getElem_cons_zero, List.getElem_cons_succ, List.setIfInBounds_toArray, List.set_cons_zero, List.set_cons_succ]
              refine wpAnyH_take (i := 7) (oi := _) (v := ?_) rfl (by kernel_rfl) (by kernel_rfl) (by kernel_rfl) (fun _ _ _ h => h) (Or.inl ⟨by kernel_rfl, ?_⟩) (by assumption) ?_
              rotate_left
              · intro w hSw
                obtain hS0 := hSw
                go_simp
                all_goals with_reducible rfl
              try simp only [Act.put, List.getElem_toArray, List.getElem_cons_zero, List.getElem_cons_succ, List.setIfInBounds_toArray, List.set_cons_zero, List.set_cons_succ]
              refine wpAnyH_take (i := 8) (oi := _) (v := ?_) rfl (by kernel_rfl) (by kernel_rfl) (by kernel_rfl) (fun _ _ _ h => h) (Or.inl ⟨by kernel_rfl, ?_⟩) (by assumption) ?_
              rotate_left
              · intro w hSw
                obtain hS0 := hSw
                go_simp
                all_goals with_reducible rfl
              try simp only [Act.put, List.getElem_toArray, List.getElem_cons_zero, List.getElem_cons_succ, List.setIfInBounds_toArray, List.set_cons_zero, List.set_cons_succ]
              refine wpAnyH_take (i := 9) (oi := _) (v := ?_) rfl (by kernel_rfl) (by kernel_rfl) (by kernel_rfl) (fun _ _ _ h => h) (Or.inl ⟨by kernel_rfl, ?_⟩) (by assumption) ?_
              rotate_left
              · intro w hSw
                obtain hS0 := hSw
                go_simp
                all_goals with_reducible rfl
              try simp only [Act.put, List.getElem_toArray, List.getElem_cons_zero, List.getElem_cons_succ, List.setIfInBounds_toArray, List.set_cons_zero, List.set_cons_succ]
              refine wpAnyH_take (i := 10) (oi := _) (v := ?_) rfl (by kernel_rfl) (by kernel_rfl) (by kernel_rfl) (fun _ _ _ h => h) (Or.inl ⟨by kernel_rfl, ?_⟩) (by assumption) ?_
              rotate_left
              · intro w hSw
                obtain hS0 := hSw
                go_simp
                all_goals with_reducible rfl
              try simp only [Act.put, List.getElem_toArray, List.getElem_cons_zero, List.getElem_cons_succ, List.setIfInBounds_toArray, List.set_cons_zero, List.set_cons_succ]
              refine wpAnyH_take (i := 11) (oi := _) (v := undef) rfl (by kernel_rfl) (by kernel_rfl) (by kernel_rfl) (fun _ _ _ h => h) (Or.inr ⟨by kernel_rfl, rfl⟩) (by assumption) ?_
              try simp only [Act.put, List.getElem_toArray, List.getElem_cons_zero, List.getElem_cons_succ, List.setIfInBounds_toArray, List.set_cons_zero, List.set_cons_succ]
              refine wpAnyH_take (i := 12) (oi := _) (v := undef) rfl (by kernel_rfl) (by kernel_rfl) (by kernel_rfl) (fun _ _ _ h => h) (Or.inr ⟨by kernel_rfl, rfl⟩) (by assumption) ?_
              try simp only [Act.put, List.getElem_toArray, List.getElem_cons_zero, List.getElem_cons_succ, List.setIfInBounds_toArray, List.set_cons_zero, List.set_cons_succ]
              refine wpAnyH_take (i := 13) (oi := _) (v := ?_) rfl (by kernel_rfl) (by kernel_rfl) (by kernel_rfl) (fun _ _ _ h => h) (Or.inl ⟨by kernel_rfl, ?_⟩) (by assumption) ?_
              rotate_left
              · intro w hSw
                obtain hS0 := hSw
                go_simp
                all_goals with_reducible rfl
              try simp only [Act.put, List.getElem_toArray, List.getElem_cons_zero, List.getElem_cons_succ, List.setIfInBounds_toArray, List.set_cons_zero, List.set_cons_succ]
              refine wpAnyH_take (i := 14) (oi := _) (v := ?_) rfl (by kernel_rfl) (by kernel_rfl) (by kernel_rfl) (fun _ _ _ h => h) (Or.inl ⟨by kernel_rfl, ?_⟩) (by assumption) ?_
              rotate_left
              · intro w hSw
                obtain hS0 := hSw
                go_simp
                all_goals with_reducible rfl
              try simp only [Act.put, List.getElem_toArray, List.getElem_cons_zero, List.getElem_cons_succ, List.setIfInBounds_toArray, List.set_cons_zero, List.set_cons_succ]
              refine wpAnyH_take (i := 15) (oi := _) (v := undef) rfl (by kernel_rfl) (by kernel_rfl) (by kernel_rfl) (fun _ _ _ h => h) (Or.inr ⟨by kernel_rfl, rfl⟩) (by assumption) ?_
              try simp only [Act.put, List.getElem_toArray, List.getElem_cons_zero, List.getElem_cons_succ, List.setIfInBounds_toArray, List.set_cons_zero, List.set_cons_succ]
              refine wpAnyH_take (i := 16) (oi := _) (v := undef) rfl (by kernel_rfl) (by kernel_rfl) (by kernel_rfl) (fun _ _ _ h => h) (Or.inr ⟨by kernel_rfl, rfl⟩) (by assumption) ?_
              try simp only [Act.put, List.getElem_toArray, List.getElem_cons_zero, List.getElem_cons_succ, List.setIfInBounds_toArray, List.set_cons_zero, List.set_cons_succ]
              refine wpAnyH_take (i := 17) (oi := _) (v := undef) rfl (by kernel_rfl) (by kernel_rfl) (by kernel_rfl) (fun _ _ _ h => h) (Or.inr ⟨by kernel_rfl, rfl⟩) (by assumption) ?_
              try simp only [Act.put, List.getElem_toArray, List.getElem_cons_zero, List.getElem_cons_succ, List.setIfInBounds_toArray, List.set_cons_zero, List.set_cons_succ]
              refine wpAnyH_take (i := 18) (oi := _) (v := undef) rfl (by kernel_rfl) (by kernel_rfl) (by kernel_rfl) (fun _ _ _ h => h) (Or.inr ⟨by kernel_rfl, rfl⟩) (by assumption) ?_
              try simp only [Act.put, List.getElem_toArray, List.getElem_cons_zero, List.getElem_cons_succ, List.setIfInBounds_toArray, List.set_cons_zero, List.set_cons_succ]
              refine wpAnyH_take (i := 19) (oi := _) (v := undef) rfl (by kernel_rfl) (by kernel_rfl) (by kernel_rfl) (fun _ _ _ h => h) (Or.inr ⟨by kernel_rfl, rfl⟩) (by assumption) ?_
              try simp only [Act.put, List.getElem_toArray, List.getElem_cons_zero, List.getElem_cons_succ, List.setIfInBounds_toArray, List.set_cons_zero, List.set_cons_succ]
              refine wpAnyH_take (i := 20) (oi := _) (v := undef) rfl (by kernel_rfl) (by kernel_rfl) (by kernel_rfl) (fun _ _ _ h => h) (Or.inr ⟨by kernel_rfl, rfl⟩) (by assumption) ?_
              try simp only [Act.put, List.getElem_toArray, List.getElem_cons_zero, List.getElem_cons_succ, List.setIfInBounds_toArray, List.set_cons_zero, List.set_cons_succ]
              refine wpAnyH_take (i := 21) (oi := _) (v := undef) rfl (by kernel_rfl) (by kernel_rfl) (by kernel_rfl) (fun _ _ _ h => h) (Or.inr ⟨by kernel_rfl, rfl⟩) (by assumption) ?_
              try simp only [Act.put, List.getElem_toArray, List.getElem_cons_zero, List.getElem_cons_succ, List.setIfInBounds_toArray, List.set_cons_zero, List.set_cons_succ]
              refine wpAnyH_take (i := 22) (oi := _) (v := undef) rfl (by kernel_rfl) (by kernel_rfl) (by kernel_rfl) (fun _ _ _ h => h) (Or.inr ⟨by kernel_rfl, rfl⟩) (by assumption) ?_
              try simp only [Act.put, List.getElem_toArray, List.getElem_cons_zero, List.getElem_cons_succ, List.setIfInBounds_toArray, List.set_cons_zero, List.set_cons_succ]
              refine wpAnyH_take (i := 23) (oi := _) (v := undef) rfl (by kernel_rfl) (by kernel_rfl) (by kernel_rfl) (fun _ _ _ h => h) (Or.inr ⟨by kernel_rfl, rfl⟩) (by assumption) ?_
              try simp only [Act.put, List.getElem_toArray, List.getElem_cons_zero, List.getElem_cons_succ, List.setIfInBounds_toArray, List.set_cons_zero, List.set_cons_succ]
              refine wpAnyH_take (i := 24) (oi := _) (v := undef) rfl (by kernel_rfl) (by kernel_rfl) (by kernel_rfl) (fun _ _ _ h => h) (Or.inr ⟨by kernel_rfl, rfl⟩) (by assumption) ?_
              try simp only [Act.put, List.getElem_toArray, List.getElem_cons_zero, List.getElem_cons_succ, List.setIfInBounds_toArray, List.set_cons_zero, List.set_cons_succ]
              refine wpAnyH_take (i := 25) (oi := _) (v := ?_) rfl (by kernel_rfl) (by kernel_rfl) (by kernel_rfl) (fun _ _ _ h => h) (Or.inl ⟨by kernel_rfl, ?_⟩) (by assumption) ?_
              rotate_left
              · intro w hSw
                obtain hS0 := hSw
                go_simp
                all_goals with_reducible rfl
              try simp only [Act.put, List.getElem_toArray, List.getElem_cons_zero, List.getElem_cons_succ, List.setIfInBounds_toArray, List.set_cons_zero, List.set_cons_succ]
              refine wpAnyH_take (i := 26) (oi := _) (v := ?_) rfl (by kernel_rfl) (by kernel_rfl) (by kernel_rfl) (fun _ _ _ h => h) (Or.inl ⟨by kernel_rfl, ?_⟩) (by assumption) ?_
              rotate_left
              · intro w hSw
                obtain hS0 := hSw
                go_simp
                all_goals with_reducible rfl
              try simp only [Act.put, List.getElem_toArray, List.getElem_cons_zero, List.getElem_cons_succ, List.setIfInBounds_toArray, List.set_cons_zero, List.set_cons_succ]
              refine wpAnyH_done (by kernel_rfl) ?_ _
              have HBz := Lib.hid (HBhi.out.trans (HJ2.out.mono HBhi.out.size))
              go_wp2
              go_roundw
              case rel => exact ⟨k + 1, by omega, by go_num, HAn, HBz⟩
              case measure => simp [intOf]; omega
            | some fa =>
              have hne : ((ka : Int) != (kb : Int)) = false := by rw [hkk]; simp
              have hke : kindP (A.map tfOf) q = kindP (B.map tfOf) q := by rw [<- Hka.out, <- Hkb.out]; exact hkk
              obtain ⟨fb, hgb⟩ := agree_some HRGb.out HRG.out hke hga
              obtain ⟨j1, hj1, hT1⟩ := getI_some (i := 0) hga
              obtain ⟨j2, hj2, hT2⟩ := getI_some (i := 0) hgb
              rw [Nat.zero_add, <- Hi1.out] at hj1
              rw [Nat.zero_add, <- Hi2.out] at hj2
              subst hj1
              subst hj2
              have HAn := Lib.hid (fun (e : fa = fb) => HQk.out ⟨hke, by rw [hga, hgb, e]⟩)
              have hl1 : j1 < A.length := (List.getElem?_eq_some_iff.1 hT1).1
              have he1 : A[j1] = fa := (List.getElem?_eq_some_iff.1 hT1).2
              have hl2 : j2 < B.length := (List.getElem?_eq_some_iff.1 hT2).1
              have he2 : B[j2] = fb := (List.getElem?_eq_some_iff.1 hT2).2
              have hVa := HVa.out _ HBh.out
              rw [HnA.out] at hVa
              have hVb := HVb.out _ HBh.out
              rw [HnB.out] at hVb
              obtain ⟨ba, oa, csa, hata, _, hina, hca⟩ := Kind.rows_at _ Try.uFiles Try.zFiles hVa j1 hl1
              rw [<- HnA.out] at hata
              rw [he1] at hina
              obtain ⟨bb, ob, csb, hatb, _, hinb, hcb⟩ := Kind.rows_at _ Try.uFiles Try.zFiles hVb j2 hl2
              rw [<- HnB.out] at hatb
              rw [he2] at hinb
              have hs1 := HSm.out fa (by rw [<- he1]; exact List.getElem_mem hl1)
              have hs2 := HSmb.out fb (by rw [<- he2]; exact List.getElem_mem hl2)
              obtain ⟨u0, e0, u1, e1, rfl, _⟩ := fileK_parts hina
              obtain ⟨v0, f0, v1, f1, rfl, _⟩ := fileK_parts hinb
              have HSF := Lib.hid (fun W (hb : Below wh.heap.size wh W) => sameFileG_any _ _ fa fb W (fileK.below hina hb) (fileK.below hinb hb) hs1 hs2)
              obtain ⟨l0, hl0⟩ : ∃ x, x = fa.1.length := ⟨_, rfl⟩
              obtain ⟨l1, hl1q⟩ : ∃ x, x = fa.2.2.2.length := ⟨_, rfl⟩
              obtain ⟨ad, had⟩ : ∃ x, x = fa.2.1 := ⟨_, rfl⟩
              obtain ⟨at_, hat_⟩ : ∃ x, x = fa.2.2.1 := ⟨_, rfl⟩
              obtain ⟨l2, hl2q⟩ : ∃ x, x = fb.1.length := ⟨_, rfl⟩
              obtain ⟨l3, hl3⟩ : ∃ x, x = fb.2.2.2.length := ⟨_, rfl⟩
              obtain ⟨bd, hbd⟩ : ∃ x, x = fb.2.1 := ⟨_, rfl⟩
              obtain ⟨bt, hbt⟩ : ∃ x, x = fb.2.2.1 := ⟨_, rfl⟩
              rw [<- hl0, <- hl1q, <- had, <- hat_] at HSF hca
              rw [<- hl2q, <- hl3, <- hbd, <- hbt] at HSF hcb
              have Za0 : Hid (wh.cell? ⟨ba, oa + 0, none⟩ = some (.slice u0 l0 e0)) := Lib.hid (hca 0 _ rfl)
              have Za1 : Hid (wh.cell? ⟨ba, oa + 1, none⟩ = some (.bool ad)) := Lib.hid (hca 1 _ rfl)
              have Za2 : Hid (wh.cell? ⟨ba, oa + 2, none⟩ = some (.string at_)) := Lib.hid (hca 2 _ rfl)
              have Za3 : Hid (wh.cell? ⟨ba, oa + 3, none⟩ = some (.slice u1 l1 e1)) := Lib.hid (hca 3 _ rfl)
              have Zb0 : Hid (wh.cell? ⟨bb, ob + 0, none⟩ = some (.slice v0 l2 f0)) := Lib.hid (hcb 0 _ rfl)
              have Zb1 : Hid (wh.cell? ⟨bb, ob + 1, none⟩ = some (.bool bd)) := Lib.hid (hcb 1 _ rfl)
              have Zb2 : Hid (wh.cell? ⟨bb, ob + 2, none⟩ = some (.string bt)) := Lib.hid (hcb 2 _ rfl)
              have Zb3 : Hid (wh.cell? ⟨bb, ob + 3, none⟩ = some (.slice v1 l3 f1)) := Lib.hid (hcb 3 _ rfl)
              have HlA := Lib.hid (World.block_lt_of_cell? wh _ Za0.out)
              have HlB := Lib.hid (World.block_lt_of_cell? wh _ Zb0.out)
              obtain ⟨tb, htb⟩ : ∃ x, x = decide (fa = fb) := ⟨_, rfl⟩
              rw [<- htb] at HSF
              have HTb := Lib.hid htb
              have hge1 : decide ((0 : Int) <= (j1 : Int)) = true := by simp
              have hge2 : decide ((0 : Int) <= (j2 : Int)) = true := by simp
              clear hkk hke hga hgb hT1 hT2 hl1 he1 hl2 he2 hVa hVb hina hinb hca hcb hs1 hs2 hl0 hl1q had hat_ hl2q hl3 hbd hbt htb
              go_wp2_with fail
              have q0_0 : wh.drew.cell? ⟨ba, oa, none⟩ = some (.slice u0 l0 e0) := Za0.out
              have q0_1 : wh.drew.cell? ⟨ba, oa + 1, none⟩ = some (.bool ad) := Za1.out
              have q0_2 : wh.drew.cell? ⟨ba, oa + 2, none⟩ = some (.string at_) := Za2.out
              have q0_3 : wh.drew.cell? ⟨ba, oa + 3, none⟩ = some (.slice u1 l1 e1) := Za3.out
              have q0_4 : wh.drew.cell? ⟨bb, ob, none⟩ = some (.slice v0 l2 f0) := Zb0.out
              have q0_5 : wh.drew.cell? ⟨bb, ob + 1, none⟩ = some (.bool bd) := Zb1.out
              have q0_6 : wh.drew.cell? ⟨bb, ob + 2, none⟩ = some (.string bt) := Zb2.out
              have q0_7 : wh.drew.cell? ⟨bb, ob + 3, none⟩ = some (.slice v1 l3 f1) := Zb3.out
              have HJ0 := Lib.hid HJb.out.drew
              have HR0 := Lib.hid HBb.out.drew
              refine wp_region_held_drew (S := (fun W => W.cell? ⟨ba, oa, none⟩ = some (.slice u0 l0 e0) /\ W.cell? ⟨ba, oa + 1, none⟩ = some (.bool ad) /\ W.cell? ⟨ba, oa + 2, none⟩ = some (.string at_) /\ W.cell? ⟨ba, oa + 3, none⟩ = some (.slice u1 l1 e1) /\ W.cell? ⟨bb, ob, none⟩ = some (.slice v0 l2 f0) /\ W.cell? ⟨bb, ob + 1, none⟩ = some (.bool bd) /\ W.cell? ⟨bb, ob + 2, none⟩ = some (.string bt) /\ W.cell? ⟨bb, ob + 3, none⟩ = some (.slice v1 l3 f1))) (by kernel_rfl) ⟨q0_0, q0_1, q0_2, q0_3, q0_4, q0_5, q0_6, q0_7⟩ (fun hHeld => ?_)
              refine wpAnyH_take (i := 0) (oi := _) (v := ?_) rfl (by kernel_rfl) (by kernel_rfl) (by kernel_rfl) (fun _ _ _ h => h) (Or.inl ⟨by kernel_rfl, ?_⟩) (by assumption) ?_
              rotate_left
              · intro w hSw
                obtain ⟨hS0, hS1, hS2, hS3, hS4, hS5, hS6, hS7⟩ := hSw
                go_simp
                all_goals with_reducible rfl
              try simp only [Act.put, List.getElem_toArray, List.getElem_cons_zero, List.getElem_cons_succ, List.setIfInBounds_toArray, List.set_cons_zero, List.set_cons_succ]
              refine wpAnyH_take (i := 1) (oi := _) (v := ?_) rfl (by kernel_rfl) (by kernel_rfl) (by kernel_rfl) (fun _ _ _ h => h) (Or.inl ⟨by kernel_rfl, ?_⟩) (by assumption) ?_
              rotate_left
              · intro w hSw
                obtain ⟨hS0, hS1, hS2, hS3, hS4, hS5, hS6, hS7⟩ := hSw
                go_simp
                all_goals with_reducible rfl
              try simp only [Act.put, List.getElem_toArray, List.getElem_cons_zero, List.getElem_cons_succ, List.setIfInBounds_toArray, List.set_cons_zero, List.set_cons_succ]
              refine wpAnyH_take (i := 3) (oi := _) (v := ?_) rfl (by kernel_rfl) (by kernel_rfl) (by kernel_rfl) (fun _ _ _ h => h) (Or.inl ⟨by kernel_rfl, ?_⟩) (by assumption) ?_
              rotate_left
              · intro w hSw
                obtain ⟨hS0, hS1, hS2, hS3, hS4, hS5, hS6, hS7⟩ := hSw
                go_simp
                all_goals with_reducible rfl
              try simp only [Act.put, List.getElem_toArray, List.getElem_cons_zero, List.getElem_cons_succ, List.setIfInBounds_toArray, List.set_cons_zero, List.set_cons_succ]
              refine wpAnyH_take (i := 4) (oi := _) (v := ?_) rfl (by kernel_rfl) (by kernel_rfl) (by kernel_rfl) (fun _ _ _ h => h) (Or.inl ⟨by kernel_rfl, ?_⟩) (by assumption) ?_
              rotate_left
              · intro w hSw
                obtain ⟨hS0, hS1, hS2, hS3, hS4, hS5, hS6, hS7⟩ := hSw
                go_simp
                all_goals with_reducible rfl
              try simp only [Act.put, List.getElem_toArray, List.getElem_cons_zero, List.getElem_cons_succ, List.setIfInBounds_toArray, List.set_cons_zero, List.set_cons_succ]
              refine wpAnyH_ready (rs := [2]) (by kernel_rfl) (by simp) ?_
              refine AllReadyH.cons (o := _) rfl (fun K hK => ?_) AllReadyH.nil
              go_simp
              go_at_call 19
              refine (HKa.out _ HJ0.out).mono ?_
              rintro e wr1 ⟨rfl, hb⟩
              have HJ1 := Lib.hid (HJ0.out.trans (hb.mono HJ0.out.size))
              have HR1 := Lib.hid (HR0.out.trans (hb.mono HR0.out.size))
              have q1_0 : wr1.cell? ⟨ba, oa, none⟩ = some (.slice u0 l0 e0) := (HJ1.out.cell HlA.out).trans Za0.out
              have q1_1 : wr1.cell? ⟨ba, oa + 1, none⟩ = some (.bool ad) := (HJ1.out.cell HlA.out).trans Za1.out
              have q1_2 : wr1.cell? ⟨ba, oa + 2, none⟩ = some (.string at_) := (HJ1.out.cell HlA.out).trans Za2.out
              have q1_3 : wr1.cell? ⟨ba, oa + 3, none⟩ = some (.slice u1 l1 e1) := (HJ1.out.cell HlA.out).trans Za3.out
              have q1_4 : wr1.cell? ⟨bb, ob, none⟩ = some (.slice v0 l2 f0) := (HJ1.out.cell HlB.out).trans Zb0.out
              have q1_5 : wr1.cell? ⟨bb, ob + 1, none⟩ = some (.bool bd) := (HJ1.out.cell HlB.out).trans Zb1.out
              have q1_6 : wr1.cell? ⟨bb, ob + 2, none⟩ = some (.string bt) := (HJ1.out.cell HlB.out).trans Zb2.out
              have q1_7 : wr1.cell? ⟨bb, ob + 3, none⟩ = some (.slice v1 l3 f1) := (HJ1.out.cell HlB.out).trans Zb3.out
              clear hb
              clear hHeld
              refine hK.out _ _ ?_ (fun hHeld => ?_)
              · exact ⟨q1_0, q1_1, q1_2, q1_3, q1_4, q1_5, q1_6, q1_7⟩
              clear hK K
              try simp only [Act.put, List.getElem_toArray, List.getElem_cons_zero, List.getElem_cons_succ, List.setIfInBounds_toArray, List.set_cons_zero, List.set_cons_succ]
              refine wpAnyH_ready (rs := [5]) (by kernel_rfl) (by simp) ?_
              refine AllReadyH.cons (o := _) rfl (fun K hK => ?_) AllReadyH.nil
              go_simp
              go_at_call 19
              refine (HKb.out _ HJ1.out).mono ?_
              rintro e wr2 ⟨rfl, hb⟩
              have HJ2 := Lib.hid (HJ1.out.trans (hb.mono HJ1.out.size))
              have HR2 := Lib.hid (HR1.out.trans (hb.mono HR1.out.size))
              have q2_0 : wr2.cell? ⟨ba, oa, none⟩ = some (.slice u0 l0 e0) := (HJ2.out.cell HlA.out).trans Za0.out
              have q2_1 : wr2.cell? ⟨ba, oa + 1, none⟩ = some (.bool ad) := (HJ2.out.cell HlA.out).trans Za1.out
              have q2_2 : wr2.cell? ⟨ba, oa + 2, none⟩ = some (.string at_) := (HJ2.out.cell HlA.out).trans Za2.out
              have q2_3 : wr2.cell? ⟨ba, oa + 3, none⟩ = some (.slice u1 l1 e1) := (HJ2.out.cell HlA.out).trans Za3.out
              have q2_4 : wr2.cell? ⟨bb, ob, none⟩ = some (.slice v0 l2 f0) := (HJ2.out.cell HlB.out).trans Zb0.out
              have q2_5 : wr2.cell? ⟨bb, ob + 1, none⟩ = some (.bool bd) := (HJ2.out.cell HlB.out).trans Zb1.out
              have q2_6 : wr2.cell? ⟨bb, ob + 2, none⟩ = some (.string bt) := (HJ2.out.cell HlB.out).trans Zb2.out
              have q2_7 : wr2.cell? ⟨bb, ob + 3, none⟩ = some (.slice v1 l3 f1) := (HJ2.out.cell HlB.out).trans Zb3.out
              clear hb
              clear hHeld
              refine hK.out _ _ ?_ (fun hHeld => ?_)
              · exact ⟨q2_0, q2_1, q2_2, q2_3, q2_4, q2_5, q2_6, q2_7⟩
              clear hK K
              try simp only [Act.put, List.getElem_toArray, List.getElem_cons_zero, List.getElem_cons_succ, List.setIfInBounds_toArray, List.set_cons_zero, List.set_cons_succ]
              refine wpAnyH_take (i := 6) (oi := _) (v := ?_) rfl (by kernel_rfl) (by kernel_rfl) (by kernel_rfl) (fun _ _ _ h => h) (Or.inl ⟨by kernel_rfl, ?_⟩) (by assumption) ?_
              rotate_left
              · intro w hSw
                obtain ⟨hS0, hS1, hS2, hS3, hS4, hS5, hS6, hS7⟩ := hSw
                go_simp
                all_goals with_reducible rfl
              try simp only [Act.put, List.getElem_toArray, List.getElem_cons_zero, List.getElem_cons_succ, List.setIfInBounds_toArray, List.set_cons_zero, List.set_cons_succ]
              refine wpAnyH_take (i := 7) (oi := _) (v := ?_) rfl (by kernel_rfl) (by kernel_rfl) (by kernel_rfl) (fun _ _ _ h => h) (Or.inl ⟨by kernel_rfl, ?_⟩) (by assumption) ?_
              rotate_left
              · intro w hSw
                obtain ⟨hS0, hS1, hS2, hS3, hS4, hS5, hS6, hS7⟩ := hSw
                go_simp
                all_goals with_reducible rfl
              try simp only [Act.put, List.getElem_toArray, List.getElem_cons_zero, List.getElem_cons_succ, List.setIfInBounds_toArray, List.set_cons_zero, List.set_cons_succ]
              refine wpAnyH_take (i := 8) (oi := _) (v := ?_) rfl (by kernel_rfl) (by kernel_rfl) (by kernel_rfl) (fun _ _ _ h => h) (Or.inl ⟨by kernel_rfl, ?_⟩) (by assumption) ?_
              rotate_left
              · intro w hSw
                obtain ⟨hS0, hS1, hS2, hS3, hS4, hS5, hS6, hS7⟩ := hSw
                go_simp
                all_goals with_reducible rfl
              try simp only [Act.put, List.getElem_toArray, List.getElem_cons_zero, List.getElem_cons_succ, List.setIfInBounds_toArray, List.set_cons_zero, List.set_cons_succ]
              refine wpAnyH_take (i := 9) (oi := _) (v := ?_) rfl (by kernel_rfl) (by kernel_rfl) (by kernel_rfl) (fun _ _ _ h => h) (Or.inl ⟨by kernel_rfl, ?_⟩) (by assumption) ?_
              rotate_left
              · intro w hSw
                obtain ⟨hS0, hS1, hS2, hS3, hS4, hS5, hS6, hS7⟩ := hSw
                go_simp
                all_goals with_reducible rfl
              try simp only [Act.put, List.getElem_toArray, List.getElem_cons_zero, List.getElem_cons_succ, List.setIfInBounds_toArray, List.set_cons_zero, List.set_cons_succ]
              refine wpAnyH_take (i := 10) (oi := _) (v := ?_) rfl (by kernel_rfl) (by kernel_rfl) (by kernel_rfl) (fun _ _ _ h => h) (Or.inl ⟨by kernel_rfl, ?_⟩) (by assumption) ?_
              rotate_left
              · intro w hSw
                obtain ⟨hS0, hS1, hS2, hS3, hS4, hS5, hS6, hS7⟩ := hSw
                go_simp
                all_goals with_reducible rfl
              try simp only [Act.put, List.getElem_toArray, List.getElem_cons_zero, List.getElem_cons_succ, List.setIfInBounds_toArray, List.set_cons_zero, List.set_cons_succ]
              refine wpAnyH_take (i := 11) (oi := _) (v := ?_) rfl (by kernel_rfl) (by kernel_rfl) (by kernel_rfl) (fun _ _ _ h => h) (Or.inl ⟨by kernel_rfl, ?_⟩) (by assumption) ?_
              rotate_left
              · intro w hSw
                obtain ⟨hS0, hS1, hS2, hS3, hS4, hS5, hS6, hS7⟩ := hSw
                go_simp
                all_goals with_reducible rfl
              try simp only [Act.put, List.getElem_toArray, List.getElem_cons_zero, List.getElem_cons_succ, List.setIfInBounds_toArray, List.set_cons_zero, List.set_cons_succ]
              refine wpAnyH_take (i := 12) (oi := _) (v := ?_) rfl (by kernel_rfl) (by kernel_rfl) (by kernel_rfl) (fun _ _ _ h => h) (Or.inl ⟨by kernel_rfl, ?_⟩) (by assumption) ?_
              rotate_left
              · intro w hSw
                obtain ⟨hS0, hS1, hS2, hS3, hS4, hS5, hS6, hS7⟩ := hSw
                go_simp
                all_goals with_reducible rfl
              try simp only [Act.put, List.getElem_toArray, List.getElem_cons_zero, List.getElem_cons_succ, List.setIfInBounds_toArray, List.set_cons_zero, List.set_cons_succ]
              refine wpAnyH_take (i := 13) (oi := _) (v := ?_) rfl (by kernel_rfl) (by kernel_rfl) (by kernel_rfl) (fun _ _ _ h => h) (Or.inl ⟨by kernel_rfl, ?_⟩) (by assumption) ?_
              rotate_left
              · intro w hSw
                obtain ⟨hS0, hS1, hS2, hS3, hS4, hS5, hS6, hS7⟩ := hSw
                go_simp
                all_goals with_reducible rfl
              try simp only [Act.put, List.getElem_toArray, List.getElem_cons_zero, List.getElem_cons_succ, List.setIfInBounds_toArray, List.set_cons_zero, List.set_cons_succ]
              refine wpAnyH_take (i := 14) (oi := _) (v := ?_) rfl (by kernel_rfl) (by kernel_rfl) (by kernel_rfl) (fun _ _ _ h => h) (Or.inl ⟨by kernel_rfl, ?_⟩) (by assumption) ?_
              rotate_left
              · intro w hSw
                obtain ⟨hS0, hS1, hS2, hS3, hS4, hS5, hS6, hS7⟩ := hSw
                go_simp
                all_goals with_reducible rfl
              try simp only [Act.put, List.getElem_toArray, List.getElem_cons_zero, List.getElem_cons_succ, List.setIfInBounds_toArray, List.set_cons_zero, List.set_cons_succ]
              refine wpAnyH_take (i := 15) (oi := _) (v := ?_) rfl (by kernel_rfl) (by kernel_rfl) (by kernel_rfl) (fun _ _ _ h => h) (Or.inl ⟨by kernel_rfl, ?_⟩) (by assumption) ?_
              rotate_left
              · intro w hSw
                obtain ⟨hS0, hS1, hS2, hS3, hS4, hS5, hS6, hS7⟩ := hSw
                go_simp
                all_goals with_reducible rfl
              try simp only [Act.put, List.getElem_toArray, List.getElem_cons_zero, List.getElem_cons_succ, List.setIfInBounds_toArray, List.set_cons_zero, List.set_cons_succ]
              refine wpAnyH_take (i := 16) (oi := _) (v := ?_) rfl (by kernel_rfl) (by kernel_rfl) (by kernel_rfl) (fun _ _ _ h => h) (Or.inl ⟨by kernel_rfl, ?_⟩) (by assumption) ?_
              rotate_left
              · intro w hSw
                obtain ⟨hS0, hS1, hS2, hS3, hS4, hS5, hS6, hS7⟩ := hSw
                go_simp
                all_goals with_reducible rfl
              try simp only [Act.put, List.getElem_toArray, List.getElem_cons_zero, List.getElem_cons_succ, List.setIfInBounds_toArray, List.set_cons_zero, List.set_cons_succ]
              refine wpAnyH_take (i := 17) (oi := _) (v := ?_) rfl (by kernel_rfl) (by kernel_rfl) (by kernel_rfl) (fun _ _ _ h => h) (Or.inl ⟨by kernel_rfl, ?_⟩) (by assumption) ?_
              rotate_left
              · intro w hSw
                obtain ⟨hS0, hS1, hS2, hS3, hS4, hS5, hS6, hS7⟩ := hSw
                go_simp
                all_goals with_reducible rfl
              try simp only [Act.put, List.getElem_toArray, List.getElem_cons_zero, List.getElem_cons_succ, List.setIfInBounds_toArray, List.set_cons_zero, List.set_cons_succ]
              refine wpAnyH_take (i := 18) (oi := _) (v := ?_) rfl (by kernel_rfl) (by kernel_rfl) (by kernel_rfl) (fun _ _ _ h => h) (Or.inl ⟨by kernel_rfl, ?_⟩) (by assumption) ?_
              rotate_left
              · intro w hSw
                obtain ⟨hS0, hS1, hS2, hS3, hS4, hS5, hS6, hS7⟩ := hSw
                go_simp
                all_goals with_reducible rfl
              try simp only [Act.put, List.getElem_toArray, List.getElem_cons_zero, List.getElem_cons_succ, List.setIfInBounds_toArray, List.set_cons_zero, List.set_cons_succ]
              refine wpAnyH_take (i := 19) (oi := _) (v := ?_) rfl (by kernel_rfl) (by kernel_rfl) (by kernel_rfl) (fun _ _ _ h => h) (Or.inl ⟨by kernel_rfl, ?_⟩) (by assumption) ?_
              rotate_left
              · intro w hSw
                obtain ⟨hS0, hS1, hS2, hS3, hS4, hS5, hS6, hS7⟩ := hSw
                go_simp
                all_goals with_reducible rfl
              try simp only [Act.put, List.getElem_toArray, List.getElem_cons_zero, List.getElem_cons_succ, List.setIfInBounds_toArray, List.set_cons_zero, List.set_cons_succ]
              refine wpAnyH_take (i := 20) (oi := _) (v := ?_) rfl (by kernel_rfl) (by kernel_rfl) (by kernel_rfl) (fun _ _ _ h => h) (Or.inl ⟨by kernel_rfl, ?_⟩) (by assumption) ?_
              rotate_left
              · intro w hSw
                obtain ⟨hS0, hS1, hS2, hS3, hS4, hS5, hS6, hS7⟩ := hSw
                go_simp
                all_goals with_reducible rfl
              try simp only [Act.put, List.getElem_toArray, List.getElem_cons_zero, List.getElem_cons_succ, List.setIfInBounds_toArray, List.set_cons_zero, List.set_cons_succ]
              refine wpAnyH_take (i := 21) (oi := _) (v := ?_) rfl (by kernel_rfl) (by kernel_rfl) (by kernel_rfl) (fun _ _ _ h => h) (Or.inl ⟨by kernel_rfl, ?_⟩) (by assumption) ?_
              rotate_left
              · intro w hSw
                obtain ⟨hS0, hS1, hS2, hS3, hS4, hS5, hS6, hS7⟩ := hSw
                go_simp
                all_goals with_reducible rfl
              try simp only [Act.put, List.getElem_toArray, List.getElem_cons_zero, List.getElem_cons_succ, List.setIfInBounds_toArray, List.set_cons_zero, List.set_cons_succ]
              refine wpAnyH_take (i := 22) (oi := _) (v := ?_) rfl (by kernel_rfl) (by kernel_rfl) (by kernel_rfl) (fun _ _ _ h => h) (Or.inl ⟨by kernel_rfl, ?_⟩) (by assumption) ?_
              rotate_left
              · intro w hSw
                obtain ⟨hS0, hS1, hS2, hS3, hS4, hS5, hS6, hS7⟩ := hSw
                go_simp
                all_goals with_reducible rfl
              try simp only [Act.put, List.getElem_toArray, List.getElem_cons_zero, List.getElem_cons_succ, List.setIfInBounds_toArray, List.set_cons_zero, List.set_cons_succ]
              refine wpAnyH_ready (rs := [23]) (by kernel_rfl) (by simp) ?_
              refine AllReadyH.cons (o := _) rfl (fun K hK => ?_) AllReadyH.nil
              go_simp
              go_at_call 16
              refine (HSF.out _ HJ2.out).mono ?_
              rintro e wr3 ⟨rfl, hb⟩
              have HJ3 := Lib.hid (HJ2.out.trans (hb.mono HJ2.out.size))
              have HR3 := Lib.hid (HR2.out.trans (hb.mono HR2.out.size))
              have q3_0 : wr3.cell? ⟨ba, oa, none⟩ = some (.slice u0 l0 e0) := (HJ3.out.cell HlA.out).trans Za0.out
              have q3_1 : wr3.cell? ⟨ba, oa + 1, none⟩ = some (.bool ad) := (HJ3.out.cell HlA.out).trans Za1.out
              have q3_2 : wr3.cell? ⟨ba, oa + 2, none⟩ = some (.string at_) := (HJ3.out.cell HlA.out).trans Za2.out
              have q3_3 : wr3.cell? ⟨ba, oa + 3, none⟩ = some (.slice u1 l1 e1) := (HJ3.out.cell HlA.out).trans Za3.out
              have q3_4 : wr3.cell? ⟨bb, ob, none⟩ = some (.slice v0 l2 f0) := (HJ3.out.cell HlB.out).trans Zb0.out
              have q3_5 : wr3.cell? ⟨bb, ob + 1, none⟩ = some (.bool bd) := (HJ3.out.cell HlB.out).trans Zb1.out
              have q3_6 : wr3.cell? ⟨bb, ob + 2, none⟩ = some (.string bt) := (HJ3.out.cell HlB.out).trans Zb2.out
              have q3_7 : wr3.cell? ⟨bb, ob + 3, none⟩ = some (.slice v1 l3 f1) := (HJ3.out.cell HlB.out).trans Zb3.out
              clear hb
              clear hHeld
              refine hK.out _ _ ?_ (fun hHeld => ?_)
              · exact ⟨q3_0, q3_1, q3_2, q3_3, q3_4, q3_5, q3_6, q3_7⟩
              clear hK K
              try simp only [Act.put, List.getElem_toArray, List.getElem_cons_zero, List.getElem_cons_succ, List.setIfInBounds_toArray, List.set_cons_zero, List.set_cons_succ]
              refine wpAnyH_take (i := 24) (oi := _) (v := ?_) rfl (by kernel_rfl) (by kernel_rfl) (by kernel_rfl) (fun _ _ _ h => h) (Or.inl ⟨by kernel_rfl, ?_⟩) (by assumption) ?_
              rotate_left
              · intro w hSw
                obtain ⟨hS0, hS1, hS2, hS3, hS4, hS5, hS6, hS7⟩ := hSw
                go_simp
                all_goals with_reducible rfl
              try simp only [Act.put, List.getElem_toArray, List.getElem_cons_zero, List.getElem_cons_succ, List.setIfInBounds_toArray, List.set_cons_zero, List.set_cons_succ]
              refine wpAnyH_take (i := 25) (oi := _) (v := ?_) rfl (by kernel_rfl) (by kernel_rfl) (by kernel_rfl) (fun _ _ _ h => h) (Or.inl ⟨by kernel_rfl, ?_⟩) (by assumption) ?_
              rotate_left
              · intro w hSw
                obtain ⟨hS0, hS1, hS2, hS3, hS4, hS5, hS6, hS7⟩ := hSw
                go_simp
                all_goals with_reducible rfl
              try simp only [Act.put, List.getElem_toArray, List.getElem_cons_zero, List.getElem_cons_succ, List.setIfInBounds_toArray, List.set_cons_zero, List.set_cons_succ]
              refine wpAnyH_take (i := 26) (oi := _) (v := ?_) rfl (by kernel_rfl) (by kernel_rfl) (by kernel_rfl) (fun _ _ _ h => h) (Or.inl ⟨by kernel_rfl, ?_⟩) (by assumption) ?_
              rotate_left
              · intro w hSw
                obtain ⟨hS0, hS1, hS2, hS3, hS4, hS5, hS6, hS7⟩ := hSw
                go_simp
                all_goals with_reducible rfl
              try simp only [Act.put, List.getElem_toArray, List.getElem_cons_zero, List.getElem_cons_succ, List.setIfInBounds_toArray, List.set_cons_zero, List.set_cons_succ]
              refine wpAnyH_done (by kernel_rfl) ?_ _
              have HBz := Lib.hid (HBhi.out.trans (HJ3.out.mono HBhi.out.size))
              cases tb
              · go_wp2
                go_ret
                exact saysIn_k24 rfl HR3.out
              · have HAn2 := Lib.hid (HAn.out (of_decide_eq_true HTb.out.symm))
                go_wp2
                go_roundw
                case rel => exact ⟨k + 1, by omega, by go_num, HAn2, HBz⟩
                case measure => simp [intOf]; omega
        · obtain rfl : k = 1 := by omega
          have HWr := Lib.hid (HB9.out.trans (HBi.out.mono HB9.out.size))
          have HGr := Lib.hid (HGb.out _ _ HG9.out HBi.out)
          have XBr := Lib.hid (XB9.out.below HBi.out)
          have HTar := Lib.hid (HTa9.out.below HBi.out)
          have HTbr := Lib.hid (HTb9.out.below HBi.out)
          have HEq := Lib.hid (show fndR A root segs false index true = fndR B root segs false index true from fndR_agree (HAg.out 0 (by simp) (by decide)) (fun h => by cases h))
          clear HAg
          obtain ⟨Wm, hWm⟩ : ∃ x, x = wr.alloc (.cells #[.slice none 0 0, .slice none 0 0] 37) := ⟨_, rfl⟩
          have hbm : Below wr.heap.size wr Wm := by rw [hWm]; exact (Below.refl _ _).alloc (Nat.le_refl _) _
          have hPm : Perm (fun _ => True) Wm wr.heap.size (wr.heap.size + 1) 0 (.slice none 0 0) [] := by rw [hWm]; exact perm_new wr _ _ (.inl ⟨rfl, .inl rfl⟩) (fun h => absurd rfl h)
          have hBm := HWr.out.trans (hbm.mono HWr.out.size)
          have hGm := HGb.out _ _ HGr.out hbm
          have hw7 : w7.heap.size <= wr.heap.size := H78.out |> fun h => Nat.le_trans h (Nat.le_trans HJ9.out.size HBi.out.size)
          have hRta : ∀ k, (w5.heap.size <= k /\ k < w6.heap.size) -> ¬ PermS Wm wr.heap.size k := by
            rintro k ⟨_, hk⟩ (e | e)
            · have := H67a.out; omega
            · rw [hWm] at e; exact asked_new wr _ k e
          have HFi := Lib.hid (HF.out.find (fun _ => True) _ (.pointer (some ⟨tp, 0, none⟩)) vr (.slice ps ns cs) (.slice none 0 0) (some A) root segs [] false index wr.heap.size (wr.heap.size + 1) 0 Wm hGm (.tree tp A (HTar.out.below hbm) HRG.out HSm.out (by have := HT30.out; omega)) hRta (HPr.out _ hBm) (apart_old (HPr.out w (Below.refl _ _)) HWr.out.size hPm) (HPs.out _ hBm) (apart_old (HPs.out w (Below.refl _ _)) HWr.out.size hPm) hPm trivial (by decide) (by have := HA2.out; omega) (by have := HB2s.out; omega) (fun x hx => by have := HA1.out x hx; omega) (fun x hx => by have := HB1s.out x hx; omega) (by have := HIz.out; omega))
          unfold mayV at HFi
          rw [show mayP [] (segs ++ [index]) = true from rfl, show fndO (some A) root segs false index true = fndR A root segs false index true from rfl] at HFi
          have hIs := fnd_is HRG.out root segs false index true
          have hSmX := small_found hIs HSm.out
          generalize fndR A root segs false index true = r at HFi hIs hSmX HEq
          obtain ⟨X, hX⟩ : ∃ X, X = r.2.getD zeroF := ⟨_, rfl⟩
          rw [<- hX] at hSmX
          have HSX := Lib.hid hSmX
          have HXd := Lib.hid hX
          obtain ⟨kr, hkr⟩ : ∃ x, x = r.1 := ⟨_, rfl⟩
          have Hkr := Lib.hid hkr
          obtain ⟨x0, hx0⟩ : ∃ x, x = X.1.length := ⟨_, rfl⟩
          obtain ⟨xd, hxd⟩ : ∃ x, x = X.2.1 := ⟨_, rfl⟩
          obtain ⟨xt, hxt⟩ : ∃ x, x = X.2.2.1 := ⟨_, rfl⟩
          obtain ⟨x1, hx1⟩ : ∃ x, x = X.2.2.2.length := ⟨_, rfl⟩
          have Hx0 := Lib.hid hx0
          have Hx1 := Lib.hid hx1
          have Hxd := Lib.hid hxd
          have Hxt := Lib.hid hxt
          have xm0 : (wr.alloc (.cells #[.slice none 0 0, .slice none 0 0] 37)).cell? ⟨w.heap.size, 0, none⟩ = some (.slice ps ns cs) := by rw [<- hWm]; exact (XBr.out.below hbm).cell rfl
          have xm1 : (wr.alloc (.cells #[.slice none 0 0, .slice none 0 0] 37)).cell? ⟨w.heap.size, 1, none⟩ = some (.bool false) := by rw [<- hWm]; exact (XBr.out.below hbm).cell rfl
          have HWm := Lib.hid hWm
          have HPm := Lib.hid hPm
          have HXm := Lib.hid (XBr.out.below hbm)
          have HBm := Lib.hid hBm
          have HGm := Lib.hid hGm
          have HTbm := Lib.hid (HTbr.out.below hbm)
          have HLw := Lib.hid (Nat.lt_of_lt_of_le (XBr.out.lt (by simp)) (Nat.le_refl wr.heap.size))
          have HW7r := Lib.hid hw7
          have Hmr := Lib.hid hbm
          clear hWm hbm hPm hBm hGm hw7 hRta hIs hSmX hX hkr hx0 hxd hxt hx1
          go_wp2_with fail
          rw [<- HWm.out]
          refine HFi.out.mono ?_
          rintro e v1 ⟨csF, m1, rfl, hin, hm1, hP1, hA1⟩
          rw [<- HXd.out] at hin
          have hO1 := HPm.out.only hA1
          have hBv : Below w.heap.size w v1 := HBm.out.trans (hO1.below w.heap.size HBm.out.size fun k hk => by have := HWr.out.size; omega)
          have hGv := HF.out.asks _ _ _ _ HGm.out (Nat.lt_succ_self _) hO1 (Nat.le_trans Hgz.out HWr.out.size)
          obtain ⟨y0, y1, y2, y3, rfl, _⟩ := fileK_parts hin
          rw [<- Hx0.out, <- Hx1.out, <- Hxd.out, <- Hxt.out] at hin ⊢
          rw [<- Hkr.out]
          obtain ⟨V1, hV1⟩ : ∃ x, x = v1.alloc (.cells #[.int .i64 kr, .slice y0 x0 y1, .bool xd, .string xt, .slice y2 x1 y3] 42) := ⟨_, rfl⟩
          have hb1 : Below v1.heap.size v1 V1 := by rw [hV1]; exact (Below.refl _ _).alloc (Nat.le_refl _) _
          have hxr : Box V1 v1.heap.size [.int .i64 kr, .slice y0 x0 y1, .bool xd, .string xt, .slice y2 x1 y3] := by rw [hV1]; exact Box.new v1 _ _
          have HO1 := Lib.hid hO1
          have HP1 := Lib.hid (hP1.below hb1)
          have HBV := Lib.hid (hBv.trans (hb1.mono hBv.size))
          have HGV := Lib.hid (HGb.out _ _ hGv hb1)
          have HXv := Lib.hid ((HXm.out.only hO1 (by have := HLw.out; omega)).below hb1)
          have hTbV : TreeAt (fun k => w6.heap.size <= k /\ k < w7.heap.size) V1 tq B := (HTbm.out.only hO1 (fun k hk e => by have := HW7r.out; omega)).below hb1
          have hInV := fileK.below hin hb1
          have hPv := HP1.out
          have hAsV : ∀ k, Asked V1 wr.heap.size k -> k < v1.heap.size := fun k hk => by
            obtain ⟨av, xs, h1, h2, _⟩ := hP1.asked
            obtain ⟨u, hu, hk⟩ := hk
            have h3 : V1.cell? ⟨wr.heap.size, 1, none⟩ = some av := (h1.below hb1).cell rfl
            rw [h3] at hu
            obtain rfl := Option.some.inj hu
            exact (World.ownsRow.lt h2 k hk).2
          have hAsE : ∀ k, Asked V1 wr.heap.size k -> Asked v1 wr.heap.size k := fun k hk => by
            obtain ⟨av, xs, h1, h2, _⟩ := hP1.asked
            obtain ⟨u, hu, hk⟩ := hk
            have h3 : V1.cell? ⟨wr.heap.size, 1, none⟩ = some av := (h1.below hb1).cell rfl
            rw [h3] at hu
            obtain rfl := Option.some.inj hu
            exact ⟨_, h1.cell rfl, hk⟩
          have hRtb : ∀ k, (w6.heap.size <= k /\ k < w7.heap.size) -> ¬ PermS V1 wr.heap.size k := by
            rintro k ⟨_, hk⟩ (e | e)
            · have := HW7r.out; omega
            · have := (hPv.askedGe e).1; have := HW7r.out; omega
          have HFj := Lib.hid (HF.out.find (fun _ => True) _ (.pointer (some ⟨tq, 0, none⟩)) vr (.slice ps ns cs) (.slice none 0 0) (some B) root segs [] false index wr.heap.size (wr.heap.size + 1) m1 V1 HGV.out (.tree tq B hTbV HRGb.out HSmb.out (by have := HT30b.out; omega)) hRtb (HPr.out _ HBV.out) (apart_old (HPr.out w (Below.refl _ _)) HWr.out.size hPv) (HPs.out _ HBV.out) (apart_old (HPs.out w (Below.refl _ _)) HWr.out.size hPv) hPv trivial (by omega) (by have := HA2.out; omega) (by have := HB2s.out; omega) (fun x hx => by have := HA1.out x hx; omega) (fun x hx => by have := HB1s.out x hx; omega) (by have := HIz.out; omega))
          unfold mayV at HFj
          rw [show mayP [] (segs ++ [index]) = true from rfl, show fndO (some B) root segs false index true = fndR B root segs false index true from rfl, <- HEq.out] at HFj
          have xn0 : (v1.alloc (.cells #[.int .i64 kr, .slice y0 x0 y1, .bool xd, .string xt, .slice y2 x1 y3] 42)).cell? ⟨w.heap.size, 0, none⟩ = some (.slice ps ns cs) := by rw [<- hV1]; exact HXv.out.cell rfl
          have xn1 : (v1.alloc (.cells #[.int .i64 kr, .slice y0 x0 y1, .bool xd, .string xt, .slice y2 x1 y3] 42)).cell? ⟨w.heap.size, 1, none⟩ = some (.bool false) := by rw [<- hV1]; exact HXv.out.cell rfl
          have HV1 := Lib.hid hV1
          have HXr := Lib.hid hxr
          have HInV := Lib.hid hInV
          have HAsV := Lib.hid hAsV
          have HAsE := Lib.hid hAsE
          have HSz1 := Lib.hid (show wr.heap.size < v1.heap.size from Nat.lt_of_lt_of_le (by have := HPm.out.lt; have := HPm.out.le; omega) hO1.size)
          have HgeM := Lib.hid (show wr.heap.size + 1 <= Wm.heap.size from HPm.out.le)
          clear hin hm1 hP1 hA1 hO1 hBv hGv hV1 hb1 hxr hTbV hInV hPv hAsV hAsE hRtb xm0 xm1
          go_wp2_with fail
          rw [<- HV1.out]
          refine HFj.out.mono ?_
          rintro e v2 ⟨csG, m2, rfl, hin2, _, _, hA2⟩
          rw [<- HXd.out] at hin2
          have hxr2 := HXr.out.only hA2.only (by
            rintro (e | e)
            · have := HSz1.out; omega
            · have := HAsV.out _ e; omega)
          have hIn2 := fileK.only HInV.out hA2.only (fun k hk e => by
            rcases e with e | e
            · have := hk.1; have := HgeM.out; omega
            · exact hk.2.2 (HAsE.out k e))
          have hBz : Below w.heap.size w v2 := HBV.out.trans ((HP1.out.only hA2).below w.heap.size HBV.out.size fun k hk => by have := HWr.out.size; omega)
          obtain ⟨z0, z1, z2, z3, rfl, _⟩ := fileK_parts hin2
          rw [<- Hx0.out, <- Hx1.out, <- Hxd.out, <- Hxt.out] at hin2 ⊢
          rw [<- Hkr.out]
          obtain ⟨V2, hV2⟩ : ∃ x, x = v2.alloc (.cells #[.int .i64 kr, .slice z0 x0 z1, .bool xd, .string xt, .slice z2 x1 z3] 42) := ⟨_, rfl⟩
          have hb2 : Below v2.heap.size v2 V2 := by rw [hV2]; exact (Below.refl _ _).alloc (Nat.le_refl _) _
          have HSF := Lib.hid (sameFile_any _ _ X V2 (fileK.below hIn2 hb2) (fileK.below hin2 hb2) HSX.out)
          have HBz := Lib.hid (hBz.trans (hb2.mono hBz.size))
          have HV2 := Lib.hid hV2
          have t0 : (v2.alloc (.cells #[.int .i64 kr, .slice z0 x0 z1, .bool xd, .string xt, .slice z2 x1 z3] 42)).cell? ⟨v1.heap.size, 0, none⟩ = some (.int .i64 kr) := by rw [<- hV2]; exact (hxr2.below hb2).cell rfl
          have t1 : (v2.alloc (.cells #[.int .i64 kr, .slice z0 x0 z1, .bool xd, .string xt, .slice z2 x1 z3] 42)).cell? ⟨v1.heap.size, 1, none⟩ = some (.slice y0 x0 y1) := by rw [<- hV2]; exact (hxr2.below hb2).cell rfl
          have t2 : (v2.alloc (.cells #[.int .i64 kr, .slice z0 x0 z1, .bool xd, .string xt, .slice z2 x1 z3] 42)).cell? ⟨v1.heap.size, 2, none⟩ = some (.bool xd) := by rw [<- hV2]; exact (hxr2.below hb2).cell rfl
          have t3 : (v2.alloc (.cells #[.int .i64 kr, .slice z0 x0 z1, .bool xd, .string xt, .slice z2 x1 z3] 42)).cell? ⟨v1.heap.size, 3, none⟩ = some (.string xt) := by rw [<- hV2]; exact (hxr2.below hb2).cell rfl
          have t4 : (v2.alloc (.cells #[.int .i64 kr, .slice z0 x0 z1, .bool xd, .string xt, .slice z2 x1 z3] 42)).cell? ⟨v1.heap.size, 4, none⟩ = some (.slice y2 x1 y3) := by rw [<- hV2]; exact (hxr2.below hb2).cell rfl
          clear hin2 hA2 hxr2 hIn2 hBz hV2 hb2 xn0 xn1
          go_wp2_with fail
          rw [<- HV2.out]
          refine HSF.out.mono ?_
          rintro e v3 ⟨rfl, hb⟩
          have HBe := Lib.hid (HBz.out.trans (hb.mono HBz.out.size))
          clear hb
          go_wp2
          go_ret
          exact saysIn_k24 rfl HBe.out
  · have HLk := Lib.hid (show Calls _ _ _ w7 (LookedTo [segs, segs ++ [index]] w7) from HLk.out)
    go_wp2_with fail
    refine HLk.out.mono ?_
    rintro e w8 ⟨vl, rfl, hl8, hb⟩
    have HB8 := Lib.hid (HB7.out.trans (hb.mono HB7.out.size))
    have XB8 := Lib.hid (XB7.out.below hb)
    have HTa8 := Lib.hid (HTa.out.below hb)
    have H78 := Lib.hid hb.size
    have HTb8 := Lib.hid (HTb.out.below hb)
    have HG8 := Lib.hid (HGb.out _ _ HG7.out hb)
    obtain ⟨pl, cl, hvl⟩ := Kind.rows_sliced _ hl8
    have hvl : vl = .slice pl 2 cl := hvl
    subst hvl
    have HL8 := Lib.hid hl8
    clear hb hl8 xb7_0 xb7_1
    have y0 : w8.drew.cell? ⟨w.heap.size, 0, none⟩ = some (.slice ps ns cs) := XB8.out.cell rfl
    have bB : Below w8.heap.size w8 ((w8.alloc (.cells #[.string index] 9)).drew) := ((Below.refl _ _).alloc (Nat.le_refl _) _).drew
    have yB0 : ((w8.alloc (.cells #[.string index] 9)).drew).cell? ⟨w.heap.size, 0, none⟩ = some (.slice ps ns cs) := (XB8.out.below bB).cell rfl
    have HLit := Lib.hid (show StrsIn ((w8.alloc (.cells #[.string index] 9)).drew) (.slice (some ⟨w8.heap.size, 0, none⟩) 1 1) [index] from lit_strsA w8 [index] (by simp))
    have HBl := Lib.hid (HB8.out.trans (bB.mono HB8.out.size))
    have HFu := Lib.hid (refFull_any (.slice ps ns cs) (.slice (some ⟨w8.heap.size, 0, none⟩) 1 1) segs [index] _ (HPs.out _ HBl.out) HLit.out (by have := HB2s.out; omega) (by simp))
    go_wp2_with fail
    go_region_held3 (fun W => W.cell? ⟨w.heap.size, 0, none⟩ = some (.slice ps ns cs)) (first | with_reducible exact y0 | with_reducible exact yB0 | with_reducible exact yC0 | with_reducible exact yD0) ((go_at_call 13; refine HFu.out.mono ?_; rintro e wr1 ⟨vw, rfl, hsw, _, hb⟩; obtain ⟨pw, cw, hvw⟩ := hsw.sliced; obtain ⟨nq, hnq⟩ : ∃ x, x = (segs ++ [index]).length := ⟨_, rfl⟩; rw [<- hnq] at hvw; subst hvw; have Hnq := Lib.hid hnq; have HSw := Lib.hid hsw; have HJ1 := Lib.hid (bB.trans (hb.mono bB.size)); have yC0 : wr1.cell? ⟨w.heap.size, 0, none⟩ = some (.slice ps ns cs) := (XB8.out.below HJ1.out).cell rfl; have HJ2 := Lib.hid (HJ1.out.alloc HJ1.out.size (.cells #[.slice ps ns cs, .slice pw nq cw] 24)); have yD0 : (wr1.alloc (.cells #[.slice ps ns cs, .slice pw nq cw] 24)).cell? ⟨w.heap.size, 0, none⟩ = some (.slice ps ns cs) := (XB8.out.below HJ2.out).cell rfl; clear hb hsw hnq))
    all_goals
      obtain ⟨W9, hW9⟩ : ∃ x, x = wr1.alloc (.cells #[.slice ps ns cs, .slice pw nq cw] 24) := ⟨_, rfl⟩
      obtain ⟨bw, hbw⟩ : ∃ x, x = wr1.heap.size := ⟨_, rfl⟩
      have hb9 : Below wr1.heap.size wr1 W9 := by rw [hW9]; exact (Below.refl _ _).alloc (Nat.le_refl _) _
      have HJ9 := Lib.hid (HJ1.out.trans (hb9.mono HJ1.out.size))
      have HB9 := Lib.hid (HB8.out.trans (HJ9.out.mono HB8.out.size))
      have hc9 : Box W9 bw [.slice ps ns cs, .slice pw nq cw] := by rw [hW9, hbw]; exact Box.new wr1 _ _
      have HSe9 := Lib.hid (HPs.out _ HB9.out)
      have HSw9 := Lib.hid (HSw.out.below hb9)
      have HW9 := Lib.hid (show (Kind.slice Kind.str).rows (fun _ => True) W9 (.slice (some ⟨bw, 0, none⟩) 2 2) [segs, segs ++ [index]] from paths_rows (by simp) (by decide) (fun i Q hQ => by
          match i, hQ with
          | 0, hQ =>
            obtain rfl := by simpa using hQ
            exact ⟨_, hc9.cell (i := 0) rfl, HSe9.out⟩
          | 1, hQ =>
            obtain rfl := by simpa using hQ
            exact ⟨_, hc9.cell (i := 1) rfl, HSw9.out⟩
          | i + 2, hQ => simp at hQ))
      have HL9 := Lib.hid (show (Kind.slice Kind.str).rows (fun _ => True) W9 (.slice pl 2 cl) [segs, segs ++ [index]] from Kind.rows_below _ HL8.out HJ9.out)
      have yP1 : W9.cell? ⟨w.heap.size, 1, none⟩ = some (.bool true) := (XB8.out.below HJ9.out).cell (i := 1) rfl
      have XB9 := Lib.hid (XB8.out.below HJ9.out)
      have HTa9 := Lib.hid (HTa8.out.below HJ9.out)
      have HTb9 := Lib.hid (HTb8.out.below HJ9.out)
      have HG9 := Lib.hid (HGb.out _ _ HG8.out HJ9.out)
      rw [<- hW9, <- hbw]
      clear hW9 hbw hb9 hc9 HJ1 HJ2 yC0 yD0 y0 yB0 HFu HLit HBl bB
      go_wp2
      go_loopw [17] (fun j wi => ∃ k : Nat, k <= 2 /\ j = .int .i64 k /\ Hid (∀ i (h : i < ([segs, segs ++ [index]] : List (List ByteArray)).length), i < k -> AgreeQ A B (root ++ ([segs, segs ++ [index]] : List (List ByteArray))[i])) /\ Hid (Below W9.heap.size W9 wi)) (fun j _ => (2 - intOf j).toNat)
      case atStart => exact ⟨0, by decide, rfl, Lib.hid (fun i _ h => by omega), Lib.hid (Below.refl _ _)⟩
      case round =>
        obtain ⟨k, hk, rfl, HAg, HBi⟩ := hrel
        by_cases hkn : k < 2
        · skip
          have hkl : k < ([segs, segs ++ [index]] : List (List ByteArray)).length := hkn
          obtain ⟨b1, o1, cs1, hat1, _, hin1, hc1⟩ := Kind.rows_at _ Try.uPaths Try.zPaths (Kind.rows_below _ HL9.out HBi.out) k hkl
          obtain ⟨b2, o2, cs2, hat2, _, hin2, hc2⟩ := Kind.rows_at _ Try.uPaths Try.zPaths (Kind.rows_below _ HW9.out HBi.out) k hkl
          have HQk := Lib.hid (fun (P : AgreeQ A B (root ++ ([segs, segs ++ [index]] : List (List ByteArray))[k])) => show ∀ i (h : i < ([segs, segs ++ [index]] : List (List ByteArray)).length), i < k + 1 -> AgreeQ A B (root ++ ([segs, segs ++ [index]] : List (List ByteArray))[i]) from fun i h hi => by
              rcases Nat.lt_succ_iff_lt_or_eq.1 hi with h2 | h2
              · exact HAg.out i h h2
              · subst h2; exact P)
          obtain ⟨Q, hQ⟩ : ∃ Q, Q = ([segs, segs ++ [index]] : List (List ByteArray))[k] := ⟨_, rfl⟩
          rw [<- hQ] at hin1 hin2 HQk
          have HQl := Lib.hid (show Q.length <= 31 by
              rw [hQ]
              have := List.getElem_mem hkl
              generalize ([segs, segs ++ [index]] : List (List ByteArray))[k] = z at this
              simp only [List.mem_cons, List.not_mem_nil, or_false] at this
              have h2 := HB2s.out
              rcases this with rfl | rfl
              · omega
              · rw [List.length_append]; simp; omega)
          obtain ⟨x1, rfl, hx1⟩ := hin1
          obtain ⟨x2, rfl, hx2⟩ := hin2
          have g1 : wr.cell? ⟨b1, o1, none⟩ = some x1 := hc1 0 _ rfl
          have g2 : wr.cell? ⟨b2, o2, none⟩ = some x2 := hc2 0 _ rfl
          have HS1 := Lib.hid (Kind.strs_of hx1)
          have HS2 := Lib.hid (Kind.strs_of hx2)
          have k1 : wr.drew.cell? ⟨b1, o1, none⟩ = some x1 := g1
          have k2 : wr.drew.cell? ⟨b2, o2, none⟩ = some x2 := g2
          have bD : Below wr.heap.size wr wr.drew := (Below.refl _ _).drew
          have HT := Lib.hid ((texts_q x1 x2 Q Q wr.drew (HS1.out.below bD) (HS2.out.below bD)).mono (fun _ _ h => h.says))
          rw [decide_eq_true rfl] at HT
          have hwr : IntKind.i64.wrap ((k : Int) + 1) = (k : Int) + 1 := by rw [IntKind.wrap_i64] <;> omega
          have hki : (k : Int) < 2 := by omega
          clear hQ hx1 hx2 hc1 hc2 hkl
          go_wp2_with fail
          go_region_held3 (fun W => W.cell? ⟨b1, o1, none⟩ = some x1 /\ W.cell? ⟨b2, o2, none⟩ = some x2) (first | with_reducible exact ⟨k1, k2⟩ | with_reducible exact ⟨m1, m2⟩) ((go_at_call 15; refine HT.out.mono ?_; rintro e wt ⟨rfl, hb⟩; have HJt := Lib.hid (bD.trans (hb.mono bD.size)); have m1 : wt.cell? ⟨b1, o1, none⟩ = some x1 := (HJt.out.cell (World.block_lt_of_cell? _ _ g1)).trans g1; have m2 : wt.cell? ⟨b2, o2, none⟩ = some x2 := (HJt.out.cell (World.block_lt_of_cell? _ _ g2)).trans g2; clear hb))
          all_goals
            have HBt := Lib.hid (HBi.out.trans (HJt.out.mono HBi.out.size))
            have HBtw := Lib.hid (HB9.out.trans (HBt.out.mono HB9.out.size))
            have HFl := Lib.hid (refFull_any vr x2 root Q wt (HPr.out _ HBtw.out) (HS2.out.below HJt.out) (by have := HA2.out; omega) (by have := HQl.out; omega))
            clear k1 k2 g1 g2 bD HT
            go_wp2_with fail
            refine HFl.out.mono ?_
            rintro e wf ⟨vf, rfl, hsf, _, hb⟩
            have HBf := Lib.hid (HBtw.out.trans (hb.mono HBtw.out.size))
            have HBfi := Lib.hid (HBt.out.trans (hb.mono HBt.out.size))
            have HSf := Lib.hid hsf
            clear hb hsf
            obtain ⟨q, hq⟩ : ∃ q, q = root ++ Q := ⟨_, rfl⟩
            rw [<- hq] at HSf HQk
            clear hq
            obtain ⟨i1, hi1⟩ : ∃ x, x = getI q 0 A := ⟨_, rfl⟩
            obtain ⟨i2, hi2⟩ : ∃ x, x = getI q 0 B := ⟨_, rfl⟩
            have Hi1 := Lib.hid hi1
            have Hi2 := Lib.hid hi2
            have HGa := Lib.hid (show Calls _ _ _ wf (ZTo i1 wf) by rw [Hi1.out]; exact refGet_any (.slice pA nA cA) vf A q wf (HVa.out _ HBf.out) HSf.out (by have := HT30.out; omega))
            clear hi1 hi2
            go_wp2_with fail
            refine HGa.out.mono ?_
            rintro e wg ⟨rfl, hb⟩
            have HBg := Lib.hid (HBf.out.trans (hb.mono HBf.out.size))
            have HBgi := Lib.hid (HBfi.out.trans (hb.mono HBfi.out.size))
            have HSg := Lib.hid (HSf.out.below hb)
            clear hb
            have HGc := Lib.hid (show Calls _ _ _ wg (ZTo i2 wg) by rw [Hi2.out]; exact refGet_any (.slice pB nB cB) vf B q wg (HVb.out _ HBg.out) HSg.out (by have := HT30b.out; omega))
            go_wp2_with fail
            refine HGc.out.mono ?_
            rintro e wh ⟨rfl, hb⟩
            have HBh := Lib.hid (HBg.out.trans (hb.mono HBg.out.size))
            have HBhi := Lib.hid (HBgi.out.trans (hb.mono HBgi.out.size))
            have HSh := Lib.hid (HSg.out.below hb)
            clear hb HGa HGc HSf HSg
            obtain ⟨ka, hka⟩ : ∃ x, x = kindP (A.map tfOf) q := ⟨_, rfl⟩
            obtain ⟨kb, hkb⟩ : ∃ x, x = kindP (B.map tfOf) q := ⟨_, rfl⟩
            have Hka := Lib.hid hka
            have Hkb := Lib.hid hkb
            have HKa := Lib.hid (fun W (hb : Below wh.heap.size wh W) => show Calls _ _ _ W (IntTo ka W) by rw [Hka.out]; exact refKindT_any (.slice pA nA cA) vf A q W (HVa.out _ (HBh.out.trans (hb.mono HBh.out.size))) (HSh.out.below hb) (by have := HT30.out; omega))
            have HKb := Lib.hid (fun W (hb : Below wh.heap.size wh W) => show Calls _ _ _ W (IntTo kb W) by rw [Hkb.out]; exact refKindT_any (.slice pB nB cB) vf B q W (HVb.out _ (HBh.out.trans (hb.mono HBh.out.size))) (HSh.out.below hb) (by have := HT30b.out; omega))
            have hyp := (XB9.out.below HBhi.out).cell (i := 1) rfl
            have Z2 : Hid (wh.cell? ⟨w.heap.size, 1, none⟩ = some (.bool true)) := Lib.hid hyp
            have Hl2 := Lib.hid (World.block_lt_of_cell? wh _ hyp)
            have HJb := Lib.hid (Below.refl wh.heap.size wh)
            have HBb := HBh
            clear hyp hka hkb
            by_cases hkk : ka = kb
            case neg =>
              have hne : ((ka : Int) != (kb : Int)) = true := by simpa using (fun e => hkk (by omega))
              clear hkk
              go_wp2_with fail
              have q0_0 : wh.drew.cell? ⟨w.heap.size, 1, none⟩ = some (.bool true) := Z2.out
              have HJ0 := Lib.hid HJb.out.drew
              have HR0 := Lib.hid HBb.out.drew
              refine wp_region_held_drew (S := (fun W => W.cell? ⟨w.heap.size, 1, none⟩ = some (.bool true))) (by kernel_rfl) q0_0 (fun hHeld => ?_)
              refine wpAnyH_take (i := 0) (oi := _) (v := ?_) rfl (by kernel_rfl) (by kernel_rfl) (by kernel_rfl) (fun _ _ _ h => h) (Or.inl ⟨by kernel_rfl, ?_⟩) (by assumption) ?_
              rotate_left
              · intro w hSw
                obtain hS0 := hSw
                go_simp
                all_goals with_reducible rfl
              try simp only [Act.put, List.getElem_toArray, List.getElem_cons_zero, List.getElem_cons_succ, List.setIfInBounds_toArray, List.set_cons_zero, List.set_cons_succ]
              refine wpAnyH_take (i := 1) (oi := _) (v := ?_) rfl (by kernel_rfl) (by kernel_rfl) (by kernel_rfl) (fun _ _ _ h => h) (Or.inl ⟨by kernel_rfl, ?_⟩) (by assumption) ?_
              rotate_left
              · intro w hSw
                obtain hS0 := hSw
                go_simp
                all_goals with_reducible rfl
              try simp only [Act.put, List.getElem_toArray, List.getElem_cons_zero, List.getElem_cons_succ, List.setIfInBounds_toArray, List.set_cons_zero, List.set_cons_succ]
              refine wpAnyH_take (i := 3) (oi := _) (v := ?_) rfl (by kernel_rfl) (by kernel_rfl) (by kernel_rfl) (fun _ _ _ h => h) (Or.inl ⟨by kernel_rfl, ?_⟩) (by assumption) ?_
              rotate_left
              · intro w hSw
                obtain hS0 := hSw
                go_simp
                all_goals with_reducible rfl
              try simp only [Act.put, List.getElem_toArray, List.getElem_cons_zero, List.getElem_cons_succ, List.setIfInBounds_toArray, List.set_cons_zero, List.set_cons_succ]
              refine wpAnyH_take (i := 4) (oi := _) (v := ?_) rfl (by kernel_rfl) (by kernel_rfl) (by kernel_rfl) (fun _ _ _ h => h) (Or.inl ⟨by kernel_rfl, ?_⟩) (by assumption) ?_
              rotate_left
              · intro w hSw
                obtain hS0 := hSw
                go_simp
                all_goals with_reducible rfl
              try simp only [Act.put, List.getElem_toArray, List.getElem_cons_zero, List.getElem_cons_succ, List.setIfInBounds_toArray, List.set_cons_zero, List.set_cons_succ]
              refine wpAnyH_ready (rs := [2]) (by kernel_rfl) (by simp) ?_
              refine AllReadyH.cons (o := _) rfl (fun K hK => ?_) AllReadyH.nil
              go_simp
              go_at_call 19
              refine (HKa.out _ HJ0.out).mono ?_
              rintro e wr1 ⟨rfl, hb⟩
              have HJ1 := Lib.hid (HJ0.out.trans (hb.mono HJ0.out.size))
              have HR1 := Lib.hid (HR0.out.trans (hb.mono HR0.out.size))
              have q1_0 : wr1.cell? ⟨w.heap.size, 1, none⟩ = some (.bool true) := (HJ1.out.cell Hl2.out).trans Z2.out
              clear hb
              clear hHeld
              refine hK.out _ _ ?_ (fun hHeld => ?_)
              · exact q1_0
              clear hK K
              try simp only [Act.put, List.getElem_toArray, List.getElem_cons_zero, List.getElem_cons_succ, List.setIfInBounds_toArray, List.set_cons_zero, List.set_cons_succ]
              refine wpAnyH_ready (rs := [5]) (by kernel_rfl) (by simp) ?_
              refine AllReadyH.cons (o := _) rfl (fun K hK => ?_) AllReadyH.nil
              go_simp
              go_at_call 19
              refine (HKb.out _ HJ1.out).mono ?_
              rintro e wr2 ⟨rfl, hb⟩
              have HJ2 := Lib.hid (HJ1.out.trans (hb.mono HJ1.out.size))
              have HR2 := Lib.hid (HR1.out.trans (hb.mono HR1.out.size))
              have q2_0 : wr2.cell? ⟨w.heap.size, 1, none⟩ = some (.bool true) := (HJ2.out.cell Hl2.out).trans Z2.out
              clear hb
              clear hHeld
              refine hK.out _ _ ?_ (fun hHeld => ?_)
              · exact q2_0
              clear hK K
              try simp only [Act.put, List.getElem_toArray, List.getElem_cons_zero, List.getElem_cons_succ, List.setIfInBounds_toArray, List.set_cons_zero, List.set_cons_succ]
              refine wpAnyH_take (i := 6) (oi := _) (v := ?_) rfl (by kernel_rfl) (by kernel_rfl) (by kernel_rfl) (fun _ _ _ h => h) (Or.inl ⟨by kernel_rfl, ?_⟩) (by assumption) ?_
              rotate_left
              · intro w hSw
                obtain hS0 := hSw
                go_simp
                all_goals with_reducible rfl
              try simp only [Act.put, List.getElem_toArray, List.getElem_cons_zero, List.getElem_cons_succ, List.setIfInBounds_toArray, List.set_cons_zero, List.set_cons_succ]
              refine wpAnyH_take (i := 7) (oi := _) (v := ?_) rfl (by kernel_rfl) (by kernel_rfl) (by kernel_rfl) (fun _ _ _ h => h) (Or.inl ⟨by kernel_rfl, ?_⟩) (by assumption) ?_
              rotate_left
              · intro w hSw
                obtain hS0 := hSw
                go_simp
                all_goals with_reducible rfl
              try simp only [Act.put, List.getElem_toArray, List.getElem_cons_zero, List.getElem_cons_succ, List.setIfInBounds_toArray, List.set_cons_zero, List.set_cons_succ]
              refine wpAnyH_take (i := 8) (oi := _) (v := undef) rfl (by kernel_rfl) (by kernel_rfl) (by kernel_rfl) (fun _ _ _ h => h) (Or.inr ⟨by kernel_rfl, rfl⟩) (by assumption) ?_
              try simp only [Act.put, List.getElem_toArray, List.getElem_cons_zero, List.getElem_cons_succ, List.setIfInBounds_toArray, List.set_cons_zero, List.set_cons_succ]
              refine wpAnyH_take (i := 9) (oi := _) (v := undef) rfl (by kernel_rfl) (by kernel_rfl) (by kernel_rfl) (fun _ _ _ h => h) (Or.inr ⟨by kernel_rfl, rfl⟩) (by assumption) ?_
              try simp only [Act.put, List.getElem_toArray, List.getElem_cons_zero, List.getElem_cons_succ, List.setIfInBounds_toArray, List.set_cons_zero, List.set_cons_succ]
              refine wpAnyH_take (i := 10) (oi := _) (v := undef) rfl (by kernel_rfl) (by kernel_rfl) (by kernel_rfl) (fun _ _ _ h => h) (Or.inr ⟨by kernel_rfl, rfl⟩) (by assumption) ?_
              try simp only [Act.put, List.getElem_toArray, List.getElem_cons_zero, List.getElem_cons_succ, List.setIfInBounds_toArray, List.set_cons_zero, List.set_cons_succ]
              refine wpAnyH_take (i := 11) (oi := _) (v := undef) rfl (by kernel_rfl) (by kernel_rfl) (by kernel_rfl) (fun _ _ _ h => h) (Or.inr ⟨by kernel_rfl, rfl⟩) (by assumption) ?_
              try simp only [Act.put, List.getElem_toArray, List.getElem_cons_zero, List.getElem_cons_succ, List.setIfInBounds_toArray, List.set_cons_zero, List.set_cons_succ]
              refine wpAnyH_take (i := 12) (oi := _) (v := undef) rfl (by kernel_rfl) (by kernel_rfl) (by kernel_rfl) (fun _ _ _ h => h) (Or.inr ⟨by kernel_rfl, rfl⟩) (by assumption) ?_
              try simp only [Act.put, List.getElem_toArray, List.getElem_cons_zero, List.getElem_cons_succ, List.setIfInBounds_toArray, List.set_cons_zero, List.set_cons_succ]
              refine wpAnyH_take (i := 13) (oi := _) (v := undef) rfl (by kernel_rfl) (by kernel_rfl) (by kernel_rfl) (fun _ _ _ h => h) (Or.inr ⟨by kernel_rfl, rfl⟩) (by assumption) ?_
              try simp only [Act.put, List.getElem_toArray, List.getElem_cons_zero, List.getElem_cons_succ, List.setIfInBounds_toArray, List.set_cons_zero, List.set_cons_succ]
              refine wpAnyH_take (i := 14) (oi := _) (v := undef) rfl (by kernel_rfl) (by kernel_rfl) (by kernel_rfl) (fun _ _ _ h => h) (Or.inr ⟨by kernel_rfl, rfl⟩) (by assumption) ?_
              try simp only [Act.put, List.getElem_toArray, List.getElem_cons_zero, List.getElem_cons_succ, List.setIfInBounds_toArray, List.set_cons_zero, List.set_cons_succ]
              refine wpAnyH_take (i := 15) (oi := _) (v := undef) rfl (by kernel_rfl) (by kernel_rfl) (by kernel_rfl) (fun _ _ _ h => h) (Or.inr ⟨by kernel_rfl, rfl⟩) (by assumption) ?_
              try simp only [Act.put, List.getElem_toArray, List.getElem_cons_zero, List.getElem_cons_succ, List.setIfInBounds_toArray, List.set_cons_zero, List.set_cons_succ]
              refine wpAnyH_take (i := 16) (oi := _) (v := undef) rfl (by kernel_rfl) (by kernel_rfl) (by kernel_rfl) (fun _ _ _ h => h) (Or.inr ⟨by kernel_rfl, rfl⟩) (by assumption) ?_
              try simp only [Act.put, List.getElem_toArray, List.getElem_cons_zero, List.getElem_cons_succ, List.setIfInBounds_toArray, List.set_cons_zero, List.set_cons_succ]
              refine wpAnyH_take (i := 17) (oi := _) (v := undef) rfl (by kernel_rfl) (by kernel_rfl) (by kernel_rfl) (fun _ _ _ h => h) (Or.inr ⟨by kernel_rfl, rfl⟩) (by assumption) ?_
              try simp only [Act.put, List.getElem_toArray, List.getElem_cons_zero, List.getElem_cons_succ, List.setIfInBounds_toArray, List.set_cons_zero, List.set_cons_succ]
              refine wpAnyH_take (i := 18) (oi := _) (v := undef) rfl (by kernel_rfl) (by kernel_rfl) (by kernel_rfl) (fun _ _ _ h => h) (Or.inr ⟨by kernel_rfl, rfl⟩) (by assumption) ?_
              try simp only [Act.put, List.getElem_toArray, List.getElem_cons_zero, List.getElem_cons_succ, List.setIfInBounds_toArray, List.set_cons_zero, List.set_cons_succ]
              refine wpAnyH_take (i := 19) (oi := _) (v := undef) rfl (by kernel_rfl) (by kernel_rfl) (by kernel_rfl) (fun _ _ _ h => h) (Or.inr ⟨by kernel_rfl, rfl⟩) (by assumption) ?_
              try simp only [Act.put, List.getElem_toArray, List.getElem_cons_zero, List.getElem_cons_succ, List.setIfInBounds_toArray, List.set_cons_zero, List.set_cons_succ]
              refine wpAnyH_take (i := 20) (oi := _) (v := undef) rfl (by kernel_rfl) (by kernel_rfl) (by kernel_rfl) (fun _ _ _ h => h) (Or.inr ⟨by kernel_rfl, rfl⟩) (by assumption) ?_
              try simp only [Act.put, List.getElem_toArray, List.getElem_cons_zero, List.getElem_cons_succ, List.setIfInBounds_toArray, List.set_cons_zero, List.set_cons_succ]
              refine wpAnyH_take (i := 21) (oi := _) (v := undef) rfl (by kernel_rfl) (by kernel_rfl) (by kernel_rfl) (fun _ _ _ h => h) (Or.inr ⟨by kernel_rfl, rfl⟩) (by assumption) ?_
              try simp only [Act.put, List.getElem_toArray, List.getElem_cons_zero, List.getElem_cons_succ, List.setIfInBounds_toArray, List.set_cons_zero, List.set_cons_succ]
              refine wpAnyH_take (i := 22) (oi := _) (v := undef) rfl (by kernel_rfl) (by kernel_rfl) (by kernel_rfl) (fun _ _ _ h => h) (Or.inr ⟨by kernel_rfl, rfl⟩) (by assumption) ?_
              try simp only [Act.put, List.getElem_toArray, List.getElem_cons_zero, List.getElem_cons_succ, List.setIfInBounds_toArray, List.set_cons_zero, List.set_cons_succ]
              refine wpAnyH_take (i := 23) (oi := _) (v := undef) rfl (by kernel_rfl) (by kernel_rfl) (by kernel_rfl) (fun _ _ _ h => h) (Or.inr ⟨by kernel_rfl, rfl⟩) (by assumption) ?_
              try simp only [Act.put, List.getElem_toArray, List.getElem_cons_zero, List.getElem_cons_succ, List.setIfInBounds_toArray, List.set_cons_zero, List.set_cons_succ]
              refine wpAnyH_take (i := 24) (oi := _) (v := undef) rfl (by kernel_rfl) (by kernel_rfl) (by kernel_rfl) (fun _ _ _ h => h) (Or.inr ⟨by kernel_rfl, rfl⟩) (by assumption) ?_
              try simp only [Act.put, List.getElem_toArray, List.getElem_cons_zero, List.getElem_cons_succ, List.setIfInBounds_toArray, List.set_cons_zero, List.set_cons_succ]
              refine wpAnyH_take (i := 25) (oi := _) (v := undef) rfl (by kernel_rfl) (by kernel_rfl) (by kernel_rfl) (fun _ _ _ h => h) (Or.inr ⟨by kernel_rfl, rfl⟩) (by assumption) ?_
              try simp only [Act.put, List.getElem_toArray, List.getElem_cons_zero, List.getElem_cons_succ, List.setIfInBounds_toArray, List.set_cons_zero, List.set_cons_succ]
              refine wpAnyH_take (i := 26) (oi := _) (v := ?_) rfl (by kernel_rfl) (by kernel_rfl) (by kernel_rfl) (fun _ _ _ h => h) (Or.inl ⟨by kernel_rfl, ?_⟩) (by assumption) ?_
              rotate_left
              · intro w hSw
                obtain hS0 := hSw
                go_simp
                all_goals with_reducible rfl
              try simp only [Act.put, List.getElem_toArray, List.getElem_cons_zero, List.getElem_cons_succ, List.setIfInBounds_toArray, List.set_cons_zero, List.set_cons_succ]
              refine wpAnyH_done (by kernel_rfl) ?_ _
              go_wp2
              go_ret
              exact saysIn_k24 rfl HR2.out
            cases hga : getF A q with
            | none =>
              have hne : ((ka : Int) != (kb : Int)) = false := by rw [hkk]; simp
              have hke : kindP (A.map tfOf) q = kindP (B.map tfOf) q := by rw [<- Hka.out, <- Hkb.out]; exact hkk
              have HAn := Lib.hid (HQk.out ⟨hke, by rw [hga, agree_none HRGb.out HRG.out hke hga]⟩)
              have h1 : i1 = -1 := by rw [Hi1.out]; exact getI_none hga
              subst h1
              clear hkk hke hga
              go_wp2_with fail
              have q0_0 : wh.drew.cell? ⟨w.heap.size, 1, none⟩ = some (.bool true) := Z2.out
              have HJ0 := Lib.hid HJb.out.drew
              have HR0 := Lib.hid HBb.out.drew
              refine wp_region_held_drew (S := (fun W => W.cell? ⟨w.heap.size, 1, none⟩ = some (.bool true))) (by kernel_rfl) q0_0 (fun hHeld => ?_)
              refine wpAnyH_take (i := 0) (oi := _) (v := ?_) rfl (by kernel_rfl) (by kernel_rfl) (by kernel_rfl) (fun _ _ _ h => h) (Or.inl ⟨by kernel_rfl, ?_⟩) (by assumption) ?_
              rotate_left
              · intro w hSw
                obtain hS0 := hSw
                go_simp
                all_goals with_reducible rfl
              try simp only [Act.put, List.getElem_toArray, List.getElem_cons_zero, List.getElem_cons_succ, List.setIfInBounds_toArray, List.set_cons_zero, List.set_cons_succ]
              refine wpAnyH_take (i := 1) (oi := _) (v := ?_) rfl (by kernel_rfl) (by kernel_rfl) (by kernel_rfl) (fun _ _ _ h => h) (Or.inl ⟨by kernel_rfl, ?_⟩) (by assumption) ?_
              rotate_left
              · intro w hSw
                obtain hS0 := hSw
                go_simp
                all_goals with_reducible rfl
              try simp only [Act.put, List.getElem_toArray, List.getElem_cons_zero, List.getElem_cons_succ, List.setIfInBounds_toArray, List.set_cons_zero, List.set_cons_succ]
              refine wpAnyH_take (i := 3) (oi := _) (v := ?_) rfl (by kernel_rfl) (by kernel_rfl) (by kernel_rfl) (fun _ _ _ h => h) (Or.inl ⟨by kernel_rfl, ?_⟩) (by assumption) ?_
              rotate_left
              · intro w hSw
                obtain hS0 := hSw
                go_simp
                all_goals with_reducible rfl
              try simp only [Act.put, List.getElem_toArray, List.getElem_cons_zero, List.getElem_cons_succ, List.setIfInBounds_toArray, List.set_cons_zero, List.set_cons_succ]
              refine wpAnyH_take (i := 4) (oi := _) (v := ?_) rfl (by kernel_rfl) (by kernel_rfl) (by kernel_rfl) (fun _ _ _ h => h) (Or.inl ⟨by kernel_rfl, ?_⟩) (by assumption) ?_
              rotate_left
              · intro w hSw
                obtain hS0 := hSw
                go_simp
                all_goals with_reducible rfl
              try simp only [Act.put, List.getElem_toArray, List.getElem_cons_zero, List.getElem_cons_succ, List.setIfInBounds_toArray, List.set_cons_zero, List.set_cons_succ]
              refine wpAnyH_ready (rs := [2]) (by kernel_rfl) (by simp) ?_
              refine AllReadyH.cons (o := _) rfl (fun K hK => ?_) AllReadyH.nil
              go_simp
              go_at_call 19
              refine (HKa.out _ HJ0.out).mono ?_
              rintro e wr1 ⟨rfl, hb⟩
              have HJ1 := Lib.hid (HJ0.out.trans (hb.mono HJ0.out.size))
              have HR1 := Lib.hid (HR0.out.trans (hb.mono HR0.out.size))
              have q1_0 : wr1.cell? ⟨w.heap.size, 1, none⟩ = some (.bool true) := (HJ1.out.cell Hl2.out).trans Z2.out
              clear hb
              clear hHeld
              refine hK.out _ _ ?_ (fun hHeld => ?_)
              · exact q1_0
              clear hK K
              try simp only [Act.put, List.getElem_toArray, List.getElem_cons_zero, List.getElem_cons_succ, List.setIfInBounds_toArray, List.set_cons_zero, List.set_cons_succ]
              refine wpAnyH_ready (rs := [5]) (by kernel_rfl) (by simp) ?_
              refine AllReadyH.cons (o := _) rfl (fun K hK => ?_) AllReadyH.nil
              go_simp
              go_at_call 19
              refine (HKb.out _ HJ1.out).mono ?_
              rintro e wr2 ⟨rfl, hb⟩
              have HJ2 := Lib.hid (HJ1.out.trans (hb.mono HJ1.out.size))
              have HR2 := Lib.hid (HR1.out.trans (hb.mono HR1.out.size))
              have q2_0 : wr2.cell? ⟨w.heap.size, 1, none⟩ = some (.bool true) := (HJ2.out.cell Hl2.out).trans Z2.out
              clear hb
              clear hHeld
              refine hK.out _ _ ?_ (fun hHeld => ?_)
              · exact q2_0
              clear hK K
              try simp only [Act.put, List.getElem_toArray, List.getElem_cons_zero, List.getElem_cons_succ, List.setIfInBounds_toArray, List.set_cons_zero, List.set_cons_succ]
              refine wpAnyH_take (i := 6) (oi := _) (v := ?_) rfl (by kernel_rfl) (by kernel_rfl) (by kernel_rfl) (fun _ _ _ h => h) (Or.inl ⟨by kernel_rfl, ?_⟩) (by assumption) ?_
              rotate_left
              · intro w hSw
                obtain hS0 := hSw
                go_simp
                all_goals with_reducible rfl
              try simp only [Act.put, List.getElem_toArray, List.getElem_cons_zero, List.getElem_cons_succ, List.setIfInBounds_toArray, List.set_cons_zero, List.set_cons_succ]
              refine wpAnyH_take (i := 7) (oi := _) (v := ?_) rfl (by kernel_rfl) (by kernel_rfl) (by kernel_rfl) (fun _ _ _ h => h) (Or.inl ⟨by kernel_rfl, ?_⟩) (by assumption) ?_
              rotate_left
              · intro w hSw
                obtain hS0 := hSw
                go_simp
                all_goals with_reducible rfl
              try simp only [Act.put, List.getElem_toArray, List.getElem_cons_zero, List.getElem_cons_succ, List.setIfInBounds_toArray, List.set_cons_zero, List.set_cons_succ]
              refine wpAnyH_take (i := 8) (oi := _) (v := ?_) rfl (by kernel_rfl) (by kernel_rfl) (by kernel_rfl) (fun _ _ _ h => h) (Or.inl ⟨by kernel_rfl, ?_⟩) (by assumption) ?_
              rotate_left
              · intro w hSw
                obtain hS0 := hSw
                go_simp
                all_goals with_reducible rfl
              try simp only [Act.put, List.getElem_toArray, List.getElem_cons_zero, List.getElem_cons_succ, List.setIfInBounds_toArray, List.set_cons_zero, List.set_cons_succ]
              refine wpAnyH_take (i := 9) (oi := _) (v := ?_) rfl (by kernel_rfl) (by kernel_rfl) (by kernel_rfl) (fun _ _ _ h => h) (Or.inl ⟨by kernel_rfl, ?_⟩) (by assumption) ?_
              rotate_left
              · intro w hSw
                obtain hS0 := hSw
                go_simp
                all_goals with_reducible rfl
              try simp only [Act.put, List.getElem_toArray, List.getElem_cons_zero, List.getElem_cons_succ, List.setIfInBounds_toArray, List.set_cons_zero, List.set_cons_succ]
              refine wpAnyH_take (i := 10) (oi := _) (v := ?_) rfl (by kernel_rfl) (by kernel_rfl) (by kernel_rfl) (fun _ _ _ h => h) (Or.inl ⟨by kernel_rfl, ?_⟩) (by assumption) ?_
              rotate_left
              · intro w hSw
                obtain hS0 := hSw
                go_simp
                all_goals with_reducible rfl
              try simp only [Act.put, List.getElem_toArray, List.getElem_cons_zero, List.getElem_cons_succ, List.setIfInBounds_toArray, List.set_cons_zero, List.set_cons_succ]
              refine wpAnyH_take (i := 11) (oi := _) (v := undef) rfl (by kernel_rfl) (by kernel_rfl) (by kernel_rfl) (fun _ _ _ h => h) (Or.inr ⟨by kernel_rfl, rfl⟩) (by assumption) ?_
              try simp only [Act.put, List.getElem_toArray, List.getElem_cons_zero, List.getElem_cons_succ, List.setIfInBounds_toArray, List.set_cons_zero, List.set_cons_succ]
              refine wpAnyH_take (i := 12) (oi := _) (v := undef) rfl (by kernel_rfl) (by kernel_rfl) (by kernel_rfl) (fun _ _ _ h => h) (Or.inr ⟨by kernel_rfl, rfl⟩) (by assumption) ?_
              try simp only [Act.put, List.getElem_toArray, List.getElem_cons_zero, List.getElem_cons_succ, List.setIfInBounds_toArray, List.set_cons_zero, List.set_cons_succ]
              refine wpAnyH_take (i := 13) (oi := _) (v := ?_) rfl (by kernel_rfl) (by kernel_rfl) (by kernel_rfl) (fun _ _ _ h => h) (Or.inl ⟨by kernel_rfl, ?_⟩) (by assumption) ?_
              rotate_left
              · intro w hSw
                obtain hS0 := hSw
                go_simp
                all_goals with_reducible rfl
              try simp only [Act.put, List.getElem_toArray, List.getElem_cons_zero, List.getElem_cons_succ, List.setIfInBounds_toArray, List.set_cons_zero, List.set_cons_succ]
              refine wpAnyH_take (i := 14) (oi := _) (v := ?_) rfl (by kernel_rfl) (by kernel_rfl) (by kernel_rfl) (fun _ _ _ h => h) (Or.inl ⟨by kernel_rfl, ?_⟩) (by assumption) ?_
              rotate_left
              · intro w hSw
                obtain hS0 := hSw
                go_simp
                all_goals with_reducible rfl
              try simp only [Act.put, List.getElem_toArray, List.getElem_cons_zero, List.getElem_cons_succ, List.setIfInBounds_toArray, List.set_cons_zero, List.set_cons_succ]
              refine wpAnyH_take (i := 15) (oi := _) (v := undef) rfl (by kernel_rfl) (by kernel_rfl) (by kernel_rfl) (fun _ _ _ h => h) (Or.inr ⟨by kernel_rfl, rfl⟩) (by assumption) ?_
              try simp only [Act.put, List.getElem_toArray, List.getElem_cons_zero, List.getElem_cons_succ, List.setIfInBounds_toArray, List.set_cons_zero, List.set_cons_succ]
              refine wpAnyH_take (i := 16) (oi := _) (v := undef) rfl (by kernel_rfl) (by kernel_rfl) (by kernel_rfl) (fun _ _ _ h => h) (Or.inr ⟨by kernel_rfl, rfl⟩) (by assumption) ?_
              try simp only [Act.put, List.getElem_toArray, List.getElem_cons_zero, List.getElem_cons_succ, List.setIfInBounds_toArray, List.set_cons_zero, List.set_cons_succ]
              refine wpAnyH_take (i := 17) (oi := _) (v := undef) rfl (by kernel_rfl) (by kernel_rfl) (by kernel_rfl) (fun _ _ _ h => h) (Or.inr ⟨by kernel_rfl, rfl⟩) (by assumption) ?_
              try simp only [Act.put, List.getElem_toArray, List.getElem_cons_zero, List.getElem_cons_succ, List.setIfInBounds_toArray, List.set_cons_zero, List.set_cons_succ]
              refine wpAnyH_take (i := 18) (oi := _) (v := undef) rfl (by kernel_rfl) (by kernel_rfl) (by kernel_rfl) (fun _ _ _ h => h) (Or.inr ⟨by kernel_rfl, rfl⟩) (by assumption) ?_
              try simp only [Act.put, List.getElem_toArray, List.getElem_cons_zero, List.getElem_cons_succ, List.setIfInBounds_toArray, List.set_cons_zero, List.set_cons_succ]
              refine wpAnyH_take (i := 19) (oi := _) (v := undef) rfl (by kernel_rfl) (by kernel_rfl) (by kernel_rfl) (fun _ _ _ h => h) (Or.inr ⟨by kernel_rfl, rfl⟩) (by assumption) ?_
              try simp only [Act.put, List.getElem_toArray, List.getElem_cons_zero, List.getElem_cons_succ, List.setIfInBounds_toArray, List.set_cons_zero, List.set_cons_succ]
              refine wpAnyH_take (i := 20) (oi := _) (v := undef) rfl (by kernel_rfl) (by kernel_rfl) (by kernel_rfl) (fun _ _ _ h => h) (Or.inr ⟨by kernel_rfl, rfl⟩) (by assumption) ?_
              try simp only [Act.put, List.getElem_toArray, List.getElem_cons_zero, List.getElem_cons_succ, List.setIfInBounds_toArray, List.set_cons_zero, List.set_cons_succ]
              refine wpAnyH_take (i := 21) (oi := _) (v := undef) rfl (by kernel_rfl) (by kernel_rfl) (by kernel_rfl) (fun _ _ _ h => h) (Or.inr ⟨by kernel_rfl, rfl⟩) (by assumption) ?_
              try simp only [Act.put, List.getElem_toArray, List.getElem_cons_zero, List.getElem_cons_succ, List.setIfInBounds_toArray, List.set_cons_zero, List.set_cons_succ]
              refine wpAnyH_take (i := 22) (oi := _) (v := undef) rfl (by kernel_rfl) (by kernel_rfl) (by kernel_rfl) (fun _ _ _ h => h) (Or.inr ⟨by kernel_rfl, rfl⟩) (by assumption) ?_
              try simp only [Act.put, List.getElem_toArray, List.getElem_cons_zero, List.getElem_cons_succ, List.setIfInBounds_toArray, List.set_cons_zero, List.set_cons_succ]
              refine wpAnyH_take (i := 23) (oi := _) (v := undef) rfl (by kernel_rfl) (by kernel_rfl) (by kernel_rfl) (fun _ _ _ h => h) (Or.inr ⟨by kernel_rfl, rfl⟩) (by assumption) ?_
              try simp only [Act.put, List.getElem_toArray, List.getElem_cons_zero, List.getElem_cons_succ, List.setIfInBounds_toArray, List.set_cons_zero, List.set_cons_succ]
              refine wpAnyH_take (i := 24) (oi := _) (v := undef) rfl (by kernel_rfl) (by kernel_rfl) (by kernel_rfl) (fun _ _ _ h => h) (Or.inr ⟨by kernel_rfl, rfl⟩) (by assumption) ?_
              try simp only [Act.put, List.getElem_toArray, List.getElem_cons_zero, List.getElem_cons_succ, List.setIfInBounds_toArray, List.set_cons_zero, List.set_cons_succ]
              refine wpAnyH_take (i := 25) (oi := _) (v := ?_) rfl (by kernel_rfl) (by kernel_rfl) (by kernel_rfl) (fun _ _ _ h => h) (Or.inl ⟨by kernel_rfl, ?_⟩) (by assumption) ?_
              rotate_left
              · intro w hSw
                obtain hS0 := hSw
                go_simp
                all_goals with_reducible rfl
              try simp only [Act.put, List.getElem_toArray, List.getElem_cons_zero, List.getElem_cons_succ, List.setIfInBounds_toArray, List.set_cons_zero, List.set_cons_succ]
              refine wpAnyH_take (i := 26) (oi := _) (v := ?_) rfl (by kernel_rfl) (by kernel_rfl) (by kernel_rfl) (fun _ _ _ h => h) (Or.inl ⟨by kernel_rfl, ?_⟩) (by assumption) ?_
              rotate_left
              · intro w hSw
                obtain hS0 := hSw
                go_simp
                all_goals with_reducible rfl
              try simp only [Act.put, List.getElem_toArray, List.getElem_cons_zero, List.getElem_cons_succ, List.setIfInBounds_toArray, List.set_cons_zero, List.set_cons_succ]
              refine wpAnyH_done (by kernel_rfl) ?_ _
              have HBz := Lib.hid (HBhi.out.trans (HJ2.out.mono HBhi.out.size))
              go_wp2
              go_roundw
              case rel => exact ⟨k + 1, by omega, by go_num, HAn, HBz⟩
              case measure => simp [intOf]; omega
            | some fa =>
              have hne : ((ka : Int) != (kb : Int)) = false := by rw [hkk]; simp
              have hke : kindP (A.map tfOf) q = kindP (B.map tfOf) q := by rw [<- Hka.out, <- Hkb.out]; exact hkk
              obtain ⟨fb, hgb⟩ := agree_some HRGb.out HRG.out hke hga
              obtain ⟨j1, hj1, hT1⟩ := getI_some (i := 0) hga
              obtain ⟨j2, hj2, hT2⟩ := getI_some (i := 0) hgb
              rw [Nat.zero_add, <- Hi1.out] at hj1
              rw [Nat.zero_add, <- Hi2.out] at hj2
              subst hj1
              subst hj2
              have HAn := Lib.hid (fun (e : fa = fb) => HQk.out ⟨hke, by rw [hga, hgb, e]⟩)
              have hl1 : j1 < A.length := (List.getElem?_eq_some_iff.1 hT1).1
              have he1 : A[j1] = fa := (List.getElem?_eq_some_iff.1 hT1).2
              have hl2 : j2 < B.length := (List.getElem?_eq_some_iff.1 hT2).1
              have he2 : B[j2] = fb := (List.getElem?_eq_some_iff.1 hT2).2
              have hVa := HVa.out _ HBh.out
              rw [HnA.out] at hVa
              have hVb := HVb.out _ HBh.out
              rw [HnB.out] at hVb
              obtain ⟨ba, oa, csa, hata, _, hina, hca⟩ := Kind.rows_at _ Try.uFiles Try.zFiles hVa j1 hl1
              rw [<- HnA.out] at hata
              rw [he1] at hina
              obtain ⟨bb, ob, csb, hatb, _, hinb, hcb⟩ := Kind.rows_at _ Try.uFiles Try.zFiles hVb j2 hl2
              rw [<- HnB.out] at hatb
              rw [he2] at hinb
              have hs1 := HSm.out fa (by rw [<- he1]; exact List.getElem_mem hl1)
              have hs2 := HSmb.out fb (by rw [<- he2]; exact List.getElem_mem hl2)
              obtain ⟨u0, e0, u1, e1, rfl, _⟩ := fileK_parts hina
              obtain ⟨v0, f0, v1, f1, rfl, _⟩ := fileK_parts hinb
              have HSF := Lib.hid (fun W (hb : Below wh.heap.size wh W) => sameFileG_any _ _ fa fb W (fileK.below hina hb) (fileK.below hinb hb) hs1 hs2)
              obtain ⟨l0, hl0⟩ : ∃ x, x = fa.1.length := ⟨_, rfl⟩
              obtain ⟨l1, hl1q⟩ : ∃ x, x = fa.2.2.2.length := ⟨_, rfl⟩
              obtain ⟨ad, had⟩ : ∃ x, x = fa.2.1 := ⟨_, rfl⟩
              obtain ⟨at_, hat_⟩ : ∃ x, x = fa.2.2.1 := ⟨_, rfl⟩
              obtain ⟨l2, hl2q⟩ : ∃ x, x = fb.1.length := ⟨_, rfl⟩
              obtain ⟨l3, hl3⟩ : ∃ x, x = fb.2.2.2.length := ⟨_, rfl⟩
              obtain ⟨bd, hbd⟩ : ∃ x, x = fb.2.1 := ⟨_, rfl⟩
              obtain ⟨bt, hbt⟩ : ∃ x, x = fb.2.2.1 := ⟨_, rfl⟩
              rw [<- hl0, <- hl1q, <- had, <- hat_] at HSF hca
              rw [<- hl2q, <- hl3, <- hbd, <- hbt] at HSF hcb
              have Za0 : Hid (wh.cell? ⟨ba, oa + 0, none⟩ = some (.slice u0 l0 e0)) := Lib.hid (hca 0 _ rfl)
              have Za1 : Hid (wh.cell? ⟨ba, oa + 1, none⟩ = some (.bool ad)) := Lib.hid (hca 1 _ rfl)
              have Za2 : Hid (wh.cell? ⟨ba, oa + 2, none⟩ = some (.string at_)) := Lib.hid (hca 2 _ rfl)
              have Za3 : Hid (wh.cell? ⟨ba, oa + 3, none⟩ = some (.slice u1 l1 e1)) := Lib.hid (hca 3 _ rfl)
              have Zb0 : Hid (wh.cell? ⟨bb, ob + 0, none⟩ = some (.slice v0 l2 f0)) := Lib.hid (hcb 0 _ rfl)
              have Zb1 : Hid (wh.cell? ⟨bb, ob + 1, none⟩ = some (.bool bd)) := Lib.hid (hcb 1 _ rfl)
              have Zb2 : Hid (wh.cell? ⟨bb, ob + 2, none⟩ = some (.string bt)) := Lib.hid (hcb 2 _ rfl)
              have Zb3 : Hid (wh.cell? ⟨bb, ob + 3, none⟩ = some (.slice v1 l3 f1)) := Lib.hid (hcb 3 _ rfl)
              have HlA := Lib.hid (World.block_lt_of_cell? wh _ Za0.out)
              have HlB := Lib.hid (World.block_lt_of_cell? wh _ Zb0.out)
              obtain ⟨tb, htb⟩ : ∃ x, x = decide (fa = fb) := ⟨_, rfl⟩
              rw [<- htb] at HSF
              have HTb := Lib.hid htb
              have hge1 : decide ((0 : Int) <= (j1 : Int)) = true := by simp
              have hge2 : decide ((0 : Int) <= (j2 : Int)) = true := by simp
              clear hkk hke hga hgb hT1 hT2 hl1 he1 hl2 he2 hVa hVb hina hinb hca hcb hs1 hs2 hl0 hl1q had hat_ hl2q hl3 hbd hbt htb
              go_wp2_with fail
              have q0_0 : wh.drew.cell? ⟨ba, oa, none⟩ = some (.slice u0 l0 e0) := Za0.out
              have q0_1 : wh.drew.cell? ⟨ba, oa + 1, none⟩ = some (.bool ad) := Za1.out
              have q0_2 : wh.drew.cell? ⟨ba, oa + 2, none⟩ = some (.string at_) := Za2.out
              have q0_3 : wh.drew.cell? ⟨ba, oa + 3, none⟩ = some (.slice u1 l1 e1) := Za3.out
              have q0_4 : wh.drew.cell? ⟨bb, ob, none⟩ = some (.slice v0 l2 f0) := Zb0.out
              have q0_5 : wh.drew.cell? ⟨bb, ob + 1, none⟩ = some (.bool bd) := Zb1.out
              have q0_6 : wh.drew.cell? ⟨bb, ob + 2, none⟩ = some (.string bt) := Zb2.out
              have q0_7 : wh.drew.cell? ⟨bb, ob + 3, none⟩ = some (.slice v1 l3 f1) := Zb3.out
              have HJ0 := Lib.hid HJb.out.drew
              have HR0 := Lib.hid HBb.out.drew
              refine wp_region_held_drew (S := (fun W => W.cell? ⟨ba, oa, none⟩ = some (.slice u0 l0 e0) /\ W.cell? ⟨ba, oa + 1, none⟩ = some (.bool ad) /\ W.cell? ⟨ba, oa + 2, none⟩ = some (.string at_) /\ W.cell? ⟨ba, oa + 3, none⟩ = some (.slice u1 l1 e1) /\ W.cell? ⟨bb, ob, none⟩ = some (.slice v0 l2 f0) /\ W.cell? ⟨bb, ob + 1, none⟩ = some (.bool bd) /\ W.cell? ⟨bb, ob + 2, none⟩ = some (.string bt) /\ W.cell? ⟨bb, ob + 3, none⟩ = some (.slice v1 l3 f1))) (by kernel_rfl) ⟨q0_0, q0_1, q0_2, q0_3, q0_4, q0_5, q0_6, q0_7⟩ (fun hHeld => ?_)
              refine wpAnyH_take (i := 0) (oi := _) (v := ?_) rfl (by kernel_rfl) (by kernel_rfl) (by kernel_rfl) (fun _ _ _ h => h) (Or.inl ⟨by kernel_rfl, ?_⟩) (by assumption) ?_
              rotate_left
              · intro w hSw
                obtain ⟨hS0, hS1, hS2, hS3, hS4, hS5, hS6, hS7⟩ := hSw
                go_simp
                all_goals with_reducible rfl
              try simp only [Act.put, List.getElem_toArray, List.getElem_cons_zero, List.getElem_cons_succ, List.setIfInBounds_toArray, List.set_cons_zero, List.set_cons_succ]
              refine wpAnyH_take (i := 1) (oi := _) (v := ?_) rfl (by kernel_rfl) (by kernel_rfl) (by kernel_rfl) (fun _ _ _ h => h) (Or.inl ⟨by kernel_rfl, ?_⟩) (by assumption) ?_
              rotate_left
              · intro w hSw
                obtain ⟨hS0, hS1, hS2, hS3, hS4, hS5, hS6, hS7⟩ := hSw
                go_simp
                all_goals with_reducible rfl
              try simp only [Act.put, List.getElem_toArray, List.getElem_cons_zero, List.getElem_cons_succ, List.setIfInBounds_toArray, List.set_cons_zero, List.set_cons_succ]
              refine wpAnyH_take (i := 3) (oi := _) (v := ?_) rfl (by kernel_rfl) (by kernel_rfl) (by kernel_rfl) (fun _ _ _ h => h) (Or.inl ⟨by kernel_rfl, ?_⟩) (by assumption) ?_
              rotate_left
              · intro w hSw
                obtain ⟨hS0, hS1, hS2, hS3, hS4, hS5, hS6, hS7⟩ := hSw
                go_simp
                all_goals with_reducible rfl
              try simp only [Act.put, List.getElem_toArray, List.getElem_cons_zero, List.getElem_cons_succ, List.setIfInBounds_toArray, List.set_cons_zero, List.set_cons_succ]
              refine wpAnyH_take (i := 4) (oi := _) (v := ?_) rfl (by kernel_rfl) (by kernel_rfl) (by kernel_rfl) (fun _ _ _ h => h) (Or.inl ⟨by kernel_rfl, ?_⟩) (by assumption) ?_
              rotate_left
              · intro w hSw
                obtain ⟨hS0, hS1, hS2, hS3, hS4, hS5, hS6, hS7⟩ := hSw
                go_simp
                all_goals with_reducible rfl
              try simp only [Act.put, List.getElem_toArray, List.getElem_cons_zero, List.getElem_cons_succ, List.setIfInBounds_toArray, List.set_cons_zero, List.set_cons_succ]
              refine wpAnyH_ready (rs := [2]) (by kernel_rfl) (by simp) ?_
              refine AllReadyH.cons (o := _) rfl (fun K hK => ?_) AllReadyH.nil
              go_simp
              go_at_call 19
              refine (HKa.out _ HJ0.out).mono ?_
              rintro e wr1 ⟨rfl, hb⟩
              have HJ1 := Lib.hid (HJ0.out.trans (hb.mono HJ0.out.size))
              have HR1 := Lib.hid (HR0.out.trans (hb.mono HR0.out.size))
              have q1_0 : wr1.cell? ⟨ba, oa, none⟩ = some (.slice u0 l0 e0) := (HJ1.out.cell HlA.out).trans Za0.out
              have q1_1 : wr1.cell? ⟨ba, oa + 1, none⟩ = some (.bool ad) := (HJ1.out.cell HlA.out).trans Za1.out
              have q1_2 : wr1.cell? ⟨ba, oa + 2, none⟩ = some (.string at_) := (HJ1.out.cell HlA.out).trans Za2.out
              have q1_3 : wr1.cell? ⟨ba, oa + 3, none⟩ = some (.slice u1 l1 e1) := (HJ1.out.cell HlA.out).trans Za3.out
              have q1_4 : wr1.cell? ⟨bb, ob, none⟩ = some (.slice v0 l2 f0) := (HJ1.out.cell HlB.out).trans Zb0.out
              have q1_5 : wr1.cell? ⟨bb, ob + 1, none⟩ = some (.bool bd) := (HJ1.out.cell HlB.out).trans Zb1.out
              have q1_6 : wr1.cell? ⟨bb, ob + 2, none⟩ = some (.string bt) := (HJ1.out.cell HlB.out).trans Zb2.out
              have q1_7 : wr1.cell? ⟨bb, ob + 3, none⟩ = some (.slice v1 l3 f1) := (HJ1.out.cell HlB.out).trans Zb3.out
              clear hb
              clear hHeld
              refine hK.out _ _ ?_ (fun hHeld => ?_)
              · exact ⟨q1_0, q1_1, q1_2, q1_3, q1_4, q1_5, q1_6, q1_7⟩
              clear hK K
              try simp only [Act.put, List.getElem_toArray, List.getElem_cons_zero, List.getElem_cons_succ, List.setIfInBounds_toArray, List.set_cons_zero, List.set_cons_succ]
              refine wpAnyH_ready (rs := [5]) (by kernel_rfl) (by simp) ?_
              refine AllReadyH.cons (o := _) rfl (fun K hK => ?_) AllReadyH.nil
              go_simp
              go_at_call 19
              refine (HKb.out _ HJ1.out).mono ?_
              rintro e wr2 ⟨rfl, hb⟩
              have HJ2 := Lib.hid (HJ1.out.trans (hb.mono HJ1.out.size))
              have HR2 := Lib.hid (HR1.out.trans (hb.mono HR1.out.size))
              have q2_0 : wr2.cell? ⟨ba, oa, none⟩ = some (.slice u0 l0 e0) := (HJ2.out.cell HlA.out).trans Za0.out
              have q2_1 : wr2.cell? ⟨ba, oa + 1, none⟩ = some (.bool ad) := (HJ2.out.cell HlA.out).trans Za1.out
              have q2_2 : wr2.cell? ⟨ba, oa + 2, none⟩ = some (.string at_) := (HJ2.out.cell HlA.out).trans Za2.out
              have q2_3 : wr2.cell? ⟨ba, oa + 3, none⟩ = some (.slice u1 l1 e1) := (HJ2.out.cell HlA.out).trans Za3.out
              have q2_4 : wr2.cell? ⟨bb, ob, none⟩ = some (.slice v0 l2 f0) := (HJ2.out.cell HlB.out).trans Zb0.out
              have q2_5 : wr2.cell? ⟨bb, ob + 1, none⟩ = some (.bool bd) := (HJ2.out.cell HlB.out).trans Zb1.out
              have q2_6 : wr2.cell? ⟨bb, ob + 2, none⟩ = some (.string bt) := (HJ2.out.cell HlB.out).trans Zb2.out
              have q2_7 : wr2.cell? ⟨bb, ob + 3, none⟩ = some (.slice v1 l3 f1) := (HJ2.out.cell HlB.out).trans Zb3.out
              clear hb
              clear hHeld
              refine hK.out _ _ ?_ (fun hHeld => ?_)
              · exact ⟨q2_0, q2_1, q2_2, q2_3, q2_4, q2_5, q2_6, q2_7⟩
              clear hK K
              try simp only [Act.put, List.getElem_toArray, List.getElem_cons_zero, List.getElem_cons_succ, List.setIfInBounds_toArray, List.set_cons_zero, List.set_cons_succ]
              refine wpAnyH_take (i := 6) (oi := _) (v := ?_) rfl (by kernel_rfl) (by kernel_rfl) (by kernel_rfl) (fun _ _ _ h => h) (Or.inl ⟨by kernel_rfl, ?_⟩) (by assumption) ?_
              rotate_left
              · intro w hSw
                obtain ⟨hS0, hS1, hS2, hS3, hS4, hS5, hS6, hS7⟩ := hSw
                go_simp
                all_goals with_reducible rfl
              try simp only [Act.put, List.getElem_toArray, List.getElem_cons_zero, List.getElem_cons_succ, List.setIfInBounds_toArray, List.set_cons_zero, List.set_cons_succ]
              refine wpAnyH_take (i := 7) (oi := _) (v := ?_) rfl (by kernel_rfl) (by kernel_rfl) (by kernel_rfl) (fun _ _ _ h => h) (Or.inl ⟨by kernel_rfl, ?_⟩) (by assumption) ?_
              rotate_left
              · intro w hSw
                obtain ⟨hS0, hS1, hS2, hS3, hS4, hS5, hS6, hS7⟩ := hSw
                go_simp
                all_goals with_reducible rfl
              try simp only [Act.put, List.getElem_toArray, List.getElem_cons_zero, List.getElem_cons_succ, List.setIfInBounds_toArray, List.set_cons_zero, List.set_cons_succ]
              refine wpAnyH_take (i := 8) (oi := _) (v := ?_) rfl (by kernel_rfl) (by kernel_rfl) (by kernel_rfl) (fun _ _ _ h => h) (Or.inl ⟨by kernel_rfl, ?_⟩) (by assumption) ?_
              rotate_left
              · intro w hSw
                obtain ⟨hS0, hS1, hS2, hS3, hS4, hS5, hS6, hS7⟩ := hSw
                go_simp
                all_goals with_reducible rfl
              try simp only [Act.put, List.getElem_toArray, List.getElem_cons_zero, List.getElem_cons_succ, List.setIfInBounds_toArray, List.set_cons_zero, List.set_cons_succ]
              refine wpAnyH_take (i := 9) (oi := _) (v := ?_) rfl (by kernel_rfl) (by kernel_rfl) (by kernel_rfl) (fun _ _ _ h => h) (Or.inl ⟨by kernel_rfl, ?_⟩) (by assumption) ?_
              rotate_left
              · intro w hSw
                obtain ⟨hS0, hS1, hS2, hS3, hS4, hS5, hS6, hS7⟩ := hSw
                go_simp
                all_goals with_reducible rfl
              try simp only [Act.put, List.getElem_toArray, List.getElem_cons_zero, List.getElem_cons_succ, List.setIfInBounds_toArray, List.set_cons_zero, List.set_cons_succ]
              refine wpAnyH_take (i := 10) (oi := _) (v := ?_) rfl (by kernel_rfl) (by kernel_rfl) (by kernel_rfl) (fun _ _ _ h => h) (Or.inl ⟨by kernel_rfl, ?_⟩) (by assumption) ?_
              rotate_left
              · intro w hSw
                obtain ⟨hS0, hS1, hS2, hS3, hS4, hS5, hS6, hS7⟩ := hSw
                go_simp
                all_goals with_reducible rfl
              try simp only [Act.put, List.getElem_toArray, List.getElem_cons_zero, List.getElem_cons_succ, List.setIfInBounds_toArray, List.set_cons_zero, List.set_cons_succ]
              refine wpAnyH_take (i := 11) (oi := _) (v := ?_) rfl (by kernel_rfl) (by kernel_rfl) (by kernel_rfl) (fun _ _ _ h => h) (Or.inl ⟨by kernel_rfl, ?_⟩) (by assumption) ?_
              rotate_left
              · intro w hSw
                obtain ⟨hS0, hS1, hS2, hS3, hS4, hS5, hS6, hS7⟩ := hSw
                go_simp
                all_goals with_reducible rfl
              try simp only [Act.put, List.getElem_toArray, List.getElem_cons_zero, List.getElem_cons_succ, List.setIfInBounds_toArray, List.set_cons_zero, List.set_cons_succ]
              refine wpAnyH_take (i := 12) (oi := _) (v := ?_) rfl (by kernel_rfl) (by kernel_rfl) (by kernel_rfl) (fun _ _ _ h => h) (Or.inl ⟨by kernel_rfl, ?_⟩) (by assumption) ?_
              rotate_left
              · intro w hSw
                obtain ⟨hS0, hS1, hS2, hS3, hS4, hS5, hS6, hS7⟩ := hSw
                go_simp
                all_goals with_reducible rfl
              try simp only [Act.put, List.getElem_toArray, List.getElem_cons_zero, List.getElem_cons_succ, List.setIfInBounds_toArray, List.set_cons_zero, List.set_cons_succ]
              refine wpAnyH_take (i := 13) (oi := _) (v := ?_) rfl (by kernel_rfl) (by kernel_rfl) (by kernel_rfl) (fun _ _ _ h => h) (Or.inl ⟨by kernel_rfl, ?_⟩) (by assumption) ?_
              rotate_left
              · intro w hSw
                obtain ⟨hS0, hS1, hS2, hS3, hS4, hS5, hS6, hS7⟩ := hSw
                go_simp
                all_goals with_reducible rfl
              try simp only [Act.put, List.getElem_toArray, List.getElem_cons_zero, List.getElem_cons_succ, List.setIfInBounds_toArray, List.set_cons_zero, List.set_cons_succ]
              refine wpAnyH_take (i := 14) (oi := _) (v := ?_) rfl (by kernel_rfl) (by kernel_rfl) (by kernel_rfl) (fun _ _ _ h => h) (Or.inl ⟨by kernel_rfl, ?_⟩) (by assumption) ?_
              rotate_left
              · intro w hSw
                obtain ⟨hS0, hS1, hS2, hS3, hS4, hS5, hS6, hS7⟩ := hSw
                go_simp
                all_goals with_reducible rfl
              try simp only [Act.put, List.getElem_toArray, List.getElem_cons_zero, List.getElem_cons_succ, List.setIfInBounds_toArray, List.set_cons_zero, List.set_cons_succ]
              refine wpAnyH_take (i := 15) (oi := _) (v := ?_) rfl (by kernel_rfl) (by kernel_rfl) (by kernel_rfl) (fun _ _ _ h => h) (Or.inl ⟨by kernel_rfl, ?_⟩) (by assumption) ?_
              rotate_left
              · intro w hSw
                obtain ⟨hS0, hS1, hS2, hS3, hS4, hS5, hS6, hS7⟩ := hSw
                go_simp
                all_goals with_reducible rfl
              try simp only [Act.put, List.getElem_toArray, List.getElem_cons_zero, List.getElem_cons_succ, List.setIfInBounds_toArray, List.set_cons_zero, List.set_cons_succ]
              refine wpAnyH_take (i := 16) (oi := _) (v := ?_) rfl (by kernel_rfl) (by kernel_rfl) (by kernel_rfl) (fun _ _ _ h => h) (Or.inl ⟨by kernel_rfl, ?_⟩) (by assumption) ?_
              rotate_left
              · intro w hSw
                obtain ⟨hS0, hS1, hS2, hS3, hS4, hS5, hS6, hS7⟩ := hSw
                go_simp
                all_goals with_reducible rfl
              try simp only [Act.put, List.getElem_toArray, List.getElem_cons_zero, List.getElem_cons_succ, List.setIfInBounds_toArray, List.set_cons_zero, List.set_cons_succ]
              refine wpAnyH_take (i := 17) (oi := _) (v := ?_) rfl (by kernel_rfl) (by kernel_rfl) (by kernel_rfl) (fun _ _ _ h => h) (Or.inl ⟨by kernel_rfl, ?_⟩) (by assumption) ?_
              rotate_left
              · intro w hSw
                obtain ⟨hS0, hS1, hS2, hS3, hS4, hS5, hS6, hS7⟩ := hSw
                go_simp
                all_goals with_reducible rfl
              try simp only [Act.put, List.getElem_toArray, List.getElem_cons_zero, List.getElem_cons_succ, List.setIfInBounds_toArray, List.set_cons_zero, List.set_cons_succ]
              refine wpAnyH_take (i := 18) (oi := _) (v := ?_) rfl (by kernel_rfl) (by kernel_rfl) (by kernel_rfl) (fun _ _ _ h => h) (Or.inl ⟨by kernel_rfl, ?_⟩) (by assumption) ?_
              rotate_left
              · intro w hSw
                obtain ⟨hS0, hS1, hS2, hS3, hS4, hS5, hS6, hS7⟩ := hSw
                go_simp
                all_goals with_reducible rfl
              try simp only [Act.put, List.getElem_toArray, List.getElem_cons_zero, List.getElem_cons_succ, List.setIfInBounds_toArray, List.set_cons_zero, List.set_cons_succ]
              refine wpAnyH_take (i := 19) (oi := _) (v := ?_) rfl (by kernel_rfl) (by kernel_rfl) (by kernel_rfl) (fun _ _ _ h => h) (Or.inl ⟨by kernel_rfl, ?_⟩) (by assumption) ?_
              rotate_left
              · intro w hSw
                obtain ⟨hS0, hS1, hS2, hS3, hS4, hS5, hS6, hS7⟩ := hSw
                go_simp
                all_goals with_reducible rfl
              try simp only [Act.put, List.getElem_toArray, List.getElem_cons_zero, List.getElem_cons_succ, List.setIfInBounds_toArray, List.set_cons_zero, List.set_cons_succ]
              refine wpAnyH_take (i := 20) (oi := _) (v := ?_) rfl (by kernel_rfl) (by kernel_rfl) (by kernel_rfl) (fun _ _ _ h => h) (Or.inl ⟨by kernel_rfl, ?_⟩) (by assumption) ?_
              rotate_left
              · intro w hSw
                obtain ⟨hS0, hS1, hS2, hS3, hS4, hS5, hS6, hS7⟩ := hSw
                go_simp
                all_goals with_reducible rfl
              try simp only [Act.put, List.getElem_toArray, List.getElem_cons_zero, List.getElem_cons_succ, List.setIfInBounds_toArray, List.set_cons_zero, List.set_cons_succ]
              refine wpAnyH_take (i := 21) (oi := _) (v := ?_) rfl (by kernel_rfl) (by kernel_rfl) (by kernel_rfl) (fun _ _ _ h => h) (Or.inl ⟨by kernel_rfl, ?_⟩) (by assumption) ?_
              rotate_left
              · intro w hSw
                obtain ⟨hS0, hS1, hS2, hS3, hS4, hS5, hS6, hS7⟩ := hSw
                go_simp
                all_goals with_reducible rfl
              try simp only [Act.put, List.getElem_toArray, List.getElem_cons_zero, List.getElem_cons_succ, List.setIfInBounds_toArray, List.set_cons_zero, List.set_cons_succ]
              refine wpAnyH_take (i := 22) (oi := _) (v := ?_) rfl (by kernel_rfl) (by kernel_rfl) (by kernel_rfl) (fun _ _ _ h => h) (Or.inl ⟨by kernel_rfl, ?_⟩) (by assumption) ?_
              rotate_left
              · intro w hSw
                obtain ⟨hS0, hS1, hS2, hS3, hS4, hS5, hS6, hS7⟩ := hSw
                go_simp
                all_goals with_reducible rfl
              try simp only [Act.put, List.getElem_toArray, List.getElem_cons_zero, List.getElem_cons_succ, List.setIfInBounds_toArray, List.set_cons_zero, List.set_cons_succ]
              refine wpAnyH_ready (rs := [23]) (by kernel_rfl) (by simp) ?_
              refine AllReadyH.cons (o := _) rfl (fun K hK => ?_) AllReadyH.nil
              go_simp
              go_at_call 16
              refine (HSF.out _ HJ2.out).mono ?_
              rintro e wr3 ⟨rfl, hb⟩
              have HJ3 := Lib.hid (HJ2.out.trans (hb.mono HJ2.out.size))
              have HR3 := Lib.hid (HR2.out.trans (hb.mono HR2.out.size))
              have q3_0 : wr3.cell? ⟨ba, oa, none⟩ = some (.slice u0 l0 e0) := (HJ3.out.cell HlA.out).trans Za0.out
              have q3_1 : wr3.cell? ⟨ba, oa + 1, none⟩ = some (.bool ad) := (HJ3.out.cell HlA.out).trans Za1.out
              have q3_2 : wr3.cell? ⟨ba, oa + 2, none⟩ = some (.string at_) := (HJ3.out.cell HlA.out).trans Za2.out
              have q3_3 : wr3.cell? ⟨ba, oa + 3, none⟩ = some (.slice u1 l1 e1) := (HJ3.out.cell HlA.out).trans Za3.out
              have q3_4 : wr3.cell? ⟨bb, ob, none⟩ = some (.slice v0 l2 f0) := (HJ3.out.cell HlB.out).trans Zb0.out
              have q3_5 : wr3.cell? ⟨bb, ob + 1, none⟩ = some (.bool bd) := (HJ3.out.cell HlB.out).trans Zb1.out
              have q3_6 : wr3.cell? ⟨bb, ob + 2, none⟩ = some (.string bt) := (HJ3.out.cell HlB.out).trans Zb2.out
              have q3_7 : wr3.cell? ⟨bb, ob + 3, none⟩ = some (.slice v1 l3 f1) := (HJ3.out.cell HlB.out).trans Zb3.out
              clear hb
              clear hHeld
              refine hK.out _ _ ?_ (fun hHeld => ?_)
              · exact ⟨q3_0, q3_1, q3_2, q3_3, q3_4, q3_5, q3_6, q3_7⟩
              clear hK K
              try simp only [Act.put, List.getElem_toArray, List.getElem_cons_zero, List.getElem_cons_succ, List.setIfInBounds_toArray, List.set_cons_zero, List.set_cons_succ]
              refine wpAnyH_take (i := 24) (oi := _) (v := ?_) rfl (by kernel_rfl) (by kernel_rfl) (by kernel_rfl) (fun _ _ _ h => h) (Or.inl ⟨by kernel_rfl, ?_⟩) (by assumption) ?_
              rotate_left
              · intro w hSw
                obtain ⟨hS0, hS1, hS2, hS3, hS4, hS5, hS6, hS7⟩ := hSw
                go_simp
                all_goals with_reducible rfl
              try simp only [Act.put, List.getElem_toArray, List.getElem_cons_zero, List.getElem_cons_succ, List.setIfInBounds_toArray, List.set_cons_zero, List.set_cons_succ]
              refine wpAnyH_take (i := 25) (oi := _) (v := ?_) rfl (by kernel_rfl) (by kernel_rfl) (by kernel_rfl) (fun _ _ _ h => h) (Or.inl ⟨by kernel_rfl, ?_⟩) (by assumption) ?_
              rotate_left
              · intro w hSw
                obtain ⟨hS0, hS1, hS2, hS3, hS4, hS5, hS6, hS7⟩ := hSw
                go_simp
                all_goals with_reducible rfl
              try simp only [Act.put, List.getElem_toArray, List.getElem_cons_zero, List.getElem_cons_succ, List.setIfInBounds_toArray, List.set_cons_zero, List.set_cons_succ]
              refine wpAnyH_take (i := 26) (oi := _) (v := ?_) rfl (by kernel_rfl) (by kernel_rfl) (by kernel_rfl) (fun _ _ _ h => h) (Or.inl ⟨by kernel_rfl, ?_⟩) (by assumption) ?_
              rotate_left
              · intro w hSw
                obtain ⟨hS0, hS1, hS2, hS3, hS4, hS5, hS6, hS7⟩ := hSw
                go_simp
                all_goals with_reducible rfl
              try simp only [Act.put, List.getElem_toArray, List.getElem_cons_zero, List.getElem_cons_succ, List.setIfInBounds_toArray, List.set_cons_zero, List.set_cons_succ]
              refine wpAnyH_done (by kernel_rfl) ?_ _
              have HBz := Lib.hid (HBhi.out.trans (HJ3.out.mono HBhi.out.size))
              cases tb
              · go_wp2
                go_ret
                exact saysIn_k24 rfl HR3.out
              · have HAn2 := Lib.hid (HAn.out (of_decide_eq_true HTb.out.symm))
                go_wp2
                go_roundw
                case rel => exact ⟨k + 1, by omega, by go_num, HAn2, HBz⟩
                case measure => simp [intOf]; omega
        · obtain rfl : k = 2 := by omega
          have HWr := Lib.hid (HB9.out.trans (HBi.out.mono HB9.out.size))
          have HGr := Lib.hid (HGb.out _ _ HG9.out HBi.out)
          have XBr := Lib.hid (XB9.out.below HBi.out)
          have HTar := Lib.hid (HTa9.out.below HBi.out)
          have HTbr := Lib.hid (HTb9.out.below HBi.out)
          have HEq := Lib.hid (show fndR A root segs true index true = fndR B root segs true index true from fndR_agree (HAg.out 0 (by simp) (by decide)) (fun _ => HAg.out 1 (by simp) (by decide)))
          clear HAg
          obtain ⟨Wm, hWm⟩ : ∃ x, x = wr.alloc (.cells #[.slice none 0 0, .slice none 0 0] 37) := ⟨_, rfl⟩
          have hbm : Below wr.heap.size wr Wm := by rw [hWm]; exact (Below.refl _ _).alloc (Nat.le_refl _) _
          have hPm : Perm (fun _ => True) Wm wr.heap.size (wr.heap.size + 1) 0 (.slice none 0 0) [] := by rw [hWm]; exact perm_new wr _ _ (.inl ⟨rfl, .inl rfl⟩) (fun h => absurd rfl h)
          have hBm := HWr.out.trans (hbm.mono HWr.out.size)
          have hGm := HGb.out _ _ HGr.out hbm
          have hw7 : w7.heap.size <= wr.heap.size := H78.out |> fun h => Nat.le_trans h (Nat.le_trans HJ9.out.size HBi.out.size)
          have hRta : ∀ k, (w5.heap.size <= k /\ k < w6.heap.size) -> ¬ PermS Wm wr.heap.size k := by
            rintro k ⟨_, hk⟩ (e | e)
            · have := H67a.out; omega
            · rw [hWm] at e; exact asked_new wr _ k e
          have HFi := Lib.hid (HF.out.find (fun _ => True) _ (.pointer (some ⟨tp, 0, none⟩)) vr (.slice ps ns cs) (.slice none 0 0) (some A) root segs [] true index wr.heap.size (wr.heap.size + 1) 0 Wm hGm (.tree tp A (HTar.out.below hbm) HRG.out HSm.out (by have := HT30.out; omega)) hRta (HPr.out _ hBm) (apart_old (HPr.out w (Below.refl _ _)) HWr.out.size hPm) (HPs.out _ hBm) (apart_old (HPs.out w (Below.refl _ _)) HWr.out.size hPm) hPm trivial (by decide) (by have := HA2.out; omega) (by have := HB2s.out; omega) (fun x hx => by have := HA1.out x hx; omega) (fun x hx => by have := HB1s.out x hx; omega) (by have := HIz.out; omega))
          unfold mayV at HFi
          rw [show mayP [] (segs ++ [index]) = true from rfl, show fndO (some A) root segs true index true = fndR A root segs true index true from rfl] at HFi
          have hIs := fnd_is HRG.out root segs true index true
          have hSmX := small_found hIs HSm.out
          generalize fndR A root segs true index true = r at HFi hIs hSmX HEq
          obtain ⟨X, hX⟩ : ∃ X, X = r.2.getD zeroF := ⟨_, rfl⟩
          rw [<- hX] at hSmX
          have HSX := Lib.hid hSmX
          have HXd := Lib.hid hX
          obtain ⟨kr, hkr⟩ : ∃ x, x = r.1 := ⟨_, rfl⟩
          have Hkr := Lib.hid hkr
          obtain ⟨x0, hx0⟩ : ∃ x, x = X.1.length := ⟨_, rfl⟩
          obtain ⟨xd, hxd⟩ : ∃ x, x = X.2.1 := ⟨_, rfl⟩
          obtain ⟨xt, hxt⟩ : ∃ x, x = X.2.2.1 := ⟨_, rfl⟩
          obtain ⟨x1, hx1⟩ : ∃ x, x = X.2.2.2.length := ⟨_, rfl⟩
          have Hx0 := Lib.hid hx0
          have Hx1 := Lib.hid hx1
          have Hxd := Lib.hid hxd
          have Hxt := Lib.hid hxt
          have xm0 : (wr.alloc (.cells #[.slice none 0 0, .slice none 0 0] 37)).cell? ⟨w.heap.size, 0, none⟩ = some (.slice ps ns cs) := by rw [<- hWm]; exact (XBr.out.below hbm).cell rfl
          have xm1 : (wr.alloc (.cells #[.slice none 0 0, .slice none 0 0] 37)).cell? ⟨w.heap.size, 1, none⟩ = some (.bool true) := by rw [<- hWm]; exact (XBr.out.below hbm).cell rfl
          have HWm := Lib.hid hWm
          have HPm := Lib.hid hPm
          have HXm := Lib.hid (XBr.out.below hbm)
          have HBm := Lib.hid hBm
          have HGm := Lib.hid hGm
          have HTbm := Lib.hid (HTbr.out.below hbm)
          have HLw := Lib.hid (Nat.lt_of_lt_of_le (XBr.out.lt (by simp)) (Nat.le_refl wr.heap.size))
          have HW7r := Lib.hid hw7
          have Hmr := Lib.hid hbm
          clear hWm hbm hPm hBm hGm hw7 hRta hIs hSmX hX hkr hx0 hxd hxt hx1
          go_wp2_with fail
          rw [<- HWm.out]
          refine HFi.out.mono ?_
          rintro e v1 ⟨csF, m1, rfl, hin, hm1, hP1, hA1⟩
          rw [<- HXd.out] at hin
          have hO1 := HPm.out.only hA1
          have hBv : Below w.heap.size w v1 := HBm.out.trans (hO1.below w.heap.size HBm.out.size fun k hk => by have := HWr.out.size; omega)
          have hGv := HF.out.asks _ _ _ _ HGm.out (Nat.lt_succ_self _) hO1 (Nat.le_trans Hgz.out HWr.out.size)
          obtain ⟨y0, y1, y2, y3, rfl, _⟩ := fileK_parts hin
          rw [<- Hx0.out, <- Hx1.out, <- Hxd.out, <- Hxt.out] at hin ⊢
          rw [<- Hkr.out]
          obtain ⟨V1, hV1⟩ : ∃ x, x = v1.alloc (.cells #[.int .i64 kr, .slice y0 x0 y1, .bool xd, .string xt, .slice y2 x1 y3] 42) := ⟨_, rfl⟩
          have hb1 : Below v1.heap.size v1 V1 := by rw [hV1]; exact (Below.refl _ _).alloc (Nat.le_refl _) _
          have hxr : Box V1 v1.heap.size [.int .i64 kr, .slice y0 x0 y1, .bool xd, .string xt, .slice y2 x1 y3] := by rw [hV1]; exact Box.new v1 _ _
          have HO1 := Lib.hid hO1
          have HP1 := Lib.hid (hP1.below hb1)
          have HBV := Lib.hid (hBv.trans (hb1.mono hBv.size))
          have HGV := Lib.hid (HGb.out _ _ hGv hb1)
          have HXv := Lib.hid ((HXm.out.only hO1 (by have := HLw.out; omega)).below hb1)
          have hTbV : TreeAt (fun k => w6.heap.size <= k /\ k < w7.heap.size) V1 tq B := (HTbm.out.only hO1 (fun k hk e => by have := HW7r.out; omega)).below hb1
          have hInV := fileK.below hin hb1
          have hPv := HP1.out
          have hAsV : ∀ k, Asked V1 wr.heap.size k -> k < v1.heap.size := fun k hk => by
            obtain ⟨av, xs, h1, h2, _⟩ := hP1.asked
            obtain ⟨u, hu, hk⟩ := hk
            have h3 : V1.cell? ⟨wr.heap.size, 1, none⟩ = some av := (h1.below hb1).cell rfl
            rw [h3] at hu
            obtain rfl := Option.some.inj hu
            exact (World.ownsRow.lt h2 k hk).2
          have hAsE : ∀ k, Asked V1 wr.heap.size k -> Asked v1 wr.heap.size k := fun k hk => by
            obtain ⟨av, xs, h1, h2, _⟩ := hP1.asked
            obtain ⟨u, hu, hk⟩ := hk
            have h3 : V1.cell? ⟨wr.heap.size, 1, none⟩ = some av := (h1.below hb1).cell rfl
            rw [h3] at hu
            obtain rfl := Option.some.inj hu
            exact ⟨_, h1.cell rfl, hk⟩
          have hRtb : ∀ k, (w6.heap.size <= k /\ k < w7.heap.size) -> ¬ PermS V1 wr.heap.size k := by
            rintro k ⟨_, hk⟩ (e | e)
            · have := HW7r.out; omega
            · have := (hPv.askedGe e).1; have := HW7r.out; omega
          have HFj := Lib.hid (HF.out.find (fun _ => True) _ (.pointer (some ⟨tq, 0, none⟩)) vr (.slice ps ns cs) (.slice none 0 0) (some B) root segs [] true index wr.heap.size (wr.heap.size + 1) m1 V1 HGV.out (.tree tq B hTbV HRGb.out HSmb.out (by have := HT30b.out; omega)) hRtb (HPr.out _ HBV.out) (apart_old (HPr.out w (Below.refl _ _)) HWr.out.size hPv) (HPs.out _ HBV.out) (apart_old (HPs.out w (Below.refl _ _)) HWr.out.size hPv) hPv trivial (by omega) (by have := HA2.out; omega) (by have := HB2s.out; omega) (fun x hx => by have := HA1.out x hx; omega) (fun x hx => by have := HB1s.out x hx; omega) (by have := HIz.out; omega))
          unfold mayV at HFj
          rw [show mayP [] (segs ++ [index]) = true from rfl, show fndO (some B) root segs true index true = fndR B root segs true index true from rfl, <- HEq.out] at HFj
          have xn0 : (v1.alloc (.cells #[.int .i64 kr, .slice y0 x0 y1, .bool xd, .string xt, .slice y2 x1 y3] 42)).cell? ⟨w.heap.size, 0, none⟩ = some (.slice ps ns cs) := by rw [<- hV1]; exact HXv.out.cell rfl
          have xn1 : (v1.alloc (.cells #[.int .i64 kr, .slice y0 x0 y1, .bool xd, .string xt, .slice y2 x1 y3] 42)).cell? ⟨w.heap.size, 1, none⟩ = some (.bool true) := by rw [<- hV1]; exact HXv.out.cell rfl
          have HV1 := Lib.hid hV1
          have HXr := Lib.hid hxr
          have HInV := Lib.hid hInV
          have HAsV := Lib.hid hAsV
          have HAsE := Lib.hid hAsE
          have HSz1 := Lib.hid (show wr.heap.size < v1.heap.size from Nat.lt_of_lt_of_le (by have := HPm.out.lt; have := HPm.out.le; omega) hO1.size)
          have HgeM := Lib.hid (show wr.heap.size + 1 <= Wm.heap.size from HPm.out.le)
          clear hin hm1 hP1 hA1 hO1 hBv hGv hV1 hb1 hxr hTbV hInV hPv hAsV hAsE hRtb xm0 xm1
          go_wp2_with fail
          rw [<- HV1.out]
          refine HFj.out.mono ?_
          rintro e v2 ⟨csG, m2, rfl, hin2, _, _, hA2⟩
          rw [<- HXd.out] at hin2
          have hxr2 := HXr.out.only hA2.only (by
            rintro (e | e)
            · have := HSz1.out; omega
            · have := HAsV.out _ e; omega)
          have hIn2 := fileK.only HInV.out hA2.only (fun k hk e => by
            rcases e with e | e
            · have := hk.1; have := HgeM.out; omega
            · exact hk.2.2 (HAsE.out k e))
          have hBz : Below w.heap.size w v2 := HBV.out.trans ((HP1.out.only hA2).below w.heap.size HBV.out.size fun k hk => by have := HWr.out.size; omega)
          obtain ⟨z0, z1, z2, z3, rfl, _⟩ := fileK_parts hin2
          rw [<- Hx0.out, <- Hx1.out, <- Hxd.out, <- Hxt.out] at hin2 ⊢
          rw [<- Hkr.out]
          obtain ⟨V2, hV2⟩ : ∃ x, x = v2.alloc (.cells #[.int .i64 kr, .slice z0 x0 z1, .bool xd, .string xt, .slice z2 x1 z3] 42) := ⟨_, rfl⟩
          have hb2 : Below v2.heap.size v2 V2 := by rw [hV2]; exact (Below.refl _ _).alloc (Nat.le_refl _) _
          have HSF := Lib.hid (sameFile_any _ _ X V2 (fileK.below hIn2 hb2) (fileK.below hin2 hb2) HSX.out)
          have HBz := Lib.hid (hBz.trans (hb2.mono hBz.size))
          have HV2 := Lib.hid hV2
          have t0 : (v2.alloc (.cells #[.int .i64 kr, .slice z0 x0 z1, .bool xd, .string xt, .slice z2 x1 z3] 42)).cell? ⟨v1.heap.size, 0, none⟩ = some (.int .i64 kr) := by rw [<- hV2]; exact (hxr2.below hb2).cell rfl
          have t1 : (v2.alloc (.cells #[.int .i64 kr, .slice z0 x0 z1, .bool xd, .string xt, .slice z2 x1 z3] 42)).cell? ⟨v1.heap.size, 1, none⟩ = some (.slice y0 x0 y1) := by rw [<- hV2]; exact (hxr2.below hb2).cell rfl
          have t2 : (v2.alloc (.cells #[.int .i64 kr, .slice z0 x0 z1, .bool xd, .string xt, .slice z2 x1 z3] 42)).cell? ⟨v1.heap.size, 2, none⟩ = some (.bool xd) := by rw [<- hV2]; exact (hxr2.below hb2).cell rfl
          have t3 : (v2.alloc (.cells #[.int .i64 kr, .slice z0 x0 z1, .bool xd, .string xt, .slice z2 x1 z3] 42)).cell? ⟨v1.heap.size, 3, none⟩ = some (.string xt) := by rw [<- hV2]; exact (hxr2.below hb2).cell rfl
          have t4 : (v2.alloc (.cells #[.int .i64 kr, .slice z0 x0 z1, .bool xd, .string xt, .slice z2 x1 z3] 42)).cell? ⟨v1.heap.size, 4, none⟩ = some (.slice y2 x1 y3) := by rw [<- hV2]; exact (hxr2.below hb2).cell rfl
          clear hin2 hA2 hxr2 hIn2 hBz hV2 hb2 xn0 xn1
          go_wp2_with fail
          rw [<- HV2.out]
          refine HSF.out.mono ?_
          rintro e v3 ⟨rfl, hb⟩
          have HBe := Lib.hid (HBz.out.trans (hb.mono HBz.out.size))
          clear hb
          go_wp2
          go_ret
          exact saysIn_k24 rfl HBe.out
end Go.Proofs.Ytgfibbecnmmpjaa
