/- Stage 24: FindConfines, given FindC and awake. -/
import Derived.Test.YtgfibbecnmmpjaaQFA
namespace Go.Proofs.Ytgfibbecnmmpjaa
set_option linter.all false
open Go.RowKit
theorem saysIn_k24 {a b : Bool} {w w' : World} (h : a = b) (hb : Below w.heap.size w w') : SaysIn b w (.returned (.bool a)) w' := ⟨by rw [h], hb⟩
theorem pathBox24 (w : World) (p : Option Addr) (n c : Nat) (d : Bool) : ∀ W, W = w.alloc (.cells #[.slice p n c, .bool d] 26) -> Box W w.heap.size [.slice p n c, .bool d] /\ Below w.heap.size w W := fun W hW => by
  subst hW
  exact ⟨Box.new w _ _, (Below.refl _ _).alloc (Nat.le_refl _) _⟩
theorem perm_new {C : List ByteArray -> Prop} (w : World) (nv : Value) (no : List ByteArray) (hn : StrsIn w nv no) (hl : no ≠ [] -> ∀ k, nv.ownBlock = some k -> k < w.heap.size) : Perm C (w.alloc (.cells #[nv, .slice none 0 0] 37)) w.heap.size (w.heap.size + 1) 0 nv no := by
  have hb : Below w.heap.size w (w.alloc (.cells #[nv, .slice none 0 0] 37)) := (Below.refl _ _).alloc (Nat.le_refl _) _
  exact ⟨Nat.lt_succ_self _, by simp, hn.below hb, hl, .slice none 0 0, [], Box.new w _ _, World.ownsRow_nil _ _ _ _, fun x hx => by cases hx⟩
theorem asked_new (w : World) (nv : Value) (k : Nat) : ¬ Asked (w.alloc (.cells #[nv, .slice none 0 0] 37)) w.heap.size k := by
  rintro ⟨v, hv, hk⟩
  rw [World.cell?_alloc_mark] at hv
  obtain rfl : Value.slice none 0 0 = v := by simpa using hv
  cases hk
theorem strs_lt {w : World} {v : Value} {L : List ByteArray} (h : StrsIn w v L) (hn : L ≠ []) : ∀ k, v.ownBlock = some k -> k < w.heap.size := by
  intro k hk
  rcases h with ⟨h0, _⟩ | ⟨b, off, cap, rfl, h1, h2, h3⟩
  · exact absurd h0 hn
  · obtain rfl : b = k := Option.some.inj hk
    obtain ⟨x, hx⟩ := List.exists_mem_of_ne_nil L hn
    obtain ⟨i, hi, _⟩ := List.getElem_of_mem hx
    exact World.block_lt_of_cell? w _ (h3 i _ (List.getElem?_eq_getElem hi))
theorem apart_new {w : World} {nv v : Value} {L : List ByteArray} (h : StrsIn w v L) : Apart (w.alloc (.cells #[nv, .slice none 0 0] 37)) w.heap.size v L := fun hn k hk hs => by
  have := strs_lt h hn k hk
  rcases hs with e | e
  · omega
  · exact asked_new w nv k e
set_option maxRecDepth 100000 in
set_option maxHeartbeats 16000000 in
theorem findConfines_any {G : World -> Prop} (hF : FindC G) (haw : Awake24 G) (vT vr vs : Value) (T : List FileV) (root segs : List ByteArray) (dir : Bool) (index : ByteArray) (w : World) (hG : G w) (hT : fileK.rows (fun k => k < w.heap.size) w vT T) (hr : StrsIn w vr root) (hs : StrsIn w vs segs) (hgz : 0 <= w.heap.size) :
    Calls Try.prog 4 #[vT, vr, .agg #[vs, .bool dir], .string index] w (SaysIn true w) := by
  have HAw := Lib.hid haw
  have HGb := Lib.hid hF.below
  obtain ⟨ps, cs, rfl⟩ := hs.sliced
  obtain ⟨ns, hns⟩ : ∃ n, n = segs.length := ⟨_, rfl⟩
  rw [<- hns] at hs ⊢
  obtain ⟨X0, B0⟩ := pathBox24 w ps ns cs dir _ rfl
  generalize hW : w.alloc (.cells #[.slice ps ns cs, .bool dir] 26) = Wb at X0 B0
  have HV := Lib.hid (fun W (hb : Below w.heap.size w W) => fileK.rows_mono (fileK.rows_below hT hb) (R' := fun k => k < W.heap.size) fun k hk => Nat.lt_of_lt_of_le hk hb.size)
  have HPr := Lib.hid (fun W (hb : Below w.heap.size w W) => hr.below hb)
  have HPs := Lib.hid (fun W (hb : Below w.heap.size w W) => hs.below hb)
  have HR := Lib.hid (fun W (hb : Below w.heap.size w W) => rightT_any vT T W (HV.out W hb))
  have HA := Lib.hid (fun W (hb : Below w.heap.size w W) => few16w_any vr root W (HPr.out W hb))
  have HS := Lib.hid (fun W (hb : Below w.heap.size w W) => few16w_any (.slice ps ns cs) segs W (HPs.out W hb))
  have XB0 := Lib.hid X0
  have HBb := Lib.hid B0
  have HG := Lib.hid (hF.below _ _ hG B0)
  have xb0_0 := X0.cell (i := 0) rfl
  have xb0_1 := X0.cell (i := 1) rfl
  have Hns := Lib.hid hns
  have HF := Lib.hid hF
  have Hgz := Lib.hid hgz
  clear X0 B0 hG hns haw hT hr hs hF hgz
  cases hR : rightT T
  · rw [hR] at HR
    clear hR
    go_enter Try.func4, Try.ntmps4
    go_wp2_with fail
    refine (HAw.out _ HG.out).mono ?_
    rintro e w1 ⟨rfl, hb⟩
    have HB1 := Lib.hid (HBb.out.trans (hb.mono HBb.out.size))
    have HG1 := Lib.hid (HGb.out _ _ HG.out hb)
    have XB1 := Lib.hid (XB0.out.below hb)
    have xb1_0 := XB1.out.cell (i := 0) rfl
    have xb1_1 := XB1.out.cell (i := 1) rfl
    clear xb0_0 xb0_1
    clear hb
    go_wp2_with fail
    refine (HR.out _ HB1.out).mono ?_
    rintro e w2 ⟨rfl, hb⟩
    have HB2 := Lib.hid (HB1.out.trans (hb.mono HB1.out.size))
    have HG2 := Lib.hid (HGb.out _ _ HG1.out hb)
    have XB2 := Lib.hid (XB1.out.below hb)
    have xb2_0 := XB2.out.cell (i := 0) rfl
    have xb2_1 := XB2.out.cell (i := 1) rfl
    clear xb1_0 xb1_1
    clear hb
    go_wp2_with fail
    refine (HAw.out _ HG2.out).mono ?_
    rintro e w3 ⟨rfl, hb⟩
    have HB3 := Lib.hid (HB2.out.trans (hb.mono HB2.out.size))
    have HG3 := Lib.hid (HGb.out _ _ HG2.out hb)
    have XB3 := Lib.hid (XB2.out.below hb)
    have xb3_0 := XB3.out.cell (i := 0) rfl
    have xb3_1 := XB3.out.cell (i := 1) rfl
    clear xb2_0 xb2_1
    clear hb
    go_wp2_with fail
    go_ret
    exact saysIn_k24 rfl HB3.out
  rw [hR] at HR
  cases hA : fewSW root
  · rw [hA] at HA
    clear hA
    go_enter Try.func4, Try.ntmps4
    go_wp2_with fail
    refine (HAw.out _ HG.out).mono ?_
    rintro e w1 ⟨rfl, hb⟩
    have HB1 := Lib.hid (HBb.out.trans (hb.mono HBb.out.size))
    have HG1 := Lib.hid (HGb.out _ _ HG.out hb)
    have XB1 := Lib.hid (XB0.out.below hb)
    have xb1_0 := XB1.out.cell (i := 0) rfl
    have xb1_1 := XB1.out.cell (i := 1) rfl
    clear xb0_0 xb0_1
    clear hb
    go_wp2_with fail
    refine (HR.out _ HB1.out).mono ?_
    rintro e w2 ⟨rfl, hb⟩
    have HB2 := Lib.hid (HB1.out.trans (hb.mono HB1.out.size))
    have HG2 := Lib.hid (HGb.out _ _ HG1.out hb)
    have XB2 := Lib.hid (XB1.out.below hb)
    have xb2_0 := XB2.out.cell (i := 0) rfl
    have xb2_1 := XB2.out.cell (i := 1) rfl
    clear xb1_0 xb1_1
    clear hb
    go_wp2_with fail
    refine (HA.out _ HB2.out).mono ?_
    rintro e w3 ⟨rfl, hb⟩
    have HB3 := Lib.hid (HB2.out.trans (hb.mono HB2.out.size))
    have HG3 := Lib.hid (HGb.out _ _ HG2.out hb)
    have XB3 := Lib.hid (XB2.out.below hb)
    have xb3_0 := XB3.out.cell (i := 0) rfl
    have xb3_1 := XB3.out.cell (i := 1) rfl
    clear xb2_0 xb2_1
    clear hb
    go_wp2_with fail
    refine (HAw.out _ HG3.out).mono ?_
    rintro e w4 ⟨rfl, hb⟩
    have HB4 := Lib.hid (HB3.out.trans (hb.mono HB3.out.size))
    have HG4 := Lib.hid (HGb.out _ _ HG3.out hb)
    have XB4 := Lib.hid (XB3.out.below hb)
    have xb4_0 := XB4.out.cell (i := 0) rfl
    have xb4_1 := XB4.out.cell (i := 1) rfl
    clear xb3_0 xb3_1
    clear hb
    go_wp2_with fail
    go_ret
    exact saysIn_k24 rfl HB4.out
  rw [hA] at HA
  cases hS : fewSW segs
  · rw [hS] at HS
    clear hS
    go_enter Try.func4, Try.ntmps4
    go_wp2_with fail
    refine (HAw.out _ HG.out).mono ?_
    rintro e w1 ⟨rfl, hb⟩
    have HB1 := Lib.hid (HBb.out.trans (hb.mono HBb.out.size))
    have HG1 := Lib.hid (HGb.out _ _ HG.out hb)
    have XB1 := Lib.hid (XB0.out.below hb)
    have xb1_0 := XB1.out.cell (i := 0) rfl
    have xb1_1 := XB1.out.cell (i := 1) rfl
    clear xb0_0 xb0_1
    clear hb
    go_wp2_with fail
    refine (HR.out _ HB1.out).mono ?_
    rintro e w2 ⟨rfl, hb⟩
    have HB2 := Lib.hid (HB1.out.trans (hb.mono HB1.out.size))
    have HG2 := Lib.hid (HGb.out _ _ HG1.out hb)
    have XB2 := Lib.hid (XB1.out.below hb)
    have xb2_0 := XB2.out.cell (i := 0) rfl
    have xb2_1 := XB2.out.cell (i := 1) rfl
    clear xb1_0 xb1_1
    clear hb
    go_wp2_with fail
    refine (HA.out _ HB2.out).mono ?_
    rintro e w3 ⟨rfl, hb⟩
    have HB3 := Lib.hid (HB2.out.trans (hb.mono HB2.out.size))
    have HG3 := Lib.hid (HGb.out _ _ HG2.out hb)
    have XB3 := Lib.hid (XB2.out.below hb)
    have xb3_0 := XB3.out.cell (i := 0) rfl
    have xb3_1 := XB3.out.cell (i := 1) rfl
    clear xb2_0 xb2_1
    clear hb
    go_wp2_with fail
    refine (HS.out _ HB3.out).mono ?_
    rintro e w4 ⟨rfl, hb⟩
    have HB4 := Lib.hid (HB3.out.trans (hb.mono HB3.out.size))
    have HG4 := Lib.hid (HGb.out _ _ HG3.out hb)
    have XB4 := Lib.hid (XB3.out.below hb)
    have xb4_0 := XB4.out.cell (i := 0) rfl
    have xb4_1 := XB4.out.cell (i := 1) rfl
    clear xb3_0 xb3_1
    clear hb
    go_wp2_with fail
    refine (HAw.out _ HG4.out).mono ?_
    rintro e w5 ⟨rfl, hb⟩
    have HB5 := Lib.hid (HB4.out.trans (hb.mono HB4.out.size))
    have HG5 := Lib.hid (HGb.out _ _ HG4.out hb)
    have XB5 := Lib.hid (XB4.out.below hb)
    have xb5_0 := XB5.out.cell (i := 0) rfl
    have xb5_1 := XB5.out.cell (i := 1) rfl
    clear xb4_0 xb4_1
    clear hb
    go_wp2_with fail
    go_ret
    exact saysIn_k24 rfl HB5.out
  rw [hS] at HS
  by_cases hI : index.size <= 100
  case neg =>
    have bI : decide (100 < (index.size : Int)) = true := by simp; omega
    clear hI
    go_enter Try.func4, Try.ntmps4
    go_wp2_with fail
    refine (HAw.out _ HG.out).mono ?_
    rintro e w1 ⟨rfl, hb⟩
    have HB1 := Lib.hid (HBb.out.trans (hb.mono HBb.out.size))
    have HG1 := Lib.hid (HGb.out _ _ HG.out hb)
    have XB1 := Lib.hid (XB0.out.below hb)
    have xb1_0 := XB1.out.cell (i := 0) rfl
    have xb1_1 := XB1.out.cell (i := 1) rfl
    clear xb0_0 xb0_1
    clear hb
    go_wp2_with fail
    refine (HR.out _ HB1.out).mono ?_
    rintro e w2 ⟨rfl, hb⟩
    have HB2 := Lib.hid (HB1.out.trans (hb.mono HB1.out.size))
    have HG2 := Lib.hid (HGb.out _ _ HG1.out hb)
    have XB2 := Lib.hid (XB1.out.below hb)
    have xb2_0 := XB2.out.cell (i := 0) rfl
    have xb2_1 := XB2.out.cell (i := 1) rfl
    clear xb1_0 xb1_1
    clear hb
    go_wp2_with fail
    refine (HA.out _ HB2.out).mono ?_
    rintro e w3 ⟨rfl, hb⟩
    have HB3 := Lib.hid (HB2.out.trans (hb.mono HB2.out.size))
    have HG3 := Lib.hid (HGb.out _ _ HG2.out hb)
    have XB3 := Lib.hid (XB2.out.below hb)
    have xb3_0 := XB3.out.cell (i := 0) rfl
    have xb3_1 := XB3.out.cell (i := 1) rfl
    clear xb2_0 xb2_1
    clear hb
    go_wp2_with fail
    refine (HS.out _ HB3.out).mono ?_
    rintro e w4 ⟨rfl, hb⟩
    have HB4 := Lib.hid (HB3.out.trans (hb.mono HB3.out.size))
    have HG4 := Lib.hid (HGb.out _ _ HG3.out hb)
    have XB4 := Lib.hid (XB3.out.below hb)
    have xb4_0 := XB4.out.cell (i := 0) rfl
    have xb4_1 := XB4.out.cell (i := 1) rfl
    clear xb3_0 xb3_1
    clear hb
    go_wp2_with fail
    refine (HAw.out _ HG4.out).mono ?_
    rintro e w5 ⟨rfl, hb⟩
    have HB5 := Lib.hid (HB4.out.trans (hb.mono HB4.out.size))
    have HG5 := Lib.hid (HGb.out _ _ HG4.out hb)
    have XB5 := Lib.hid (XB4.out.below hb)
    have xb5_0 := XB5.out.cell (i := 0) rfl
    have xb5_1 := XB5.out.cell (i := 1) rfl
    clear xb4_0 xb4_1
    clear hb
    go_wp2_with fail
    go_ret
    exact saysIn_k24 rfl HB5.out
  have bI : decide (100 < (index.size : Int)) = false := by simp; omega
  obtain ⟨hs1, hT30, hs3, hRG, hbad⟩ := rightT_parts hR
  obtain ⟨ha1, ha2⟩ := fewS_partsW hA
  obtain ⟨hb1, hb2⟩ := fewS_partsW hS
  have HN := Lib.hid (fun W (hb : Below w.heap.size w W) => (newTree_any vT T W (HV.out W hb) hs1 (by omega)).mono fun e w' h => (show (∃ tp, e = .returned (.tuple #[.pointer (some ⟨tp, 0, none⟩), .nilIface]) /\ TreeAt (fun k => W.heap.size <= k /\ k < w'.heap.size) w' tp T) /\ Below W.heap.size W w' from ⟨by
        rcases h.1 with ⟨_, h1⟩ | ⟨i, h1, _⟩
        · exact h1
        · rw [hbad] at h1; exact (nomatch h1), h.2⟩))
  have HRG := Lib.hid hRG
  have HSm := Lib.hid (fun f hf => (hs1 f hf).1)
  have HT30 := Lib.hid hT30
  have HA1 := Lib.hid ha1
  have HA2 := Lib.hid ha2
  have HB1s := Lib.hid hb1
  have HB2s := Lib.hid hb2
  have HIz := Lib.hid hI
  clear hs1 hT30 hs3 hRG hbad ha1 ha2 hb1 hb2 hR hA hS hI
  go_enter Try.func4, Try.ntmps4
  go_wp2_with fail
  refine (HAw.out _ HG.out).mono ?_
  rintro e w1 ⟨rfl, hb⟩
  have HB1 := Lib.hid (HBb.out.trans (hb.mono HBb.out.size))
  have HG1 := Lib.hid (HGb.out _ _ HG.out hb)
  have XB1 := Lib.hid (XB0.out.below hb)
  have xb1_0 := XB1.out.cell (i := 0) rfl
  have xb1_1 := XB1.out.cell (i := 1) rfl
  clear xb0_0 xb0_1
  clear hb
  go_wp2_with fail
  refine (HR.out _ HB1.out).mono ?_
  rintro e w2 ⟨rfl, hb⟩
  have HB2 := Lib.hid (HB1.out.trans (hb.mono HB1.out.size))
  have HG2 := Lib.hid (HGb.out _ _ HG1.out hb)
  have XB2 := Lib.hid (XB1.out.below hb)
  have xb2_0 := XB2.out.cell (i := 0) rfl
  have xb2_1 := XB2.out.cell (i := 1) rfl
  clear xb1_0 xb1_1
  clear hb
  go_wp2_with fail
  refine (HA.out _ HB2.out).mono ?_
  rintro e w3 ⟨rfl, hb⟩
  have HB3 := Lib.hid (HB2.out.trans (hb.mono HB2.out.size))
  have HG3 := Lib.hid (HGb.out _ _ HG2.out hb)
  have XB3 := Lib.hid (XB2.out.below hb)
  have xb3_0 := XB3.out.cell (i := 0) rfl
  have xb3_1 := XB3.out.cell (i := 1) rfl
  clear xb2_0 xb2_1
  clear hb
  go_wp2_with fail
  refine (HS.out _ HB3.out).mono ?_
  rintro e w4 ⟨rfl, hb⟩
  have HB4 := Lib.hid (HB3.out.trans (hb.mono HB3.out.size))
  have HG4 := Lib.hid (HGb.out _ _ HG3.out hb)
  have XB4 := Lib.hid (XB3.out.below hb)
  have xb4_0 := XB4.out.cell (i := 0) rfl
  have xb4_1 := XB4.out.cell (i := 1) rfl
  clear xb3_0 xb3_1
  clear hb
  go_wp2_with fail
  refine (HN.out _ HB4.out).mono ?_
  rintro e w5 ⟨⟨tp, rfl, ht⟩, hb⟩
  have HTr := Lib.hid ht
  clear ht
  have HB5 := Lib.hid (HB4.out.trans (hb.mono HB4.out.size))
  have HG5 := Lib.hid (HGb.out _ _ HG4.out hb)
  have XB5 := Lib.hid (XB4.out.below hb)
  have xb5_0 := XB5.out.cell (i := 0) rfl
  have xb5_1 := XB5.out.cell (i := 1) rfl
  clear xb4_0 xb4_1
  clear hb
  obtain ⟨Wm, hWm⟩ : ∃ x, x = w5.alloc (.cells #[.slice none 0 0, .slice none 0 0] 37) := ⟨_, rfl⟩
  have hbm : Below w5.heap.size w5 Wm := by rw [hWm]; exact (Below.refl _ _).alloc (Nat.le_refl _) _
  have hPm : Perm (fun _ => True) Wm w5.heap.size (w5.heap.size + 1) 0 (.slice none 0 0) [] := by rw [hWm]; exact perm_new w5 _ _ (.inl ⟨rfl, .inl rfl⟩) (fun h => absurd rfl h)
  have hAr : Apart Wm w5.heap.size vr root := by rw [hWm]; exact apart_new (HPr.out _ HB5.out)
  have hAs : Apart Wm w5.heap.size (.slice ps ns cs) segs := by rw [hWm]; exact apart_new (HPs.out _ HB5.out)
  have hRt : ∀ k, (w4.heap.size <= k /\ k < w5.heap.size) -> ¬ PermS Wm w5.heap.size k := by
    rintro k ⟨_, hk⟩ (e | e)
    · omega
    · rw [hWm] at e; exact asked_new w5 _ k e
  have hBm := HB5.out.trans (hbm.mono HB5.out.size)
  have HFi := Lib.hid (HF.out.find (fun _ => True) _ _ vr (.slice ps ns cs) (.slice none 0 0) (some T) root segs [] dir index w5.heap.size (w5.heap.size + 1) 0 Wm (HGb.out _ _ HG5.out hbm) (.tree tp T (HTr.out.below hbm) HRG.out HSm.out (by have := HT30.out; omega)) hRt (HPr.out _ hBm) hAr (HPs.out _ hBm) hAs hPm trivial (by decide) (by have := HA2.out; omega) (by have := HB2s.out; omega) (fun x hx => by have := HA1.out x hx; omega) (fun x hx => by have := HB1s.out x hx; omega) (by have := HIz.out; omega))
  unfold mayV at HFi
  rw [show mayP [] (segs ++ [index]) = true from rfl] at HFi
  have hIs := fnd_is HRG.out root segs dir index true
  rw [show fndO (some T) root segs dir index true = fndR T root segs dir index true from rfl] at HFi
  generalize fndR T root segs dir index true = r at HFi hIs
  have xm0 : (w5.alloc (.cells #[.slice none 0 0, .slice none 0 0] 37)).cell? ⟨w.heap.size, 0, none⟩ = some (.slice ps ns cs) := by rw [<- hWm]; exact (XB5.out.below hbm).cell rfl
  have xm1 : (w5.alloc (.cells #[.slice none 0 0, .slice none 0 0] 37)).cell? ⟨w.heap.size, 1, none⟩ = some (.bool dir) := by rw [<- hWm]; exact (XB5.out.below hbm).cell rfl
  have HWm := Lib.hid hWm
  have HPm := Lib.hid hPm
  have HXm := Lib.hid (XB5.out.below hbm)
  have HBm := Lib.hid hBm
  have HLt := Lib.hid (XB5.out.lt (by simp))
  clear hWm hbm hPm hAr hAs hRt hBm xb5_0 xb5_1 HTr
  go_wp2_with fail
  rw [<- HWm.out]
  refine HFi.out.mono ?_
  rintro e w6 ⟨csF, m, rfl, hin, _, hP6, hA6⟩
  have hO6 := HPm.out.only hA6
  have hB6 : Below w.heap.size w w6 := HBm.out.trans (hO6.below w.heap.size HBm.out.size fun k hk => by have := HB5.out.size; omega)
  have HX6 := Lib.hid (HXm.out.only hO6 (by have := HLt.out; omega))
  have HB6 := Lib.hid hB6
  have HIn := Lib.hid hin
  clear hP6 hA6 hO6 hB6 xm0 xm1 HFi HWm HPm HXm HBm
  cases hIs with
  | file f hd hk hf =>
    subst hd
    obtain ⟨hfp, _⟩ := getF_path hf
    have hi : fileK.In _ w6 csF f := HIn.out
    obtain ⟨q0, d0, q1, d1, rfl, hpq⟩ := fileK_parts hi
    obtain ⟨hp, _⟩ := hpq (fun _ => False) w6 (Only.refl _ _) (fun _ _ h => h)
    obtain ⟨m0, hm0⟩ : ∃ x, x = f.1.length := ⟨_, rfl⟩
    obtain ⟨fd, hfd⟩ : ∃ x, x = f.2.1 := ⟨_, rfl⟩
    obtain ⟨ft, hft⟩ : ∃ x, x = f.2.2.1 := ⟨_, rfl⟩
    obtain ⟨m1, hm1⟩ : ∃ x, x = f.2.2.2.length := ⟨_, rfl⟩
    rw [<- hm0] at hp
    rw [hfp] at hp
    rw [<- hm0, <- hfd, <- hft, <- hm1]
    obtain ⟨W6, hW6⟩ : ∃ x, x = w6.alloc (.cells #[.int .i64 1, .slice q0 m0 d0, .bool fd, .string ft, .slice q1 m1 d1] 42) := ⟨_, rfl⟩
    have hb6 : Below w6.heap.size w6 W6 := by rw [hW6]; exact (Below.refl _ _).alloc (Nat.le_refl _) _
    have hx6 : Box W6 w6.heap.size [.int .i64 1, .slice q0 m0 d0, .bool fd, .string ft, .slice q1 m1 d1] := by rw [hW6]; exact Box.new w6 _ _
    have xc0 : (w6.alloc (.cells #[.int .i64 1, .slice q0 m0 d0, .bool fd, .string ft, .slice q1 m1 d1] 42)).cell? ⟨w.heap.size, 0, none⟩ = some (.slice ps ns cs) := by rw [<- hW6]; exact (HX6.out.below hb6).cell rfl
    have HBW := Lib.hid (HB6.out.trans (hb6.mono HB6.out.size))
    have HFu := Lib.hid (refFull_any vr (.slice ps ns cs) root segs W6 (HPr.out _ HBW.out) (HPs.out _ HBW.out) (by have := HA2.out; omega) (by have := HB2s.out; omega))
    have HXr := Lib.hid hx6
    have HXp := Lib.hid (HX6.out.below hb6)
    have HSf := Lib.hid (hp.below hb6)
    have HW6 := Lib.hid hW6
    clear hi hpq hp hm0 hfd hft hm1 hW6 hb6 hx6 hfp hf hk HIn
    go_wp2_with fail
    rw [<- HW6.out]
    refine HFu.out.mono ?_
    rintro e w7 ⟨v7, rfl, hs7, _, hb⟩
    have HS7 := Lib.hid hs7
    have HXr7 := Lib.hid (HXr.out.below hb)
    have HXp7 := Lib.hid (HXp.out.below hb)
    have HSf7 := Lib.hid (HSf.out.below hb)
    have HBb := Lib.hid (HBW.out.trans (hb.mono HBW.out.size))
    have HJb := Lib.hid (Below.refl w7.heap.size w7)
    obtain ⟨p7, c7, hv7⟩ := hs7.sliced
    subst hv7
    have hnm := HXr7.out.cell (i := 1) rfl
    have Z1 : Hid (w7.cell? ⟨w6.heap.size, 1, none⟩ = some (.slice q0 m0 d0)) := Lib.hid hnm
    have Hl1 := Lib.hid (World.block_lt_of_cell? w7 _ hnm)
    have Z2 : Hid (w7.cell? ⟨w.heap.size, 1, none⟩ = some (.bool false)) := Lib.hid (HXp7.out.cell (i := 1) rfl)
    have Hl2 := Lib.hid (World.block_lt_of_cell? w7 _ Z2.out)
    clear hb hs7 hnm HXr HXp HSf xc0 HW6
    have HT := Lib.hid (fun W (hb : Below w7.heap.size w7 W) => (texts_q (.slice q0 m0 d0) (.slice p7 (root ++ segs).length c7) (root ++ segs) (root ++ segs) W (HSf7.out.below hb) (HS7.out.below hb)).mono (fun _ _ h => h.says))
    rw [decide_eq_true rfl] at HT
    generalize (root ++ segs).length = n7 at HT ⊢
    go_wp2_with fail
    have q0_0 : w7.drew.cell? ⟨w6.heap.size, 1, none⟩ = some (.slice q0 m0 d0) := Z1.out
    have q0_1 : w7.drew.cell? ⟨w.heap.size, 1, none⟩ = some (.bool false) := Z2.out
    have HJ0 := Lib.hid HJb.out.drew
    have HR0 := Lib.hid HBb.out.drew
    refine wp_region_held_drew (S := (fun W => W.cell? ⟨w6.heap.size, 1, none⟩ = some (.slice q0 m0 d0) /\ W.cell? ⟨w.heap.size, 1, none⟩ = some (.bool false))) (by kernel_rfl) ⟨q0_0, q0_1⟩ (fun hHeld => ?_)
    refine wpAnyH_take (i := 0) (oi := _) (v := ?_) rfl (by kernel_rfl) (by kernel_rfl) (by kernel_rfl) (fun _ _ _ h => h) (Or.inl ⟨by kernel_rfl, ?_⟩) (by assumption) ?_
    rotate_left
    · intro w hSw
      obtain ⟨hS0, hS1⟩ := hSw
      go_simp
      all_goals with_reducible rfl
    try simp only [Act.put, List.getElem_toArray, List.getElem_cons_zero, List.getElem_cons_succ, List.setIfInBounds_toArray, List.set_cons_zero, List.set_cons_succ]
    refine wpAnyH_take (i := 1) (oi := _) (v := ?_) rfl (by kernel_rfl) (by kernel_rfl) (by kernel_rfl) (fun _ _ _ h => h) (Or.inl ⟨by kernel_rfl, ?_⟩) (by assumption) ?_
    rotate_left
    · intro w hSw
      obtain ⟨hS0, hS1⟩ := hSw
      go_simp
      all_goals with_reducible rfl
    try simp only [Act.put, List.getElem_toArray, List.getElem_cons_zero, List.getElem_cons_succ, List.setIfInBounds_toArray, List.set_cons_zero, List.set_cons_succ]
    refine wpAnyH_take (i := 2) (oi := _) (v := ?_) rfl (by kernel_rfl) (by kernel_rfl) (by kernel_rfl) (fun _ _ _ h => h) (Or.inl ⟨by kernel_rfl, ?_⟩) (by assumption) ?_
    rotate_left
    · intro w hSw
      obtain ⟨hS0, hS1⟩ := hSw
      go_simp
      all_goals with_reducible rfl
    try simp only [Act.put, List.getElem_toArray, List.getElem_cons_zero, List.getElem_cons_succ, List.setIfInBounds_toArray, List.set_cons_zero, List.set_cons_succ]
    refine wpAnyH_take (i := 3) (oi := _) (v := ?_) rfl (by kernel_rfl) (by kernel_rfl) (by kernel_rfl) (fun _ _ _ h => h) (Or.inl ⟨by kernel_rfl, ?_⟩) (by assumption) ?_
    rotate_left
    · intro w hSw
      obtain ⟨hS0, hS1⟩ := hSw
      go_simp
      all_goals with_reducible rfl
    try simp only [Act.put, List.getElem_toArray, List.getElem_cons_zero, List.getElem_cons_succ, List.setIfInBounds_toArray, List.set_cons_zero, List.set_cons_succ]
    refine wpAnyH_ready (rs := [4]) (by kernel_rfl) (by simp) ?_
    refine AllReadyH.cons (o := _) rfl (fun K hK => ?_) AllReadyH.nil
    go_simp
    go_at_call 15
    refine (HT.out _ HJ0.out).mono ?_
    rintro e wr1 ⟨rfl, hb⟩
    have HJ1 := Lib.hid (HJ0.out.trans (hb.mono HJ0.out.size))
    have HR1 := Lib.hid (HR0.out.trans (hb.mono HR0.out.size))
    have q1_0 : wr1.cell? ⟨w6.heap.size, 1, none⟩ = some (.slice q0 m0 d0) := (HJ1.out.cell Hl1.out).trans Z1.out
    have q1_1 : wr1.cell? ⟨w.heap.size, 1, none⟩ = some (.bool false) := (HJ1.out.cell Hl2.out).trans Z2.out
    clear hb
    clear hHeld
    refine hK.out _ _ ?_ (fun hHeld => ?_)
    · exact ⟨q1_0, q1_1⟩
    clear hK K
    try simp only [Act.put, List.getElem_toArray, List.getElem_cons_zero, List.getElem_cons_succ, List.setIfInBounds_toArray, List.set_cons_zero, List.set_cons_succ]
    refine wpAnyH_take (i := 5) (oi := _) (v := ?_) rfl (by kernel_rfl) (by kernel_rfl) (by kernel_rfl) (fun _ _ _ h => h) (Or.inl ⟨by kernel_rfl, ?_⟩) (by assumption) ?_
    rotate_left
    · intro w hSw
      obtain ⟨hS0, hS1⟩ := hSw
      go_simp
      all_goals with_reducible rfl
    try simp only [Act.put, List.getElem_toArray, List.getElem_cons_zero, List.getElem_cons_succ, List.setIfInBounds_toArray, List.set_cons_zero, List.set_cons_succ]
    refine wpAnyH_take (i := 6) (oi := _) (v := ?_) rfl (by kernel_rfl) (by kernel_rfl) (by kernel_rfl) (fun _ _ _ h => h) (Or.inl ⟨by kernel_rfl, ?_⟩) (by assumption) ?_
    rotate_left
    · intro w hSw
      obtain ⟨hS0, hS1⟩ := hSw
      go_simp
      all_goals with_reducible rfl
    try simp only [Act.put, List.getElem_toArray, List.getElem_cons_zero, List.getElem_cons_succ, List.setIfInBounds_toArray, List.set_cons_zero, List.set_cons_succ]
    refine wpAnyH_take (i := 7) (oi := _) (v := ?_) rfl (by kernel_rfl) (by kernel_rfl) (by kernel_rfl) (fun _ _ _ h => h) (Or.inl ⟨by kernel_rfl, ?_⟩) (by assumption) ?_
    rotate_left
    · intro w hSw
      obtain ⟨hS0, hS1⟩ := hSw
      go_simp
      all_goals with_reducible rfl
    try simp only [Act.put, List.getElem_toArray, List.getElem_cons_zero, List.getElem_cons_succ, List.setIfInBounds_toArray, List.set_cons_zero, List.set_cons_succ]
    refine wpAnyH_take (i := 8) (oi := _) (v := ?_) rfl (by kernel_rfl) (by kernel_rfl) (by kernel_rfl) (fun _ _ _ h => h) (Or.inl ⟨by kernel_rfl, ?_⟩) (by assumption) ?_
    rotate_left
    · intro w hSw
      obtain ⟨hS0, hS1⟩ := hSw
      go_simp
      all_goals with_reducible rfl
    try simp only [Act.put, List.getElem_toArray, List.getElem_cons_zero, List.getElem_cons_succ, List.setIfInBounds_toArray, List.set_cons_zero, List.set_cons_succ]
    refine wpAnyH_take (i := 9) (oi := _) (v := ?_) rfl (by kernel_rfl) (by kernel_rfl) (by kernel_rfl) (fun _ _ _ h => h) (Or.inl ⟨by kernel_rfl, ?_⟩) (by assumption) ?_
    rotate_left
    · intro w hSw
      obtain ⟨hS0, hS1⟩ := hSw
      go_simp
      all_goals with_reducible rfl
    try simp only [Act.put, List.getElem_toArray, List.getElem_cons_zero, List.getElem_cons_succ, List.setIfInBounds_toArray, List.set_cons_zero, List.set_cons_succ]
    refine wpAnyH_take (i := 10) (oi := _) (v := ?_) rfl (by kernel_rfl) (by kernel_rfl) (by kernel_rfl) (fun _ _ _ h => h) (Or.inl ⟨by kernel_rfl, ?_⟩) (by assumption) ?_
    rotate_left
    · intro w hSw
      obtain ⟨hS0, hS1⟩ := hSw
      go_simp
      all_goals with_reducible rfl
    try simp only [Act.put, List.getElem_toArray, List.getElem_cons_zero, List.getElem_cons_succ, List.setIfInBounds_toArray, List.set_cons_zero, List.set_cons_succ]
    refine wpAnyH_take (i := 11) (oi := _) (v := undef) rfl (by kernel_rfl) (by kernel_rfl) (by kernel_rfl) (fun _ _ _ h => h) (Or.inr ⟨by kernel_rfl, rfl⟩) (by assumption) ?_
    try simp only [Act.put, List.getElem_toArray, List.getElem_cons_zero, List.getElem_cons_succ, List.setIfInBounds_toArray, List.set_cons_zero, List.set_cons_succ]
    refine wpAnyH_take (i := 12) (oi := _) (v := undef) rfl (by kernel_rfl) (by kernel_rfl) (by kernel_rfl) (fun _ _ _ h => h) (Or.inr ⟨by kernel_rfl, rfl⟩) (by assumption) ?_
    try simp only [Act.put, List.getElem_toArray, List.getElem_cons_zero, List.getElem_cons_succ, List.setIfInBounds_toArray, List.set_cons_zero, List.set_cons_succ]
    refine wpAnyH_take (i := 13) (oi := _) (v := undef) rfl (by kernel_rfl) (by kernel_rfl) (by kernel_rfl) (fun _ _ _ h => h) (Or.inr ⟨by kernel_rfl, rfl⟩) (by assumption) ?_
    try simp only [Act.put, List.getElem_toArray, List.getElem_cons_zero, List.getElem_cons_succ, List.setIfInBounds_toArray, List.set_cons_zero, List.set_cons_succ]
    refine wpAnyH_take (i := 14) (oi := _) (v := undef) rfl (by kernel_rfl) (by kernel_rfl) (by kernel_rfl) (fun _ _ _ h => h) (Or.inr ⟨by kernel_rfl, rfl⟩) (by assumption) ?_
    try simp only [Act.put, List.getElem_toArray, List.getElem_cons_zero, List.getElem_cons_succ, List.setIfInBounds_toArray, List.set_cons_zero, List.set_cons_succ]
    refine wpAnyH_take (i := 15) (oi := _) (v := undef) rfl (by kernel_rfl) (by kernel_rfl) (by kernel_rfl) (fun _ _ _ h => h) (Or.inr ⟨by kernel_rfl, rfl⟩) (by assumption) ?_
    try simp only [Act.put, List.getElem_toArray, List.getElem_cons_zero, List.getElem_cons_succ, List.setIfInBounds_toArray, List.set_cons_zero, List.set_cons_succ]
    refine wpAnyH_take (i := 16) (oi := _) (v := undef) rfl (by kernel_rfl) (by kernel_rfl) (by kernel_rfl) (fun _ _ _ h => h) (Or.inr ⟨by kernel_rfl, rfl⟩) (by assumption) ?_
    try simp only [Act.put, List.getElem_toArray, List.getElem_cons_zero, List.getElem_cons_succ, List.setIfInBounds_toArray, List.set_cons_zero, List.set_cons_succ]
    refine wpAnyH_take (i := 17) (oi := _) (v := undef) rfl (by kernel_rfl) (by kernel_rfl) (by kernel_rfl) (fun _ _ _ h => h) (Or.inr ⟨by kernel_rfl, rfl⟩) (by assumption) ?_
    try simp only [Act.put, List.getElem_toArray, List.getElem_cons_zero, List.getElem_cons_succ, List.setIfInBounds_toArray, List.set_cons_zero, List.set_cons_succ]
    refine wpAnyH_take (i := 18) (oi := _) (v := undef) rfl (by kernel_rfl) (by kernel_rfl) (by kernel_rfl) (fun _ _ _ h => h) (Or.inr ⟨by kernel_rfl, rfl⟩) (by assumption) ?_
    try simp only [Act.put, List.getElem_toArray, List.getElem_cons_zero, List.getElem_cons_succ, List.setIfInBounds_toArray, List.set_cons_zero, List.set_cons_succ]
    refine wpAnyH_take (i := 19) (oi := _) (v := undef) rfl (by kernel_rfl) (by kernel_rfl) (by kernel_rfl) (fun _ _ _ h => h) (Or.inr ⟨by kernel_rfl, rfl⟩) (by assumption) ?_
    try simp only [Act.put, List.getElem_toArray, List.getElem_cons_zero, List.getElem_cons_succ, List.setIfInBounds_toArray, List.set_cons_zero, List.set_cons_succ]
    refine wpAnyH_take (i := 20) (oi := _) (v := undef) rfl (by kernel_rfl) (by kernel_rfl) (by kernel_rfl) (fun _ _ _ h => h) (Or.inr ⟨by kernel_rfl, rfl⟩) (by assumption) ?_
    try simp only [Act.put, List.getElem_toArray, List.getElem_cons_zero, List.getElem_cons_succ, List.setIfInBounds_toArray, List.set_cons_zero, List.set_cons_succ]
    refine wpAnyH_take (i := 21) (oi := _) (v := undef) rfl (by kernel_rfl) (by kernel_rfl) (by kernel_rfl) (fun _ _ _ h => h) (Or.inr ⟨by kernel_rfl, rfl⟩) (by assumption) ?_
    try simp only [Act.put, List.getElem_toArray, List.getElem_cons_zero, List.getElem_cons_succ, List.setIfInBounds_toArray, List.set_cons_zero, List.set_cons_succ]
    refine wpAnyH_take (i := 22) (oi := _) (v := undef) rfl (by kernel_rfl) (by kernel_rfl) (by kernel_rfl) (fun _ _ _ h => h) (Or.inr ⟨by kernel_rfl, rfl⟩) (by assumption) ?_
    try simp only [Act.put, List.getElem_toArray, List.getElem_cons_zero, List.getElem_cons_succ, List.setIfInBounds_toArray, List.set_cons_zero, List.set_cons_succ]
    refine wpAnyH_take (i := 23) (oi := _) (v := ?_) rfl (by kernel_rfl) (by kernel_rfl) (by kernel_rfl) (fun _ _ _ h => h) (Or.inl ⟨by kernel_rfl, ?_⟩) (by assumption) ?_
    rotate_left
    · intro w hSw
      obtain ⟨hS0, hS1⟩ := hSw
      go_simp
      all_goals with_reducible rfl
    try simp only [Act.put, List.getElem_toArray, List.getElem_cons_zero, List.getElem_cons_succ, List.setIfInBounds_toArray, List.set_cons_zero, List.set_cons_succ]
    refine wpAnyH_take (i := 24) (oi := _) (v := ?_) rfl (by kernel_rfl) (by kernel_rfl) (by kernel_rfl) (fun _ _ _ h => h) (Or.inl ⟨by kernel_rfl, ?_⟩) (by assumption) ?_
    rotate_left
    · intro w hSw
      obtain ⟨hS0, hS1⟩ := hSw
      go_simp
      all_goals with_reducible rfl
    try simp only [Act.put, List.getElem_toArray, List.getElem_cons_zero, List.getElem_cons_succ, List.setIfInBounds_toArray, List.set_cons_zero, List.set_cons_succ]
    refine wpAnyH_done (by kernel_rfl) ?_ _
    go_wp2
    go_ret
    exact saysIn_k24 rfl HR1.out
  | index f hd _ hk hf =>
    subst hd
    obtain ⟨hfp, _⟩ := getF_path hf
    have hi : fileK.In _ w6 csF f := HIn.out
    obtain ⟨q0, d0, q1, d1, rfl, hpq⟩ := fileK_parts hi
    obtain ⟨hp, _⟩ := hpq (fun _ => False) w6 (Only.refl _ _) (fun _ _ h => h)
    obtain ⟨m0, hm0⟩ : ∃ x, x = f.1.length := ⟨_, rfl⟩
    obtain ⟨fd, hfd⟩ : ∃ x, x = f.2.1 := ⟨_, rfl⟩
    obtain ⟨ft, hft⟩ : ∃ x, x = f.2.2.1 := ⟨_, rfl⟩
    obtain ⟨m1, hm1⟩ : ∃ x, x = f.2.2.2.length := ⟨_, rfl⟩
    rw [<- hm0] at hp
    rw [hfp] at hp
    rw [<- hm0, <- hfd, <- hft, <- hm1]
    obtain ⟨W6, hW6⟩ : ∃ x, x = w6.alloc (.cells #[.int .i64 1, .slice q0 m0 d0, .bool fd, .string ft, .slice q1 m1 d1] 42) := ⟨_, rfl⟩
    have hb6 : Below w6.heap.size w6 W6 := by rw [hW6]; exact (Below.refl _ _).alloc (Nat.le_refl _) _
    have hx6 : Box W6 w6.heap.size [.int .i64 1, .slice q0 m0 d0, .bool fd, .string ft, .slice q1 m1 d1] := by rw [hW6]; exact Box.new w6 _ _
    have xc0 : (w6.alloc (.cells #[.int .i64 1, .slice q0 m0 d0, .bool fd, .string ft, .slice q1 m1 d1] 42)).cell? ⟨w.heap.size, 0, none⟩ = some (.slice ps ns cs) := by rw [<- hW6]; exact (HX6.out.below hb6).cell rfl
    have HBW := Lib.hid (HB6.out.trans (hb6.mono HB6.out.size))
    have HFu := Lib.hid (refFull_any vr (.slice ps ns cs) root segs W6 (HPr.out _ HBW.out) (HPs.out _ HBW.out) (by have := HA2.out; omega) (by have := HB2s.out; omega))
    have HXr := Lib.hid hx6
    have HXp := Lib.hid (HX6.out.below hb6)
    have HSf := Lib.hid (hp.below hb6)
    have HW6 := Lib.hid hW6
    clear hi hpq hp hm0 hfd hft hm1 hW6 hb6 hx6 hfp hf hk HIn
    go_wp2_with fail
    rw [<- HW6.out]
    refine HFu.out.mono ?_
    rintro e w7 ⟨v7, rfl, hs7, _, hb⟩
    have HS7 := Lib.hid hs7
    have HXr7 := Lib.hid (HXr.out.below hb)
    have HXp7 := Lib.hid (HXp.out.below hb)
    have HSf7 := Lib.hid (HSf.out.below hb)
    have HBb := Lib.hid (HBW.out.trans (hb.mono HBW.out.size))
    have HJb := Lib.hid (Below.refl w7.heap.size w7)
    obtain ⟨p7, c7, hv7⟩ := hs7.sliced
    subst hv7
    have hnm := HXr7.out.cell (i := 1) rfl
    have Z1 : Hid (w7.cell? ⟨w6.heap.size, 1, none⟩ = some (.slice q0 m0 d0)) := Lib.hid hnm
    have Hl1 := Lib.hid (World.block_lt_of_cell? w7 _ hnm)
    have Z2 : Hid (w7.cell? ⟨w.heap.size, 1, none⟩ = some (.bool true)) := Lib.hid (HXp7.out.cell (i := 1) rfl)
    have Hl2 := Lib.hid (World.block_lt_of_cell? w7 _ Z2.out)
    clear hb hs7 hnm HXr HXp HSf xc0 HW6
    have HT := Lib.hid (fun W (hb : Below w7.heap.size w7 W) => (texts_q (.slice q0 m0 d0) (.slice p7 (root ++ segs).length c7) (root ++ segs ++ [index]) (root ++ segs) W (HSf7.out.below hb) (HS7.out.below hb)).mono (fun _ _ h => h.says))
    rw [decide_eq_false (fun e => by have := congrArg List.length e; rw [List.length_append, List.length_singleton] at this; omega)] at HT
    have HF2 := Lib.hid (fun W a (hb : Below w7.heap.size w7 W) (hl : StrsIn W a [index]) => refFull_any (.slice p7 (root ++ segs).length c7) a (root ++ segs) [index] W (HS7.out.below hb) hl (by have := HA2.out; have := HB2s.out; rw [List.length_append]; omega) (by simp))
    have HT2 := Lib.hid (fun W v (hb : Below w7.heap.size w7 W) (hv : StrsIn W v (root ++ segs ++ [index])) => (texts_q (.slice q0 m0 d0) v (root ++ segs ++ [index]) (root ++ segs ++ [index]) W (HSf7.out.below hb) hv).mono (fun _ _ h => h.says))
    rw [decide_eq_true rfl] at HT2
    generalize (root ++ segs).length = n7 at HT HF2 ⊢
    go_wp2_with fail
    have q0_0 : w7.drew.cell? ⟨w6.heap.size, 1, none⟩ = some (.slice q0 m0 d0) := Z1.out
    have q0_1 : w7.drew.cell? ⟨w.heap.size, 1, none⟩ = some (.bool true) := Z2.out
    have HJ0 := Lib.hid HJb.out.drew
    have HR0 := Lib.hid HBb.out.drew
    refine wp_region_held_drew (S := (fun W => W.cell? ⟨w6.heap.size, 1, none⟩ = some (.slice q0 m0 d0) /\ W.cell? ⟨w.heap.size, 1, none⟩ = some (.bool true))) (by kernel_rfl) ⟨q0_0, q0_1⟩ (fun hHeld => ?_)
    refine wpAnyH_take (i := 0) (oi := _) (v := ?_) rfl (by kernel_rfl) (by kernel_rfl) (by kernel_rfl) (fun _ _ _ h => h) (Or.inl ⟨by kernel_rfl, ?_⟩) (by assumption) ?_
    rotate_left
    · intro w hSw
      obtain ⟨hS0, hS1⟩ := hSw
      go_simp
      all_goals with_reducible rfl
    try simp only [Act.put, List.getElem_toArray, List.getElem_cons_zero, List.getElem_cons_succ, List.setIfInBounds_toArray, List.set_cons_zero, List.set_cons_succ]
    refine wpAnyH_take (i := 1) (oi := _) (v := ?_) rfl (by kernel_rfl) (by kernel_rfl) (by kernel_rfl) (fun _ _ _ h => h) (Or.inl ⟨by kernel_rfl, ?_⟩) (by assumption) ?_
    rotate_left
    · intro w hSw
      obtain ⟨hS0, hS1⟩ := hSw
      go_simp
      all_goals with_reducible rfl
    try simp only [Act.put, List.getElem_toArray, List.getElem_cons_zero, List.getElem_cons_succ, List.setIfInBounds_toArray, List.set_cons_zero, List.set_cons_succ]
    refine wpAnyH_take (i := 2) (oi := _) (v := ?_) rfl (by kernel_rfl) (by kernel_rfl) (by kernel_rfl) (fun _ _ _ h => h) (Or.inl ⟨by kernel_rfl, ?_⟩) (by assumption) ?_
    rotate_left
    · intro w hSw
      obtain ⟨hS0, hS1⟩ := hSw
      go_simp
      all_goals with_reducible rfl
    try simp only [Act.put, List.getElem_toArray, List.getElem_cons_zero, List.getElem_cons_succ, List.setIfInBounds_toArray, List.set_cons_zero, List.set_cons_succ]
    refine wpAnyH_take (i := 3) (oi := _) (v := ?_) rfl (by kernel_rfl) (by kernel_rfl) (by kernel_rfl) (fun _ _ _ h => h) (Or.inl ⟨by kernel_rfl, ?_⟩) (by assumption) ?_
    rotate_left
    · intro w hSw
      obtain ⟨hS0, hS1⟩ := hSw
      go_simp
      all_goals with_reducible rfl
    try simp only [Act.put, List.getElem_toArray, List.getElem_cons_zero, List.getElem_cons_succ, List.setIfInBounds_toArray, List.set_cons_zero, List.set_cons_succ]
    refine wpAnyH_ready (rs := [4]) (by kernel_rfl) (by simp) ?_
    refine AllReadyH.cons (o := _) rfl (fun K hK => ?_) AllReadyH.nil
    go_simp
    go_at_call 15
    refine (HT.out _ HJ0.out).mono ?_
    rintro e wr1 ⟨rfl, hb⟩
    have HJ1 := Lib.hid (HJ0.out.trans (hb.mono HJ0.out.size))
    have HR1 := Lib.hid (HR0.out.trans (hb.mono HR0.out.size))
    have q1_0 : wr1.cell? ⟨w6.heap.size, 1, none⟩ = some (.slice q0 m0 d0) := (HJ1.out.cell Hl1.out).trans Z1.out
    have q1_1 : wr1.cell? ⟨w.heap.size, 1, none⟩ = some (.bool true) := (HJ1.out.cell Hl2.out).trans Z2.out
    clear hb
    clear hHeld
    refine hK.out _ _ ?_ (fun hHeld => ?_)
    · exact ⟨q1_0, q1_1⟩
    clear hK K
    try simp only [Act.put, List.getElem_toArray, List.getElem_cons_zero, List.getElem_cons_succ, List.setIfInBounds_toArray, List.set_cons_zero, List.set_cons_succ]
    refine wpAnyH_take (i := 5) (oi := _) (v := ?_) rfl (by kernel_rfl) (by kernel_rfl) (by kernel_rfl) (fun _ _ _ h => h) (Or.inl ⟨by kernel_rfl, ?_⟩) (by assumption) ?_
    rotate_left
    · intro w hSw
      obtain ⟨hS0, hS1⟩ := hSw
      go_simp
      all_goals with_reducible rfl
    try simp only [Act.put, List.getElem_toArray, List.getElem_cons_zero, List.getElem_cons_succ, List.setIfInBounds_toArray, List.set_cons_zero, List.set_cons_succ]
    refine wpAnyH_take (i := 6) (oi := _) (v := undef) rfl (by kernel_rfl) (by kernel_rfl) (by kernel_rfl) (fun _ _ _ h => h) (Or.inr ⟨by kernel_rfl, rfl⟩) (by assumption) ?_
    try simp only [Act.put, List.getElem_toArray, List.getElem_cons_zero, List.getElem_cons_succ, List.setIfInBounds_toArray, List.set_cons_zero, List.set_cons_succ]
    refine wpAnyH_take (i := 7) (oi := _) (v := undef) rfl (by kernel_rfl) (by kernel_rfl) (by kernel_rfl) (fun _ _ _ h => h) (Or.inr ⟨by kernel_rfl, rfl⟩) (by assumption) ?_
    try simp only [Act.put, List.getElem_toArray, List.getElem_cons_zero, List.getElem_cons_succ, List.setIfInBounds_toArray, List.set_cons_zero, List.set_cons_succ]
    refine wpAnyH_take (i := 8) (oi := _) (v := undef) rfl (by kernel_rfl) (by kernel_rfl) (by kernel_rfl) (fun _ _ _ h => h) (Or.inr ⟨by kernel_rfl, rfl⟩) (by assumption) ?_
    try simp only [Act.put, List.getElem_toArray, List.getElem_cons_zero, List.getElem_cons_succ, List.setIfInBounds_toArray, List.set_cons_zero, List.set_cons_succ]
    refine wpAnyH_take (i := 9) (oi := _) (v := ?_) rfl (by kernel_rfl) (by kernel_rfl) (by kernel_rfl) (fun _ _ _ h => h) (Or.inl ⟨by kernel_rfl, ?_⟩) (by assumption) ?_
    rotate_left
    · intro w hSw
      obtain ⟨hS0, hS1⟩ := hSw
      go_simp
      all_goals with_reducible rfl
    try simp only [Act.put, List.getElem_toArray, List.getElem_cons_zero, List.getElem_cons_succ, List.setIfInBounds_toArray, List.set_cons_zero, List.set_cons_succ]
    refine wpAnyH_take (i := 10) (oi := _) (v := ?_) rfl (by kernel_rfl) (by kernel_rfl) (by kernel_rfl) (fun _ _ _ h => h) (Or.inl ⟨by kernel_rfl, ?_⟩) (by assumption) ?_
    rotate_left
    · intro w hSw
      obtain ⟨hS0, hS1⟩ := hSw
      go_simp
      all_goals with_reducible rfl
    try simp only [Act.put, List.getElem_toArray, List.getElem_cons_zero, List.getElem_cons_succ, List.setIfInBounds_toArray, List.set_cons_zero, List.set_cons_succ]
    refine wpAnyH_take (i := 11) (oi := _) (v := ?_) rfl (by kernel_rfl) (by kernel_rfl) (by kernel_rfl) (fun _ _ _ h => h) (Or.inl ⟨by kernel_rfl, ?_⟩) (by assumption) ?_
    rotate_left
    · intro w hSw
      obtain ⟨hS0, hS1⟩ := hSw
      go_simp
      all_goals with_reducible rfl
    try simp only [Act.put, List.getElem_toArray, List.getElem_cons_zero, List.getElem_cons_succ, List.setIfInBounds_toArray, List.set_cons_zero, List.set_cons_succ]
    refine wpAnyH_take (i := 12) (oi := _) (v := ?_) rfl (by kernel_rfl) (by kernel_rfl) (by kernel_rfl) (fun _ _ _ h => h) (Or.inl ⟨by kernel_rfl, ?_⟩) (by assumption) ?_
    rotate_left
    · intro w hSw
      obtain ⟨hS0, hS1⟩ := hSw
      go_simp
      all_goals with_reducible rfl
    try simp only [Act.put, List.getElem_toArray, List.getElem_cons_zero, List.getElem_cons_succ, List.setIfInBounds_toArray, List.set_cons_zero, List.set_cons_succ]
    refine wpAnyH_take (i := 13) (oi := _) (v := ?_) rfl (by kernel_rfl) (by kernel_rfl) (by kernel_rfl) (fun _ _ _ h => h) (Or.inl ⟨by kernel_rfl, ?_⟩) (by assumption) ?_
    rotate_left
    · intro w hSw
      obtain ⟨hS0, hS1⟩ := hSw
      go_simp
      all_goals with_reducible rfl
    try simp only [Act.put, List.getElem_toArray, List.getElem_cons_zero, List.getElem_cons_succ, List.setIfInBounds_toArray, List.set_cons_zero, List.set_cons_succ]
    refine wpAnyH_take (i := 14) (oi := _) (v := ?_) rfl (by kernel_rfl) (by kernel_rfl) (by kernel_rfl) (fun _ _ _ h => h) (Or.inl ⟨by kernel_rfl, ?_⟩) (by assumption) ?_
    rotate_left
    · intro w hSw
      obtain ⟨hS0, hS1⟩ := hSw
      go_simp
      all_goals with_reducible rfl
    try simp only [Act.put, List.getElem_toArray, List.getElem_cons_zero, List.getElem_cons_succ, List.setIfInBounds_toArray, List.set_cons_zero, List.set_cons_succ]
    refine wpAnyH_take (i := 15) (oi := _) (v := ?_) rfl (by kernel_rfl) (by kernel_rfl) (by kernel_rfl) (fun _ _ _ h => h) (Or.inl ⟨by kernel_rfl, ?_⟩) (by assumption) ?_
    rotate_left
    · intro w hSw
      obtain ⟨hS0, hS1⟩ := hSw
      go_simp
      all_goals with_reducible rfl
    try simp only [Act.put, List.getElem_toArray, List.getElem_cons_zero, List.getElem_cons_succ, List.setIfInBounds_toArray, List.set_cons_zero, List.set_cons_succ]
    refine wpAnyH_take (i := 16) (oi := _) (v := ?_) rfl (by kernel_rfl) (by kernel_rfl) (by kernel_rfl) (fun _ _ _ h => h) (Or.inl ⟨by kernel_rfl, ?_⟩) (by assumption) ?_
    rotate_left
    · intro w hSw
      obtain ⟨hS0, hS1⟩ := hSw
      go_simp
      all_goals with_reducible rfl
    try simp only [Act.put, List.getElem_toArray, List.getElem_cons_zero, List.getElem_cons_succ, List.setIfInBounds_toArray, List.set_cons_zero, List.set_cons_succ]
    refine wpAnyH_take (i := 17) (oi := _) (v := ?_) rfl (by kernel_rfl) (by kernel_rfl) (by kernel_rfl) (fun _ _ _ h => h) (Or.inl ⟨by kernel_rfl, ?_⟩) (by assumption) ?_
    rotate_left
    · intro w hSw
      obtain ⟨hS0, hS1⟩ := hSw
      go_simp
      all_goals with_reducible rfl
    try simp only [Act.put, List.getElem_toArray, List.getElem_cons_zero, List.getElem_cons_succ, List.setIfInBounds_toArray, List.set_cons_zero, List.set_cons_succ]
    refine wpAnyH_take (i := 18) (oi := _) (v := ?_) rfl (by kernel_rfl) (by kernel_rfl) (by kernel_rfl) (fun _ _ _ h => h) (Or.inl ⟨by kernel_rfl, ?_⟩) (by assumption) ?_
    rotate_left
    · intro w hSw
      obtain ⟨hS0, hS1⟩ := hSw
      go_simp
      all_goals with_reducible rfl
    try simp only [Act.put, List.getElem_toArray, List.getElem_cons_zero, List.getElem_cons_succ, List.setIfInBounds_toArray, List.set_cons_zero, List.set_cons_succ]
    refine wpAnyH_ready (rs := [19]) (by kernel_rfl) (by simp) ?_
    refine AllReadyH.cons (o := _) rfl (fun K hK => ?_) AllReadyH.nil
    go_simp
    have HJ2 := Lib.hid (HJ1.out.alloc HJ1.out.size (.cells #[.string index] 9))
    have HR2 := Lib.hid (HR1.out.alloc HR1.out.size (.cells #[.string index] 9))
    have hnew2 := (Below.refl (wr1).heap.size (wr1)).alloc (Nat.le_refl _) (.cells #[.string index] 9)
    have HLit := Lib.hid (show StrsIn ((wr1).alloc (.cells #[.string index] 9)) (.slice (some ⟨(wr1).heap.size, 0, none⟩) 1 1) [index] from lit_strsA (wr1) [index] (by simp))
    generalize hwr2 : (wr1).alloc (.cells #[.string index] 9) = wr2 at *
    have q2_0 : wr2.cell? ⟨w6.heap.size, 1, none⟩ = some (.slice q0 m0 d0) := (HJ2.out.cell Hl1.out).trans Z1.out
    have q2_1 : wr2.cell? ⟨w.heap.size, 1, none⟩ = some (.bool true) := (HJ2.out.cell Hl2.out).trans Z2.out
    clear hnew2 hwr2
    clear hHeld
    refine hK.out _ _ ?_ (fun hHeld => ?_)
    · exact ⟨q2_0, q2_1⟩
    clear hK K
    try simp only [Act.put, List.getElem_toArray, List.getElem_cons_zero, List.getElem_cons_succ, List.setIfInBounds_toArray, List.set_cons_zero, List.set_cons_succ]
    refine wpAnyH_ready (rs := [20]) (by kernel_rfl) (by simp) ?_
    refine AllReadyH.cons (o := _) rfl (fun K hK => ?_) AllReadyH.nil
    go_simp
    go_at_call 13
    refine (HF2.out _ _ HJ2.out HLit.out).mono ?_
    rintro e wr3 ⟨v8, rfl, hs8, _, hb⟩
    have HS8 := Lib.hid (hs8)
    have HJ3 := Lib.hid (HJ2.out.trans (hb.mono HJ2.out.size))
    have HR3 := Lib.hid (HR2.out.trans (hb.mono HR2.out.size))
    have q3_0 : wr3.cell? ⟨w6.heap.size, 1, none⟩ = some (.slice q0 m0 d0) := (HJ3.out.cell Hl1.out).trans Z1.out
    have q3_1 : wr3.cell? ⟨w.heap.size, 1, none⟩ = some (.bool true) := (HJ3.out.cell Hl2.out).trans Z2.out
    clear hb
    clear hHeld
    refine hK.out _ _ ?_ (fun hHeld => ?_)
    · exact ⟨q3_0, q3_1⟩
    clear hK K
    try simp only [Act.put, List.getElem_toArray, List.getElem_cons_zero, List.getElem_cons_succ, List.setIfInBounds_toArray, List.set_cons_zero, List.set_cons_succ]
    refine wpAnyH_ready (rs := [21]) (by kernel_rfl) (by simp) ?_
    refine AllReadyH.cons (o := _) rfl (fun K hK => ?_) AllReadyH.nil
    go_simp
    go_at_call 15
    refine (HT2.out _ v8 HJ3.out HS8.out).mono ?_
    rintro e wr4 ⟨rfl, hb⟩
    have HJ4 := Lib.hid (HJ3.out.trans (hb.mono HJ3.out.size))
    have HR4 := Lib.hid (HR3.out.trans (hb.mono HR3.out.size))
    have q4_0 : wr4.cell? ⟨w6.heap.size, 1, none⟩ = some (.slice q0 m0 d0) := (HJ4.out.cell Hl1.out).trans Z1.out
    have q4_1 : wr4.cell? ⟨w.heap.size, 1, none⟩ = some (.bool true) := (HJ4.out.cell Hl2.out).trans Z2.out
    clear hb
    clear hHeld
    refine hK.out _ _ ?_ (fun hHeld => ?_)
    · exact ⟨q4_0, q4_1⟩
    clear hK K
    try simp only [Act.put, List.getElem_toArray, List.getElem_cons_zero, List.getElem_cons_succ, List.setIfInBounds_toArray, List.set_cons_zero, List.set_cons_succ]
    refine wpAnyH_take (i := 22) (oi := _) (v := ?_) rfl (by kernel_rfl) (by kernel_rfl) (by kernel_rfl) (fun _ _ _ h => h) (Or.inl ⟨by kernel_rfl, ?_⟩) (by assumption) ?_
    rotate_left
    · intro w hSw
      obtain ⟨hS0, hS1⟩ := hSw
      go_simp
      all_goals with_reducible rfl
    try simp only [Act.put, List.getElem_toArray, List.getElem_cons_zero, List.getElem_cons_succ, List.setIfInBounds_toArray, List.set_cons_zero, List.set_cons_succ]
    refine wpAnyH_take (i := 23) (oi := _) (v := ?_) rfl (by kernel_rfl) (by kernel_rfl) (by kernel_rfl) (fun _ _ _ h => h) (Or.inl ⟨by kernel_rfl, ?_⟩) (by assumption) ?_
    rotate_left
    · intro w hSw
      obtain ⟨hS0, hS1⟩ := hSw
      go_simp
      all_goals with_reducible rfl
    try simp only [Act.put, List.getElem_toArray, List.getElem_cons_zero, List.getElem_cons_succ, List.setIfInBounds_toArray, List.set_cons_zero, List.set_cons_succ]
    refine wpAnyH_take (i := 24) (oi := _) (v := ?_) rfl (by kernel_rfl) (by kernel_rfl) (by kernel_rfl) (fun _ _ _ h => h) (Or.inl ⟨by kernel_rfl, ?_⟩) (by assumption) ?_
    rotate_left
    · intro w hSw
      obtain ⟨hS0, hS1⟩ := hSw
      go_simp
      all_goals with_reducible rfl
    try simp only [Act.put, List.getElem_toArray, List.getElem_cons_zero, List.getElem_cons_succ, List.setIfInBounds_toArray, List.set_cons_zero, List.set_cons_succ]
    refine wpAnyH_done (by kernel_rfl) ?_ _
    go_wp2
    go_ret
    exact saysIn_k24 rfl HR4.out
  | redir hd hk =>
    have hi : fileK.In _ w6 csF zeroF := HIn.out
    obtain ⟨q0, d0, q1, d1, rfl, _⟩ := fileK_parts hi
    have e0 : zeroF.1.length = 0 := rfl
    have e1 : zeroF.2.2.2.length = 0 := rfl
    have e2 : zeroF.2.1 = false := rfl
    have e3 : zeroF.2.2.1 = ⟨#[]⟩ := rfl
    rw [e0, e1, e2, e3]
    have hb6 := (Below.refl w6.heap.size w6).alloc (Nat.le_refl _) (.cells #[.int .i64 2, .slice q0 0 d0, .bool false, .string ⟨#[]⟩, .slice q1 0 d1] 42)
    have HB7 := Lib.hid (HB6.out.trans (hb6.mono HB6.out.size))
    clear hi e0 e1 e2 e3 hb6 HIn
    go_wp2
    go_ret
    exact saysIn_k24 rfl HB7.out
  | none h1 h2 =>
    have hi : fileK.In _ w6 csF zeroF := HIn.out
    obtain ⟨q0, d0, q1, d1, rfl, _⟩ := fileK_parts hi
    have e0 : zeroF.1.length = 0 := rfl
    have e1 : zeroF.2.2.2.length = 0 := rfl
    have e2 : zeroF.2.1 = false := rfl
    have e3 : zeroF.2.2.1 = ⟨#[]⟩ := rfl
    rw [e0, e1, e2, e3]
    have hb6 := (Below.refl w6.heap.size w6).alloc (Nat.le_refl _) (.cells #[.int .i64 0, .slice q0 0 d0, .bool false, .string ⟨#[]⟩, .slice q1 0 d1] 42)
    have HB7 := Lib.hid (HB6.out.trans (hb6.mono HB6.out.size))
    clear hi e0 e1 e2 e3 hb6 HIn
    go_wp2
    go_ret
    exact saysIn_k24 rfl HB7.out
end Go.Proofs.Ytgfibbecnmmpjaa
