/- Stage 23: awake, given DecideC. -/
import Derived.Test.YtdfbmcafmnhheaaDoorQDcdC
import Derived.Test.YtdfbmcafmnhheaaDoorQE
namespace Go.Proofs.YtdfbmcafmnhheaaDoor
set_option linter.all false
open Go.RowKit
def gX : List GrantV := [(⟨#[42]⟩, true, false)]
def rX : RuleV := ([], gX, false, ⟨#[120]⟩)
theorem lit_grants (R : Nat -> Prop) (W : World) (b : Nat) (hb : R b) (g0 : W.cell? ⟨b, 0, none⟩ = some (.string ⟨#[42]⟩)) (g1 : W.cell? ⟨b, 1, none⟩ = some (.bool true)) (g2 : W.cell? ⟨b, 2, none⟩ = some (.bool false)) : grantK.rows R W (.slice (some ⟨b, 0, none⟩) 1 1) gX := .inr ⟨b, 0, 1, rfl, Nat.le_refl _, by omega, hb, fun i x hx => by
  match i, hx with
  | 0, hx =>
    obtain rfl := by simpa [gX] using hx
    refine ⟨[.string ⟨#[42]⟩, .bool true, .bool false], ⟨[.string ⟨#[42]⟩], [.bool true, .bool false], rfl, rfl, [.bool true], [.bool false], rfl, rfl, rfl⟩, fun j u hu => ?_⟩
    match j, hu with
    | 0, hu => obtain rfl := by simpa using hu
               exact g0
    | 1, hu => obtain rfl := by simpa using hu
               exact g1
    | 2, hu => obtain rfl := by simpa using hu
               exact g2
    | j + 3, hu => simp at hu
  | i + 1, hx => simp [gX] at hx⟩
theorem lit_rule23 (w W : World) (hW : W = (w.alloc (.cells #[.string ⟨#[42]⟩, .bool true, .bool false] 48)).alloc (.cells #[.slice none 0 0, .slice (some ⟨w.heap.size, 0, none⟩) 1 1, .bool false, .string ⟨#[120]⟩] 25)) :
    grantK.rows (fun k => k < W.heap.size) W (.slice (some ⟨w.heap.size, 0, none⟩) 1 1) gX /\ (Box W (w.heap.size + 1) [.slice none 0 0, .slice (some ⟨w.heap.size, 0, none⟩) 1 1, .bool false, .string ⟨#[120]⟩] /\ Below w.heap.size w W) := by
  have hsz : W.heap.size = w.heap.size + 1 + 1 := by rw [hW]; simp
  have hbx : Box W (w.heap.size + 1) [.slice none 0 0, .slice (some ⟨w.heap.size, 0, none⟩) 1 1, .bool false, .string ⟨#[120]⟩] := by
    rw [hW]
    have := Box.new (w.alloc (.cells #[.string ⟨#[42]⟩, .bool true, .bool false] 48)) [.slice none 0 0, .slice (some ⟨w.heap.size, 0, none⟩) 1 1, .bool false, .string ⟨#[120]⟩] 25
    rwa [show (w.alloc (.cells #[.string ⟨#[42]⟩, .bool true, .bool false] 48)).heap.size = w.heap.size + 1 by simp] at this
  have hbel : Below w.heap.size w W := by
    rw [hW]
    exact ((Below.refl w.heap.size w).alloc (Nat.le_refl _) _).alloc (by simp) _
  have g0 : W.cell? ⟨w.heap.size, 0, none⟩ = some (.string ⟨#[42]⟩) := by rw [hW]; simp [go_sem]
  have g1 : W.cell? ⟨w.heap.size, 1, none⟩ = some (.bool true) := by rw [hW]; simp [go_sem]
  have g2 : W.cell? ⟨w.heap.size, 2, none⟩ = some (.bool false) := by rw [hW]; simp [go_sem]
  exact ⟨lit_grants _ W _ (by omega) g0 g1 g2, hbx, hbel⟩
theorem lit_host23 {R : Nat -> Prop} (W : World) (gv : Value) (Gs : List GrantV) (m : ByteArray) (hg : grantK.rows R W gv Gs) (hR : ∀ k, R k -> k < W.heap.size) : ∀ W2, W2 = (W.alloc (.cells #[.slice none 0 0, gv, .bool false, .string m] 25)).alloc (.cells #[.slice none 0 0, .slice none 0 0, .slice (some ⟨W.heap.size, 0, none⟩) 1 1] 37) ->
    hostK.In (fun k => k < W2.heap.size) W2 [.slice none 0 0, .slice none 0 0, .slice (some ⟨W.heap.size, 0, none⟩) 1 1] ([], [], [([], Gs, false, m)]) /\ (Box W2 (W.heap.size + 1) [.slice none 0 0, .slice none 0 0, .slice (some ⟨W.heap.size, 0, none⟩) 1 1] /\ Below W.heap.size W W2) := fun W2 hW => by
  have hsz : W2.heap.size = W.heap.size + 1 + 1 := by rw [hW]; simp
  have hbx : Box W2 (W.heap.size + 1) [.slice none 0 0, .slice none 0 0, .slice (some ⟨W.heap.size, 0, none⟩) 1 1] := by
    rw [hW]
    have := Box.new (W.alloc (.cells #[.slice none 0 0, gv, .bool false, .string m] 25)) [.slice none 0 0, .slice none 0 0, .slice (some ⟨W.heap.size, 0, none⟩) 1 1] 37
    rwa [show (W.alloc (.cells #[.slice none 0 0, gv, .bool false, .string m] 25)).heap.size = W.heap.size + 1 by simp] at this
  have hbel : Below W.heap.size W W2 := by
    rw [hW]
    exact ((Below.refl W.heap.size W).alloc (Nat.le_refl _) _).alloc (by simp) _
  have e0 : W2.cell? ⟨W.heap.size, 0, none⟩ = some (.slice none 0 0) := by rw [hW]; simp [go_sem]
  have e1 : W2.cell? ⟨W.heap.size, 1, none⟩ = some gv := by rw [hW]; simp [go_sem]
  have e2 : W2.cell? ⟨W.heap.size, 2, none⟩ = some (.bool false) := by rw [hW]; simp [go_sem]
  have e3 : W2.cell? ⟨W.heap.size, 3, none⟩ = some (.string m) := by rw [hW]; simp [go_sem]
  clear hW
  refine ⟨?_, hbx, hbel⟩
  have hr : ruleK.rows (fun k => k < W2.heap.size) W2 (.slice (some ⟨W.heap.size, 0, none⟩) 1 1) [([], Gs, false, m)] := .inr ⟨W.heap.size, 0, 1, rfl, Nat.le_refl _, by omega, by omega, fun i x hx => by
    match i, hx with
    | 0, hx =>
      obtain rfl := by simpa using hx
      refine ⟨_, lit_ruleIn _ W2 _ _ _ _ _ (lit_noneR _ _ W2) (Kind.rows_mono _ (Kind.rows_below _ hg hbel) fun k hk => by have := hR k hk; omega), fun j u hu => ?_⟩
      match j, hu with
      | 0, hu => obtain rfl := by simpa using hu
                 exact e0
      | 1, hu => obtain rfl := by simpa using hu
                 exact e1
      | 2, hu => obtain rfl := by simpa using hu
                 exact e2
      | 3, hu => obtain rfl := by simpa using hu
                 exact e3
      | j + 4, hu => simp at hu
    | i + 1, hx => simp at hx⟩
  exact ⟨[.slice none 0 0], [.slice none 0 0, .slice (some ⟨W.heap.size, 0, none⟩) 1 1], rfl, ⟨_, rfl, lit_noneR _ _ W2⟩, [.slice none 0 0], [.slice (some ⟨W.heap.size, 0, none⟩) 1 1], rfl, ⟨_, rfl, lit_noneR _ _ W2⟩, ⟨_, rfl, hr⟩⟩
def hX : HostVv := ([], [], [rX])
theorem hX_few : FewL hX.2.2 := ⟨by decide, fun r hr => by
  obtain rfl : r = rX := by simpa [hX] using hr
  exact ⟨by decide, by decide⟩⟩
theorem byA : byP rX ⟨#[97, 110, 110]⟩ ⟨#[80, 79, 83, 84]⟩ = (4, [⟨#[71, 69, 84]⟩, ⟨#[79, 80, 84, 73, 79, 78, 83]⟩], ⟨#[]⟩) := by kernel_rfl
theorem byB : byP rX ⟨#[]⟩ ⟨#[80, 79, 83, 84]⟩ = (2, [], ⟨#[120]⟩) := by kernel_rfl
theorem foA : forP hX.2.2 [] ⟨#[97, 110, 110]⟩ ⟨#[71, 69, 84]⟩ = (1, [⟨#[71, 69, 84]⟩, ⟨#[79, 80, 84, 73, 79, 78, 83]⟩], ⟨#[]⟩) := by kernel_rfl
theorem seA : readP hX.2.2 [] ⟨#[97, 110, 110]⟩ = true := by kernel_rfl
theorem seB : readP hX.2.2 [] ⟨#[]⟩ = false := by kernel_rfl
theorem nmA : nameD 3 = ⟨#[104, 105, 100, 101]⟩ := by kernel_rfl
theorem nmB : nameD 9 = ⟨#[]⟩ := by kernel_rfl
theorem Tryd.decField0 (k : Int) (p : Option Addr) (n c : Nat) (s : ByteArray) (w : World) : (Instr.field 30 (.agg #[.int .i64 k, .slice p n c, .string s]) 0).run Tryd.prog w = .ok (.int .i64 k) w := by kernel_rfl
set_option maxRecDepth 100000 in
set_option maxHeartbeats 8000000 in
theorem awake23 {G : World -> Prop} (hD : DecideC G) : Awake23 G := fun w hG0 => by
  obtain ⟨WL, hWL⟩ : ∃ W, W = (w.alloc (.cells #[.string ⟨#[42]⟩, .bool true, .bool false] 48)).alloc (.cells #[.slice none 0 0, .slice (some ⟨w.heap.size, 0, none⟩) 1 1, .bool false, .string ⟨#[120]⟩] 25) := ⟨_, rfl⟩
  obtain ⟨hgr, hbx, hbel⟩ := lit_rule23 w WL hWL
  have HGr := Lib.hid hgr
  have HW0 := Lib.hid hbel
  have XR0 := Lib.hid hbx
  have HG := Lib.hid (hD.below _ _ hG0 hbel)
  have HGb := Lib.hid hD.below
  have hWL2 := hWL.symm
  obtain ⟨se, hse⟩ : ∃ s : ByteArray, s = ⟨#[]⟩ := ⟨_, rfl⟩
  have HEs := Lib.hid hse
  have hIn : ruleK.In (fun k => k < WL.heap.size) WL [.slice none 0 0, .slice (some ⟨w.heap.size, 0, none⟩) 1 1, .bool false, .string ⟨#[120]⟩] rX := lit_ruleIn _ WL _ _ _ _ _ (lit_noneR _ _ WL) hgr
  have HA := Lib.hid (fun W (hb : Below WL.heap.size WL W) (hg : G W) => hD.by_ _ _ rX ⟨#[97, 110, 110]⟩ ⟨#[80, 79, 83, 84]⟩ W hg (ruleK.below hIn hb) (by decide) (by decide))
  have HB := Lib.hid (fun W (hb : Below WL.heap.size WL W) (hg : G W) => hD.by_ _ _ rX ⟨#[]⟩ ⟨#[80, 79, 83, 84]⟩ W hg (ruleK.below hIn hb) (by decide) (by decide))
  rw [byA] at HA
  rw [byB] at HB
  have HFo := Lib.hid hD.for_
  have HSe := Lib.hid hD.sees
  have HN3 := Lib.hid (fun w hg => hD.name 3 w hg)
  have HN9 := Lib.hid (fun w hg => hD.name 9 w hg)
  rw [nmA] at HN3
  rw [nmB] at HN9
  have xr0_0 := hbx.cell (i := 0) rfl
  have xr0_1 := hbx.cell (i := 1) rfl
  have xr0_2 := hbx.cell (i := 2) rfl
  have xr0_3 := hbx.cell (i := 3) rfl
  clear hG0 hD hgr hbx hbel hWL hIn hse
  go_enter Tryd.func7, Tryd.ntmps7
  go_wp2_with fail
  refine (HA.out _ (Below.refl WL.heap.size WL) HG.out).mono ?_
  rintro e w1 ⟨va, he, hsa, hb⟩
  replace he : e = .returned (.agg #[.int .i64 4, va, .string se]) := by rw [HEs.out]; exact he
  subst he
  replace hsa : StrsIn w1 va [⟨#[71, 69, 84]⟩, ⟨#[79, 80, 84, 73, 79, 78, 83]⟩] := hsa
  obtain ⟨px, cx, rfl⟩ := hsa.sliced
  replace hsa : StrsIn w1 (.slice px 2 cx) [⟨#[71, 69, 84]⟩, ⟨#[79, 80, 84, 73, 79, 78, 83]⟩] := hsa
  rw [show ([⟨#[71, 69, 84]⟩, ⟨#[79, 80, 84, 73, 79, 78, 83]⟩] : List ByteArray).length = 2 from rfl]
  have HSx0 := Lib.hid hsa
  clear hsa
  have HB1 := Lib.hid ((Below.refl WL.heap.size WL).trans (hb.mono (Below.refl WL.heap.size WL).size))
  have HG1 := Lib.hid (HGb.out _ _ HG.out hb)
  have XR1 := Lib.hid (XR0.out.below hb)
  have xr1_0 := XR1.out.cell (i := 0) rfl
  have xr1_1 := XR1.out.cell (i := 1) rfl
  have xr1_2 := XR1.out.cell (i := 2) rfl
  have xr1_3 := XR1.out.cell (i := 3) rfl
  clear xr0_0 xr0_1 xr0_2 xr0_3
  clear hb
  obtain ⟨Y0, C0⟩ := decBox w1 4 px 2 cx se
  generalize hV : w1.alloc (.cells #[.int .i64 4, .slice px 2 cx, .string se] 30) = Wx at Y0 C0
  have XX2 := Lib.hid Y0
  have XR2 := Lib.hid (XR1.out.below C0)
  have HB2 := Lib.hid (HB1.out.trans (C0.mono HB1.out.size))
  have HG2 := Lib.hid (HGb.out _ _ HG1.out C0)
  have HSx := Lib.hid (HSx0.out.below C0)
  have xr2_0 := XR2.out.cell (i := 0) rfl
  have xr2_1 := XR2.out.cell (i := 1) rfl
  have xr2_2 := XR2.out.cell (i := 2) rfl
  have xr2_3 := XR2.out.cell (i := 3) rfl
  clear Y0 C0 HSx0 xr1_0 xr1_1 xr1_2 xr1_3
  go_wp2_with fail
  refine (HB.out _ HB2.out HG2.out).mono ?_
  rintro e w3 ⟨vb, he, hsb, hb⟩
  replace he : e = .returned (.agg #[.int .i64 2, vb, .string ⟨#[120]⟩]) := he
  subst he
  obtain ⟨py, cy, rfl⟩ := hsb.sliced
  rw [show (2, ([] : List ByteArray), (⟨#[120]⟩ : ByteArray)).2.1.length = 0 from rfl]
  have XX3 := Lib.hid (XX2.out.below hb)
  have XR3 := Lib.hid (XR2.out.below hb)
  have HSx3 := Lib.hid (HSx.out.below hb)
  have HB3 := Lib.hid (HB2.out.trans (hb.mono HB2.out.size))
  have HG3 := Lib.hid (HGb.out _ _ HG2.out hb)
  clear hb hsb hV XX2 XR2 HSx xr2_0 xr2_1 xr2_2 xr2_3
  obtain ⟨Y0, C0⟩ := decBox w3 2 py 0 cy ⟨#[120]⟩
  generalize hV : w3.alloc (.cells #[.int .i64 2, .slice py 0 cy, .string ⟨#[120]⟩] 30) = Wy at Y0 C0
  have hWys : Wy.heap.size = w3.heap.size + 1 := by rw [<- hV]; simp
  obtain ⟨Wh, hWh⟩ : ∃ W, W = (Wy.alloc (.cells #[.slice none 0 0, .slice (some ⟨w.heap.size, 0, none⟩) 1 1, .bool false, .string ⟨#[120]⟩] 25)).alloc (.cells #[.slice none 0 0, .slice none 0 0, .slice (some ⟨Wy.heap.size, 0, none⟩) 1 1] 37) := ⟨_, rfl⟩
  obtain ⟨hin, Z0, D0⟩ := lit_host23 Wy _ gX ⟨#[120]⟩ (Kind.rows_below _ HGr.out (HB3.out.trans (C0.mono HB3.out.size))) (fun k hk => Nat.lt_of_lt_of_le hk (HB3.out.trans (C0.mono HB3.out.size)).size) Wh hWh
  have hbw := C0.trans (D0.mono C0.size)
  have XX4 := Lib.hid (XX3.out.below hbw)
  have XY4 := Lib.hid (Y0.below D0)
  have XH4 := Lib.hid Z0
  have HSx4 := Lib.hid (HSx3.out.below hbw)
  have HB4 := Lib.hid (HB3.out.trans (hbw.mono HB3.out.size))
  have HG4 := Lib.hid (HGb.out _ _ HG3.out hbw)
  have XR4 := Lib.hid (XR3.out.below C0)
  rw [hWys] at hin XH4 hWh
  have xr4_0 := XR4.out.cell (i := 0) rfl
  have xr4_1 := XR4.out.cell (i := 1) rfl
  have xr4_2 := XR4.out.cell (i := 2) rfl
  have xr4_3 := XR4.out.cell (i := 3) rfl
  have HI := Lib.hid hin
  have hWh2 := hWh.symm
  have HFo2 := Lib.hid (fun W (hb : Below Wh.heap.size Wh W) hg => HFo.out _ _ hX (.slice none 0 0) [] ⟨#[97, 110, 110]⟩ ⟨#[71, 69, 84]⟩ W hg (hostK.below HI.out hb) (.inl ⟨rfl, .inl rfl⟩) (fun k hk => Nat.lt_of_lt_of_le hk hb.size) hX_few (by decide) (by decide))
  have HSA := Lib.hid (fun W (hb : Below Wh.heap.size Wh W) hg => HSe.out _ _ hX (.slice none 0 0) [] ⟨#[97, 110, 110]⟩ W hg (hostK.below HI.out hb) (.inl ⟨rfl, .inl rfl⟩) (fun k hk => Nat.lt_of_lt_of_le hk hb.size) hX_few (by decide))
  have HSB := Lib.hid (fun W (hb : Below Wh.heap.size Wh W) hg => HSe.out _ _ hX (.slice none 0 0) [] ⟨#[]⟩ W hg (hostK.below HI.out hb) (.inl ⟨rfl, .inl rfl⟩) (fun k hk => Nat.lt_of_lt_of_le hk hb.size) hX_few (by decide))
  rw [foA] at HFo2
  rw [seA] at HSA
  rw [seB] at HSB
  clear Y0 C0 hin Z0 D0 hbw HSx3 XX3 XR3 HFo HSe hWh
  have HBL := HB4
  have XX0 := XX4
  have XY0 := XY4
  have XH0 := XH4
  have HBh := Lib.hid (Below.refl Wh.heap.size Wh)
  have xx0_0 := XX0.out.cell (i := 0) rfl
  have xx0_1 := XX0.out.cell (i := 1) rfl
  have xx0_2 := XX0.out.cell (i := 2) rfl
  have xy0_0 := XY0.out.cell (i := 0) rfl
  have xy0_1 := XY0.out.cell (i := 1) rfl
  have xy0_2 := XY0.out.cell (i := 2) rfl
  have xh0_0 := XH0.out.cell (i := 0) rfl
  have xh0_1 := XH0.out.cell (i := 1) rfl
  have xh0_2 := XH0.out.cell (i := 2) rfl
  have hWhs : Wh.heap.size = w3.heap.size + 1 + 1 + 1 := by rw [<- hWh2]; simp [hWys]
  clear XX4 XY4 XH4
  have BA0 := HBh.out.alloc HBh.out.size (.cells #[.string ⟨#[71, 69, 84]⟩, .string ⟨#[79, 80, 84, 73, 79, 78, 83]⟩] 9)
  have BS0 := (Below.refl Wh.heap.size Wh).alloc (Nat.le_refl _) (.cells #[.string ⟨#[71, 69, 84]⟩, .string ⟨#[79, 80, 84, 73, 79, 78, 83]⟩] 9)
  have SL0 := lit_strsA Wh [⟨#[71, 69, 84]⟩, ⟨#[79, 80, 84, 73, 79, 78, 83]⟩] (by decide)
  rw [hWhs] at SL0
  have GA0 := HGb.out _ _ HG4.out BS0
  have hBA0 := Lib.hid BA0
  have hSL0 := Lib.hid SL0
  have hGA0 := Lib.hid GA0
  have hBS0 := Lib.hid BS0
  clear BA0 SL0 GA0 BS0
  go_wp2_with fail
  refine ((texts_q (.slice px 2 cx) _ [⟨#[71, 69, 84]⟩, ⟨#[79, 80, 84, 73, 79, 78, 83]⟩] [⟨#[71, 69, 84]⟩, ⟨#[79, 80, 84, 73, 79, 78, 83]⟩] _ (HSx4.out.below hBS0.out) hSL0.out).mono (fun _ _ h => h.says)).mono ?_
  rintro e w1 ⟨rfl, hb⟩
  have HB1 := Lib.hid (hBA0.out.trans (hb.mono hBA0.out.size))
  have HG1 := Lib.hid (HGb.out _ _ hGA0.out hb)
  have HS1 := Lib.hid (hBS0.out.trans (hb.mono hBS0.out.size))
  have XX1 := Lib.hid (XX0.out.below HS1.out)
  have xx1_0 := XX1.out.cell (i := 0) rfl
  have xx1_1 := XX1.out.cell (i := 1) rfl
  have xx1_2 := XX1.out.cell (i := 2) rfl
  clear xx0_0 xx0_1 xx0_2
  have XY1 := Lib.hid (XY0.out.below HS1.out)
  have xy1_0 := XY1.out.cell (i := 0) rfl
  have xy1_1 := XY1.out.cell (i := 1) rfl
  have xy1_2 := XY1.out.cell (i := 2) rfl
  clear xy0_0 xy0_1 xy0_2
  have XH1 := Lib.hid (XH0.out.below HS1.out)
  have xh1_0 := XH1.out.cell (i := 0) rfl
  have xh1_1 := XH1.out.cell (i := 1) rfl
  have xh1_2 := XH1.out.cell (i := 2) rfl
  clear xh0_0 xh0_1 xh0_2
  clear hb
  go_wp2_with fail
  refine (HFo2.out _ HB1.out HG1.out).mono ?_
  rintro e w2 ⟨vf, he, hsf, hb⟩
  replace he : e = .returned (.agg #[.int .i64 1, vf, .string ⟨#[]⟩]) := he
  subst he
  obtain ⟨pf, cf, rfl⟩ := hsf.sliced
  have hff := fun n => Tryd.decField0 1 pf n cf ⟨#[]⟩
  clear hsf
  have HB2 := Lib.hid (HB1.out.trans (hb.mono HB1.out.size))
  have HG2 := Lib.hid (HGb.out _ _ HG1.out hb)
  have XX2 := Lib.hid (XX1.out.below hb)
  have xx2_0 := XX2.out.cell (i := 0) rfl
  have xx2_1 := XX2.out.cell (i := 1) rfl
  have xx2_2 := XX2.out.cell (i := 2) rfl
  clear xx1_0 xx1_1 xx1_2
  have XY2 := Lib.hid (XY1.out.below hb)
  have xy2_0 := XY2.out.cell (i := 0) rfl
  have xy2_1 := XY2.out.cell (i := 1) rfl
  have xy2_2 := XY2.out.cell (i := 2) rfl
  clear xy1_0 xy1_1 xy1_2
  have XH2 := Lib.hid (XH1.out.below hb)
  have xh2_0 := XH2.out.cell (i := 0) rfl
  have xh2_1 := XH2.out.cell (i := 1) rfl
  have xh2_2 := XH2.out.cell (i := 2) rfl
  clear xh1_0 xh1_1 xh1_2
  clear hb
  go_wp2_with fail
  refine (HSA.out _ HB2.out HG2.out).mono ?_
  rintro e w3 ⟨rfl, hb⟩
  have HB3 := Lib.hid (HB2.out.trans (hb.mono HB2.out.size))
  have HG3 := Lib.hid (HGb.out _ _ HG2.out hb)
  have XX3 := Lib.hid (XX2.out.below hb)
  have xx3_0 := XX3.out.cell (i := 0) rfl
  have xx3_1 := XX3.out.cell (i := 1) rfl
  have xx3_2 := XX3.out.cell (i := 2) rfl
  clear xx2_0 xx2_1 xx2_2
  have XY3 := Lib.hid (XY2.out.below hb)
  have xy3_0 := XY3.out.cell (i := 0) rfl
  have xy3_1 := XY3.out.cell (i := 1) rfl
  have xy3_2 := XY3.out.cell (i := 2) rfl
  clear xy2_0 xy2_1 xy2_2
  have XH3 := Lib.hid (XH2.out.below hb)
  have xh3_0 := XH3.out.cell (i := 0) rfl
  have xh3_1 := XH3.out.cell (i := 1) rfl
  have xh3_2 := XH3.out.cell (i := 2) rfl
  clear xh2_0 xh2_1 xh2_2
  clear hb
  go_wp2_with fail
  refine (HSB.out _ HB3.out HG3.out).mono ?_
  rintro e w4 ⟨rfl, hb⟩
  have HB4 := Lib.hid (HB3.out.trans (hb.mono HB3.out.size))
  have HG4 := Lib.hid (HGb.out _ _ HG3.out hb)
  have XX4 := Lib.hid (XX3.out.below hb)
  have xx4_0 := XX4.out.cell (i := 0) rfl
  have xx4_1 := XX4.out.cell (i := 1) rfl
  have xx4_2 := XX4.out.cell (i := 2) rfl
  clear xx3_0 xx3_1 xx3_2
  have XY4 := Lib.hid (XY3.out.below hb)
  have xy4_0 := XY4.out.cell (i := 0) rfl
  have xy4_1 := XY4.out.cell (i := 1) rfl
  have xy4_2 := XY4.out.cell (i := 2) rfl
  clear xy3_0 xy3_1 xy3_2
  have XH4 := Lib.hid (XH3.out.below hb)
  have xh4_0 := XH4.out.cell (i := 0) rfl
  have xh4_1 := XH4.out.cell (i := 1) rfl
  have xh4_2 := XH4.out.cell (i := 2) rfl
  clear xh3_0 xh3_1 xh3_2
  clear hb
  go_wp2_with fail
  refine (HN3.out _ HG4.out).mono ?_
  rintro e w5 ⟨rfl, hb⟩
  have HB5 := Lib.hid (HB4.out.trans (hb.mono HB4.out.size))
  have HG5 := Lib.hid (HGb.out _ _ HG4.out hb)
  have XX5 := Lib.hid (XX4.out.below hb)
  have xx5_0 := XX5.out.cell (i := 0) rfl
  have xx5_1 := XX5.out.cell (i := 1) rfl
  have xx5_2 := XX5.out.cell (i := 2) rfl
  clear xx4_0 xx4_1 xx4_2
  have XY5 := Lib.hid (XY4.out.below hb)
  have xy5_0 := XY5.out.cell (i := 0) rfl
  have xy5_1 := XY5.out.cell (i := 1) rfl
  have xy5_2 := XY5.out.cell (i := 2) rfl
  clear xy4_0 xy4_1 xy4_2
  have XH5 := Lib.hid (XH4.out.below hb)
  have xh5_0 := XH5.out.cell (i := 0) rfl
  have xh5_1 := XH5.out.cell (i := 1) rfl
  have xh5_2 := XH5.out.cell (i := 2) rfl
  clear xh4_0 xh4_1 xh4_2
  clear hb
  go_wp2_with fail
  refine (HN9.out _ HG5.out).mono ?_
  rintro e w6 ⟨rfl, hb⟩
  have HB6 := Lib.hid (HB5.out.trans (hb.mono HB5.out.size))
  have HG6 := Lib.hid (HGb.out _ _ HG5.out hb)
  have XX6 := Lib.hid (XX5.out.below hb)
  have xx6_0 := XX6.out.cell (i := 0) rfl
  have xx6_1 := XX6.out.cell (i := 1) rfl
  have xx6_2 := XX6.out.cell (i := 2) rfl
  clear xx5_0 xx5_1 xx5_2
  have XY6 := Lib.hid (XY5.out.below hb)
  have xy6_0 := XY6.out.cell (i := 0) rfl
  have xy6_1 := XY6.out.cell (i := 1) rfl
  have xy6_2 := XY6.out.cell (i := 2) rfl
  clear xy5_0 xy5_1 xy5_2
  have XH6 := Lib.hid (XH5.out.below hb)
  have xh6_0 := XH6.out.cell (i := 0) rfl
  have xh6_1 := XH6.out.cell (i := 1) rfl
  have xh6_2 := XH6.out.cell (i := 2) rfl
  clear xh5_0 xh5_1 xh5_2
  clear hb
  go_wp2_with fail
  go_ret
  exact saysIn_k22 (by simp) (HW0.out.trans ((HBL.out.trans (HB6.out.mono HBL.out.size)).mono HW0.out.size))
end Go.Proofs.YtdfbmcafmnhheaaDoor
