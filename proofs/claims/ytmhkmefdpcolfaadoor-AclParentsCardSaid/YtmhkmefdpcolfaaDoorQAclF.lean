/- Stage 22: awake, given AclC. -/
import Derived.Test.YtmhkmefdpcolfaaDoorQC
import Derived.Test.YtmhkmefdpcolfaaDoorQAclE
namespace Go.Proofs.YtmhkmefdpcolfaaDoor
set_option linter.all false
open Go.RowKit
def LR : List RuleV := [([], [], false, ⟨#[48]⟩), ([⟨#[97]⟩], [], false, ⟨#[49]⟩), ([⟨#[97]⟩, ⟨#[98]⟩], [(⟨#[42]⟩, true, false)], false, ⟨#[50]⟩)]
theorem lit_strsR (R : Nat -> Prop) (W : World) (b : Nat) (hb : R b) (L : List ByteArray) (n : Nat) (hn : L.length = n) (hm : n <= 1000) (h : ∀ i u, L[i]? = some u -> W.cell? ⟨b, i, none⟩ = some (.string u)) : Kind.str.rows R W (.slice (some ⟨b, 0, none⟩) n n) L := by
  subst hn
  refine .inr ⟨b, 0, L.length, rfl, Nat.le_refl _, by omega, hb, fun i x hx => ⟨[.string x], rfl, fun j u hu => ?_⟩⟩
  match j, hu with
  | 0, hu =>
    obtain rfl : Value.string x = u := by simpa using hu
    have := h i x hx
    rwa [show 0 + i * Kind.str.sz + 0 = i by show 0 + i * 1 + 0 = i; omega]
  | j + 1, hu => simp at hu
theorem lit_ruleIn (R : Nat -> Prop) (W : World) (s g : Value) (N : List ByteArray) (Gs : List GrantV) (m : ByteArray) (h : Kind.str.rows R W s N) (hg : grantK.rows R W g Gs) : ruleK.In R W [s, g, .bool false, .string m] (N, Gs, false, m) :=
  ⟨[s], [g, .bool false, .string m], rfl, ⟨s, rfl, h⟩, [g], [.bool false, .string m], rfl, ⟨g, rfl, hg⟩, [.bool false], [.string m], rfl, rfl, rfl⟩
theorem lit_noneR {α : Type} (K : Kind α) (R : Nat -> Prop) (W : World) : K.rows R W (.slice none 0 0) [] := .inl ⟨rfl, .inl rfl⟩
set_option maxRecDepth 100000 in
theorem lit_rules (w W : World) (hW : W = (((w.alloc (.cells #[.string ⟨#[97]⟩] 9)).alloc (.cells #[.string ⟨#[97]⟩, .string ⟨#[98]⟩] 9)).alloc (.cells #[.string ⟨#[42]⟩, .bool true, .bool false] 39)).alloc (.cells #[.slice none 0 0, .slice none 0 0, .bool false, .string ⟨#[48]⟩, .slice (some ⟨w.heap.size, 0, none⟩) 1 1, .slice none 0 0, .bool false, .string ⟨#[49]⟩, .slice (some ⟨w.heap.size + 1, 0, none⟩) 2 2, .slice (some ⟨w.heap.size + 1 + 1, 0, none⟩) 1 1, .bool false, .string ⟨#[50]⟩] 30)) : ruleK.rows (fun k => k < W.heap.size) W (.slice (some ⟨w.heap.size + 1 + 1 + 1, 0, none⟩) 3 3) LR /\ Below w.heap.size w W := by
  have hsz : W.heap.size = w.heap.size + 1 + 1 + 1 + 1 := by rw [hW]; simp
  have hbel : Below w.heap.size w W := by
    rw [hW]
    exact ((((Below.refl w.heap.size w).alloc (Nat.le_refl _) _).alloc (by simp) _).alloc (by simp; omega) _).alloc (by simp; omega) _
  have d0 : W.cell? ⟨w.heap.size, 0, none⟩ = some (.string ⟨#[97]⟩) := by rw [hW]; simp [go_sem]
  have d1 : W.cell? ⟨w.heap.size + 1, 0, none⟩ = some (.string ⟨#[97]⟩) := by rw [hW]; simp [go_sem]
  have d2 : W.cell? ⟨w.heap.size + 1, 1, none⟩ = some (.string ⟨#[98]⟩) := by rw [hW]; simp [go_sem]
  have g0 : W.cell? ⟨w.heap.size + 1 + 1, 0, none⟩ = some (.string ⟨#[42]⟩) := by rw [hW]; simp [go_sem]
  have g1 : W.cell? ⟨w.heap.size + 1 + 1, 1, none⟩ = some (.bool true) := by rw [hW]; simp [go_sem]
  have g2 : W.cell? ⟨w.heap.size + 1 + 1, 2, none⟩ = some (.bool false) := by rw [hW]; simp [go_sem]
  have e0 : W.cell? ⟨w.heap.size + 1 + 1 + 1, 0, none⟩ = some (.slice none 0 0) := by rw [hW]; simp [go_sem]
  have e1 : W.cell? ⟨w.heap.size + 1 + 1 + 1, 1, none⟩ = some (.slice none 0 0) := by rw [hW]; simp [go_sem]
  have e2 : W.cell? ⟨w.heap.size + 1 + 1 + 1, 2, none⟩ = some (.bool false) := by rw [hW]; simp [go_sem]
  have e3 : W.cell? ⟨w.heap.size + 1 + 1 + 1, 3, none⟩ = some (.string ⟨#[48]⟩) := by rw [hW]; simp [go_sem]
  have e4 : W.cell? ⟨w.heap.size + 1 + 1 + 1, 4, none⟩ = some (.slice (some ⟨w.heap.size, 0, none⟩) 1 1) := by rw [hW]; simp [go_sem]
  have e5 : W.cell? ⟨w.heap.size + 1 + 1 + 1, 5, none⟩ = some (.slice none 0 0) := by rw [hW]; simp [go_sem]
  have e6 : W.cell? ⟨w.heap.size + 1 + 1 + 1, 6, none⟩ = some (.bool false) := by rw [hW]; simp [go_sem]
  have e7 : W.cell? ⟨w.heap.size + 1 + 1 + 1, 7, none⟩ = some (.string ⟨#[49]⟩) := by rw [hW]; simp [go_sem]
  have e8 : W.cell? ⟨w.heap.size + 1 + 1 + 1, 8, none⟩ = some (.slice (some ⟨w.heap.size + 1, 0, none⟩) 2 2) := by rw [hW]; simp [go_sem]
  have e9 : W.cell? ⟨w.heap.size + 1 + 1 + 1, 9, none⟩ = some (.slice (some ⟨w.heap.size + 1 + 1, 0, none⟩) 1 1) := by rw [hW]; simp [go_sem]
  have e10 : W.cell? ⟨w.heap.size + 1 + 1 + 1, 10, none⟩ = some (.bool false) := by rw [hW]; simp [go_sem]
  have e11 : W.cell? ⟨w.heap.size + 1 + 1 + 1, 11, none⟩ = some (.string ⟨#[50]⟩) := by rw [hW]; simp [go_sem]
  clear hW
  refine ⟨?_, hbel⟩
  have s0 : Kind.str.rows (fun k => k < W.heap.size) W (.slice (some ⟨w.heap.size, 0, none⟩) 1 1) [⟨#[97]⟩] := lit_strsR _ W _ (by omega) _ 1 rfl (by decide) fun i u hu => by
    match i, hu with
    | 0, hu => obtain rfl := by simpa using hu
               exact d0
    | i + 1, hu => simp at hu
  have s1 : Kind.str.rows (fun k => k < W.heap.size) W (.slice (some ⟨w.heap.size + 1, 0, none⟩) 2 2) [⟨#[97]⟩, ⟨#[98]⟩] := lit_strsR _ W _ (by omega) _ 2 rfl (by decide) fun i u hu => by
    match i, hu with
    | 0, hu => obtain rfl := by simpa using hu
               exact d1
    | 1, hu => obtain rfl := by simpa using hu
               exact d2
    | i + 2, hu => simp at hu
  have s2 : grantK.rows (fun k => k < W.heap.size) W (.slice (some ⟨w.heap.size + 1 + 1, 0, none⟩) 1 1) [(⟨#[42]⟩, true, false)] := .inr ⟨w.heap.size + 1 + 1, 0, 1, rfl, Nat.le_refl _, by omega, by omega, fun i x hx => by
    match i, hx with
    | 0, hx =>
      obtain rfl := by simpa using hx
      refine ⟨[.string ⟨#[42]⟩, .bool true, .bool false], ⟨[.string ⟨#[42]⟩], [.bool true, .bool false], rfl, rfl, [.bool true], [.bool false], rfl, rfl, rfl⟩, fun j u hu => ?_⟩
      match j, hu with
      | 0, hu => obtain rfl := by simpa using hu
                 exact g0
      | 1, hu => obtain rfl := by simpa using hu
                 exact g1
      | 2, hu => obtain rfl := by simpa using hu
                 exact g2
      | j + 3, hu => simp at hu
    | i + 1, hx => simp at hx⟩
  refine .inr ⟨w.heap.size + 1 + 1 + 1, 0, 3, rfl, Nat.le_refl _, by omega, by omega, fun i x hx => ?_⟩
  match i, hx with
  | 0, hx =>
    obtain rfl := by simpa [LR] using hx
    refine ⟨_, lit_ruleIn _ W _ _ _ _ _ (lit_noneR _ _ W) (lit_noneR _ _ W), fun j u hu => ?_⟩
    match j, hu with
    | 0, hu => obtain rfl := by simpa using hu
               exact e0
    | 1, hu => obtain rfl := by simpa using hu
               exact e1
    | 2, hu => obtain rfl := by simpa using hu
               exact e2
    | 3, hu => obtain rfl := by simpa using hu
               exact e3
    | j + 4, hu => simp at hu
  | 1, hx =>
    obtain rfl := by simpa [LR] using hx
    refine ⟨_, lit_ruleIn _ W _ _ _ _ _ s0 (lit_noneR _ _ W), fun j u hu => ?_⟩
    match j, hu with
    | 0, hu => obtain rfl := by simpa using hu
               exact e4
    | 1, hu => obtain rfl := by simpa using hu
               exact e5
    | 2, hu => obtain rfl := by simpa using hu
               exact e6
    | 3, hu => obtain rfl := by simpa using hu
               exact e7
    | j + 4, hu => simp at hu
  | 2, hx =>
    obtain rfl := by simpa [LR] using hx
    refine ⟨_, lit_ruleIn _ W _ _ _ _ _ s1 s2, fun j u hu => ?_⟩
    match j, hu with
    | 0, hu => obtain rfl := by simpa using hu
               exact e8
    | 1, hu => obtain rfl := by simpa using hu
               exact e9
    | 2, hu => obtain rfl := by simpa using hu
               exact e10
    | 3, hu => obtain rfl := by simpa using hu
               exact e11
    | j + 4, hu => simp at hu
  | i + 3, hx => simp [LR] at hx
theorem LR_few : FewL LR := ⟨by decide, fun r hr => by
  simp only [LR, List.mem_cons, List.not_mem_nil, or_false] at hr
  rcases hr with rfl | rfl | rfl <;> exact ⟨by decide, by decide⟩⟩
def rC : RuleV := ([⟨#[97]⟩, ⟨#[98]⟩], [(⟨#[42]⟩, true, false)], false, ⟨#[50]⟩)
def rZ : RuleV := ([], [], false, ⟨#[48]⟩)
theorem mA : matchR LR [⟨#[97]⟩, ⟨#[98]⟩, ⟨#[99]⟩] = rC := by kernel_rfl
theorem mB : matchR LR [⟨#[97, 98]⟩] = rZ := by kernel_rfl
theorem apA : appliesG ⟨#[42]⟩ ⟨#[120]⟩ = true := by kernel_rfl
theorem apB : appliesG ⟨#[42]⟩ ⟨#[]⟩ = false := by kernel_rfl
theorem gdA : grantedP rC.2.1 ⟨#[120]⟩ ⟨#[71, 69, 84]⟩ = true := by kernel_rfl
theorem gdB : grantedP rC.2.1 ⟨#[]⟩ ⟨#[71, 69, 84]⟩ = false := by kernel_rfl
theorem mpA : methP rC.2.1 ⟨#[120]⟩ = [⟨#[71, 69, 84]⟩, ⟨#[79, 80, 84, 73, 79, 78, 83]⟩] := by kernel_rfl
theorem rdA : readP LR [⟨#[97]⟩, ⟨#[98]⟩] ⟨#[120]⟩ = true := by kernel_rfl
theorem rdB : readP LR [⟨#[97]⟩] ⟨#[120]⟩ = false := by kernel_rfl
theorem Tryd.ruleField3 (p0 : Option Addr) (n0 c0 : Nat) (p1 : Option Addr) (n1 c1 : Nat) (b : Bool) (s : ByteArray) (w : World) : (Instr.field 30 (.agg #[.slice p0 n0 c0, .slice p1 n1 c1, .bool b, .string s]) 3).run Tryd.prog w = .ok (.string s) w := by kernel_rfl
set_option maxRecDepth 100000 in
set_option maxHeartbeats 8000000 in
theorem awake22 {G : World -> Prop} (hA : AclC G) : Awake22 G := fun w hG0 => by
  obtain ⟨WL, hWL⟩ : ∃ W, W = (((w.alloc (.cells #[.string ⟨#[97]⟩] 9)).alloc (.cells #[.string ⟨#[97]⟩, .string ⟨#[98]⟩] 9)).alloc (.cells #[.string ⟨#[42]⟩, .bool true, .bool false] 39)).alloc (.cells #[.slice none 0 0, .slice none 0 0, .bool false, .string ⟨#[48]⟩, .slice (some ⟨w.heap.size, 0, none⟩) 1 1, .slice none 0 0, .bool false, .string ⟨#[49]⟩, .slice (some ⟨w.heap.size + 1, 0, none⟩) 2 2, .slice (some ⟨w.heap.size + 1 + 1, 0, none⟩) 1 1, .bool false, .string ⟨#[50]⟩] 30) := ⟨_, rfl⟩
  obtain ⟨hv, hbel⟩ := lit_rules w WL hWL
  have HV := Lib.hid hv
  have HW0 := Lib.hid hbel
  have HG := Lib.hid (hA.below _ _ hG0 hbel)
  have HGb := Lib.hid hA.below
  have hWL2 := hWL.symm
  have HM := Lib.hid (fun u P W (hb : Below WL.heap.size WL W) (hg : G W) (hu : StrsIn W u P) (hl : P.length <= 100) => hA.match_ _ _ u LR P W hg (Kind.rows_below _ hv hb) hu (fun k hk => Nat.lt_of_lt_of_le hk hb.size) LR_few hl)
  have HRd := Lib.hid (fun u P W (hb : Below WL.heap.size WL W) (hg : G W) (hu : StrsIn W u P) (hl : P.length <= 100) => hA.readable _ _ u LR P ⟨#[120]⟩ W hg (Kind.rows_below _ hv hb) hu (fun k hk => Nat.lt_of_lt_of_le hk hb.size) LR_few hl)
  have HMA := Lib.hid (fun u W hb hg hu => HM.out u [⟨#[97]⟩, ⟨#[98]⟩, ⟨#[99]⟩] W hb hg hu (by decide))
  have HMB := Lib.hid (fun u W hb hg hu => HM.out u [⟨#[97, 98]⟩] W hb hg hu (by decide))
  have HRA := Lib.hid (fun u W hb hg hu => HRd.out u [⟨#[97]⟩, ⟨#[98]⟩] W hb hg hu (by decide))
  have HRB := Lib.hid (fun u W hb hg hu => HRd.out u [⟨#[97]⟩] W hb hg hu (by decide))
  rw [mA] at HMA
  rw [mB] at HMB
  rw [rdA] at HRA
  rw [rdB] at HRB
  have HPA := Lib.hid (fun w hg => hA.applies ⟨#[42]⟩ false false ⟨#[120]⟩ w hg)
  have HPB := Lib.hid (fun w hg => hA.applies ⟨#[42]⟩ false false ⟨#[]⟩ w hg)
  rw [apA] at HPA
  rw [apB] at HPB
  have HDA := Lib.hid (fun R cs w hg hi => hA.granted R cs rC ⟨#[120]⟩ ⟨#[71, 69, 84]⟩ w hg hi (by decide) (by decide))
  have HDB := Lib.hid (fun R cs w hg hi => hA.granted R cs rC ⟨#[]⟩ ⟨#[71, 69, 84]⟩ w hg hi (by decide) (by decide))
  have HME := Lib.hid (fun R cs w hg hi => hA.methods R cs rC ⟨#[120]⟩ w hg hi (by decide))
  rw [gdA] at HDA
  rw [gdB] at HDB
  rw [mpA] at HME
  clear hG0 hA hv hbel hWL HM HRd
  go_enter Tryd.func8, Tryd.ntmps8
  have BA0 := (Below.refl WL.heap.size WL).alloc (Below.refl WL.heap.size WL).size (.cells #[.string ⟨#[97]⟩, .string ⟨#[98]⟩, .string ⟨#[99]⟩] 9)
  have BS0 := (Below.refl WL.heap.size WL).alloc (Nat.le_refl _) (.cells #[.string ⟨#[97]⟩, .string ⟨#[98]⟩, .string ⟨#[99]⟩] 9)
  have SL0 := lit_strsA WL [⟨#[97]⟩, ⟨#[98]⟩, ⟨#[99]⟩] (by decide)
  have GA0 := HGb.out _ _ HG.out BS0
  have hBA0 := Lib.hid BA0
  have hSL0 := Lib.hid SL0
  have hGA0 := Lib.hid GA0
  have hBS0 := Lib.hid BS0
  clear BA0 SL0 GA0 BS0
  go_wp2_with fail
  refine (HMA.out _ _ hBA0.out hGA0.out hSL0.out).mono ?_
  rintro e w1 ⟨RA, ca, rfl, hia, hb⟩
  obtain ⟨p0, c0, p1, c1, hce, _, _⟩ := ruleK_cells hia
  replace hce : ca = [.slice p0 2 c0, .slice p1 1 c1, .bool false, .string ⟨#[50]⟩] := hce
  subst hce
  have HIa0 := Lib.hid hia
  have HB1 := Lib.hid (hBA0.out.trans (hb.mono hBA0.out.size))
  have HG1 := Lib.hid (HGb.out _ _ hGA0.out hb)
  have HS1 := Lib.hid (hBS0.out.trans (hb.mono hBS0.out.size))
  clear hb
  have HIa : Hid (ruleK.In RA w1 [.slice p0 2 c0, .slice p1 1 c1, .bool false, .string ⟨#[50]⟩] rC) := HIa0
  clear HIa0 hia
  obtain ⟨X0, B0⟩ := ruleBox w1 p0 2 c0 p1 1 c1 false ⟨#[50]⟩
  generalize hWb : w1.alloc (.cells #[.slice p0 2 c0, .slice p1 1 c1, .bool false, .string ⟨#[50]⟩] 30) = Wb at X0 B0
  have HBb := Lib.hid (HB1.out.trans (B0.mono HB1.out.size))
  have HGx := Lib.hid (HGb.out _ _ HG1.out B0)
  have HJ0 := Lib.hid B0
  have XB0 := Lib.hid X0
  have hWbs : Wb.heap.size = w1.heap.size + 1 := by rw [<- hWb]; simp
  have xb0_0 := X0.cell (i := 0) rfl
  have xb0_1 := X0.cell (i := 1) rfl
  have xb0_2 := X0.cell (i := 2) rfl
  have xb0_3 := X0.cell (i := 3) rfl
  clear X0 B0
  have BA0 := HBb.out.alloc HBb.out.size (.cells #[.string ⟨#[97, 98]⟩] 9)
  have BS0 := (Below.refl Wb.heap.size Wb).alloc (Nat.le_refl _) (.cells #[.string ⟨#[97, 98]⟩] 9)
  have SL0 := lit_strsA Wb [⟨#[97, 98]⟩] (by decide)
  rw [hWbs] at SL0
  have GA0 := HGb.out _ _ HGx.out BS0
  have hBA0 := Lib.hid BA0
  have hSL0 := Lib.hid SL0
  have hGA0 := Lib.hid GA0
  have hBS0 := Lib.hid BS0
  clear BA0 SL0 GA0 BS0
  go_wp2_with fail
  refine (HMB.out _ _ hBA0.out hGA0.out hSL0.out).mono ?_
  rintro e w1 ⟨RB, cb, rfl, hib, hb⟩
  obtain ⟨s0, d0, s1, d1, hce, _, _⟩ := ruleK_cells hib
  replace hce : cb = [.slice s0 0 d0, .slice s1 0 d1, .bool false, .string ⟨#[48]⟩] := hce
  subst hce
  have hfb := Tryd.ruleField3 s0 0 d0 s1 0 d1 false ⟨#[48]⟩
  clear hib
  have HB1 := Lib.hid (hBA0.out.trans (hb.mono hBA0.out.size))
  have HG1 := Lib.hid (HGb.out _ _ hGA0.out hb)
  have HS1 := Lib.hid (hBS0.out.trans (hb.mono hBS0.out.size))
  have XB1 := Lib.hid (XB0.out.below HS1.out)
  have xb1_0 := XB1.out.cell (i := 0) rfl
  have xb1_1 := XB1.out.cell (i := 1) rfl
  have xb1_2 := XB1.out.cell (i := 2) rfl
  have xb1_3 := XB1.out.cell (i := 3) rfl
  clear xb0_0 xb0_1 xb0_2 xb0_3
  clear hb
  have HJ1 := Lib.hid (HJ0.out.trans (HS1.out.mono HJ0.out.size))
  go_wp2_with fail
  refine (HPA.out _ HG1.out).mono ?_
  rintro e w2 ⟨rfl, hb⟩
  have HJ2 := Lib.hid (HJ1.out.trans (hb.mono HJ1.out.size))
  have HB2 := Lib.hid (HB1.out.trans (hb.mono HB1.out.size))
  have HG2 := Lib.hid (HGb.out _ _ HG1.out hb)
  have XB2 := Lib.hid (XB1.out.below hb)
  have xb2_0 := XB2.out.cell (i := 0) rfl
  have xb2_1 := XB2.out.cell (i := 1) rfl
  have xb2_2 := XB2.out.cell (i := 2) rfl
  have xb2_3 := XB2.out.cell (i := 3) rfl
  clear xb1_0 xb1_1 xb1_2 xb1_3
  clear hb
  go_wp2_with fail
  refine (HPB.out _ HG2.out).mono ?_
  rintro e w3 ⟨rfl, hb⟩
  have HJ3 := Lib.hid (HJ2.out.trans (hb.mono HJ2.out.size))
  have HB3 := Lib.hid (HB2.out.trans (hb.mono HB2.out.size))
  have HG3 := Lib.hid (HGb.out _ _ HG2.out hb)
  have XB3 := Lib.hid (XB2.out.below hb)
  have xb3_0 := XB3.out.cell (i := 0) rfl
  have xb3_1 := XB3.out.cell (i := 1) rfl
  have xb3_2 := XB3.out.cell (i := 2) rfl
  have xb3_3 := XB3.out.cell (i := 3) rfl
  clear xb2_0 xb2_1 xb2_2 xb2_3
  clear hb
  go_wp2_with fail
  refine (HDA.out RA _ _ HG3.out (ruleK.below HIa.out HJ3.out)).mono ?_
  rintro e w4 ⟨rfl, hb⟩
  have HJ4 := Lib.hid (HJ3.out.trans (hb.mono HJ3.out.size))
  have HB4 := Lib.hid (HB3.out.trans (hb.mono HB3.out.size))
  have HG4 := Lib.hid (HGb.out _ _ HG3.out hb)
  have XB4 := Lib.hid (XB3.out.below hb)
  have xb4_0 := XB4.out.cell (i := 0) rfl
  have xb4_1 := XB4.out.cell (i := 1) rfl
  have xb4_2 := XB4.out.cell (i := 2) rfl
  have xb4_3 := XB4.out.cell (i := 3) rfl
  clear xb3_0 xb3_1 xb3_2 xb3_3
  clear hb
  go_wp2_with fail
  refine (HDB.out RA _ _ HG4.out (ruleK.below HIa.out HJ4.out)).mono ?_
  rintro e w5 ⟨rfl, hb⟩
  have HJ5 := Lib.hid (HJ4.out.trans (hb.mono HJ4.out.size))
  have HB5 := Lib.hid (HB4.out.trans (hb.mono HB4.out.size))
  have HG5 := Lib.hid (HGb.out _ _ HG4.out hb)
  have XB5 := Lib.hid (XB4.out.below hb)
  have xb5_0 := XB5.out.cell (i := 0) rfl
  have xb5_1 := XB5.out.cell (i := 1) rfl
  have xb5_2 := XB5.out.cell (i := 2) rfl
  have xb5_3 := XB5.out.cell (i := 3) rfl
  clear xb4_0 xb4_1 xb4_2 xb4_3
  clear hb
  go_wp2_with fail
  refine (HME.out RA _ _ HG5.out (ruleK.below HIa.out HJ5.out)).mono ?_
  rintro e w6 ⟨vm, rfl, hsm, hb⟩
  have HSm := Lib.hid hsm
  clear hsm
  have HJ6 := Lib.hid (HJ5.out.trans (hb.mono HJ5.out.size))
  have HB6 := Lib.hid (HB5.out.trans (hb.mono HB5.out.size))
  have HG6 := Lib.hid (HGb.out _ _ HG5.out hb)
  have XB6 := Lib.hid (XB5.out.below hb)
  have xb6_0 := XB6.out.cell (i := 0) rfl
  have xb6_1 := XB6.out.cell (i := 1) rfl
  have xb6_2 := XB6.out.cell (i := 2) rfl
  have xb6_3 := XB6.out.cell (i := 3) rfl
  clear xb5_0 xb5_1 xb5_2 xb5_3
  clear hb
  have BA6 := HB6.out.alloc HB6.out.size (.cells #[.string ⟨#[71, 69, 84]⟩, .string ⟨#[79, 80, 84, 73, 79, 78, 83]⟩] 9)
  have BS6 := (Below.refl w6.heap.size w6).alloc (Nat.le_refl _) (.cells #[.string ⟨#[71, 69, 84]⟩, .string ⟨#[79, 80, 84, 73, 79, 78, 83]⟩] 9)
  have SL6 := lit_strsA w6 [⟨#[71, 69, 84]⟩, ⟨#[79, 80, 84, 73, 79, 78, 83]⟩] (by decide)
  have GA6 := HGb.out _ _ HG6.out BS6
  have hBA6 := Lib.hid BA6
  have hSL6 := Lib.hid SL6
  have hGA6 := Lib.hid GA6
  have hBS6 := Lib.hid BS6
  clear BA6 SL6 GA6 BS6
  go_wp2_with fail
  refine ((texts_q vm _ [⟨#[71, 69, 84]⟩, ⟨#[79, 80, 84, 73, 79, 78, 83]⟩] [⟨#[71, 69, 84]⟩, ⟨#[79, 80, 84, 73, 79, 78, 83]⟩] _ (HSm.out.below hBS6.out) hSL6.out).mono (fun _ _ h => h.says)).mono ?_
  rintro e w7 ⟨rfl, hb⟩
  have HB7 := Lib.hid (hBA6.out.trans (hb.mono hBA6.out.size))
  have HG7 := Lib.hid (HGb.out _ _ hGA6.out hb)
  have HS7 := Lib.hid (hBS6.out.trans (hb.mono hBS6.out.size))
  have XB7 := Lib.hid (XB6.out.below HS7.out)
  have xb7_0 := XB7.out.cell (i := 0) rfl
  have xb7_1 := XB7.out.cell (i := 1) rfl
  have xb7_2 := XB7.out.cell (i := 2) rfl
  have xb7_3 := XB7.out.cell (i := 3) rfl
  clear xb6_0 xb6_1 xb6_2 xb6_3
  clear hb
  have HJ7 := Lib.hid (HJ6.out.trans (HS7.out.mono HJ6.out.size))
  have BA7 := HB7.out.alloc HB7.out.size (.cells #[.string ⟨#[97]⟩, .string ⟨#[98]⟩] 9)
  have BS7 := (Below.refl w7.heap.size w7).alloc (Nat.le_refl _) (.cells #[.string ⟨#[97]⟩, .string ⟨#[98]⟩] 9)
  have SL7 := lit_strsA w7 [⟨#[97]⟩, ⟨#[98]⟩] (by decide)
  have GA7 := HGb.out _ _ HG7.out BS7
  have hBA7 := Lib.hid BA7
  have hSL7 := Lib.hid SL7
  have hGA7 := Lib.hid GA7
  have hBS7 := Lib.hid BS7
  clear BA7 SL7 GA7 BS7
  go_wp2_with fail
  refine (HRA.out _ _ hBA7.out hGA7.out hSL7.out).mono ?_
  rintro e w8 ⟨rfl, hb⟩
  have HB8 := Lib.hid (hBA7.out.trans (hb.mono hBA7.out.size))
  have HG8 := Lib.hid (HGb.out _ _ hGA7.out hb)
  have HS8 := Lib.hid (hBS7.out.trans (hb.mono hBS7.out.size))
  have XB8 := Lib.hid (XB7.out.below HS8.out)
  have xb8_0 := XB8.out.cell (i := 0) rfl
  have xb8_1 := XB8.out.cell (i := 1) rfl
  have xb8_2 := XB8.out.cell (i := 2) rfl
  have xb8_3 := XB8.out.cell (i := 3) rfl
  clear xb7_0 xb7_1 xb7_2 xb7_3
  clear hb
  have HJ8 := Lib.hid (HJ7.out.trans (HS8.out.mono HJ7.out.size))
  have BA8 := HB8.out.alloc HB8.out.size (.cells #[.string ⟨#[97]⟩] 9)
  have BS8 := (Below.refl w8.heap.size w8).alloc (Nat.le_refl _) (.cells #[.string ⟨#[97]⟩] 9)
  have SL8 := lit_strsA w8 [⟨#[97]⟩] (by decide)
  have GA8 := HGb.out _ _ HG8.out BS8
  have hBA8 := Lib.hid BA8
  have hSL8 := Lib.hid SL8
  have hGA8 := Lib.hid GA8
  have hBS8 := Lib.hid BS8
  clear BA8 SL8 GA8 BS8
  go_wp2_with fail
  refine (HRB.out _ _ hBA8.out hGA8.out hSL8.out).mono ?_
  rintro e w9 ⟨rfl, hb⟩
  have HB9 := Lib.hid (hBA8.out.trans (hb.mono hBA8.out.size))
  have HG9 := Lib.hid (HGb.out _ _ hGA8.out hb)
  have HS9 := Lib.hid (hBS8.out.trans (hb.mono hBS8.out.size))
  have XB9 := Lib.hid (XB8.out.below HS9.out)
  have xb9_0 := XB9.out.cell (i := 0) rfl
  have xb9_1 := XB9.out.cell (i := 1) rfl
  have xb9_2 := XB9.out.cell (i := 2) rfl
  have xb9_3 := XB9.out.cell (i := 3) rfl
  clear xb8_0 xb8_1 xb8_2 xb8_3
  clear hb
  have HJ9 := Lib.hid (HJ8.out.trans (HS9.out.mono HJ8.out.size))
  go_wp2_with fail
  go_ret
  exact saysIn_k22 (by simp) (HW0.out.trans (HB9.out.mono HW0.out.size))
end Go.Proofs.YtmhkmefdpcolfaaDoor
