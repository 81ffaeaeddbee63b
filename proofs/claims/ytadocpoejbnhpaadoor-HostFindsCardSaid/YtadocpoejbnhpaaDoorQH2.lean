/- Texts of one seat, merged: HstF, HstG, HstK. -/
import Derived.Test.YtadocpoejbnhpaaDoorQF
import Derived.Test.YtadocpoejbnhpaaDoorQH1
namespace Go.Proofs.YtadocpoejbnhpaaDoor
set_option linter.all false
open Go.RowKit
abbrev GrantV := ByteArray × Bool × Bool
abbrev RuleV := List ByteArray × List GrantV × Bool × ByteArray
abbrev HostVv := List ByteArray × List ByteArray × List RuleV
def grantK : Kind GrantV := Kind.str.and (Kind.bool.and Kind.bool)
def ruleK : Kind RuleV := (Kind.slice Kind.str).and ((Kind.slice grantK).and (Kind.bool.and Kind.str))
def hostK : Kind HostVv := (Kind.slice Kind.str).and ((Kind.slice Kind.str).and (Kind.slice ruleK))
theorem hostK_cells {R : Nat -> Prop} {w : World} {cs : List Value} {h : HostVv} (hi : hostK.In R w cs h) : ∃ p0 c0 p1 c1 p2 c2, cs = [.slice p0 h.1.length c0, .slice p1 h.2.1.length c1, .slice p2 h.2.2.length c2] /\ StrsIn w (.slice p0 h.1.length c0) h.1 := by
  obtain ⟨a, b, rfl, ⟨v0, rfl, h0⟩, c, d, rfl, ⟨v1, rfl, h1⟩, ⟨v2, rfl, h2⟩⟩ := hi
  obtain ⟨p0, c0, rfl⟩ := Kind.rows_sliced _ h0
  obtain ⟨p1, c1, rfl⟩ := Kind.rows_sliced _ h1
  obtain ⟨p2, c2, rfl⟩ := Kind.rows_sliced _ h2
  exact ⟨p0, c0, p1, c1, p2, c2, rfl, Kind.strs_of h0⟩
def idxG {α : Type} (f : α -> Bool) : Nat -> List α -> Int
  | _, [] => -1
  | i, x :: r => if f x = true then (i : Int) else idxG f (i + 1) r
theorem idxG_any {α : Type} (f : α -> Bool) : ∀ (l : List α) (i : Nat), (idxG f i l != -1) = l.any f
  | [], i => rfl
  | x :: r, i => by
    rw [idxG, List.any_cons]
    by_cases h : f x = true
    · rw [if_pos h, h, Bool.true_or, bne_iff_ne]; omega
    · rw [if_neg h, idxG_any f r (i + 1), Bool.eq_false_iff.2 h, Bool.false_or]
theorem idxG_find (n : ByteArray) : ∀ (l : List HostVv) (i : Nat), idxG (fun h : HostVv => h.1.any fun x => decide (lowS x = lowS n)) i l = findH n i (l.map (·.1))
  | [], i => rfl
  | x :: r, i => by
    rw [idxG, List.map_cons, findH, idxG_find n r (i + 1)]
theorem idxG_step {α : Type} (f : α -> Bool) (l : List α) (k : Nat) (h : k < l.length) : idxG f k (l.drop k) = if f l[k] = true then (k : Int) else idxG f (k + 1) (l.drop (k + 1)) := by
  rw [List.drop_eq_getElem_cons h, idxG]
theorem idxG_end {α : Type} (f : α -> Bool) (l : List α) (k : Nat) (h : l.length <= k) : idxG f k (l.drop k) = -1 := by
  rw [List.drop_eq_nil_iff.2 h]; rfl
set_option maxRecDepth 100000 in
set_option maxHeartbeats 4000000 in
theorem same1_any (x lo : ByteArray) (p : Nat) (w : World) (hx : x.size <= 1000000) (hc : w.cell? ⟨p, 0, none⟩ = some (.string lo)) :
    Calls Tryd.prog 38 #[.string x, .pointer (some ⟨p, 0, none⟩)] w (SaysIn (decide (lowS x = lo)) w) := by
  have HL := Lib.hid (fun w => lower_any x w (by omega))
  have hE : (decide (lowS x = lo)) = ((lowS x).toList == lo.toList) := by
    rw [ByteArray.toList_eq, ByteArray.toList_eq]
    rw [Bool.eq_iff_iff, decide_eq_true_iff, beq_iff_eq]
    exact ⟨fun h => by rw [h], fun h => ByteArray.ext (Array.ext' h)⟩
  have HE := Lib.hid hE
  obtain ⟨y, hy⟩ : ∃ y, y = lowS x := ⟨_, rfl⟩
  rw [<- hy] at HL HE ⊢
  have c0 : w.drew.cell? ⟨p, 0, none⟩ = some (.string lo) := hc
  have HC := Lib.hid hc
  have Hl := Lib.hid (World.block_lt_of_cell? w _ hc)
  clear hy hE hc
  go_enter Tryd.func38, Tryd.ntmps38
  go_wp2_with fail
  go_region_held3 (fun W => W.cell? ⟨p, 0, none⟩ = some (.string lo)) (first | with_reducible exact c0 | with_reducible exact d0) ((go_at_call 27; refine (HL.out _).mono ?_; rintro e w1 ⟨rfl, hb⟩; have d0 : w1.cell? ⟨p, 0, none⟩ = some (.string lo) := (hb.cell Hl.out).trans HC.out; have HB1 := Lib.hid ((Below.refl w.heap.size w).drew.trans hb); clear hb))
  all_goals
    go_wp2
    go_ret
    exact ⟨by rw [HE.out]; rfl, HB1.out⟩
theorem Tryd.fcall38 (x y : Value) (w : World) : (callFunc 38 #[x, y]).run Tryd.prog w = .ok (.enter 38 #[x, y]) w := by kernel_rfl
theorem Tryd.fcall40 (x y : Value) (w : World) : (callFunc 40 #[x, y]).run Tryd.prog w = .ok (.enter 40 #[x, y]) w := by kernel_rfl
theorem strs_len {w : World} {v : Value} {L : List ByteArray} (h : StrsIn w v L) : L.length <= 9223372036854775807 := by
  rcases h with ⟨rfl, _⟩ | ⟨_, _, _, _, h1, h2, _⟩
  · simp
  · omega
def IdxHTo (n : Int) (w : World) (e : Ending) (w' : World) : Prop := e = .returned (.int .i64 n) /\ Below w.heap.size w w'
set_option maxRecDepth 100000 in
set_option maxHeartbeats 4000000 in
theorem idxStr_any (v : Value) (L : List ByteArray) (lo : ByteArray) (p : Nat) (w : World) (hv : StrsIn w v L) (hx : ∀ x ∈ L, x.size <= 1000000) (hc : w.cell? ⟨p, 0, none⟩ = some (.string lo)) :
    Calls Tryd.prog 41 #[v, .func (.func 38) #[] #[.pointer (some ⟨p, 0, none⟩)]] w (IdxHTo (idxG (fun x => decide (lowS x = lo)) 0 L) w) := by
  obtain ⟨pt, ct, rfl⟩ := hv.sliced
  have hlen := strs_len hv
  obtain ⟨n, hn⟩ : ∃ n, n = L.length := ⟨_, rfl⟩
  have hca := Tryd.fcall38
  have HV := Lib.hid hv
  have HC := Lib.hid hc
  have Hl := Lib.hid (World.block_lt_of_cell? w _ hc)
  have HS := Lib.hid (fun k (h : k < L.length) => idxG_step (fun x => decide (lowS x = lo)) L k h)
  have HE := Lib.hid (fun k (h : L.length <= k) => idxG_end (fun x => decide (lowS x = lo)) L k h)
  have HX := Lib.hid hx
  rw [<- hn] at hlen
  obtain ⟨R, hR⟩ : ∃ R, R = idxG (fun x => decide (lowS x = lo)) 0 L := ⟨_, rfl⟩
  have HR := Lib.hid hR
  rw [<- hR]
  rw [<- hn]
  clear hv hc hx hR
  have Hn := Lib.hid hn
  clear hn
  go_enter Tryd.func41, Tryd.ntmps41
  go_wp2
  go_loopw [9] (fun j wi => ∃ q : Nat, q <= n /\ j = .int .i64 q /\ Hid (R = idxG (fun x => decide (lowS x = lo)) q (L.drop q)) /\ Hid (Below w.heap.size w wi)) (fun j _ => (n - intOf j).toNat)
  case atStart => exact ⟨0, Nat.zero_le _, rfl, Lib.hid (by rw [HR.out]; rfl), Lib.hid (Below.refl _ _)⟩
  case round =>
    obtain ⟨q, hq, rfl, HQ, HB⟩ := hrel
    by_cases hqn : q < n
    · have hqL : q < L.length := by rw [<- Hn.out]; exact hqn
      have HV2 := HV.out.below HB.out
      rw [<- Hn.out] at HV2
      obtain ⟨b, o, hat, hcell⟩ := HV2.at2 q hqL
      obtain ⟨y, hy⟩ : ∃ y, y = L[q] := ⟨_, rfl⟩
      rw [<- hy] at hcell
      have HCy := Lib.hid (show Calls Tryd.prog 38 #[.string y, .pointer (some ⟨p, 0, none⟩)] wr (SaysIn (decide (lowS y = lo)) wr) from same1_any y lo p wr (HX.out y (by rw [hy]; exact List.getElem_mem hqL)) ((HB.out.cell Hl.out).trans HC.out))
      have HSt := Lib.hid (HS.out q hqL)
      rw [<- hy] at HSt
      have hwr : IntKind.i64.wrap ((q : Int) + 1) = (q : Int) + 1 := by rw [IntKind.wrap_i64] <;> omega
      clear HV2 hy
      cases hb : decide (lowS y = lo)
      · rw [hb] at HCy
        have HN := Lib.hid (show R = idxG (fun x => decide (lowS x = lo)) (q + 1) (L.drop (q + 1)) by rw [HQ.out, HSt.out, hb]; rfl)
        clear hb HSt HQ
        go_wp2_with fail
        refine HCy.out.mono ?_
        rintro e w2 ⟨rfl, hb2⟩
        have HB2 := Lib.hid (HB.out.trans (hb2.mono HB.out.size))
        clear hb2
        go_wp2
        go_roundw
        case rel => exact ⟨q + 1, by omega, by go_num, HN, HB2⟩
        case measure => simp [intOf]; omega
      · rw [hb] at HCy
        have HN := Lib.hid (show R = (q : Int) by rw [HQ.out, HSt.out, hb]; rfl)
        clear hb HSt HQ
        go_wp2_with fail
        refine HCy.out.mono ?_
        rintro e w2 ⟨rfl, hb2⟩
        have HB2 := Lib.hid (HB.out.trans (hb2.mono HB.out.size))
        clear hb2
        go_wp2
        go_ret
        exact ⟨by rw [HN.out]; rfl, HB2.out⟩
    · have HN := Lib.hid (show R = -1 by rw [HQ.out, HE.out q (by rw [<- Hn.out]; omega)])
      clear HQ
      go_wp2
      go_ret
      exact ⟨by rw [HN.out]; rfl, HB.out⟩
end Go.Proofs.YtadocpoejbnhpaaDoor
namespace Go.Proofs.YtadocpoejbnhpaaDoor
set_option linter.all false
open Go.RowKit
def sameV (p : Nat) : Value := .func (.func 38) #[] #[.pointer (some ⟨p, 0, none⟩)]
set_option maxRecDepth 100000 in
set_option maxHeartbeats 4000000 in
theorem find2_any (pt : Option Addr) (n c : Nat) (p1 : Option Addr) (n1 c1 : Nat) (p2 : Option Addr) (n2 c2 : Nat) (L : List ByteArray) (lo : ByteArray) (p q : Nat) (w : World) (hv : StrsIn w (.slice pt n c) L) (hx : ∀ x ∈ L, x.size <= 1000000)
    (hq : w.cell? ⟨q, 0, none⟩ = some (sameV p)) (hc : w.cell? ⟨p, 0, none⟩ = some (.string lo)) :
    Calls Tryd.prog 40 #[.agg #[.slice pt n c, .slice p1 n1 c1, .slice p2 n2 c2], .pointer (some ⟨q, 0, none⟩)] w (SaysIn (L.any fun x => decide (lowS x = lo)) w) := by
  have bA := (Below.refl w.heap.size w).alloc (Nat.le_refl _) (.cells #[.slice pt n c, .slice p1 n1 c1, .slice p2 n2 c2] 59)
  have HX := Lib.hid (Box.new w [.slice pt n c, .slice p1 n1 c1, .slice p2 n2 c2] 59)
  have HI := Lib.hid (idxStr_any (.slice pt n c) L lo p _ (hv.below bA) hx ((bA.cell (World.block_lt_of_cell? w _ hc)).trans hc))
  have HA := Lib.hid (idxG_any (fun x => decide (lowS x = lo)) L 0)
  have cq : (w.alloc (.cells #[.slice pt n c, .slice p1 n1 c1, .slice p2 n2 c2] 59)).cell? ⟨q, 0, none⟩ = some (sameV p) := (bA.cell (World.block_lt_of_cell? w _ hq)).trans hq
  unfold sameV at cq
  have B0 := Lib.hid bA
  obtain ⟨k, hk⟩ : ∃ k, k = idxG (fun x => decide (lowS x = lo)) 0 L := ⟨_, rfl⟩
  rw [<- hk] at HI HA
  clear hk bA hv hx hq hc
  go_enter Tryd.func40, Tryd.ntmps40
  go_wp2_with fail
  refine HI.out.mono ?_
  rintro e w1 ⟨rfl, hb⟩
  have B1 := Lib.hid (B0.out.trans (hb.mono B0.out.size))
  clear hb B0 HI HX
  go_wp2
  go_ret
  exact ⟨by rw [<- HA.out]; rfl, B1.out⟩
theorem Tryd.uHosts : Tryd.prog.underlying 38 = some (.slice (Tryd.prog.elem 38)) := by kernel_rfl
theorem Tryd.zHosts (w : World) : (sizeOf (Tryd.prog.elem 38)).run Tryd.prog w = .ok hostK.sz w := by kernel_rfl
def findV (q : Nat) : Value := .func (.func 40) #[] #[.pointer (some ⟨q, 0, none⟩)]
set_option maxRecDepth 100000 in
set_option maxHeartbeats 4000000 in
theorem idxHost_any (v : Value) (R : Nat -> Prop) (L : List HostVv) (lo : ByteArray) (p q : Nat) (w : World) (hv : hostK.rows R w v L) (hx : ∀ h ∈ L, ∀ x ∈ h.1, x.size <= 1000000)
    (hq : w.cell? ⟨q, 0, none⟩ = some (sameV p)) (hc : w.cell? ⟨p, 0, none⟩ = some (.string lo)) :
    Calls Tryd.prog 39 #[v, findV q] w (IdxHTo (idxG (fun h : HostVv => h.1.any fun x => decide (lowS x = lo)) 0 L) w) := by
  obtain ⟨pt, ct, rfl⟩ := Kind.rows_sliced _ hv
  have hlen := Kind.rows_len _ hv
  obtain ⟨n, hn⟩ : ∃ n, n = L.length := ⟨_, rfl⟩
  have hca := Tryd.fcall40
  have HV := Lib.hid hv
  have HC := Lib.hid hc
  have HQc := Lib.hid hq
  have Hl := Lib.hid (World.block_lt_of_cell? w _ hc)
  have Hlq := Lib.hid (World.block_lt_of_cell? w _ hq)
  obtain ⟨f, hf⟩ : ∃ f : HostVv -> Bool, f = fun h => h.1.any fun x => decide (lowS x = lo) := ⟨_, rfl⟩
  rw [<- hf]
  have HF := Lib.hid (fun h : HostVv => show (h.1.any fun x => decide (lowS x = lo)) = f h by rw [hf])
  have HS := Lib.hid (fun k (h : k < L.length) => idxG_step f L k h)
  have HE := Lib.hid (fun k (h : L.length <= k) => idxG_end f L k h)
  have HX := Lib.hid hx
  rw [<- hn] at hlen
  obtain ⟨r, hR⟩ : ∃ R, R = idxG f 0 L := ⟨_, rfl⟩
  have HR := Lib.hid hR
  rw [<- hR]
  rw [<- hn]
  have Hn := Lib.hid hn
  unfold findV
  clear hv hc hx hR hf hq hn
  go_enter Tryd.func39, Tryd.ntmps39
  go_wp2
  go_loopw [9] (fun j wi => ∃ k : Nat, k <= n /\ j = .int .i64 k /\ Hid (r = idxG f k (L.drop k)) /\ Hid (Below w.heap.size w wi)) (fun j _ => (n - intOf j).toNat)
  case atStart => exact ⟨0, Nat.zero_le _, rfl, Lib.hid (by rw [HR.out]; rfl), Lib.hid (Below.refl _ _)⟩
  case round =>
    obtain ⟨k, hk, rfl, HQ, HB⟩ := hrel
    by_cases hkn : k < n
    · have hkL : k < L.length := by rw [<- Hn.out]; exact hkn
      have HV2 := Kind.rows_below _ HV.out HB.out
      rw [<- Hn.out] at HV2
      obtain ⟨b, o, cs, hat, _, hin, hcell⟩ := Kind.rows_at _ Tryd.uHosts Tryd.zHosts HV2 k hkL
      obtain ⟨y, hy⟩ : ∃ y, y = L[k] := ⟨_, rfl⟩
      have HXy := Lib.hid (show ∀ x ∈ y.1, x.size <= 1000000 by rw [hy]; exact HX.out _ (List.getElem_mem hkL))
      rw [<- hy] at hin
      obtain ⟨p0, d0, p1, d1, p2, d2, rfl, hs⟩ := hostK_cells hin
      obtain ⟨m0, hm0⟩ : ∃ m, m = y.1.length := ⟨_, rfl⟩
      obtain ⟨m1, hm1⟩ : ∃ m, m = y.2.1.length := ⟨_, rfl⟩
      obtain ⟨m2, hm2⟩ : ∃ m, m = y.2.2.length := ⟨_, rfl⟩
      rw [<- hm0] at hs
      rw [<- hm0, <- hm1, <- hm2] at hcell
      have e0 : wr.cell? ⟨b, o, none⟩ = some (.slice p0 m0 d0) := hcell 0 _ rfl
      have e1 : wr.cell? ⟨b, o + 1, none⟩ = some (.slice p1 m1 d1) := hcell 1 _ rfl
      have e2 : wr.cell? ⟨b, o + 2, none⟩ = some (.slice p2 m2 d2) := hcell 2 _ rfl
      have HSt := Lib.hid (HS.out k hkL)
      rw [<- hy] at HSt
      have bA := (Below.refl wr.heap.size wr).alloc (Nat.le_refl _) (.cells #[.slice p0 m0 d0, .slice p1 m1 d1, .slice p2 m2 d2] 59)
      have bB := HB.out.trans (bA.mono HB.out.size)
      have HCy := Lib.hid (find2_any p0 m0 d0 p1 m1 d1 p2 m2 d2 y.1 lo p q _ (hs.below bA) HXy.out ((bB.cell Hlq.out).trans HQc.out) ((bB.cell Hl.out).trans HC.out))
      rw [HF.out y] at HCy
      have HBB := Lib.hid bB
      have hwr : IntKind.i64.wrap ((k : Int) + 1) = (k : Int) + 1 := by rw [IntKind.wrap_i64] <;> omega
      clear HV2 hy hin hcell hs hm0 hm1 hm2 bA bB HXy
      cases hb : f y
      · rw [hb] at HCy
        have HN := Lib.hid (show r = idxG f (k + 1) (L.drop (k + 1)) by rw [HQ.out, HSt.out, hb]; rfl)
        clear hb HSt HQ
        go_wp2_with fail
        refine HCy.out.mono ?_
        rintro e w2 ⟨rfl, hb2⟩
        have HB2 := Lib.hid (HBB.out.trans (hb2.mono HBB.out.size))
        clear hb2
        go_wp2
        go_roundw
        case rel => exact ⟨k + 1, by omega, by go_num, HN, HB2⟩
        case measure => simp [intOf]; omega
      · rw [hb] at HCy
        have HN := Lib.hid (show r = (k : Int) by rw [HQ.out, HSt.out, hb]; rfl)
        clear hb HSt HQ
        go_wp2_with fail
        refine HCy.out.mono ?_
        rintro e w2 ⟨rfl, hb2⟩
        have HB2 := Lib.hid (HBB.out.trans (hb2.mono HBB.out.size))
        clear hb2
        go_wp2
        go_ret
        exact ⟨by rw [HN.out]; rfl, HB2.out⟩
    · have HN := Lib.hid (show r = -1 by rw [HQ.out, HE.out k (by rw [<- Hn.out]; omega)])
      clear HQ
      go_wp2
      go_ret
      exact ⟨by rw [HN.out]; rfl, HB.out⟩
set_option maxRecDepth 100000 in
set_option maxHeartbeats 4000000 in
theorem hFind_any (v : Value) (R : Nat -> Prop) (L : List HostVv) (nm : ByteArray) (w : World) (hv : hostK.rows R w v L) (hx : ∀ h ∈ L, ∀ x ∈ h.1, x.size <= 1000000) (hn : nm.size <= 1000000) :
    Calls Tryd.prog 21 #[v, .string nm] w (IdxHTo (findH nm 0 (L.map (·.1))) w) := by
  rw [<- idxG_find]
  have HL := Lib.hid (fun w => lower_any nm w (by omega))
  have HV := Lib.hid hv
  obtain ⟨lo, hlo⟩ : ∃ lo, lo = lowS nm := ⟨_, rfl⟩
  rw [<- hlo] at HL ⊢
  have HI := Lib.hid (fun p q W (h : Below w.heap.size w W) hq hc => idxHost_any v R L lo p q W (Kind.rows_below _ hv h) hx hq hc)
  have hst : ∀ (p : Addr) (g : Go.Fn) (x y : Array Value) (W : World), (store p (.func g x y)).run Tryd.prog W = stored Tryd.prog W p (.func g x y) .plain := fun p g x y W => run_store Tryd.prog W p _ _ rfl
  clear hlo hv hx
  generalize idxG (fun h : HostVv => h.1.any fun x => decide (lowS x = lo)) 0 L = r at HI ⊢
  unfold findV sameV at HI
  go_enter Tryd.func21, Tryd.ntmps21
  go_wp2_with fail
  refine (HL.out _).mono ?_
  rintro e w1 ⟨rfl, hb⟩
  have b1 := hb.alloc hb.size (.cells #[.string lo] 9)
  have b2 := b1.alloc b1.size (.cells #[.func (.func 38) #[] #[.pointer (some ⟨w1.heap.size, 0, none⟩)]] 33)
  have HC := Lib.hid (HI.out w1.heap.size (w1.heap.size + 1) _ b2 (by simp [World.cell?_alloc_mark]) (by simp [World.cell?_alloc_mark]))
  have B2 := Lib.hid b2
  clear hb b1 b2
  go_wp2_with fail
  refine HC.out.mono ?_
  rintro e w3 ⟨rfl, hb⟩
  have B3 := Lib.hid (B2.out.trans (hb.mono B2.out.size))
  clear hb
  go_wp2
  go_ret
  exact ⟨rfl, B3.out⟩
end Go.Proofs.YtadocpoejbnhpaaDoor
namespace Go.Proofs.YtadocpoejbnhpaaDoor
set_option linter.all false
open Go.RowKit
theorem findH_step (n : ByteArray) (L : List HostVv) (q : Nat) (h : q < L.length) : findH n q ((L.map (·.1)).drop q) = if L[q].1.any (fun x => decide (lowS x = lowS n)) = true then (q : Int) else findH n (q + 1) ((L.map (·.1)).drop (q + 1)) := by
  rw [List.drop_eq_getElem_cons (by rw [List.length_map]; exact h), findH, List.getElem_map]
theorem findH_end (n : ByteArray) (L : List HostVv) (q : Nat) (h : L.length <= q) : findH n q ((L.map (·.1)).drop q) = -1 := by
  rw [List.drop_eq_nil_iff.2 (by rw [List.length_map]; exact h)]; rfl
theorem any_step {α : Type} (f : α -> Bool) (l : List α) (k : Nat) (h : k < l.length) : (l.drop k).any f = (f l[k] || (l.drop (k + 1)).any f) := by
  rw [List.drop_eq_getElem_cons h, List.any_cons]
set_option maxRecDepth 100000 in
set_option maxHeartbeats 8000000 in
theorem refFind18_any (v : Value) (R : Nat -> Prop) (L : List HostVv) (nm : ByteArray) (w : World) (hv : hostK.rows R w v L) (hx : ∀ h ∈ L, ∀ x ∈ h.1, x.size <= 1000000) (hn : nm.size <= 1000000) :
    Calls Tryd.prog 22 #[v, .string nm] w (IdxHTo (findH nm 0 (L.map (·.1))) w) := by
  obtain ⟨pt, ct, rfl⟩ := Kind.rows_sliced _ hv
  have hlen := Kind.rows_len _ hv
  obtain ⟨n, hnn⟩ : ∃ n, n = L.length := ⟨_, rfl⟩
  have HV := Lib.hid hv
  have HX := Lib.hid hx
  have HS := Lib.hid (fun q h => findH_step nm L q h)
  have HE := Lib.hid (fun q h => findH_end nm L q h)
  have HLn := Lib.hid (fun w => refLower_any nm w hn)
  obtain ⟨z, hz⟩ : ∃ z, z = lowS nm := ⟨_, rfl⟩
  rw [<- hz] at HS HLn
  obtain ⟨r, hR⟩ : ∃ r, r = findH nm 0 (L.map (·.1)) := ⟨_, rfl⟩
  have HR0 := Lib.hid (show r = findH nm 0 ((L.map (·.1)).drop 0) by rw [hR, List.drop_zero])
  rw [<- hR, <- hnn]
  rw [<- hnn] at hlen
  have Hn := Lib.hid hnn
  clear hv hx hR hnn hz
  go_enter Tryd.func22, Tryd.ntmps22
  go_wp2
  go_loopw [5] (fun j wi => ∃ q : Nat, q <= n /\ j = .int .i64 q /\ Hid (r = findH nm q ((L.map (·.1)).drop q)) /\ Hid (Below w.heap.size w wi)) (fun j _ => (n - intOf j).toNat)
  case atStart => exact ⟨0, Nat.zero_le _, rfl, HR0, Lib.hid (Below.refl _ _)⟩
  case round =>
    obtain ⟨q, hq, rfl, HR, HB⟩ := hrel
    obtain ⟨wq, hwq⟩ : ∃ wq, wq = wr := ⟨_, rfl⟩
    subst hwq
    by_cases hqn : q < n
    · have hqL : q < L.length := by rw [<- Hn.out]; exact hqn
      obtain ⟨y, hy⟩ : ∃ y, y = L[q] := ⟨_, rfl⟩
      have HXy := Lib.hid (show ∀ x ∈ y.1, x.size <= 1000000 by rw [hy]; exact HX.out _ (List.getElem_mem hqL))
      have HSt := Lib.hid (HS.out q hqL)
      rw [<- hy] at HSt
      obtain ⟨m, hm⟩ : ∃ m, m = y.1.length := ⟨_, rfl⟩
      obtain ⟨p0, d0, hh⟩ : ∃ p0 d0 b o, (∀ W, (Instr.indexAt 38 (.slice pt n ct) (.int .i64 (q : Int))).run Tryd.prog W = .ok (.pointer (some ⟨b, o, none⟩)) W) /\ w.cell? ⟨b, o, none⟩ = some (.slice p0 m d0) /\ StrsIn w (.slice p0 m d0) y.1 := by
        have HV2 := HV.out
        rw [<- Hn.out] at HV2
        obtain ⟨b, o, cs, hat, _, hin, hcell⟩ := Kind.rows_at _ Tryd.uHosts Tryd.zHosts HV2 q hqL
        rw [<- hy] at hin
        obtain ⟨p0, d0, p1, d1, p2, d2, rfl, hs⟩ := hostK_cells hin
        rw [<- hm] at hs hcell
        exact ⟨p0, d0, b, o, hat, hcell 0 _ rfl, hs⟩
      obtain ⟨b, o, hat, hcell, hs⟩ := hh
      have Hcell := Lib.hid hcell
      have Hlt := Lib.hid (World.block_lt_of_cell? w _ hcell)
      have HSs := Lib.hid hs
      have hmlen : m <= 9223372036854775807 := by rw [hm]; exact strs_len hs
      have Hm := Lib.hid hm
      have hwr : IntKind.i64.wrap ((q : Int) + 1) = (q : Int) + 1 := by rw [IntKind.wrap_i64] <;> omega
      have HQ0 := Lib.hid (show r = if (y.1.drop 0).any (fun x => decide (lowS x = z)) = true then (q : Int) else findH nm (q + 1) ((L.map (·.1)).drop (q + 1)) by rw [HR.out, HSt.out, List.drop_zero])
      clear hy hcell hs hm HSt HR
      go_wp2
      go_loopw [6] (fun j wi => ∃ k : Nat, k <= m /\ j = .int .i64 k /\ Hid (r = if (y.1.drop k).any (fun x => decide (lowS x = z)) = true then (q : Int) else findH nm (q + 1) ((L.map (·.1)).drop (q + 1))) /\ Hid (Below w.heap.size w wi)) (fun j _ => (m - intOf j).toNat)
      case atStart => exact ⟨0, Nat.zero_le _, rfl, HQ0, HB⟩
      case round =>
        obtain ⟨k, hk, rfl, HQ, HB1⟩ := hrel
        have c1 : wr.cell? ⟨b, o, none⟩ = some (.slice p0 m d0) := (HB1.out.cell Hlt.out).trans Hcell.out
        by_cases hkm : k < m
        · have hkL : k < y.1.length := by rw [<- Hm.out]; exact hkm
          obtain ⟨b2, o2, hat2, hcell2⟩ := (HSs.out.below HB1.out).at2 k hkL
          obtain ⟨x, hx⟩ : ∃ x, x = y.1[k] := ⟨_, rfl⟩
          rw [<- hx] at hcell2
          have HAny := Lib.hid (any_step (fun x => decide (lowS x = z)) y.1 k hkL)
          rw [<- hx] at HAny
          have HLx := Lib.hid (fun w => refLower_any x w (by rw [hx]; exact HXy.out _ (List.getElem_mem hkL)))
          have hE : (decide (lowS x = z)) = ((lowS x).toList == z.toList) := by
            rw [ByteArray.toList_eq, ByteArray.toList_eq]
            rw [Bool.eq_iff_iff, decide_eq_true_iff, beq_iff_eq]
            exact ⟨fun h => by rw [h], fun h => ByteArray.ext (Array.ext' h)⟩
          have hwk : IntKind.i64.wrap ((k : Int) + 1) = (k : Int) + 1 := by rw [IntKind.wrap_i64] <;> omega
          obtain ⟨t, ht⟩ : ∃ t, t = lowS x := ⟨_, rfl⟩
          rw [<- ht] at HLx hE
          cases hb : decide (t = z)
          · rw [hb] at hE
            have e1 : (t.toList == z.toList) = false := hE.symm
            have HN := Lib.hid (show r = if (y.1.drop (k + 1)).any (fun x => decide (lowS x = z)) = true then (q : Int) else findH nm (q + 1) ((L.map (·.1)).drop (q + 1)) by
              rw [HQ.out, HAny.out, <- ht, hb, Bool.false_or])
            clear hE hb ht hx HAny HQ
            go_wp2_with fail
            refine (HLx.out _).mono ?_
            rintro e w2 ⟨rfl, hb2⟩
            have HB2 := Lib.hid (HB1.out.trans (hb2.mono HB1.out.size))
            clear hb2
            go_wp2_with fail
            refine (HLn.out _).mono ?_
            rintro e w3 ⟨rfl, hb3⟩
            have HB3 := Lib.hid (HB2.out.trans (hb3.mono HB2.out.size))
            clear hb3
            go_wp2
            go_roundw
            case rel => exact ⟨k + 1, by omega, by go_num, HN, HB3⟩
            case measure => simp [intOf]; omega
          · rw [hb] at hE
            have e1 : (t.toList == z.toList) = true := hE.symm
            have HN := Lib.hid (show r = (q : Int) by
              rw [HQ.out, HAny.out, <- ht, hb, Bool.true_or, if_pos rfl])
            clear hE hb ht hx HAny HQ
            go_wp2_with fail
            refine (HLx.out _).mono ?_
            rintro e w2 ⟨rfl, hb2⟩
            have HB2 := Lib.hid (HB1.out.trans (hb2.mono HB1.out.size))
            clear hb2
            go_wp2_with fail
            refine (HLn.out _).mono ?_
            rintro e w3 ⟨rfl, hb3⟩
            have HB3 := Lib.hid (HB2.out.trans (hb3.mono HB2.out.size))
            clear hb3
            go_wp2
            go_ret
            exact ⟨by rw [HN.out]; rfl, HB3.out⟩
        · have HN := Lib.hid (show r = findH nm (q + 1) ((L.map (·.1)).drop (q + 1)) by
            rw [HQ.out, List.drop_eq_nil_iff.2 (show y.1.length <= k by rw [<- Hm.out]; omega)]
            rfl)
          clear HQ
          go_wp2
          go_roundw
          case rel => exact ⟨q + 1, by omega, by go_num, HN, HB1⟩
          case measure => simp [intOf]; omega
    · have HF := Lib.hid (show r = -1 by rw [HR.out, HE.out q (by rw [<- Hn.out]; omega)])
      clear HR
      go_wp2
      go_ret
      exact ⟨by rw [HF.out]; rfl, HB.out⟩
end Go.Proofs.YtadocpoejbnhpaaDoor
