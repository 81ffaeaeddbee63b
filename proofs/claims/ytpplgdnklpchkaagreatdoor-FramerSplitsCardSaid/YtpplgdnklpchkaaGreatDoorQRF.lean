/- Texts of one seat, merged: ReqB, ReqE, ReqF. -/
import Derived.Lib.SmallJoins
import Derived.Deep.RegionHeld3
import Derived.StillTailTactics
import Derived.Laws.EntriesVeiled
import Derived.Test.YtpplgdnklpchkaaGreatDoorQB
import Derived.Test.YtpplgdnklpchkaaGreatDoorQB2
import Derived.Test.YtpplgdnklpchkaaGreatDoorQC4
import Derived.Test.YtpplgdnklpchkaaGreatDoorQShelf
namespace Go.Proofs.YtpplgdnklpchkaaGreatDoor
set_option linter.all false
open Go.RowKit
theorem genSplit_sp (s : ByteArray) (w : World) (hs : s.size <= 1000000) :
  Calls Tryz.prog 103 #[.string s, .string ⟨#[32]⟩, .int .i64 0, .int .i64 4] w fun e w' =>
   e = .returned (.slice (some ⟨w.heap.size, 0, none⟩) (Lib.splitB spc 0 (min 4 (s.size + 1) - 1) s).length (min 4 (s.size + 1))) /\ w' = w.alloc (.cells (Lib.cellsOf (Lib.splitB spc 0 (min 4 (s.size + 1) - 1) s) (min 4 (s.size + 1))) 9) :=
 Any.strings_genSplit_core Tryz.lays221 (by kernel_rfl) s spc 0 4 (min 4 (s.size + 1)) w (by omega) (by decide) (by decide)
  (fun x c hx => by
   have h := Tryz.strings_Index_one x 32 (w.alloc (.cells c 9))
   rw [<- Lib.index_one] at h
   exact h)
  (by
   have h := Tryz.strings_Count_one s 32 w
   unfold Lib.countByte at h
   rw [<- Lib.count_one] at h
   exact h)
  (by decide) (by decide) (by rw [if_neg (by decide)]; omega)
theorem splitN_sp (s : ByteArray) (w : World) (hs : s.size <= 1000000) :
  Calls Tryz.prog 91 #[.string s, .string ⟨#[32]⟩, .int .i64 4] w fun e w' =>
   e = .returned (.slice (some ⟨w.heap.size, 0, none⟩) (Lib.splitB spc 0 (min 4 (s.size + 1) - 1) s).length (min 4 (s.size + 1))) /\ w' = w.alloc (.cells (Lib.cellsOf (Lib.splitB spc 0 (min 4 (s.size + 1) - 1) s) (min 4 (s.size + 1))) 9) := by
 go_enter Tryz.func91, Tryz.ntmps91
 go_wp2_with (go_at_call 103; refine (genSplit_sp s w hs).mono ?_; rintro e w' ⟨rfl, hw⟩; rw [hw])
 go_ret
 exact ⟨rfl, rfl⟩
theorem splitN_yes {s A B C : ByteArray} (h : Three s A B C) (w : World) (hs : s.size <= 1000000) :
  Calls Tryz.prog 91 #[.string s, .string ⟨#[32]⟩, .int .i64 4] w fun e w' =>
   ∃ (g cap : Nat), e = .returned (.slice (some ⟨g, 0, none⟩) 3 cap) /\ 3 <= cap /\ cap <= 4 /\ w.heap.size <= g /\ ValsAt w' g [.string A, .string B, .string C] /\ Below w.heap.size w w' := by
 refine (splitN_sp s w hs).mono ?_
 rintro e w' ⟨rfl, rfl⟩
 have h3 : 3 <= s.size + 1 := by have := h.size; omega
 rw [h.split _ (by omega)]
 obtain ⟨cap, hc⟩ : ∃ cap, min 4 (s.size + 1) = cap := ⟨_, rfl⟩
 rw [hc]
 have hc3 : 3 <= cap := by omega
 refine ⟨w.heap.size, cap, rfl, hc3, by omega, Nat.le_refl _, fun i v hv => ?_, (Below.refl _ _).alloc (Nat.le_refl _) _⟩
 rw [World.cell?_alloc_mark]
 have hi : i < 3 := (List.getElem?_eq_some_iff.1 hv).1
 have : (Lib.cellsOf [A, B, C] cap)[i]? = [Value.string A, Value.string B, Value.string C][i]? := by
  unfold Lib.cellsOf
  rw [List.getElem?_toArray, List.getElem?_append_left (by simpa using hi)]
  rfl
 simpa [this] using hv
theorem splitN_no {s : ByteArray} (h : spn s ≠ 2) (w : World) (hs : s.size <= 1000000) :
  Calls Tryz.prog 91 #[.string s, .string ⟨#[32]⟩, .int .i64 4] w fun e w' =>
   ∃ (p : Option Addr) (n cap : Nat), e = .returned (.slice p n cap) /\ n ≠ 3 /\ Below w.heap.size w w' := by
 refine (splitN_sp s w hs).mono ?_
 rintro e w' ⟨rfl, rfl⟩
 exact ⟨_, _, _, rfl, split_not h, (Below.refl _ _).alloc (Nat.le_refl _) _⟩
theorem pre_yes (a d b : UInt8) : (Lib.trimPrefix [72, 84, 84, 80, 47, a, d, b] [72, 84, 84, 80, 47] = [a, d, b]) /\ Lib.hasPrefix [72, 84, 84, 80, 47, a, d, b] [72, 84, 84, 80, 47] = true := ⟨rfl, rfl⟩
set_option maxRecDepth 100000 in
set_option maxHeartbeats 1000000 in
theorem isVersion_any (s : ByteArray) (w : World) (hs : s.size <= 9223372036854775807) : Calls Tryz.prog 106 #[.string s] w (Says (verS s) w) := by
  rcases pre_cases s with ⟨a, d, b, rfl⟩ | ⟨hv, h⟩
  · have ha := byte_le a
    have hb := byte_le b
    rw [verS_at]
    have hd : ((((⟨#[a, d, b]⟩ : ByteArray)[1]'(show 1 < 3 by decide)).toNat : Int) == 46) = (d == 46) := by
      show ((d.toNat : Int) == 46) = (d == 46)
      rw [Bool.eq_iff_iff]; simp only [beq_iff_eq]
      constructor
      · intro h; exact UInt8.toNat_inj.1 (by show d.toNat = 46; omega)
      · rintro rfl; rfl
    obtain ⟨bd, Hd⟩ : ∃ bd, bd = (d == 46) := ⟨_, rfl⟩
    rw [<- Hd] at hd ⊢
    clear Hd
    obtain ⟨x, hx⟩ : ∃ x, x = digitB (a.toNat : Int) := ⟨_, rfl⟩
    obtain ⟨y, hy⟩ : ∃ y, y = digitB (b.toNat : Int) := ⟨_, rfl⟩
    have HX := fun w => hx ▸ digit_any (a.toNat : Int) w
    have HY := fun w => hy ▸ digit_any (b.toNat : Int) w
    rw [<- hx, <- hy]
    clear hx hy
    have HX := Lib.hid HX
    have HY := Lib.hid HY
    cases x <;> cases bd <;> cases y
    all_goals
      go_enter Tryz.func106, Tryz.ntmps106
      go_wp2_with fail
      refine (Tryz.strings_CutPrefix _ _ _).mono ?_
      rintro e w' ⟨rfl, rfl⟩
      rw [(pre_yes a d b).1, (pre_yes a d b).2]
      go_wp2_with fail
      refine (HX.out _).mono ?_
      rintro e w' ⟨rfl, rfl⟩
      go_wp2_with fail
      first
        | (go_ret; exact says_of w' rfl)
        | (refine (HY.out _).mono ?_; rintro e w'' ⟨rfl, rfl⟩; go_wp2_with fail; go_ret; exact says_of _ rfl)
  · rw [hv]
    by_cases hp : Lib.hasPrefix s.data.toList [72, 84, 84, 80, 47] = true
    · have h8 : s.size ≠ 8 := by rcases h with h | h; · rw [hp] at h; cases h
                                 · exact h
      have hl : (⟨(Lib.trimPrefix s.data.toList [72, 84, 84, 80, 47]).toArray⟩ : ByteArray).size = s.size - 5 := by
        show (Lib.trimPrefix _ _).toArray.size = _
        unfold Lib.trimPrefix
        rw [if_pos hp]
        simp
      have h5 : 5 <= s.size := by
        have : ([72, 84, 84, 80, 47] : List UInt8) <+: s.data.toList := by simpa [Lib.hasPrefix] using hp
        have := this.length_le
        rw [<- Lib.size_eq] at this
        simpa using this
      obtain ⟨t, ht⟩ : ∃ t : ByteArray, t = ⟨(Lib.trimPrefix s.data.toList [72, 84, 84, 80, 47]).toArray⟩ := ⟨_, rfl⟩
      have Hc := fun w => Tryz.strings_CutPrefix s ⟨#[72, 84, 84, 80, 47]⟩ w
      rw [hp] at Hc
      rw [<- ht] at hl Hc
      clear ht
      have h3 : ((t.size : Int) == 3) = false := by rw [beq_eq_false_iff_ne]; omega
      have Hc := Lib.hid Hc
      clear h hv hl h8 hp
      go_enter Tryz.func106, Tryz.ntmps106
      go_wp2_with fail
      refine (Hc.out _).mono ?_
      rintro e w' ⟨rfl, rfl⟩
      go_wp2_with fail
      go_ret
      exact says_of _ rfl
    · have hp : Lib.hasPrefix s.data.toList [72, 84, 84, 80, 47] = false := by simpa using hp
      have Hc := fun w => Tryz.strings_CutPrefix s ⟨#[72, 84, 84, 80, 47]⟩ w
      rw [hp] at Hc
      have Hc := Lib.hid Hc
      clear h hv hp
      go_enter Tryz.func106, Tryz.ntmps106
      go_wp2_with fail
      refine (Hc.out _).mono ?_
      rintro e w' ⟨rfl, rfl⟩
      go_wp2_with fail
      go_ret
      exact says_of _ rfl
end Go.Proofs.YtpplgdnklpchkaaGreatDoor
namespace Go.Proofs.YtpplgdnklpchkaaGreatDoor
set_option linter.all false
open Go.RowKit
def fnv (n : Nat) : Value := .func (.func n) #[] #[]
def rulesL : List Value := [.int .i64 0, fnv 104, .int .i64 400, .int .i64 1, fnv 105, .int .i64 400, .int .i64 2, fnv 106, .int .i64 400, .int .i64 2, fnv 107, .int .i64 505]
theorem rules_any (w : World) : Calls Tryz.prog 92 #[] w (fun e w' => e = .returned (.agg rulesL.toArray) /\ Below w.heap.size w w') := by
 have hb : Below w.heap.size w (w.alloc (.cells rulesL.toArray 165)) := (Below.refl _ _).alloc (Nat.le_refl _) _
 go_enter Tryz.func92, Tryz.ntmps92
 go_wp2
 exact bodyPost_ret (v := .agg rulesL.toArray) (by simp [results, Tryz.results92, go_sem]; rfl) rfl ⟨rfl, hb⟩
def rPart : Nat -> Nat
 | 0 => 0
 | 1 => 1
 | _ => 2
def rFn : Nat -> Nat
 | 0 => 104
 | 1 => 105
 | 2 => 106
 | _ => 107
def rSt : Nat -> Int
 | 3 => 505
 | _ => 400
def pText (A B C : ByteArray) : Nat -> ByteArray
 | 0 => A
 | 1 => B
 | _ => C
def pAt (A B : ByteArray) : Nat -> Int
 | 0 => 0
 | 1 => (A.size : Int) + 1
 | _ => (A.size : Int) + (B.size : Int) + 2
def rHolds (A B C : ByteArray) : Nat -> Bool
 | 0 => tokS A
 | 1 => tgtS B
 | 2 => verS C
 | _ => supS C
def rVal (k : Nat) : Value := .agg #[.int .i64 (rPart k : Int), fnv (rFn k), .int .i64 (rSt k)]
theorem rPart_lt (k : Nat) : rPart k < 3 := by unfold rPart; split <;> decide
theorem Tryz.ixRule0 (w : World) : (Instr.index 165 (.agg rulesL.toArray) (.int .i64 0)).run Tryz.prog w = .ok (rVal 0) w := by kernel_rfl
theorem Tryz.ixRule1 (w : World) : (Instr.index 165 (.agg rulesL.toArray) (.int .i64 1)).run Tryz.prog w = .ok (rVal 1) w := by kernel_rfl
theorem Tryz.ixRule2 (w : World) : (Instr.index 165 (.agg rulesL.toArray) (.int .i64 2)).run Tryz.prog w = .ok (rVal 2) w := by kernel_rfl
theorem Tryz.ixRule3 (w : World) : (Instr.index 165 (.agg rulesL.toArray) (.int .i64 3)).run Tryz.prog w = .ok (rVal 3) w := by kernel_rfl
theorem index_rule (k : Nat) (hk : k < 4) (w : World) : (Instr.index 165 (.agg rulesL.toArray) (.int .i64 (k : Int))).run Tryz.prog w = .ok (rVal k) w := by
 match k, hk with
 | 0, _ => exact Tryz.ixRule0 w
 | 1, _ => exact Tryz.ixRule1 w
 | 2, _ => exact Tryz.ixRule2 w
 | 3, _ => exact Tryz.ixRule3 w
theorem Tryz.enters0 (x : Value) (w : World) : (callFunc 104 #[x]).run Tryz.prog w = .ok (.enter 104 #[x]) w := by kernel_rfl
theorem Tryz.enters1 (x : Value) (w : World) : (callFunc 105 #[x]).run Tryz.prog w = .ok (.enter 105 #[x]) w := by kernel_rfl
theorem Tryz.enters2 (x : Value) (w : World) : (callFunc 106 #[x]).run Tryz.prog w = .ok (.enter 106 #[x]) w := by kernel_rfl
theorem Tryz.enters3 (x : Value) (w : World) : (callFunc 107 #[x]).run Tryz.prog w = .ok (.enter 107 #[x]) w := by kernel_rfl
theorem rule_enters (k : Nat) (x : Value) (w : World) : (callFunc (rFn k) #[x]).run Tryz.prog w = .ok (.enter (rFn k) #[x]) w := by
 match k with
 | 0 => exact Tryz.enters0 x w
 | 1 => exact Tryz.enters1 x w
 | 2 => exact Tryz.enters2 x w
 | _ + 3 => exact Tryz.enters3 x w
theorem saysIn_says {f : Nat} {args : Array Value} {b : Bool} {w : World} (h : Calls Tryz.prog f args w (Says b w)) : Calls Tryz.prog f args w (SaysIn b w) :=
 h.mono fun e w' ⟨h1, h2⟩ => ⟨h1, h2 ▸ Below.refl _ _⟩
theorem rule_any (A B C : ByteArray) (k : Nat) (w : World) (hA : A.size <= 1000000) (hB : B.size <= 1000000) (hC : C.size <= 1000000) :
  Calls Tryz.prog (rFn k) #[.string (pText A B C (rPart k))] w (SaysIn (rHolds A B C k) w) := by
 match k with
 | 0 => exact isToken_any A w (by omega)
 | 1 => exact isTarget_any B w (by omega)
 | 2 => exact saysIn_says (isVersion_any C w (by omega))
 | _ + 3 => exact saysIn_says (isSupported_any C w)
theorem outP_bad {A B C : ByteArray} {k : Nat} (h : ∀ j, j < k -> rHolds A B C j = true) (hk : rHolds A B C k = false) (h4 : k < 4) : outP A B C = .bad (rSt k) (pAt A B (rPart k)) := by
 match k, h4 with
 | 0, _ => have h0 : tokS A = false := hk; simp [outP, h0, rSt, pAt, rPart]
 | 1, _ => have h0 : tokS A = true := h 0 (by decide); have h1 : tgtS B = false := hk; simp [outP, h0, h1, rSt, pAt, rPart]
 | 2, _ => have h0 : tokS A = true := h 0 (by decide); have h1 : tgtS B = true := h 1 (by decide); have h2 : verS C = false := hk; simp [outP, h0, h1, h2, rSt, pAt, rPart]
 | 3, _ => have h0 : tokS A = true := h 0 (by decide); have h1 : tgtS B = true := h 1 (by decide); have h2 : verS C = true := h 2 (by decide); have h3 : supS C = false := hk; simp [outP, h0, h1, h2, h3, rSt, pAt, rPart]
theorem outP_line {A B C : ByteArray} (h : ∀ j, j < 4 -> rHolds A B C j = true) : outP A B C = .line A B (minS C) /\ supS C = true := by
 have h0 : tokS A = true := h 0 (by decide)
 have h1 : tgtS B = true := h 1 (by decide)
 have h2 : verS C = true := h 2 (by decide)
 have h3 : supS C = true := h 3 (by decide)
 exact ⟨by simp [outP, h0, h1, h2, h3], h3⟩
def lineV (A B : ByteArray) (m : Int) : Value := .agg #[.string A, .string B, .int .i64 m]
def outVR : OutR -> Value
 | .bad st at_ => .tuple #[lineV ⟨#[]⟩ ⟨#[]⟩ 0, baseF st at_]
 | .line A B m => .tuple #[lineV A B m, .nilIface]
def ParsesToR (o : OutR) (w : World) (e : Ending) (w' : World) : Prop := e = .returned (outVR o) /\ Below w.heap.size w w'
end Go.Proofs.YtpplgdnklpchkaaGreatDoor
namespace Go.Proofs.YtpplgdnklpchkaaGreatDoor
set_option linter.all false
open Go.RowKit
theorem Tryz.lineSize : (Tryz.prog.info? 62).map (·.size) = some 3 := by kernel_rfl
theorem Tryz.lineAgg (w : World) : (isAgg 62).run Tryz.prog w = .ok true w := by kernel_rfl
def lineL (A B : ByteArray) (m : Int) : List Value := [.string A, .string B, .int .i64 m]
theorem line_one (A B : ByteArray) (m : Int) : ∀ v ∈ lineL A B m, v.oneCell' = true := by
 intro v hv
 simp only [lineL, List.mem_cons, List.not_mem_nil, or_false] at hv
 rcases hv with rfl | rfl | rfl <;> rfl
theorem only_eq_belowR {w w1 : World} {g B : Nat} (h : Only (fun k => k = g) w w1) (hg : B <= g) (hB : B <= w.heap.size) : Below B w w1 :=
 h.below B hB fun k hk => by subst hk; exact hg
set_option maxRecDepth 100000 in
set_option maxHeartbeats 1000000 in
theorem parse_no {s : ByteArray} (h : spn s ≠ 2) (w : World) (hs : s.size <= 1000000) : Calls Tryz.prog 76 #[.string s] w (ParsesToR (.bad 400 0) w) := by
 have HS := Lib.hid (fun w => splitN_no h w hs)
 have H0 := Lib.hid (Box.new w (lineL ⟨#[]⟩ ⟨#[]⟩ 0) 62)
 have B0 := (Below.refl w.heap.size w).alloc (Nat.le_refl _) (.cells #[.string ⟨#[]⟩, .string ⟨#[]⟩, .int .i64 0] 62)
 clear h
 go_enter Tryz.func76, Tryz.ntmps76
 go_wp2_with fail
 refine (HS.out _).mono ?_
 rintro e w' ⟨p, n, cap, rfl, hn, hb⟩
 have hn3 : ((n : Int) != 3) = true := by rw [bne_iff_ne]; omega
 have H1 := Lib.hid (H0.out.below hb)
 have B1 := Lib.hid (B0.trans (hb.mono B0.size))
 clear hb H0 B0
 go_wp2_with fail
 refine (new_any _ _ _).mono ?_
 rintro e w'' ⟨rfl, rfl⟩
 go_wp2_with (refine wpList_store_box (n := 3) Tryz.lineSize rfl _ _ rfl (g := w.heap.size) (vs := lineL ⟨#[]⟩ ⟨#[]⟩ 0) rfl rfl H1.out rfl rfl (line_one _ _ _) ?_)
 intro w2 b2 o2
 go_wp2
 refine bodyPost_ret (v := outVR (.bad 400 0)) ?_ rfl ⟨rfl, B1.out.trans (only_eq_belowR o2 (Nat.le_refl _) B1.out.size)⟩
 exact results_cell1 Tryz.lineSize Tryz.lineAgg Tryz.results76 _ _ rfl rfl b2.vals rfl
set_option maxRecDepth 100000 in
set_option maxHeartbeats 1000000 in
theorem parse_yes {s A B C : ByteArray} (h : Three s A B C) (w : World) (hs : s.size <= 1000000) : Calls Tryz.prog 76 #[.string s] w (ParsesToR (outP A B C) w) := by
 have HS := Lib.hid (fun w => splitN_yes h w hs)
 have H0 := Lib.hid (Box.new w (lineL ⟨#[]⟩ ⟨#[]⟩ 0) 62)
 have B0 := (Below.refl w.heap.size w).alloc (Nat.le_refl _) (.cells #[.string ⟨#[]⟩, .string ⟨#[]⟩, .int .i64 0] 62)
 have hz := h.size
 have hsz : (s.size : Int) - (C.size : Int) = (A.size : Int) + (B.size : Int) + 2 := by omega
 have hA : A.size <= 1000000 := by omega
 have hC : C.size <= 1000000 := by omega
 have HR := Lib.hid (fun k w => rule_any A B C k w (by omega) (by omega) (by omega))
 have Hsz := Lib.hid hsz
 clear hz h hsz
 go_enter Tryz.func76, Tryz.ntmps76
 go_wp2_with fail
 refine (HS.out _).mono ?_
 rintro e w' ⟨g, cap, rfl, hc3, hc4, hg, hv, hb⟩
 have hgl : w.heap.size + 1 <= g := by simpa using hg
 have H1 := Lib.hid (H0.out.below hb)
 have B1 := Lib.hid (B0.trans (hb.mono B0.size))
 have V1 := Lib.hid hv
 have l0 : w'.cell? ⟨g, 0, none⟩ = some (.string A) := hv 0 _ rfl
 have l2 : w'.cell? ⟨g, 2, none⟩ = some (.string C) := hv 2 _ rfl
 have L := Lib.hid (fun (W : World) (hW : Below w'.heap.size w' W) => (⟨(hv.below hW) 0 _ rfl, (hv.below hW) 2 _ rfl⟩ : W.cell? ⟨g, 0, none⟩ = some (.string A) /\ W.cell? ⟨g, 2, none⟩ = some (.string C)))
 clear hb H0 B0 hv hg
 have hw1 : IntKind.i64.wrap ((A.size : Int) + 1) = pAt A B 1 := IntWalk.i64_in ((A.size : Int) + 1) (by omega)
 have hw2 : IntKind.i64.wrap ((s.size : Int) - (C.size : Int)) = pAt A B 2 := (IntWalk.i64_in ((s.size : Int) - (C.size : Int)) (by omega)).trans Hsz.out
 obtain ⟨d1, hd1⟩ : ∃ d1, d1 = pAt A B 1 := ⟨_, rfl⟩
 obtain ⟨d2, hd2⟩ : ∃ d2, d2 = pAt A B 2 := ⟨_, rfl⟩
 have HD := Lib.hid (show ∀ p, p < 3 -> ([.int .i64 0, .int .i64 d1, .int .i64 d2] : List Value)[p]? = some (.int .i64 (pAt A B p)) by
  intro p hp
  rw [hd1, hd2]
  match p, hp with
  | 0, _ => rfl
  | 1, _ => rfl
  | 2, _ => rfl)
 rw [<- hd1] at hw1
 rw [<- hd2] at hw2
 clear hd1 hd2
 go_wp2_with fail
 go_region_held3 (fun W => W.cell? ⟨g, 0, none⟩ = some (.string A) /\ W.cell? ⟨g, 2, none⟩ = some (.string C)) (first | exact ⟨l0, l2⟩ | exact L.out _ (((Below.refl _ w').alloc (Nat.le_refl _) _).drew) | exact L.out _ ((Below.refl _ w').alloc (Nat.le_refl _) _)) (first | fail)
 clear L l0 l2 hw1 hw2
 have HX := Lib.hid ((Box.new w' [.int .i64 0, .int .i64 d1, .int .i64 d2] 162).drew)
 have bX := ((Below.refl w'.heap.size w').alloc (Nat.le_refl _) (.cells #[.int .i64 0, .int .i64 d1, .int .i64 d2] 162)).drew
 obtain ⟨W2, hW2⟩ : ∃ W2, W2 = (w'.alloc (.cells #[.int .i64 0, .int .i64 d1, .int .i64 d2] 162)).drew := ⟨_, rfl⟩
 obtain ⟨gs, hgs⟩ : ∃ gs, gs = w'.heap.size := ⟨_, rfl⟩
 rw [<- hW2] at HX bX ⊢
 have H2 := Lib.hid (H1.out.below bX)
 have V2 := Lib.hid (V1.out.below bX)
 have B2 := Lib.hid (B1.out.trans (bX.mono B1.out.size))
 rw [<- hgs] at HX ⊢
 have S2 := Lib.hid HX.out.vals
 clear HX bX hW2 hgs H1 V1 B1
 go_wp2_with fail
 refine (rules_any _).mono ?_
 rintro e W3 ⟨rfl, b3⟩
 have H3 := Lib.hid (H2.out.below b3)
 have V3 := Lib.hid (V2.out.below b3)
 have S3 := Lib.hid (S2.out.below b3)
 have B3 := Lib.hid (B2.out.trans (b3.mono B2.out.size))
 clear b3 H2 V2 S2 B2
 obtain ⟨RV, hRV⟩ : ∃ RV, RV = Value.agg rulesL.toArray := ⟨_, rfl⟩
 rw [<- hRV]
 have Hix := Lib.hid (fun (k : Nat) (hk : k < 4) (w : World) => show (Instr.index 165 RV (.int .i64 (k : Int))).run Tryz.prog w = .ok (rVal k) w by rw [hRV]; exact index_rule k hk w)
 clear hRV
 go_wp2_with fail
 go_loopw [29] (fun i wr => ∃ k : Nat, k <= 4 /\ i = .int .i64 k /\ Hid (∀ j, j < k -> rHolds A B C j = true) /\ Hid (Box wr w.heap.size (lineL ⟨#[]⟩ ⟨#[]⟩ 0)) /\ Hid (ValsAt wr g [.string A, .string B, .string C]) /\ Hid (ValsAt wr gs [.int .i64 0, .int .i64 d1, .int .i64 d2]) /\ Hid (Below w.heap.size w wr)) (fun i _ => (4 - intOf i).toNat)
 case atStart => exact ⟨0, by omega, rfl, Lib.hid (fun j hj => absurd hj (Nat.not_lt_zero _)), H3, V3, S3, B3⟩
 case round =>
  clear H3 V3 S3 B3
  obtain ⟨k, hk, rfl, HH, H4, V4, S4, B4⟩ := hrel
  by_cases hlt : k < 4
  ·have hix := Hix.out k hlt
   unfold rVal fnv at hix
   have HRk := Lib.hid (HR.out k)
   have hen := rule_enters k
   have HDk := Lib.hid (HD.out (rPart k) (rPart_lt k))
   have hp3 : (rPart k : Int) < 3 := by have := rPart_lt k; omega
   have hp0 : (0 : Int) <= (rPart k : Int) := by omega
   have hcp : wr.cell? ⟨g, rPart k, none⟩ = some (.string (pText A B C (rPart k))) := by
    have h3 := rPart_lt k
    generalize rPart k = p at h3
    match p, h3 with
    | 0, _ => exact V4.out 0 _ rfl
    | 1, _ => exact V4.out 1 _ rfl
    | 2, _ => exact V4.out 2 _ rfl
   obtain ⟨hh, Hh⟩ : ∃ hh, hh = rHolds A B C k := ⟨_, rfl⟩
   rw [<- Hh] at HRk
   have HHk := Lib.hid (fun (_ : Unit) => Hh)
   clear Hh
   have HPa := Lib.hid (show ∀ (x : Int) (y : Int), x = rSt k -> y = pAt A B (rPart k) -> rHolds A B C k = false -> outP A B C = .bad x y from fun x y h1 h2 h3 => by rw [h1, h2]; exact outP_bad HH.out h3 hlt)
   have HPs := Lib.hid (fun (_ : Unit) => (rfl : rSt k = rSt k))
   obtain ⟨st, hst⟩ : ∃ st, st = rSt k := ⟨_, rfl⟩
   obtain ⟨at_, hat⟩ : ∃ at_, at_ = pAt A B (rPart k) := ⟨_, rfl⟩
   rw [<- hst] at hix
   rw [<- hat] at HDk
   have HB := Lib.hid (fun (h : rHolds A B C k = false) => HPa.out st at_ hst hat h)
   clear HPa HPs hst hat
   generalize pText A B C (rPart k) = X at HRk hcp
   generalize rPart k = p at hix hp0 hp3 hcp HDk
   generalize rFn k = F at hix HRk hen
   have bA := (Below.refl wr.heap.size wr).alloc (Nat.le_refl _) (.cells #[.int .i64 (p : Int), .func (.func F) #[] #[], .int .i64 st] 164)
   have xA := Box.new wr [.int .i64 (p : Int), .func (.func F) #[] #[], .int .i64 st] 164
   have l4 := (bA.cell (World.block_lt_of_cell? wr _ hcp)).trans hcp
   have HA4 := Lib.hid (H4.out.below bA)
   have VA4 := Lib.hid (V4.out.below bA)
   have SA4 := Lib.hid (S4.out.below bA)
   have BA4 := Lib.hid (B4.out.trans (bA.mono B4.out.size))
   obtain ⟨Wa, hWa⟩ : ∃ Wa, Wa = wr.alloc (.cells #[.int .i64 (p : Int), .func (.func F) #[] #[], .int .i64 st] 164) := ⟨_, rfl⟩
   rw [<- hWa] at l4 xA HA4 VA4 SA4 BA4
   obtain ⟨rb, hrb⟩ : ∃ rb, rb = wr.heap.size := ⟨_, rfl⟩
   rw [<- hrb] at xA
   have l1 : Wa.cell? ⟨rb, 0, none⟩ = some (.int .i64 (p : Int)) := xA.vals 0 _ rfl
   have l2 : Wa.cell? ⟨rb, 1, none⟩ = some (.func (.func F) #[] #[]) := xA.vals 1 _ rfl
   have XA := Lib.hid xA
   clear hcp bA H4 V4 S4 B4 xA
   go_wp2_with fail
   rw [<- hWa, <- hrb]
   clear hWa hrb
   refine wp_region_still_tail 7 (by kernel_rfl) (by kernel_rfl) ?_
   simp only [List.take_succ_cons, List.take_zero, List.drop_succ_cons, List.drop_zero]
   repeat still_step
   refine wpStill_nil ?_
   change wpList _ _ _ _ _ Wa.drew
   have HA4 := Lib.hid HA4.out.drew
   have VA4 := Lib.hid VA4.out.drew
   have SA4 := Lib.hid SA4.out.drew
   have BA4 := Lib.hid BA4.out.drew
   have XA := Lib.hid XA.out.drew
   clear l1 l2 l4
   generalize Wa.drew = Wd at HA4 VA4 SA4 BA4 XA ⊢
   go_wp2_with fail
   refine (HRk.out _).mono ?_
   rintro e W5 ⟨rfl, b5⟩
   have H5 := Lib.hid (HA4.out.below b5)
   have V5 := Lib.hid (VA4.out.below b5)
   have S5 := Lib.hid (SA4.out.below b5)
   have X5 := Lib.hid (XA.out.below b5)
   have B5 := Lib.hid (BA4.out.trans (b5.mono BA4.out.size))
   clear HA4 VA4 SA4 BA4 XA b5 HRk hen hix
   cases hh
   ·have HB := Lib.hid (HB.out (HHk.out ()).symm)
    have m0 : W5.cell? ⟨rb, 0, none⟩ = some (.int .i64 (p : Int)) := X5.out.vals 0 _ rfl
    have m2 : W5.cell? ⟨rb, 2, none⟩ = some (.int .i64 st) := X5.out.vals 2 _ rfl
    have m4 : W5.cell? ⟨gs, p, none⟩ = some (.int .i64 at_) := S5.out p _ HDk.out
    have HN : ∀ w, Calls Tryz.prog 64 #[.int .i64 st, .int .i64 at_] w fun e w'' => e = .returned (baseF st at_) /\ w'' = w := fun w => (new_any st at_ w).mono fun e w' h => ⟨h.1, h.2.symm⟩
    have HN := Lib.hid HN
    clear HDk HH HHk
    go_wp2_with fail
    refine wp_region_still_tail 8 (by kernel_rfl) (by kernel_rfl) ?_
    simp only [List.take_succ_cons, List.take_zero, List.drop_succ_cons, List.drop_zero]
    repeat still_step
    still_call (HN.out _)
    repeat still_step
    refine wpStill_nil ?_
    change wpList _ _ _ _ _ W5.drew
    have H6 := Lib.hid H5.out.drew
    have B6 := Lib.hid B5.out.drew
    clear m0 m2 m4 H5 V5 S5 X5 B5
    generalize W5.drew = We at H6 B6 ⊢
    go_wp2_with (refine wpList_store_box (n := 3) Tryz.lineSize rfl _ _ rfl (g := w.heap.size) (vs := lineL ⟨#[]⟩ ⟨#[]⟩ 0) rfl rfl H6.out rfl rfl (line_one _ _ _) ?_)
    intro w2 b2 o2
    go_wp2
    refine bodyPost_ret (v := outVR (.bad st at_)) ?_ rfl ⟨by rw [HB.out], B6.out.trans (only_eq_belowR o2 (Nat.le_refl _) B6.out.size)⟩
    exact results_cell1 Tryz.lineSize Tryz.lineAgg Tryz.results76 _ _ rfl rfl b2.vals rfl
   ·have HH2 := Lib.hid (show ∀ j, j < k + 1 -> rHolds A B C j = true from fun j hj => by
     rcases Nat.lt_or_ge j k with h1 | h1
     ·exact HH.out j h1
     ·obtain rfl : j = k := by omega
      exact (HHk.out ()).symm)
    clear HB X5 HH HHk
    go_wp2_with fail
    go_roundw
    case rel => exact ⟨k + 1, by omega, by go_num, HH2, H5, V5, S5, B5⟩
    case measure => simp [intOf]; omega
  ·obtain rfl : k = 4 := by omega
   have HL := Lib.hid (outP_line HH.out)
   have c0 : wr.cell? ⟨g, 0, none⟩ = some (.string A) := V4.out 0 _ rfl
   have c1 : wr.cell? ⟨g, 1, none⟩ = some (.string B) := V4.out 1 _ rfl
   have c2 : wr.cell? ⟨g, 2, none⟩ = some (.string C) := V4.out 2 _ rfl
   have HM : ∀ w, Calls Tryz.prog 93 #[.string C] w fun e w'' => e = .returned (.int .i64 (minS C)) /\ w'' = w := fun w => (minor_any C w HL.out.2).mono fun e w' h => ⟨h.1, h.2.symm⟩
   have HM := Lib.hid HM
   clear HH V4 S4
   obtain ⟨m, hm⟩ : ∃ m, m = minS C := ⟨_, rfl⟩
   rw [<- hm] at HM
   have HLn := Lib.hid (show outP A B C = .line A B m by rw [hm]; exact HL.out.1)
   clear hm HL
   go_wp2_with fail
   refine wp_region_still_tail 11 (by kernel_rfl) (by kernel_rfl) ?_
   simp only [List.take_succ_cons, List.take_zero, List.drop_succ_cons, List.drop_zero]
   repeat still_step
   still_call (HM.out _)
   repeat still_step
   refine wpStill_nil ?_
   change wpList _ _ _ _ _ wr.drew
   have H6 := Lib.hid H4.out.drew
   have B6 := Lib.hid B4.out.drew
   clear c0 c1 c2 H4 B4
   generalize wr.drew = We at H6 B6 ⊢
   go_wp2_with (refine wpList_store_box (n := 3) Tryz.lineSize rfl _ _ rfl (g := w.heap.size) (vs := lineL A B m) rfl rfl H6.out rfl rfl (line_one _ _ _) ?_)
   intro w2 b2 o2
   go_wp2
   refine bodyPost_ret (v := outVR (.line A B m)) ?_ rfl ⟨by rw [HLn.out], B6.out.trans (only_eq_belowR o2 (Nat.le_refl _) B6.out.size)⟩
   exact results_cell1 Tryz.lineSize Tryz.lineAgg Tryz.results76 _ _ rfl rfl b2.vals rfl
theorem reqParse_any {s : ByteArray} {o : OutR} (h : Is s o) (w : World) (hs : s.size <= 1000000) : Calls Tryz.prog 76 #[.string s] w (ParsesToR o w) := by
 rcases h with ⟨A, B, C, h, rfl⟩ | ⟨h, rfl⟩
 ·exact parse_yes h w hs
 ·exact parse_no h w hs
end Go.Proofs.YtpplgdnklpchkaaGreatDoor
