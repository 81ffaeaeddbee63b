/- Merged texts: DecA, FldA, FldC, ChuB. -/
import Derived.StillTailTactics
import Derived.Lib.SplitLaws
import Derived.Deep.RegionHeld3
import Derived.Test.YtbjfdakanhaagaaGreatDoorBunB
import Derived.Test.YtbjfdakanhaagaaGreatDoorBunC
/-! ## DecA -/
/- Package decimal: number, Parse, ParseHex, Sum. -/
namespace Go.Proofs.YtbjfdakanhaagaaGreatDoor
set_option linter.all false
open Go.RowKit

def numRes : NumR → Value
  | .ok n => .tuple #[.int .i64 n, .nilIface]
  | .bad k => .tuple #[.int .i64 0, baseF 400 k]
  | .great => .tuple #[.int .i64 0, baseF 413 0]
theorem ret_dnum {a : Value} {r : NumR} (h : a = numRes r) : Ending.returned a = .returned (numRes r) := by rw [h]

set_option maxRecDepth 100000 in
set_option maxHeartbeats 1000000 in
theorem number_any (D : Int → Option Int) (b B : Int) (hb : b = 10 ∨ b = 16) (hBb : B = b) (hD : Digits D B) (f : Nat) (s : ByteArray) (most : Int) (w : World) (hs : s.size ≤ 9223372036854775807) (h0 : 0 ≤ most) (h1 : most ≤ 4611686018427387904)
    (hcall : ∀ (x : Value) (w : World), (callFunc f #[x]).run Tryz.prog w = .ok (.enter f #[x]) w)
    (hf : ∀ (z : Int) (w : World), 0 ≤ z → z ≤ 255 → Calls Tryz.prog f #[.int .u8 z] w (SaysHex (D z) w)) :
    Calls Tryz.prog 106 #[.string s, .int .i64 b, .int .i64 most, .func (.func f) #[] #[]] w fun e w' => e = .returned (numRes (num D B most s.data.toList)) ∧ w = w' := by
  have HBb := Lib.hid hBb
  clear hBb
  have HF := Lib.hid hf
  clear hf
  have HD := Lib.hid hD
  clear hD
  by_cases hz : s.size = 0
  · have he : s = ⟨#[]⟩ := ByteArray.ext (Array.eq_empty_of_size_eq_zero hz)
    subst he
    go_enter Tryz.func106, Tryz.ntmps106
    go_wp2_with fail
    refine (new_any _ _ _).mono ?_
    rintro e w' ⟨rfl, rfl⟩
    go_wp2_with fail
    go_ret2
    exact ⟨ret_dnum rfl, rfl⟩
  · have hne : s.toList.isEmpty = false := by
      rw [ByteArray.toList_eq, List.isEmpty_eq_false_iff]
      intro h
      have h2 := congrArg List.length h
      simp at h2
      exact hz (by rw [h2]; rfl)
    have Hn := Lib.hid (num_some (D := D) (b := B) (most := most) s (by omega))
    rcases hb with rfl | rfl
    all_goals
      go_enter Tryz.func106, Tryz.ntmps106
      go_wp2
      go_loop [10, 11, 20] (fun n g i => ∃ (k : Nat) (V N : Int) (G : Bool), k ≤ s.size ∧ i = .int .i64 k ∧ n = .int .i64 N ∧ g = .bool G ∧ 0 ≤ V ∧ 0 ≤ N ∧ N ≤ most ∧ Hid (G = decide (most < V)) ∧ Hid (V ≤ most → N = V) ∧ Hid (run D B most k V (s.data.toList.drop k) = run D B most 0 0 (s.data.toList.drop 0))) (fun n g i => s.size - (intOf i).toNat)
      case atStart => exact ⟨0, 0, 0, false, Nat.zero_le _, rfl, rfl, rfl, by omega, by omega, h0, (show _ = _ by simp; omega), fun _ => rfl, rfl⟩
      case round =>
        obtain ⟨k, V, N, G, hk, rfl, rfl, rfl, hV0, hN0, hN1, HG, HN, HR⟩ := hrel
        by_cases hlt : k < s.size
        · go_wp2_with fail
          refine (HF.out _ _ (by omega) (byte_le _)).mono ?_
          rintro e w' ⟨rfl, rfl⟩
          cases hd : D (s[k].toNat : Int) with
          | none =>
            have Hr := Lib.hid (run_bad (b := B) (most := most) (V := V) s k hlt hd)
            go_wp2_with fail
            refine (new_any _ _ _).mono ?_
            rintro e w' ⟨rfl, rfl⟩
            go_wp2_with fail
            go_ret2
            exact ⟨ret_dnum (by rw [Hn.out, ← HR.out, Hr.out]; rfl), rfl⟩
          | some v =>
            have hvr := HD.out.2.2 _ _ hd
            have hB2 := HBb.out
            have hv0 := hvr.1
            have hv1 : v < 16 := by omega
            have Hnx := Lib.hid (run_next (b := B) (most := most) (V := V) s k hlt hd)
            have Hst := Lib.hid (step_great (most := most) (V := V) HD.out.1 hvr.1 hvr.2 hV0)
            have Hmo := Lib.hid (fun h => more_great (most := most) (V := V) HD.out.1 hvr.1 h0 h)
            rw [hB2] at Hst Hmo
            clear hd hvr hB2
            cases G
            · have hVm : V ≤ most := by have := HG.out; simp at this; exact this
              obtain rfl := HN.out hVm
              have HS := Lib.hid (Hst.out hVm)
              clear Hst HN Hmo
              by_cases hg1 : most < v
              · have Hg := Lib.hid (HS.out.1 (.inl hg1))
                go_wp2_with fail
                go_round
                case rel => exact ⟨k + 1, N * B + v, N, true, by omega, by go_num, rfl, rfl, by rw [HBb.out]; omega, by omega, by omega, (show _ = _ by rw [HBb.out]; have := Hg.out; simp; exact this), (fun h => by rw [HBb.out] at h; have := Hg.out; omega), (show _ = _ by rw [← Hnx.out, HR.out])⟩
                case measure => simp [intOf]; omega
              · have hsub : 0 ≤ most - v := by omega
                have hsub2 : most - v ≤ 4611686018427387904 := by omega
                have hgB : (most - v) / B < N ∨ ¬ (most - v) / B < N := Classical.em _
                rw [HBb.out] at hgB
                rcases hgB with hg2 | hg2
                · have Hg := Lib.hid (HS.out.1 (.inr hg2))
                  go_wp2_with fail
                  go_round
                  case rel => exact ⟨k + 1, N * B + v, N, true, by omega, by go_num, rfl, rfl, by rw [HBb.out]; omega, by omega, by omega, (show _ = _ by rw [HBb.out]; have := Hg.out; simp; exact this), (fun h => by rw [HBb.out] at h; have := Hg.out; omega), (show _ = _ by rw [← Hnx.out, HR.out])⟩
                  case measure => simp [intOf]; omega
                · have hm : ¬ most < N * B + v := by rw [HBb.out]; exact fun h => by rcases HS.out.2 h with h | h <;> omega
                  rw [HBb.out] at hm
                  have hgb1 := decide_eq_false hg1
                  have hgb2 := decide_eq_false hg2
                  go_wp2_with fail
                  go_round
                  case rel => exact ⟨k + 1, N * B + v, N * B + v, false, by omega, by go_num, by rw [HBb.out], rfl, by rw [HBb.out]; omega, by rw [HBb.out]; omega, by rw [HBb.out]; omega, (show _ = _ by rw [HBb.out]; simp; omega), (fun h => rfl), (show _ = _ by rw [← Hnx.out, HR.out])⟩
                  case measure => simp [intOf]; omega
            · have hVm : most < V := by have := HG.out; simp at this; exact this
              have Hg := Lib.hid (Hmo.out hVm)
              clear Hst HN Hmo
              go_wp2_with fail
              go_round
              case rel => exact ⟨k + 1, V * B + v, N, true, by omega, by go_num, rfl, rfl, by rw [HBb.out]; omega, by omega, by omega, (show _ = _ by rw [HBb.out]; have := Hg.out; simp; exact this), (fun h => by rw [HBb.out] at h; have := Hg.out; omega), (show _ = _ by rw [← Hnx.out, HR.out])⟩
              case measure => simp [intOf]; omega
        · have He := Lib.hid (run_end (D := D) (b := B) (most := most) (V := V) s k (by omega))
          cases G
          · have hVm : V ≤ most := by have := HG.out; simp at this; exact this
            have hNV := HN.out hVm
            subst hNV
            go_wp2_with fail
            go_ret2
            exact ⟨ret_dnum (by rw [Hn.out, ← HR.out, He.out, if_pos hVm]; rfl), rfl⟩
          · have hVm : most < V := by have := HG.out; simp at this; exact this
            go_wp2_with fail
            refine (new_any _ _ _).mono ?_
            rintro e w' ⟨rfl, rfl⟩
            go_wp2_with fail
            go_ret2
            exact ⟨ret_dnum (by rw [Hn.out, ← HR.out, He.out, if_neg (by omega)]; rfl), rfl⟩
theorem hex_call (x : Value) (w : World) : (callFunc 107 #[x]).run Tryz.prog w = .ok (.enter 107 #[x]) w := by kernel_rfl
def NumIn (r : NumR) (w : World) (e : Ending) (w' : World) : Prop := e = .returned (numRes r) ∧ w = w'
theorem ret_same {r : NumR} {w w' : World} {a b : Value} (h : numRes r = .tuple #[a, b]) (hw : w = w') : NumIn r w (.returned (.tuple #[a, b])) w' := ⟨by rw [h], hw⟩
set_option maxRecDepth 100000 in
theorem parseHex_any (s : ByteArray) (most : Int) (w : World) (hs : s.size ≤ 9223372036854775807) (h0 : 0 ≤ most) (h1 : most ≤ 4611686018427387904) :
    Calls Tryz.prog 97 #[.string s, .int .i64 most] w (NumIn (num hexV 16 most s.data.toList) w) := by
  go_enter Tryz.func97, Tryz.ntmps97
  go_wp2_with fail
  refine (number_any hexV 16 16 (.inr rfl) rfl digits16 107 s most _ hs h0 h1 hex_call (fun z w h0 h1 => hex_any z w h0 h1)).mono ?_
  rintro e w' ⟨rfl, rfl⟩
  cases hr : num hexV 16 most s.data.toList
  all_goals
    have Hr := Lib.hid hr
    clear hr
    unfold numRes
    go_wp2_with fail
    go_ret2
    exact ret_same (by rw [Hr.out]; rfl) rfl
def sumRes (a b most : Int) : Value := .tuple #[.int .i64 (if a + b ≤ most then a + b else 0), .bool (decide (a + b ≤ most))]
end Go.Proofs.YtbjfdakanhaagaaGreatDoor

/-! ## FldA -/
/- Package field: fieldBytes, Text. -/
namespace Go.Proofs.YtbjfdakanhaagaaGreatDoor
set_option linter.all false
open Go.RowKit

def CountIs (n : Int) (w : World) (e : Ending) (w' : World) : Prop := e = .returned (.int .i64 n) ∧ w = w'
theorem countIs_of {a b : Int} (w : World) (h : a = b) : CountIs b w (.returned (.int .i64 a)) w := ⟨by rw [h], rfl⟩
set_option maxRecDepth 100000 in
theorem fieldBytes_any (s : ByteArray) (w : World) (hs : s.size ≤ 9223372036854775807) : Calls Tryz.prog 87 #[.string s] w (CountIs (fbn s.data.toList : Int) w) := by
  go_enter Tryz.func87, Tryz.ntmps87
  go_wp2
  go_loop [6] (fun i => ∃ k : Nat, k ≤ s.size ∧ i = .int .i64 k ∧ Hid (allB fieldB (s.data.toList.take k) = true)) (fun i => s.size - (intOf i).toNat)
  case atStart => exact ⟨0, Nat.zero_le _, rfl, Lib.hid rfl⟩
  case round =>
    obtain ⟨k, hk, rfl, Hm⟩ := hrel
    by_cases hlt : k < s.size
    · have Hs := Lib.hid (allB_snoc fieldB s k hlt)
      have HF := Lib.hid (field_any (s[k].toNat : Int))
      by_cases hb : fieldB (s[k].toNat : Int) = true
      · have Hn := Lib.hid (show allB fieldB (s.data.toList.take (k + 1)) = true by rw [Hs.out, Hm.out, hb]; rfl)
        rw [hb] at HF
        clear hb Hs Hm
        go_wp2_with fail
        refine (HF.out _).mono ?_
        rintro e w' ⟨rfl, rfl⟩
        go_wp2_with fail
        go_round
        case rel => exact ⟨k + 1, by omega, by go_num, Hn⟩
        case measure => simp [intOf]; omega
      · have hb : fieldB (s[k].toNat : Int) = false := by simpa using hb
        have He := Lib.hid (fbn_at hlt Hm.out hb)
        rw [hb] at HF
        clear hb Hs Hm
        go_wp2_with fail
        refine (HF.out _).mono ?_
        rintro e w' ⟨rfl, rfl⟩
        go_wp2_with fail
        go_ret
        exact countIs_of _ (by rw [He.out])
    · obtain rfl : k = s.size := by omega
      have He := Lib.hid (fbn_all (allB_yes fieldB s s.size (Nat.le_refl _) Hm.out))
      clear Hm
      go_wp2
      go_ret
      exact countIs_of _ (by rw [He.out])
def TextTo (t : ByteArray) (w : World) (e : Ending) (w' : World) : Prop := e = .returned (.string t) ∧ Below w.heap.size w w'
def textF (N V : ByteArray) : ByteArray := N ++ ⟨#[58]⟩ ++ ⟨#[32]⟩ ++ V
theorem textF_data (N V : ByteArray) : (textF N V).data.toList = N.data.toList ++ 58 :: ([32] ++ V.data.toList ++ []) := by
  simp [textF]
theorem textF_size (N V : ByteArray) : (textF N V).size = N.size + V.size + 2 := by
  simp only [textF, ByteArray.size_append, show (⟨#[58]⟩ : ByteArray).size = 1 from rfl, show (⟨#[32]⟩ : ByteArray).size = 1 from rfl]
  omega
theorem outS_text {s N V : ByteArray} (h : outS s = .fld N V) : outS (textF N V) = .fld N V :=
  outS_pad h [32] [] (by decide) (by simp) (textF_data N V)
end Go.Proofs.YtbjfdakanhaagaaGreatDoor

/-! ## FldC -/
/- The reference's Parse (layer 11). -/
namespace Go.Proofs.YtbjfdakanhaagaaGreatDoor
set_option linter.all false
open Go.RowKit

theorem Tryz.fldSize : (Tryz.prog.info? 57).map (·.size) = some 2 := by kernel_rfl
theorem Tryz.fldAgg (w : World) : (isAgg 57).run Tryz.prog w = .ok true w := by kernel_rfl
def fldL (N V : ByteArray) : List Value := [.string N, .string V]
theorem fld_one (N V : ByteArray) : ∀ v ∈ fldL N V, v.oneCell' = true := by
  intro v hv
  simp only [fldL, List.mem_cons, List.not_mem_nil, or_false] at hv
  rcases hv with rfl | rfl <;> rfl
def fldV (N V : ByteArray) : Value := .agg #[.string N, .string V]
theorem only_eq_below {w w1 : World} {g B : Nat} (h : Only (fun k => k = g) w w1) (hg : B ≤ g) (hB : B ≤ w.heap.size) : Below B w w1 :=
  h.below B hB fun k hk => by subst hk; exact hg
theorem slice_sto (s x : ByteArray) (j : Int) (n : Nat) (hj : j = (n : Int)) (hn : n ≤ s.size) (hx : x.data.toList = s.data.toList.take n) (w : World) : (Instr.slice 9 (.string s) none (some (.int .i64 j)) none).run Tryz.prog w = .ok (.string x) w := by
  subst hj
  rw [run_slice_string_h w _ s Tryz.underlying9 _ _ (by omega) (by omega), show s.extract 0 (Int.toNat (n : Int)) = x from fba_ext (by rw [Lib.extract_from_zero, hx]; simp)]
theorem slice_sfrom (s x : ByteArray) (j : Int) (n : Nat) (hj : j = (n : Int)) (hn : n ≤ s.size) (hx : x.data.toList = s.data.toList.drop n) (w : World) : (Instr.slice 9 (.string s) (some (.int .i64 j)) none none).run Tryz.prog w = .ok (.string x) w := by
  subst hj
  rw [run_slice_string_l w _ s Tryz.underlying9 _ _ (by omega) (by omega), show s.extract (Int.toNat (n : Int)) s.size = x from fba_ext (by rw [Lib.extract_to_end, hx]; simp)]
/-! ### plain: what the loops know -/
theorem no_colon_snoc {s : ByteArray} {k : Nat} (hk : k < s.size) (h : (58 : UInt8) ∉ s.data.toList.take k) (hb : s[k] ≠ 58) : (58 : UInt8) ∉ s.data.toList.take (k + 1) := by
  rw [take_snoc s k hk, List.mem_append, List.mem_singleton]
  rintro (h' | h')
  · exact h h'
  · exact hb h'.symm
theorem two_at {s : ByteArray} {k : Nat} (hk : k < s.size) (h : (58 : UInt8) ∉ s.data.toList.take k) (hb : s[k] = 58) : ∃ A B, Two s A B ∧ A.size = k := by
  refine ⟨⟨(s.data.toList.take k).toArray⟩, ⟨(s.data.toList.drop (k + 1)).toArray⟩, ⟨?_, h⟩, ?_⟩
  · have : s.data.toList.drop k = s[k] :: s.data.toList.drop (k + 1) := List.drop_eq_getElem_cons (by rw [← Lib.size_eq]; exact hk)
    rw [hb] at this
    show s.data.toList = s.data.toList.take k ++ 58 :: s.data.toList.drop (k + 1)
    rw [← this, List.take_append_drop]
  · rw [text_size, List.length_take]; rw [Lib.size_eq] at hk; omega
theorem Two.take {s A B : ByteArray} (h : Two s A B) : A.data.toList = s.data.toList.take A.size := by rw [h.text, Lib.size_eq]; simp
theorem Two.drop {s A B : ByteArray} (h : Two s A B) : B.data.toList = s.data.toList.drop (A.size + 1) := by
  have e : A.data.toList ++ 58 :: B.data.toList = (A.data.toList ++ [58]) ++ B.data.toList := by simp
  have l : (A.data.toList ++ [58]).length = A.size + 1 := by simp
  rw [h.text, e, ← l, List.drop_append, List.drop_of_length_le (Nat.le_refl _)]
  simp
theorem Two.byte {s A B : ByteArray} (h : Two s A B) {j : Nat} (hj : j < B.size) (h' : A.size + 1 + j < s.size) : s[A.size + 1 + j] = B[j] := by
  show s.data.toList[A.size + 1 + j]'(by simpa using h') = B.data.toList[j]'(by simpa using hj)
  simp only [h.drop, List.getElem_drop]
/-- From m up to n: field bytes. -/
def Fn (s : ByteArray) (m n : Nat) : Prop := ∀ j (h : j < s.size), m ≤ j → j < n → fieldB (s[j].toNat : Int) = true
theorem Fn.snoc {s : ByteArray} {m n : Nat} (h : Fn s m n) (hn : n < s.size) (hb : fieldB (s[n].toNat : Int) = true) : Fn s m (n + 1) := fun j hj h1 h2 => by
  by_cases e : j = n
  · subst e; exact hb
  · exact h j hj h1 (by omega)
theorem Two.fn_take {s A B : ByteArray} (h : Two s A B) {n : Nat} (hn : n ≤ s.size) (hf : Fn s (A.size + 1) n) : allB fieldB (B.data.toList.take (n - (A.size + 1))) = true := by
  have hz := h.size
  unfold allB
  rw [List.all_eq_true]
  intro b hb
  obtain ⟨j, hj, rfl⟩ := List.getElem_of_mem hb
  rw [List.length_take, ← Lib.size_eq] at hj
  rw [List.getElem_take]
  have := hf (A.size + 1 + j) (by omega) (by omega) (by omega)
  rw [h.byte (by omega)] at this
  exact this
theorem Two.bad_at {s A B : ByteArray} (h : Two s A B) (ht : tokS A = true) {n : Nat} (hn : n < s.size) (hm : A.size + 1 ≤ n) (hf : Fn s (A.size + 1) n) (hb : fieldB (s[n].toNat : Int) = false) : outS s = .bad (n : Int) := by
  have hz := h.size
  have hk : n - (A.size + 1) < B.size := by omega
  have e : A.size + 1 + (n - (A.size + 1)) = n := by omega
  have hbb : fieldB (B[n - (A.size + 1)].toNat : Int) = false := by
    rw [← h.byte hk (by omega)]
    simp only [e]; exact hb
  have hfb := fbn_at hk (h.fn_take (by omega) hf) hbb
  rw [outS_two h]
  unfold outF
  rw [if_pos ht, hfb, if_pos hk]
  congr 1
  omega
theorem Two.all_field {s A B : ByteArray} (h : Two s A B) (hf : Fn s (A.size + 1) s.size) : allB fieldB B.data.toList = true := by
  have hz := h.size
  have := h.fn_take (Nat.le_refl _) hf
  rwa [List.take_of_length_le (by rw [← Lib.size_eq]; omega)] at this
def put2 (W : World) (r : Nat) (a b : Value) : World := (W.setCell ⟨r, 0, none⟩ a).setCell ⟨r, 1, none⟩ b
theorem put2_only (W : World) (r : Nat) (a b : Value) : Only (fun k => k = r) W (put2 W r a b) :=
  ((Only.refl (fun k => k = r) W).setCell (p := ⟨r, 0, none⟩) (fun _ => rfl) a).setCell (p := ⟨r, 1, none⟩) (fun _ => rfl) b
theorem put2_box {W : World} {r : Nat} {x y : Value} (h : Box W r [x, y]) (a b : Value) : Box (put2 W r a b) r [a, b] := h.setCells [a, b] rfl
theorem ValsAt.two {W : World} {g : Nat} {a b : Value} (h : ValsAt W g [a, b]) : W.cell? ⟨g, 0, none⟩ = some a ∧ W.cell? ⟨g, 1, none⟩ = some b := ⟨h 0 _ rfl, h 1 _ rfl⟩
/-! ### Parse -/
def refV : Out → Value
  | .bad at_ => .tuple #[fldV ⟨#[]⟩ ⟨#[]⟩, .int .i64 at_]
  | .fld N V => .tuple #[fldV N V, .int .i64 (-1)]
def RefTo (o : Out) (w : World) (e : Ending) (w' : World) : Prop := e = .returned (refV o) ∧ Below w.heap.size w w'
set_option maxRecDepth 100000 in
set_option maxHeartbeats 2000000 in
theorem refParse_huge (s : ByteArray) (w : World) (hs : s.size ≤ 140737488351232) : Calls Tryz.prog 25 #[.string s] w (RefTo (outS s) w) := by
  have H0 := Box.new w (fldL ⟨#[]⟩ ⟨#[]⟩) 57
  have B0 := (Below.refl w.heap.size w).alloc (Nat.le_refl _) (.cells #[.string ⟨#[]⟩, .string ⟨#[]⟩] 57)
  go_enter Tryz.func25, Tryz.ntmps25
  go_wp2
  obtain ⟨W0, hW0⟩ : ∃ W0, W0 = w.alloc (.cells #[.string ⟨#[]⟩, .string ⟨#[]⟩] 57) := ⟨_, rfl⟩
  have H0 : Box W0 w.heap.size (fldL ⟨#[]⟩ ⟨#[]⟩) := hW0 ▸ H0
  rw [← hW0] at B0 ⊢
  clear hW0
  have H0 := Lib.hid H0
  have B0 := Lib.hid B0
  go_loop [4] (fun i => ∃ k : Nat, k ≤ s.size ∧ i = .int .i64 k ∧ Hid ((58 : UInt8) ∉ s.data.toList.take k)) (fun i => (s.size - intOf i).toNat)
  case atStart => exact ⟨0, Nat.zero_le _, rfl, Lib.hid (by simp)⟩
  case round =>
    obtain ⟨k, hk, rfl, HN⟩ := hrel
    by_cases hlt : k < s.size
    · by_cases h58 : (s[k].toNat : Int) = 58
      · obtain ⟨A, B, h2, hA⟩ := two_at hlt HN.out (byte_is (n := 58) (by decide) h58)
        have H2 := Lib.hid h2
        have hz := h2.size
        have q1 : ((s[k].toNat : Int) == 58) = true := by rw [h58]; rfl
        have q2 : ((k : Int) == (s.size : Int)) = false := by rw [beq_eq_false_iff_ne]; omega
        have SA := fun W => slice_sto s A (k : Int) k rfl (by omega) (by rw [h2.take, hA]) W
        have HT := Lib.hid (fun W => refIsToken_any A W (by omega))
        have HtA := Lib.hid (show (decide (0 < A.size) && allB tokenB A.data.toList) = tokS A from rfl)
        have HA := Lib.hid hA
        have HB := Lib.hid (show A.size ≤ 140737488351232 ∧ B.size ≤ 140737488351232 by omega)
        clear h2 HN h58 hA hz
        go_wp2_with fail
        refine (HT.out _).mono ?_
        rintro e W1 ⟨rfl, rfl⟩
        clear HT
        obtain ⟨tA, htA⟩ : ∃ tA, tA = (decide (0 < A.size) && allB tokenB A.data.toList) := ⟨_, rfl⟩
        rw [← htA] at HtA ⊢
        clear htA
        cases tA
        · have HE := Lib.hid (show outS s = .bad 0 from outS_not_tok H2.out HtA.out.symm)
          clear HtA
          go_wp2_with (refine wpList_store_box (n := 2) Tryz.fldSize rfl _ _ rfl (g := w.heap.size) (vs := fldL ⟨#[]⟩ ⟨#[]⟩) rfl rfl H0.out rfl rfl (fld_one _ _) ?_)
          intro w2 b2 o2
          go_wp2
          refine bodyPost_ret (v := refV (.bad 0)) ?_ rfl ⟨by rw [HE.out], B0.out.trans (only_eq_below o2 (Nat.le_refl _) B0.out.size)⟩
          exact results_cell1 Tryz.fldSize Tryz.fldAgg Tryz.results25 _ _ rfl rfl b2.vals rfl
        · have HtA := Lib.hid HtA.out.symm
          go_wp2
          go_loop [5] (fun i => ∃ n : Nat, n ≤ s.size ∧ i = .int .i64 n ∧ Hid (A.size + 1 ≤ n ∧ Fn s (A.size + 1) n)) (fun i => (s.size - intOf i).toNat)
          case atStart => exact ⟨k + 1, by omega, by go_num, Lib.hid ⟨by rw [HA.out]; exact Nat.le_refl _, fun j _ h1 h2 => by have := HA.out; omega⟩⟩
          case round =>
            obtain ⟨n, hn, rfl, HF⟩ := hrel
            by_cases hltn : n < s.size
            · have HC := Lib.hid (fun w => class5 (s[n].toNat : Int) w (by omega) (byte_le _))
              by_cases hb : fieldB (s[n].toNat : Int) = true
              · have HF2 := Lib.hid (show A.size + 1 ≤ n + 1 ∧ Fn s (A.size + 1) (n + 1) from ⟨by have := HF.out.1; omega, HF.out.2.snoc hltn hb⟩)
                rw [hb] at HC
                clear hb HF
                go_wp2_with fail
                refine (HC.out _).mono ?_
                rintro e w' ⟨rfl, rfl⟩
                go_wp2_with fail
                go_round
                case rel => exact ⟨n + 1, by omega, by go_num, HF2⟩
                case measure => simp [intOf]; omega
              · have hb : fieldB (s[n].toNat : Int) = false := by simpa using hb
                have HE := Lib.hid (H2.out.bad_at HtA.out hltn HF.out.1 HF.out.2 hb)
                rw [hb] at HC
                clear hb HF
                go_wp2_with fail
                refine (HC.out _).mono ?_
                rintro e w' ⟨rfl, rfl⟩
                go_wp2_with (refine wpList_store_box (n := 2) Tryz.fldSize rfl _ _ rfl (g := w.heap.size) (vs := fldL ⟨#[]⟩ ⟨#[]⟩) rfl rfl H0.out rfl rfl (fld_one _ _) ?_)
                intro w2 b2 o2
                go_wp2
                refine bodyPost_ret (v := refV (.bad (n : Int))) ?_ rfl ⟨by rw [HE.out], B0.out.trans (only_eq_below o2 (Nat.le_refl _) B0.out.size)⟩
                exact results_cell1 Tryz.fldSize Tryz.fldAgg Tryz.results25 _ _ rfl rfl b2.vals rfl
            · obtain rfl : n = s.size := by omega
              have HE := Lib.hid (outS_of H2.out HtA.out (H2.out.all_field HF.out.2))
              have HL := Lib.hid (fun W => refLower_huge A W HB.out.1)
              have HR := Lib.hid (fun W => refTrim_any B W (Nat.le_trans HB.out.2 (by decide)))
              obtain ⟨j0, hj0⟩ : ∃ j0 : Int, j0 = (k : Int) + 1 := ⟨_, rfl⟩
              have SB := fun W => slice_sfrom s B j0 (k + 1) (by omega) (by omega) (by rw [H2.out.drop, HA.out]) W
              have hw1 : IntKind.i64.wrap ((k : Int) + 1) = j0 := (IntWalk.i64_in ((k : Int) + 1) (by omega)).trans hj0.symm
              clear hj0
              clear HF
              obtain ⟨X, hX⟩ : ∃ X, X = lowS A := ⟨_, rfl⟩
              obtain ⟨Y, hY⟩ : ∃ Y, Y = trimS B := ⟨_, rfl⟩
              rw [← hX] at HL HE
              rw [← hY] at HR HE
              clear hX hY
              have hz1 : k + 1 ≤ s.size := by omega
              go_wp2_with fail
              go_region_held3 (fun W => True) (trivial) (first | (go_at_call 39; refine (HL.out _).mono ?_; rintro e w' ⟨rfl, hb⟩; have yb : Box w' w.heap.size (fldL ⟨#[]⟩ ⟨#[]⟩) := (by first | exact H0.out.below hb | exact H0.out.drew.below hb); obtain ⟨k0, k1⟩ := yb.vals.two; have f0 := yb.free 0 (by decide); have f1 := yb.free 1 (by decide); have HY := Lib.hid yb; have HW := Lib.hid (show Below W0.heap.size W0 w' by first | exact hb | exact (Below.refl _ _).drew.trans hb); clear hb yb) | (go_at_call 40; refine (HR.out _).mono ?_; rintro e w'' ⟨rfl, rfl⟩))
              change Exit.then _ _ _ _ (put2 w' w.heap.size (.string X) (.string Y))
              have b2 := put2_box HY.out (.string X) (.string Y)
              have o2 := put2_only w' w.heap.size (.string X) (.string Y)
              have HB2 := Lib.hid (B0.out.trans (HW.out.mono B0.out.size))
              generalize put2 w' w.heap.size (.string X) (.string Y) = w2 at b2 o2 ⊢
              clear k0 k1 f0 f1
              go_wp2
              refine bodyPost_ret (v := refV (.fld X Y)) ?_ rfl ⟨by rw [HE.out], HB2.out.trans (only_eq_below o2 (Nat.le_refl _) HB2.out.size)⟩
              exact results_cell1 Tryz.fldSize Tryz.fldAgg Tryz.results25 _ _ rfl rfl b2.vals rfl
      · have HN2 := Lib.hid (no_colon_snoc hlt HN.out (byte_not (n := 58) (by decide) h58))
        have q1 : ((s[k].toNat : Int) == 58) = false := by rw [beq_eq_false_iff_ne]; exact h58
        clear HN h58
        go_wp2
        go_round
        case rel => exact ⟨k + 1, by omega, by go_num, HN2⟩
        case measure => simp [intOf]; omega
    · obtain rfl : k = s.size := by omega
      have HE := Lib.hid (outS_not (s := s) (by have := HN.out; rwa [List.take_of_length_le (by rw [Lib.size_eq]; exact Nat.le_refl _)] at this))
      clear HN
      go_wp2_with (refine wpList_store_box (n := 2) Tryz.fldSize rfl _ _ rfl (g := w.heap.size) (vs := fldL ⟨#[]⟩ ⟨#[]⟩) rfl rfl H0.out rfl rfl (fld_one _ _) ?_)
      intro w2 b2 o2
      go_wp2
      refine bodyPost_ret (v := refV (.bad 0)) ?_ rfl ⟨by rw [HE.out], B0.out.trans (only_eq_below o2 (Nat.le_refl _) B0.out.size)⟩
      exact results_cell1 Tryz.fldSize Tryz.fldAgg Tryz.results25 _ _ rfl rfl b2.vals rfl
theorem refParse_any (s : ByteArray) (w : World) (hs : s.size ≤ 4000000) : Calls Tryz.prog 25 #[.string s] w (RefTo (outS s) w) := refParse_huge s w (by omega)
end Go.Proofs.YtbjfdakanhaagaaGreatDoor

/-! ## ChuB -/
/- Chunked bodies: number. -/
namespace Go.Proofs.YtbjfdakanhaagaaGreatDoor
set_option linter.all false
open Go.RowKit

/-- An error with a status. -/
def IsErr (s : Int) (er : Value) : Prop := er = baseS s ∨ ∃ k, er = baseF s k
def SizeTo (r : SzR) (w : World) (e : Ending) (w' : World) : Prop := ((∃ n, r = .ok n ∧ e = .returned (.tuple #[.int .i64 (n : Int), .nilIface])) ∨ (∃ s er, r = .bad s ∧ IsErr s er ∧ e = .returned (.tuple #[.int .i64 0, er]))) ∧ Below w.heap.size w w'
theorem sizeTo_ok {r : SzR} {n : Nat} {z : Int} {w w' : World} (h : r = .ok n) (hz : z = (n : Int)) (hb : Below w.heap.size w w') : SizeTo r w (.returned (.tuple #[.int .i64 z, .nilIface])) w' := by
  subst hz; exact ⟨.inl ⟨n, h, rfl⟩, hb⟩
theorem sizeTo_bad {r : SzR} {s : Int} {er : Value} {w w' : World} (h : r = .bad s) (he : IsErr s er) (hb : Below w.heap.size w w') : SizeTo r w (.returned (.tuple #[.int .i64 0, er])) w' := by
  exact ⟨.inr ⟨s, er, h, he, rfl⟩, hb⟩
set_option maxRecDepth 100000 in
set_option maxHeartbeats 1000000 in
theorem cnum_any (s : ByteArray) (most : Int) (w : World) (hs : s.size ≤ 4000000) (h0 : 0 ≤ most) (h1 : most ≤ 4611686018427387904) :
    Calls Tryz.prog 84 #[.string s, .int .i64 most] w (SizeTo (sizeN (num hexV 16 most s.data.toList)) w) := by
  have hq := Tryz.eqNil
  by_cases hz : s.size = 0
  · have he : s = ⟨#[]⟩ := ByteArray.ext (Array.eq_empty_of_size_eq_zero hz)
    subst he
    have HR := Lib.hid (show sizeN (num hexV 16 most (⟨#[]⟩ : ByteArray).data.toList) = .bad 400 from rfl)
    have HL := Lib.hid (fun W => parseHex_any ⟨#[]⟩ 15 W (by decide) (by omega) (by omega))
    have hn : num hexV 16 15 (⟨#[]⟩ : ByteArray).data.toList = .bad 0 := rfl
    rw [hn] at HL
    unfold NumIn numRes baseF at HL
    clear hn hz hs
    go_enter Tryz.func84, Tryz.ntmps84
    go_wp2_with fail
    refine (HL.out _).mono ?_
    rintro e w1 ⟨rfl, rfl⟩
    go_wp2_with fail
    go_ret2
    exact sizeTo_bad HR.out (.inr ⟨_, rfl⟩) (Below.refl _ _)
  · have HN := Lib.hid (num_last h0 s.data.toList)
    have hlen : s.data.toList.length = s.size := by simp
    rw [hlen] at HN
    have ht : (s.extract (s.size - 1) s.size).data.toList = s.data.toList.drop (s.size - 1) := by
      simp only [ByteArray.data_extract, Array.toList_extract, List.extract_eq_take_drop]
      exact List.take_of_length_le (by simp)
    have hf : (s.extract 0 (s.size - 1)).data.toList = s.data.toList.take (s.size - 1) := by
      simp only [ByteArray.data_extract, Array.toList_extract, List.extract_eq_take_drop]
      simp
    have hzl : (⟨#[48]⟩ ++ s.extract 0 (s.size - 1)).data.toList = 48 :: s.data.toList.take (s.size - 1) := by rw [← hf]; simp
    have hzz : (⟨#[48]⟩ ++ s.extract 0 (s.size - 1)).size ≤ 4000001 := by
      have h9 := congrArg List.length hzl
      rw [List.length_cons, List.length_take] at h9
      have h8 : (⟨#[48]⟩ ++ s.extract 0 (s.size - 1)).size = (⟨#[48]⟩ ++ s.extract 0 (s.size - 1)).data.toList.length := Lib.size_eq _
      omega
    have HL := Lib.hid (fun W => parseHex_any (s.extract (s.size - 1) s.size) 15 W (by simp; omega) (by omega) (by omega))
    have HH := Lib.hid (fun W => parseHex_any (⟨#[48]⟩ ++ s.extract 0 (s.size - 1)) (most / 16) W (by omega) (by omega) (by omega))
    rw [ht] at HL
    rw [hzl] at HH
    have HLr := Lib.hid (fun n (h : num hexV 16 15 (s.data.toList.drop (s.size - 1)) = .ok n) => num_range digits16 h)
    have HHr := Lib.hid (fun n (h : num hexV 16 (most / 16) (48 :: s.data.toList.take (s.size - 1)) = .ok n) => num_range digits16 h)
    clear ht hf hzl hzz hlen
    generalize num hexV 16 15 (s.data.toList.drop (s.size - 1)) = lo at *
    generalize num hexV 16 (most / 16) (48 :: s.data.toList.take (s.size - 1)) = hi at *
    generalize sizeN (num hexV 16 most s.data.toList) = R at *
    unfold NumIn at HL HH
    have hlo : (∃ a, lo = .ok a) ∨ (∃ er, numRes lo = .tuple #[.int .i64 0, er] ∧ ∃ st k, er = baseF st k ∧ R = .bad st) := by
      cases lo with
      | ok a => exact .inl ⟨a, rfl⟩
      | bad j => exact .inr ⟨_, rfl, 400, _, rfl, HN.out⟩
      | great => exact .inr ⟨_, rfl, 413, _, rfl, HN.out⟩
    rcases hlo with ⟨a, rfl⟩ | ⟨er, hr, st, k, rfl, hR⟩
    · have ha := HLr.out a rfl
      have hhi : (∃ h, hi = .ok h) ∨ (∃ er, numRes hi = .tuple #[.int .i64 0, er] ∧ ∃ st k, er = baseF st k ∧ R = .bad st) := by
        cases hi with
        | ok a => exact .inl ⟨a, rfl⟩
        | bad j => exact .inr ⟨_, rfl, 400, _, rfl, HN.out⟩
        | great => exact .inr ⟨_, rfl, 413, _, rfl, HN.out⟩
      rcases hhi with ⟨h, rfl⟩ | ⟨er, hr, st, k, rfl, hR⟩
      · have hh := HHr.out h rfl
        have HN2 := Lib.hid (show R = if most < h * 16 + a then .bad 413 else .ok (h * 16 + a).toNat from HN.out)
        clear HN HLr HHr
        have hh2 : h * 16 ≤ most := by omega
        unfold numRes at HL HH
        by_cases hm : most < h * 16 + a
        · have HR := Lib.hid (show R = .bad 413 by rw [HN2.out, if_pos hm])
          clear HN2
          go_enter Tryz.func84, Tryz.ntmps84
          go_wp2_with fail
          refine (HL.out _).mono ?_
          rintro e w1 ⟨rfl, rfl⟩
          go_wp2_with fail
          refine (HH.out _).mono ?_
          rintro e w1 ⟨rfl, rfl⟩
          go_wp2_with fail
          go_ret2
          exact sizeTo_bad HR.out (.inl rfl) (Below.refl _ _)
        · have HR := Lib.hid (show R = .ok (h * 16 + a).toNat by rw [HN2.out, if_neg hm])
          clear HN2
          go_enter Tryz.func84, Tryz.ntmps84
          go_wp2_with fail
          refine (HL.out _).mono ?_
          rintro e w1 ⟨rfl, rfl⟩
          go_wp2_with fail
          refine (HH.out _).mono ?_
          rintro e w1 ⟨rfl, rfl⟩
          go_wp2_with fail
          go_ret2
          exact sizeTo_ok HR.out (by omega) (Below.refl _ _)
      · have HR := Lib.hid hR
        clear hR HN HLr HHr
        rw [hr] at HH
        clear hr
        unfold numRes at HL
        unfold baseF at HH
        go_enter Tryz.func84, Tryz.ntmps84
        go_wp2_with fail
        refine (HL.out _).mono ?_
        rintro e w1 ⟨rfl, rfl⟩
        go_wp2_with fail
        refine (HH.out _).mono ?_
        rintro e w1 ⟨rfl, rfl⟩
        go_wp2_with fail
        go_ret2
        exact sizeTo_bad HR.out (.inr ⟨_, rfl⟩) (Below.refl _ _)
    · have HR := Lib.hid hR
      clear hR HN HLr HHr
      rw [hr] at HL
      clear hr
      unfold baseF at HL
      go_enter Tryz.func84, Tryz.ntmps84
      go_wp2_with fail
      refine (HL.out _).mono ?_
      rintro e w1 ⟨rfl, rfl⟩
      go_wp2_with fail
      go_ret2
      exact sizeTo_bad HR.out (.inr ⟨_, rfl⟩) (Below.refl _ _)
end Go.Proofs.YtbjfdakanhaagaaGreatDoor
