/- The laws of layer 18: HostCase. -/
import Derived.Test.YtadocpoejbnhpaaDoorQHstO
namespace Go.Proofs.YtadocpoejbnhpaaDoor
set_option linter.all false
open Go.RowKit
theorem lowU_hn : ∀ c : UInt8, hnU (lowU c) = hnU c := by
  intro c
  have : ∀ n : Fin 256, hnU (lowU (UInt8.ofNat n.val)) = hnU (UInt8.ofNat n.val) := by decide +kernel
  have h := this ⟨c.toNat, c.toNat_lt⟩
  simpa using h
theorem lowU_in : ∀ c : UInt8, inU (lowU c) = inU c := by
  intro c
  have : ∀ n : Fin 256, inU (lowU (UInt8.ofNat n.val)) = inU (UInt8.ofNat n.val) := by decide +kernel
  have h := this ⟨c.toNat, c.toNat_lt⟩
  simpa using h
theorem lowU_two : ∀ c : UInt8, lowU (lowU c) = lowU c := by
  intro c
  have : ∀ n : Fin 256, lowU (lowU (UInt8.ofNat n.val)) = lowU (UInt8.ofNat n.val) := by decide +kernel
  have h := this ⟨c.toNat, c.toNat_lt⟩
  simpa using h
theorem lowU_br : ∀ c : UInt8, c = 91 -> lowU c = 91 := by intro c h; subst h; decide
theorem all_low {p : UInt8 -> Bool} (h : ∀ c, p (lowU c) = p c) (l : List UInt8) : (l.map lowU).all p = l.all p := by
  induction l with
  | nil => rfl
  | cons c l ih => rw [List.map_cons, List.all_cons, List.all_cons, ih, h]
theorem name_low {l : List UInt8} (h : nameL l = true) : nameL (l.map lowU) = true := by
  cases l with
  | nil => cases h
  | cons c l =>
    rw [List.map_cons]
    rw [nameL] at h
    by_cases hc : c = 91
    · rw [if_pos hc] at h
      simp only [Bool.and_eq_true, decide_eq_true_eq] at h
      obtain ⟨h1, h2, h3⟩ := h
      rw [nameL, if_pos (lowU_br c hc)]
      simp only [Bool.and_eq_true, decide_eq_true_eq]
      refine ⟨by rw [List.getLast?_map, h1]; rfl, by rw [List.length_map]; exact h2, ?_⟩
      rw [<- List.map_dropLast, all_low lowU_in]
      exact h3
    · rw [if_neg hc] at h
      have := all_low lowU_hn (c :: l)
      rw [h] at this
      rw [List.map_cons] at this
      exact name_all this (by simp)
theorem lowS_two (s : ByteArray) : lowS (lowS s) = lowS s := by
  unfold lowS
  congr 2
  show (s.data.toList.map lowU).map lowU = s.data.toList.map lowU
  rw [List.map_map]
  congr 1
  funext c
  exact lowU_two c
theorem findH_low (n : ByteArray) : ∀ (Ls : List (List ByteArray)) (i : Nat), findH (lowS n) i Ls = findH n i Ls
  | [], i => rfl
  | L :: r, i => by
    rw [findH, findH, findH_low n r (i + 1)]
    rw [lowS_two]
theorem low_data (s : ByteArray) : (⟨(lowS s).data.toList.toArray⟩ : ByteArray) = lowS s := rfl
theorem hostR_is (L : List HostVv) {s n : ByteArray} {p : Int} (h : hostP s.data.toList = .ok ((lowS n).data.toList, p)) : hostR L (hostP s.data.toList) = .ok (findH n 0 (L.map (·.1))) := by
  rw [h]
  show Except.ok (findH ⟨(lowS n).data.toList.toArray⟩ 0 (L.map (·.1))) = _
  rw [low_data, findH_low]
theorem colon_parsed {n t : ByteArray} (hn : nameL n.data.toList = true) (ht : t = n ++ ⟨#[58]⟩) : hostP t.data.toList = .ok ((lowS n).data.toList, -1) := by
  have e : t.data.toList = n.data.toList ++ 58 :: [] := by rw [ht]; simp
  rw [e, host_port hn (by simp), portL_eq]
  rfl
theorem choose_fieldP (L : List HostVv) (th f : ByteArray) : chooseP L 1 th f true = hostR L (hostP f.data.toList) := by
  unfold chooseP
  rw [if_neg (by decide), if_pos rfl]
theorem choose_absP (L : List HostVv) (th f : ByteArray) (b : Bool) : chooseP L 2 th f b = hostR L (hostP th.data.toList) := by
  unfold chooseP
  rw [if_pos rfl]
def ChooseIs (F : Int) (w : World) (e : Ending) (w' : World) : Prop := e = .returned (.tuple #[.int .i64 F, .nilIface]) /\ Below w.heap.size w w'
theorem choose_is {r : Except Nat Int} {F : Int} (h : r = .ok F) {w : World} {e : Ending} {w' : World} (k : ChooseTo r w e w') : ChooseIs F w e w' := by
  obtain ⟨v, h1, h2, h3⟩ := k
  rw [h] at h1 h2
  have h2 : v = .nilIface := h2
  rw [h2] at h1
  exact ⟨h1, h3⟩
def tC : List Value := [.int .i64 1, .string ⟨#[]⟩, .slice none 0 0, .bool false, .string ⟨#[]⟩, .bool false]
set_option maxRecDepth 100000 in
set_option maxHeartbeats 8000000 in
theorem hostCase_main (v : Value) (R : Nat -> Prop) (L : List HostVv) (nm : ByteArray) (port : Int) (w : World) (hv : hostK.rows R w v L) (hg : ErrType w) (hp0 : 0 <= port) (hp1 : port <= 65535) (hf : fewH L = true) (hn : nm.size <= 100) (hnm : nameL nm.data.toList = true) : Calls Tryd.prog 7 #[v, .string nm, .int .u16 port] w (SaysIn true w) := by
  have hnn := Tryd.eqNNs
  have hq := Tryd.eqNil
  have HG := Lib.hid hg
  have HA := Lib.hid (fun w hg => awake18 w hg)
  have HFw := Lib.hid (fun W (h : Below w.heap.size w W) => few18_any v R L W (Kind.rows_below _ hv h))
  rw [hf] at HFw
  obtain ⟨hsz, hl10⟩ := fewH_out hf
  have hx : ∀ h ∈ L, ∀ x ∈ h.1, x.size <= 1000000 := fun h hh x hx => by have := hsz h hh x hx; omega
  have b100 : decide (100 < (nm.size : Int)) = false := by simp; omega
  have HNm := Lib.hid (fun w => refName_any nm w (by omega))
  rw [hnm] at HNm
  have HLo := Lib.hid (fun w => refLower_any nm w (by omega))
  have HTx := Lib.hid (fun w => hText_any nm port w (by omega) (by omega))
  have hty := htxt_size (n := nm) (p := port) (by omega)
  have hlw : (lowS nm).size <= 1000000 := by
    have : (lowS nm).size = nm.size := by unfold lowS; show (nm.data.toList.map lowU).toArray.size = _; simp
    omega
  obtain ⟨F, hF⟩ : ∃ F, F = findH nm 0 (L.map (·.1)) := ⟨_, rfl⟩
  have hfa : chooseP L 1 ⟨#[]⟩ nm true = .ok F := by rw [choose_fieldP, hF]; exact hostR_is L (p := -1) (host_alone hnm)
  have hfb : chooseP L 1 ⟨#[]⟩ (lowS nm) true = .ok F := by
    rw [choose_fieldP, hF, <- findH_low]
    exact hostR_is L (n := lowS nm) (p := -1) (host_alone (name_low hnm))
  have hfc : chooseP L 1 ⟨#[]⟩ (htxt nm port) true = .ok F := by rw [choose_fieldP, hF]; exact hostR_is L (htxt_parsed hnm (by omega) hp1)
  have hfd : chooseP L 2 (nm ++ ⟨#[58]⟩) ⟨#[111, 116, 104, 101, 114]⟩ true = .ok F := by rw [choose_absP, hF]; exact hostR_is L (colon_parsed hnm rfl)
  have HCa := Lib.hid (fun W (h : Below w.heap.size w W) => (hChoose_any v R L 1 ⟨#[]⟩ none 0 0 false ⟨#[]⟩ false nm W true (Kind.rows_below _ hv h) hx (by decide) (by omega)).mono fun e w' k => choose_is hfa k)
  have HCb := Lib.hid (fun W (h : Below w.heap.size w W) => (hChoose_any v R L 1 ⟨#[]⟩ none 0 0 false ⟨#[]⟩ false (lowS nm) W true (Kind.rows_below _ hv h) hx (by decide) hlw).mono fun e w' k => choose_is hfb k)
  have HCc := Lib.hid (fun W (h : Below w.heap.size w W) => (hChoose_any v R L 1 ⟨#[]⟩ none 0 0 false ⟨#[]⟩ false (htxt nm port) W true (Kind.rows_below _ hv h) hx (by decide) (by omega)).mono fun e w' k => choose_is hfc k)
  have hcs : (nm ++ ⟨#[58]⟩ : ByteArray).size <= 1000000 := by rw [ByteArray.size_append]; show nm.size + 1 <= _; omega
  have HCd := Lib.hid (fun W (h : Below w.heap.size w W) => (hChoose_any v R L 2 (nm ++ ⟨#[58]⟩) none 0 0 false ⟨#[]⟩ false ⟨#[111, 116, 104, 101, 114]⟩ W true (Kind.rows_below _ hv h) hx hcs (by decide)).mono fun e w' k => choose_is hfd k)
  have HFr := Lib.hid (fun W (h : Below w.heap.size w W) => refFind18_any v R L nm W (Kind.rows_below _ hv h) hx (by omega))
  rw [<- hF] at HFr
  obtain ⟨pt, ct, rfl⟩ := Kind.rows_sliced _ hv
  generalize L.length = ln at HFw HCa HCb HCc HCd HFr
  obtain ⟨y, hy⟩ : ∃ y, y = lowS nm := ⟨_, rfl⟩
  rw [<- hy] at HLo HCb
  obtain ⟨t, ht⟩ : ∃ t, t = htxt nm port := ⟨_, rfl⟩
  rw [<- ht] at HTx HCc
  have cX : (9223372036854775807 < nm.size + 1) = False := eq_false (by omega)
  have hwp : IntKind.i64.wrap port = port := by rw [IntKind.wrap_i64] <;> omega
  clear hg hv hx hsz hl10 hf hnm hF hfa hfb hfc hfd hty hlw hy ht hcs
  go_enter Tryd.func7, Tryd.ntmps7
  go_wp2_with fail
  refine (HA.out _ HG.out).mono ?_
  rintro e w1 ⟨rfl, b1⟩
  have B1 := Lib.hid b1
  clear b1 HA
  go_wp2_with fail
  refine (HFw.out _ B1.out).mono ?_
  rintro e w2 ⟨rfl, rfl⟩
  go_wp2_with fail
  refine (HNm.out _).mono ?_
  rintro e w2 ⟨rfl, rfl⟩
  obtain ⟨W1, hW1⟩ : ∃ W, W = w1.alloc (.cells #[.int .i64 1, .string ⟨#[]⟩, .slice none 0 0, .bool false, .string ⟨#[]⟩, .bool false] 50) := ⟨_, rfl⟩
  have X1 := Lib.hid (show Box W1 w1.heap.size tC by rw [hW1]; exact Box.new w1 tC 50)
  have B2 := Lib.hid (show Below w.heap.size w W1 by rw [hW1]; exact B1.out.alloc B1.out.size _)
  have HW1 := Lib.hid hW1
  obtain ⟨g, hgg⟩ : ∃ g, g = w1.heap.size := ⟨_, rfl⟩
  rw [<- hgg] at X1
  have HGg := Lib.hid hgg
  clear hW1 hgg B1 HFw HNm
  go_wp2_with fail
  rw [<- HW1.out, <- HGg.out]
  clear HW1 HGg
  refine (HCa.out _ B2.out).mono ?_
  rintro e w3 ⟨rfl, b3⟩
  have X3 := Lib.hid (X1.out.below b3)
  have B3 := Lib.hid (B2.out.trans (b3.mono B2.out.size))
  clear b3 X1 B2 HCa
  have X3d := Lib.hid X3.out.drew
  have c0 : w3.drew.cell? ⟨g, 0, none⟩ = some (.int .i64 1) := X3d.out.cell rfl
  have c1 : w3.drew.cell? ⟨g, 1, none⟩ = some (.string ⟨#[]⟩) := X3d.out.cell rfl
  have c2 : w3.drew.cell? ⟨g, 2, none⟩ = some (.slice none 0 0) := X3d.out.cell rfl
  have c3 : w3.drew.cell? ⟨g, 3, none⟩ = some (.bool false) := X3d.out.cell rfl
  have c4 : w3.drew.cell? ⟨g, 4, none⟩ = some (.string ⟨#[]⟩) := X3d.out.cell rfl
  have c5 : w3.drew.cell? ⟨g, 5, none⟩ = some (.bool false) := X3d.out.cell rfl
  go_wp2_with fail
  go_region_held3 (fun W => W.cell? ⟨g, 0, none⟩ = some (.int .i64 1) /\ W.cell? ⟨g, 1, none⟩ = some (.string ⟨#[]⟩) /\ W.cell? ⟨g, 2, none⟩ = some (.slice none 0 0) /\ W.cell? ⟨g, 3, none⟩ = some (.bool false) /\ W.cell? ⟨g, 4, none⟩ = some (.string ⟨#[]⟩) /\ W.cell? ⟨g, 5, none⟩ = some (.bool false)) (first | with_reducible exact ⟨c0, c1, c2, c3, c4, c5⟩ | with_reducible exact ⟨d0, d1, d2, d3, d4, d5⟩ | with_reducible exact ⟨q0, q1, q2, q3, q4, q5⟩) (first | (go_at_call 15; refine (HLo.out _).mono ?_; rintro e w4 ⟨rfl, b4⟩; have X4 := Lib.hid (X3.out.drew.below b4); have d0 : w4.cell? ⟨g, 0, none⟩ = some (.int .i64 1) := X4.out.cell rfl; have d1 : w4.cell? ⟨g, 1, none⟩ = some (.string ⟨#[]⟩) := X4.out.cell rfl; have d2 : w4.cell? ⟨g, 2, none⟩ = some (.slice none 0 0) := X4.out.cell rfl; have d3 : w4.cell? ⟨g, 3, none⟩ = some (.bool false) := X4.out.cell rfl; have d4 : w4.cell? ⟨g, 4, none⟩ = some (.string ⟨#[]⟩) := X4.out.cell rfl; have d5 : w4.cell? ⟨g, 5, none⟩ = some (.bool false) := X4.out.cell rfl; have B4 := Lib.hid (B3.out.drew.trans (b4.mono B3.out.drew.size)); clear b4) | (go_at_call 18; refine (HCb.out _ B4.out).mono ?_; rintro e w5 ⟨rfl, b5⟩; have X5 := Lib.hid (X4.out.below b5); have q0 : w5.cell? ⟨g, 0, none⟩ = some (.int .i64 1) := X5.out.cell rfl; have q1 : w5.cell? ⟨g, 1, none⟩ = some (.string ⟨#[]⟩) := X5.out.cell rfl; have q2 : w5.cell? ⟨g, 2, none⟩ = some (.slice none 0 0) := X5.out.cell rfl; have q3 : w5.cell? ⟨g, 3, none⟩ = some (.bool false) := X5.out.cell rfl; have q4 : w5.cell? ⟨g, 4, none⟩ = some (.string ⟨#[]⟩) := X5.out.cell rfl; have q5 : w5.cell? ⟨g, 5, none⟩ = some (.bool false) := X5.out.cell rfl; have B5 := Lib.hid (B4.out.trans (b5.mono B4.out.size)); clear b5))
  all_goals
    clear X3 B3 X4 B4 HCb HLo c0 c1 c2 c3 c4 c5 d0 d1 d2 d3 d4 d5 q0 q1 q2 q3 q4 q5
    have X5d := Lib.hid X5.out.drew
    have c0 : w5.drew.cell? ⟨g, 0, none⟩ = some (.int .i64 1) := X5d.out.cell rfl
    have c1 : w5.drew.cell? ⟨g, 1, none⟩ = some (.string ⟨#[]⟩) := X5d.out.cell rfl
    have c2 : w5.drew.cell? ⟨g, 2, none⟩ = some (.slice none 0 0) := X5d.out.cell rfl
    have c3 : w5.drew.cell? ⟨g, 3, none⟩ = some (.bool false) := X5d.out.cell rfl
    have c4 : w5.drew.cell? ⟨g, 4, none⟩ = some (.string ⟨#[]⟩) := X5d.out.cell rfl
    have c5 : w5.drew.cell? ⟨g, 5, none⟩ = some (.bool false) := X5d.out.cell rfl
    go_wp2_with fail
    go_region_held3 (fun W => W.cell? ⟨g, 0, none⟩ = some (.int .i64 1) /\ W.cell? ⟨g, 1, none⟩ = some (.string ⟨#[]⟩) /\ W.cell? ⟨g, 2, none⟩ = some (.slice none 0 0) /\ W.cell? ⟨g, 3, none⟩ = some (.bool false) /\ W.cell? ⟨g, 4, none⟩ = some (.string ⟨#[]⟩) /\ W.cell? ⟨g, 5, none⟩ = some (.bool false)) (first | with_reducible exact ⟨c0, c1, c2, c3, c4, c5⟩ | with_reducible exact ⟨d0, d1, d2, d3, d4, d5⟩ | with_reducible exact ⟨q0, q1, q2, q3, q4, q5⟩) (first | (go_at_call 12; refine (HTx.out _).mono ?_; rintro e w6 ⟨rfl, b6⟩; have X6 := Lib.hid (X5.out.drew.below b6); have d0 : w6.cell? ⟨g, 0, none⟩ = some (.int .i64 1) := X6.out.cell rfl; have d1 : w6.cell? ⟨g, 1, none⟩ = some (.string ⟨#[]⟩) := X6.out.cell rfl; have d2 : w6.cell? ⟨g, 2, none⟩ = some (.slice none 0 0) := X6.out.cell rfl; have d3 : w6.cell? ⟨g, 3, none⟩ = some (.bool false) := X6.out.cell rfl; have d4 : w6.cell? ⟨g, 4, none⟩ = some (.string ⟨#[]⟩) := X6.out.cell rfl; have d5 : w6.cell? ⟨g, 5, none⟩ = some (.bool false) := X6.out.cell rfl; have B6 := Lib.hid (B5.out.drew.trans (b6.mono B5.out.drew.size)); clear b6) | (go_at_call 18; refine (HCc.out _ B6.out).mono ?_; rintro e w7 ⟨rfl, b7⟩; have X7 := Lib.hid (X6.out.below b7); have q0 : w7.cell? ⟨g, 0, none⟩ = some (.int .i64 1) := X7.out.cell rfl; have q1 : w7.cell? ⟨g, 1, none⟩ = some (.string ⟨#[]⟩) := X7.out.cell rfl; have q2 : w7.cell? ⟨g, 2, none⟩ = some (.slice none 0 0) := X7.out.cell rfl; have q3 : w7.cell? ⟨g, 3, none⟩ = some (.bool false) := X7.out.cell rfl; have q4 : w7.cell? ⟨g, 4, none⟩ = some (.string ⟨#[]⟩) := X7.out.cell rfl; have q5 : w7.cell? ⟨g, 5, none⟩ = some (.bool false) := X7.out.cell rfl; have B7 := Lib.hid (B6.out.trans (b7.mono B6.out.size)); clear b7))
    all_goals
      clear X5 X5d B5 X6 B6 HCc HTx c0 c1 c2 c3 c4 c5 d0 d1 d2 d3 d4 d5 q0 q1 q2 q3 q4 q5
      go_wp2_with fail
      refine (HCd.out _ B7.out).mono ?_
      rintro e w8 ⟨rfl, b8⟩
      have B8 := Lib.hid (B7.out.trans (b8.mono B7.out.size))
      clear b8 B7 HCd X7
      go_wp2_with fail
      refine (HFr.out _ B8.out).mono ?_
      rintro e w9 ⟨rfl, b9⟩
      have B9 := Lib.hid (B8.out.trans (b9.mono B8.out.size))
      clear b9 B8 HFr
      go_wp2_with fail
      go_ret
      exact saysIn_of' (by simp) B9.out
set_option maxRecDepth 100000 in
set_option maxHeartbeats 8000000 in
theorem hostCase_few (v : Value) (R : Nat -> Prop) (L : List HostVv) (nm : ByteArray) (port : Int) (w : World) (hv : hostK.rows R w v L) (hg : ErrType w) (hf : fewH L = false) : Calls Tryd.prog 7 #[v, .string nm, .int .u16 port] w (SaysIn true w) := by
  have HG := Lib.hid hg
  have HA := Lib.hid (fun w hg => awake18 w hg)
  have HFw := Lib.hid (fun W (h : Below w.heap.size w W) => few18_any v R L W (Kind.rows_below _ hv h))
  rw [hf] at HFw
  obtain ⟨pt, ct, rfl⟩ := Kind.rows_sliced _ hv
  generalize L.length = ln at HFw
  clear hf hv hg
  go_enter Tryd.func7, Tryd.ntmps7
  go_wp2_with fail
  refine (HA.out _ HG.out).mono ?_
  rintro e w1 ⟨rfl, b1⟩
  have B1 := Lib.hid b1
  clear b1
  go_wp2_with fail
  refine (HFw.out _ B1.out).mono ?_
  rintro e w2 ⟨rfl, rfl⟩
  go_wp2_with fail
  refine (HA.out _ (HG.out.below B1.out)).mono ?_
  rintro e w2 ⟨rfl, b2⟩
  have B2 := Lib.hid (B1.out.trans (b2.mono B1.out.size))
  clear b2
  go_wp2
  go_ret
  exact saysIn_of' rfl B2.out
set_option maxRecDepth 100000 in
set_option maxHeartbeats 8000000 in
theorem hostCase_long (v : Value) (R : Nat -> Prop) (L : List HostVv) (nm : ByteArray) (port : Int) (w : World) (hv : hostK.rows R w v L) (hg : ErrType w) (hf : fewH L = true) (hn : ¬ nm.size <= 100) : Calls Tryd.prog 7 #[v, .string nm, .int .u16 port] w (SaysIn true w) := by
  have HG := Lib.hid hg
  have HA := Lib.hid (fun w hg => awake18 w hg)
  have HFw := Lib.hid (fun W (h : Below w.heap.size w W) => few18_any v R L W (Kind.rows_below _ hv h))
  rw [hf] at HFw
  have b100 : decide (100 < (nm.size : Int)) = true := by simp; omega
  obtain ⟨pt, ct, rfl⟩ := Kind.rows_sliced _ hv
  generalize L.length = ln at HFw
  clear hf hv hg hn
  go_enter Tryd.func7, Tryd.ntmps7
  go_wp2_with fail
  refine (HA.out _ HG.out).mono ?_
  rintro e w1 ⟨rfl, b1⟩
  have B1 := Lib.hid b1
  clear b1
  go_wp2_with fail
  refine (HFw.out _ B1.out).mono ?_
  rintro e w2 ⟨rfl, rfl⟩
  go_wp2_with fail
  refine (HA.out _ (HG.out.below B1.out)).mono ?_
  rintro e w2 ⟨rfl, b2⟩
  have B2 := Lib.hid (B1.out.trans (b2.mono B1.out.size))
  clear b2
  go_wp2
  go_ret
  exact saysIn_of' rfl B2.out
set_option maxRecDepth 100000 in
set_option maxHeartbeats 8000000 in
theorem hostCase_none (v : Value) (R : Nat -> Prop) (L : List HostVv) (nm : ByteArray) (port : Int) (w : World) (hv : hostK.rows R w v L) (hg : ErrType w) (hf : fewH L = true) (hn : nm.size <= 100) (hnm : nameL nm.data.toList = false) : Calls Tryd.prog 7 #[v, .string nm, .int .u16 port] w (SaysIn true w) := by
  have HG := Lib.hid hg
  have HA := Lib.hid (fun w hg => awake18 w hg)
  have HFw := Lib.hid (fun W (h : Below w.heap.size w W) => few18_any v R L W (Kind.rows_below _ hv h))
  rw [hf] at HFw
  have b100 : decide (100 < (nm.size : Int)) = false := by simp; omega
  have HNm := Lib.hid (fun w => refName_any nm w (by omega))
  rw [hnm] at HNm
  obtain ⟨pt, ct, rfl⟩ := Kind.rows_sliced _ hv
  generalize L.length = ln at HFw
  clear hf hv hg hn hnm
  go_enter Tryd.func7, Tryd.ntmps7
  go_wp2_with fail
  refine (HA.out _ HG.out).mono ?_
  rintro e w1 ⟨rfl, b1⟩
  have B1 := Lib.hid b1
  clear b1
  go_wp2_with fail
  refine (HFw.out _ B1.out).mono ?_
  rintro e w2 ⟨rfl, rfl⟩
  go_wp2_with fail
  refine (HNm.out _).mono ?_
  rintro e w2 ⟨rfl, rfl⟩
  go_wp2_with fail
  refine (HA.out _ (HG.out.below B1.out)).mono ?_
  rintro e w2 ⟨rfl, b2⟩
  have B2 := Lib.hid (B1.out.trans (b2.mono B1.out.size))
  clear b2
  go_wp2
  go_ret
  exact saysIn_of' rfl B2.out
theorem hostCase_any (v : Value) (R : Nat -> Prop) (L : List HostVv) (nm : ByteArray) (port : Int) (w : World) (hv : hostK.rows R w v L) (hg : ErrType w) (hp0 : 0 <= port) (hp1 : port <= 65535) : Calls Tryd.prog 7 #[v, .string nm, .int .u16 port] w (SaysIn true w) := by
  cases hf : fewH L
  · exact hostCase_few v R L nm port w hv hg hf
  · by_cases hn : nm.size <= 100
    · cases hnm : nameL nm.data.toList
      · exact hostCase_none v R L nm port w hv hg hf hn hnm
      · exact hostCase_main v R L nm port w hv hg hp0 hp1 hf hn hnm
    · exact hostCase_long v R L nm port w hv hg hf hn
end Go.Proofs.YtadocpoejbnhpaaDoor
