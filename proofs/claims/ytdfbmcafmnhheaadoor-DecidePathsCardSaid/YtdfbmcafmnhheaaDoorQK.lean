/- Texts of one seat, merged: HosK, CnfK, FewH, CnfA, CnfB, TxtE, PctP, SegP, FewW, GrO. -/
import Derived.StillTailTactics
import Derived.Deep.Light
import Derived.Lib.DecodeN
import Derived.Test.YtdfbmcafmnhheaaDoorQA
import Derived.Test.YtdfbmcafmnhheaaDoorQV
import Derived.Test.YtdfbmcafmnhheaaDoorQF
namespace Go.Proofs.YtdfbmcafmnhheaaDoor
set_option linter.all false
open Go.RowKit
abbrev GrantV := ByteArray × Bool × Bool
abbrev RuleV := List ByteArray × List GrantV × Bool × ByteArray
abbrev HostVv := List ByteArray × List ByteArray × List RuleV
def grantK : Kind GrantV := Kind.str.and (Kind.bool.and Kind.bool)
def ruleK : Kind RuleV := (Kind.slice Kind.str).and ((Kind.slice grantK).and (Kind.bool.and Kind.str))
def hostK : Kind HostVv := (Kind.slice Kind.str).and ((Kind.slice Kind.str).and (Kind.slice ruleK))
theorem strs_len {w : World} {v : Value} {L : List ByteArray} (h : StrsIn w v L) : L.length <= 9223372036854775807 := by
  rcases h with ⟨rfl, _⟩ | ⟨_, _, _, _, h1, h2, _⟩
  · simp
  · omega
end Go.Proofs.YtdfbmcafmnhheaaDoor
namespace Go.Proofs.YtdfbmcafmnhheaaDoor
set_option linter.all false
open Go.RowKit
theorem grantK_cells {R : Nat -> Prop} {w : World} {cs : List Value} {u : GrantV} (hi : grantK.In R w cs u) : cs = [.string u.1, .bool u.2.1, .bool u.2.2] := by
  obtain ⟨a, b, rfl, h1, c, d, rfl, h2, h3⟩ := hi
  have h1 : a = [.string u.1] := h1
  have h2 : c = [.bool u.2.1] := h2
  have h3 : d = [.bool u.2.2] := h3
  subst h1 h2 h3; rfl
theorem ruleK_cells {R : Nat -> Prop} {w : World} {cs : List Value} {r : RuleV} (hi : ruleK.In R w cs r) : ∃ p0 c0 p1 c1, cs = [.slice p0 r.1.length c0, .slice p1 r.2.1.length c1, .bool r.2.2.1, .string r.2.2.2] /\ StrsIn w (.slice p0 r.1.length c0) r.1 /\ grantK.rows R w (.slice p1 r.2.1.length c1) r.2.1 := by
  obtain ⟨a, b, rfl, ⟨v0, rfl, h0⟩, c, d, rfl, ⟨v1, rfl, h1⟩, e, f, rfl, h2, h3⟩ := hi
  obtain ⟨p0, c0, rfl⟩ := Kind.rows_sliced _ h0
  obtain ⟨p1, c1, rfl⟩ := Kind.rows_sliced _ h1
  have h2 : e = [.bool r.2.2.1] := h2
  have h3 : f = [.string r.2.2.2] := h3
  subst h2 h3
  exact ⟨p0, c0, p1, c1, rfl, Kind.strs_of h0, h1⟩
theorem hostK_cells2 {R : Nat -> Prop} {w : World} {cs : List Value} {h : HostVv} (hi : hostK.In R w cs h) : ∃ p0 c0 p1 c1 p2 c2, cs = [.slice p0 h.1.length c0, .slice p1 h.2.1.length c1, .slice p2 h.2.2.length c2] /\ StrsIn w (.slice p0 h.1.length c0) h.1 /\ StrsIn w (.slice p1 h.2.1.length c1) h.2.1 /\ ruleK.rows R w (.slice p2 h.2.2.length c2) h.2.2 := by
  obtain ⟨a, b, rfl, ⟨v0, rfl, h0⟩, c, d, rfl, ⟨v1, rfl, h1⟩, ⟨v2, rfl, h2⟩⟩ := hi
  obtain ⟨p0, c0, rfl⟩ := Kind.rows_sliced _ h0
  obtain ⟨p1, c1, rfl⟩ := Kind.rows_sliced _ h1
  obtain ⟨p2, c2, rfl⟩ := Kind.rows_sliced _ h2
  exact ⟨p0, c0, p1, c1, p2, c2, rfl, Kind.strs_of h0, Kind.strs_of h1, h2⟩
theorem Tryd.uRules : Tryd.prog.underlying 35 = some (.slice (Tryd.prog.elem 35)) := by kernel_rfl
theorem Tryd.zRules (w : World) : (sizeOf (Tryd.prog.elem 35)).run Tryd.prog w = .ok ruleK.sz w := by kernel_rfl
theorem Tryd.uGrants : Tryd.prog.underlying 23 = some (.slice (Tryd.prog.elem 23)) := by kernel_rfl
theorem Tryd.zGrants (w : World) : (sizeOf (Tryd.prog.elem 23)).run Tryd.prog w = .ok grantK.sz w := by kernel_rfl
end Go.Proofs.YtdfbmcafmnhheaaDoor
namespace Go.Proofs.YtdfbmcafmnhheaaDoor
set_option linter.all false
open Go.RowKit
end Go.Proofs.YtdfbmcafmnhheaaDoor
namespace Go.Proofs.YtdfbmcafmnhheaaDoor
set_option linter.all false
open Go.RowKit
theorem all_no_at {α : Type} {f : α -> Bool} {L : List α} {k : Nat} (hk : k < L.length) (h : f L[k] = false) : L.all f = false := by
  rw [Bool.eq_false_iff]
  exact fun e => by rw [List.all_eq_true.1 e _ (List.getElem_mem hk)] at h; cases h
theorem all_yes_at {α : Type} {f : α -> Bool} {L : List α} (h : ∀ k (hk : k < L.length), f L[k] = true) : L.all f = true := by
  rw [List.all_eq_true]
  intro x hx
  obtain ⟨i, hi, rfl⟩ := List.mem_iff_getElem.1 hx
  exact h i hi
end Go.Proofs.YtdfbmcafmnhheaaDoor
namespace Go.Proofs.YtdfbmcafmnhheaaDoor
set_option linter.all false
open Go.RowKit
theorem upto_more {α : Type} {f : α -> Bool} {L : List α} {q : Nat} {y : α} (hq : q < L.length) (hy : y = L[q]) (h : ∀ i (hi : i < L.length), i < q -> f L[i] = true) (e : f y = true) : ∀ i (hi : i < L.length), i < q + 1 -> f L[i] = true := fun i hi h2 => by
  rcases Nat.lt_or_ge i q with h3 | h3
  · exact h i hi h3
  · obtain rfl : i = q := by omega
    rw [<- hy]; exact e
theorem no_at' {α : Type} {f : α -> Bool} {L : List α} {k : Nat} {y : α} (hk : k < L.length) (hy : y = L[k]) (h : f y = false) : L.all f = false := all_no_at hk (by rw [<- hy]; exact h)
theorem hostBox (w : World) (p0 : Option Addr) (n0 c0 : Nat) (p1 : Option Addr) (n1 c1 : Nat) (p2 : Option Addr) (n2 c2 : Nat) :
    Box (w.alloc (.cells #[.slice p0 n0 c0, .slice p1 n1 c1, .slice p2 n2 c2] 37)) w.heap.size [.slice p0 n0 c0, .slice p1 n1 c1, .slice p2 n2 c2] /\
    Below w.heap.size w (w.alloc (.cells #[.slice p0 n0 c0, .slice p1 n1 c1, .slice p2 n2 c2] 37)) := ⟨Box.new w _ _, (Below.refl _ _).alloc (Nat.le_refl _) _⟩
theorem ruleBox (w : World) (p0 : Option Addr) (n0 c0 : Nat) (p1 : Option Addr) (n1 c1 : Nat) (b : Bool) (s : ByteArray) :
    Box (w.alloc (.cells #[.slice p0 n0 c0, .slice p1 n1 c1, .bool b, .string s] 25)) w.heap.size [.slice p0 n0 c0, .slice p1 n1 c1, .bool b, .string s] /\
    Below w.heap.size w (w.alloc (.cells #[.slice p0 n0 c0, .slice p1 n1 c1, .bool b, .string s] 25)) := ⟨Box.new w _ _, (Below.refl _ _).alloc (Nat.le_refl _) _⟩
end Go.Proofs.YtdfbmcafmnhheaaDoor
namespace Go.Proofs.YtdfbmcafmnhheaaDoor
set_option linter.all false
open Go.RowKit
theorem listsT_ne {L1 L2 : List ByteArray} {k : Nat} (h1 : k < L1.length) (h2 : k < L2.length) (h : L1[k] ≠ L2[k]) : decide (L1 = L2) = false := by
  apply decide_eq_false
  rintro rfl
  exact h rfl
theorem takeT_both {L1 L2 : List ByteArray} {k : Nat} (h1 : k < L1.length) (h2 : k < L2.length) (h : L1[k] = L2[k]) (ht : L1.take k = L2.take k) : L1.take (k + 1) = L2.take (k + 1) := by
  rw [List.take_succ_eq_append_getElem h1, List.take_succ_eq_append_getElem h2, h, ht]
theorem StrsIn.lenT {w : World} {v : Value} {L : List ByteArray} (h : StrsIn w v L) : L.length <= 9223372036854775807 := by
  rcases h with ⟨rfl, _⟩ | ⟨b, off, cap, rfl, h1, h2, h3⟩
  · simp
  · omega
def QuietB (b : Bool) (w : World) (e : Ending) (w' : World) : Prop := e = .returned (.bool b) /\ ∃ m, w' = w.drewN m
theorem quietB_of {a b : Bool} {w w' : World} (h : a = b) (hb : ∃ m, w' = w.drewN m) : QuietB b w (.returned (.bool a)) w' := ⟨by rw [h], hb⟩
theorem QuietB.says {b : Bool} {w : World} {e : Ending} {w' : World} (h : QuietB b w e w') : SaysIn b w e w' := by
  obtain ⟨h1, m, rfl⟩ := h
  exact ⟨h1, below_drewN (Below.refl _ _) m⟩
theorem drewN_more {w w' : World} (h : ∃ m, w' = w.drewN m) (n : Nat) : ∃ m, w'.drewN n = w.drewN m := by
  obtain ⟨m, rfl⟩ := h
  exact ⟨m + n, by simp only [World.drewN, Nat.add_assoc]⟩
theorem StrsIn.drewN {w w' : World} {v : Value} {L : List ByteArray} (h : StrsIn w v L) (hb : ∃ m, w' = w.drewN m) : StrsIn w' v L := by
  obtain ⟨m, rfl⟩ := hb
  exact h.below (below_drewN (Below.refl _ _) m)
set_option maxRecDepth 100000 in
set_option maxHeartbeats 4000000 in
theorem texts_q (v1 v2 : Value) (L1 L2 : List ByteArray) (w : World) (h1 : StrsIn w v1 L1) (h2 : StrsIn w v2 L2) :
    Calls Tryd.prog 19 #[v1, v2] w (QuietB (decide (L1 = L2)) w) := by
  obtain ⟨p1, c1, rfl⟩ := h1.sliced
  obtain ⟨p2, c2, rfl⟩ := h2.sliced
  by_cases hn : L1.length = L2.length
  · obtain ⟨n, hnn⟩ : ∃ n, n = L1.length := ⟨_, rfl⟩
    by_cases h0 : n = 0
    · have e1 : L1 = [] := List.length_eq_zero_iff.1 (by omega)
      have e2 : L2 = [] := List.length_eq_zero_iff.1 (by omega)
      subst e1 e2
      clear hn hnn h0 h1 h2
      go_enter Tryd.func19, Tryd.ntmps19
      go_wp2
      refine wp_loop_rounds 1 ?_
      rw [rounds_succ]
      go_wp2
      go_ret
      exact quietB_of (by rfl) ⟨0, rfl⟩
    · obtain ⟨b1, o1, rfl, gx1⟩ := h1.at_ 0 (by omega)
      obtain ⟨b2, o2, rfl, gx2⟩ := h2.at_ 0 (by omega)
      clear gx1 gx2
      have hnb : n <= 9223372036854775807 := by have := h1.lenT; omega
      have H1 := Lib.hid h1
      have H2 := Lib.hid h2
      rw [<- hn, <- hnn] at H2
      rw [<- hnn] at H1
      rw [<- hn, <- hnn]
      have Hn1 := Lib.hid (fun (_ : Unit) => hnn.symm)
      have Hn2 := Lib.hid (fun (_ : Unit) => show L2.length = n by omega)
      clear hn hnn h0 h1 h2
      go_enter Tryd.func19, Tryd.ntmps19
      go_wp2
      go_loopw [5] (fun i wr => ∃ k : Nat, k <= n /\ i = .int .i64 k /\ Hid (L1.take k = L2.take k) /\ Hid (∃ m, wr = w.drewN m)) (fun i _ => n - (intOf i).toNat)
      case atStart => exact ⟨0, Nat.zero_le _, rfl, rfl, Lib.hid ⟨0, rfl⟩⟩
      case round =>
        obtain ⟨k, hk, rfl, HT, HB⟩ := hrel
        by_cases hlt : k < n
        · have hk1 : k < L1.length := by rw [Hn1.out ()]; exact hlt
          have hk2 : k < L2.length := by rw [Hn2.out ()]; exact hlt
          obtain ⟨b, o, e, g1⟩ := (H1.out.drewN HB.out).at_ k hk1
          injection e with e; injection e with e1 e2 e3; subst e1 e2
          obtain ⟨b, o, e, g2⟩ := (H2.out.drewN HB.out).at_ k hk2
          injection e with e; injection e with e1 e2 e3; subst e1 e2
          have Hne := Lib.hid (fun h => listsT_ne hk1 hk2 h)
          have Heq := Lib.hid (fun h => takeT_both hk1 hk2 h HT.out)
          obtain ⟨x, hx⟩ : ∃ x, x = L1[k] := ⟨_, rfl⟩
          obtain ⟨y, hy⟩ : ∃ y, y = L2[k] := ⟨_, rfl⟩
          rw [<- hx] at g1
          rw [<- hy] at g2
          rw [<- hx, <- hy] at Hne Heq
          have he := bytesEq_bool x y
          clear hx hy hk1 hk2
          by_cases hxy : x = y
          · have Ht := Lib.hid (Heq.out hxy)
            rw [decide_eq_true hxy] at he
            have he2 : (x.toList != y.toList) = false := by simp [bne, he]
            have he3 : x.toList = y.toList := by simpa using he
            have Hlt := Lib.hid hlt
            clear hxy HT Hne Heq
            go_wp2
            go_quiet (fail)
            go_wp2
            go_roundw
            case rel => exact ⟨k + 1, by have := Hlt.out; omega, by go_num, Ht.out, Lib.hid (drewN_more HB.out _)⟩
            case measure => have := Hlt.out; simp [intOf]; omega
          · have Ht := Lib.hid (Hne.out hxy)
            rw [decide_eq_false hxy] at he
            have he2 : (x.toList != y.toList) = true := by simp [bne, he]
            have he3 : ¬ x.toList = y.toList := by simpa using he
            clear hxy HT Hne Heq
            go_wp2
            go_quiet (fail)
            go_wp2
            go_ret
            exact quietB_of Ht.out.symm (drewN_more HB.out _)
        · obtain rfl : k = n := by omega
          have Ht := Lib.hid (show decide (L1 = L2) = true by
            apply decide_eq_true
            have := HT.out
            rwa [List.take_of_length_le (by rw [Hn1.out ()]; exact Nat.le_refl _), List.take_of_length_le (by rw [Hn2.out ()]; exact Nat.le_refl _)] at this)
          clear HT
          go_wp2
          go_ret
          exact quietB_of Ht.out.symm HB.out
  · have Ht := Lib.hid (show decide (L1 = L2) = false from decide_eq_false (fun e => hn (by rw [e])))
    generalize L1.length = n1 at *
    generalize L2.length = n2 at *
    clear h1 h2
    go_enter Tryd.func19, Tryd.ntmps19
    go_wp2
    go_ret
    exact quietB_of Ht.out.symm ⟨0, rfl⟩
theorem StrsIn.uptoT {w : World} {p : Option Addr} {n c : Nat} {L : List ByteArray} (h : StrsIn w (.slice p n c) L) (i : Nat) (hi : i <= L.length) : StrsIn w (.slice p i c) (L.take i) := by
  rcases h with ⟨rfl, hv⟩ | ⟨b, off, cap, hv, h1, h2, h3⟩
  · obtain rfl : i = 0 := by simpa using hi
    refine .inl ⟨by simp, ?_⟩
    rcases hv with hv | ⟨ad, cap, hv⟩
    · injection hv with e1 e2 e3; subst e1 e2 e3; exact .inl rfl
    · injection hv with e1 e2 e3; subst e1 e2 e3; exact .inr ⟨_, _, rfl⟩
  · injection hv with e1 e2 e3
    subst e1 e2 e3
    have hl : (L.take i).length = i := by rw [List.length_take]; omega
    refine .inr ⟨b, off, c, by rw [hl], by rw [hl]; omega, h2, fun j u hj => h3 j u ?_⟩
    rw [List.getElem?_take] at hj
    split at hj
    · exact hj
    · cases hj
end Go.Proofs.YtdfbmcafmnhheaaDoor
namespace Go.Proofs.YtdfbmcafmnhheaaDoor
set_option linter.all false
open Go.RowKit
def put (n : Nat) (l : List UInt8) : Except Nat (List UInt8) -> Except Nat (List UInt8)
  | .ok x => .ok (l ++ x)
  | .error k => .error (n + k)
def digU (n : Nat) : UInt8 := hexUp.data.toList.getD n 0
def encB_PctP (c : UInt8) : List UInt8 := if unresB (c.toNat : Int) then [c] else [37, digU (c.toNat / 16), digU (c.toNat % 16)]
def enc (l : List UInt8) : List UInt8 := l.flatMap encB_PctP
end Go.Proofs.YtdfbmcafmnhheaaDoor
namespace Go.Proofs.YtdfbmcafmnhheaaDoor
set_option linter.all false
open Go.RowKit
def sNil : ByteArray := ⟨#[]⟩
end Go.Proofs.YtdfbmcafmnhheaaDoor
namespace Go.Proofs.YtdfbmcafmnhheaaDoor
set_option linter.all false
open Go.RowKit
theorem saysIn_ofW {a b : Bool} {w w' : World} (h : a = b) (hb : Below w.heap.size w w') : SaysIn b w (.returned (.bool a)) w' := ⟨by rw [h], hb⟩
def fewSW (L : List ByteArray) : Bool := L.all (fun f => decide (f.size <= 100)) && decide (L.length <= 30)
theorem fewS_noW {L : List ByteArray} {k : Nat} (hk : k < L.length) (h : ¬ L[k].size <= 100) : fewSW L = false := by
  unfold fewSW
  have : L.all (fun f => decide (f.size <= 100)) = false := by
    rw [List.all_eq_false]
    exact ⟨L[k], List.getElem_mem hk, by simpa using h⟩
  rw [this]; rfl
theorem fewS_takeW {L : List ByteArray} {k : Nat} (hk : k < L.length) (h : (L.take k).all (fun f => decide (f.size <= 100)) = true) (h' : L[k].size <= 100) :
    (L.take (k + 1)).all (fun f => decide (f.size <= 100)) = true := by
  rw [List.take_succ_eq_append_getElem hk, List.all_append, h]
  simpa using h'
theorem StrsIn.lenW {w : World} {v : Value} {L : List ByteArray} (h : StrsIn w v L) : L.length <= 9223372036854775807 := by
  rcases h with ⟨rfl, _⟩ | ⟨b, off, cap, _, h1, h2, _⟩
  · simp
  · omega
set_option maxRecDepth 100000 in
set_option maxHeartbeats 2000000 in
theorem few16w_any (v : Value) (L : List ByteArray) (w : World) (h : StrsIn w v L) :
    Calls Tryd.prog 14 #[v] w (SaysIn (fewSW L) w) := by
  have hl := h.lenW
  obtain ⟨p, c, rfl⟩ := h.sliced
  obtain ⟨n, hn⟩ : ∃ n, n = L.length := ⟨_, rfl⟩
  have HI := Lib.hid h
  rw [<- hn] at HI hl ⊢
  have HN := Lib.hid hn
  clear h hn
  go_enter Tryd.func14, Tryd.ntmps14
  go_wp2
  go_loopw [3] (fun i wr => ∃ k : Nat, k <= n /\ i = .int .i64 k /\ Hid ((L.take k).all (fun f => decide (f.size <= 100)) = true) /\ Hid (Below w.heap.size w wr)) (fun i _ => (n - intOf i).toNat)
  case atStart => exact ⟨0, Nat.zero_le _, rfl, Lib.hid (by simp), Below.refl _ _⟩
  case round =>
    obtain ⟨k, hk, rfl, HA, HB⟩ := hrel
    by_cases hlt : k < n
    · have hkL : k < L.length := by rw [<- HN.out]; exact hlt
      obtain ⟨b, o, hix, c0⟩ := (HI.out.below HB.out).at2 k hkL
      have HNo := Lib.hid (fun h => fewS_noW (L := L) hkL h)
      have HYes := Lib.hid (fun h => fewS_takeW hkL HA.out h)
      obtain ⟨f, hfe⟩ : ∃ f, f = L[k] := ⟨_, rfl⟩
      rw [<- hfe] at c0 HNo HYes
      clear hfe hkL HA
      by_cases hA : f.size <= 100
      · have HY := Lib.hid (HYes.out hA)
        clear HNo HYes
        go_wp2
        go_roundw
        case rel => exact ⟨k + 1, by omega, by go_num, HY, HB⟩
        case measure => simp [intOf]; omega
      · have HY := Lib.hid (HNo.out hA)
        clear HNo HYes
        go_wp2
        go_ret
        exact saysIn_ofW (by rw [HY.out]) HB.out
    · obtain rfl : k = n := by omega
      have HE := Lib.hid (show fewSW L = decide (k <= 30) by
        have h := HA.out
        rw [List.take_of_length_le (by rw [<- HN.out]; exact Nat.le_refl _)] at h
        unfold fewSW
        rw [h, <- HN.out]; simp)
      clear HA
      go_wp2
      go_ret
      exact saysIn_ofW (by rw [HE.out, Bool.eq_iff_iff]; simp; try omega) HB.out
end Go.Proofs.YtdfbmcafmnhheaaDoor
namespace Go.Proofs.YtdfbmcafmnhheaaDoor
set_option linter.all false
open Go.RowKit
abbrev grCells (g : GrantV) : List Value := [.string g.1, .bool g.2.1, .bool g.2.2]
def grCss (G : List GrantV) : List (List Value) := G.map grCells
def NoR (k : Nat) : Prop := False
theorem each_gr (w : World) : ∀ G : List GrantV, grantK.Each NoR w (grCss G) G
  | [] => trivial
  | g :: G => ⟨⟨[.string g.1], [.bool g.2.1, .bool g.2.2], rfl, rfl, [.bool g.2.1], [.bool g.2.2], rfl, rfl, rfl⟩, each_gr w G⟩
theorem grCss_app (A B : List GrantV) : grCss (A ++ B) = grCss A ++ grCss B := List.map_append ..
theorem grCss_len (w : World) (G : List GrantV) : (grCss G).flatten.length = G.length * 3 := grantK.each_len (each_gr w G)
theorem grCss_one (w : World) (G : List GrantV) : ∀ u ∈ (grCss G).flatten, u.oneCell' = true := grantK.each_one (each_gr w G)
def GrOwn (w : World) (B : Nat) (v : Value) (G : List GrantV) : Prop := grantK.own 48 NoR w B v G (grCss G)
theorem GrOwn.lit0 (w : World) : GrOwn (w.alloc (.cells #[] 48)) w.heap.size (.slice (some ⟨w.heap.size, 0, none⟩) 0 0) [] :=
  ⟨trivial, World.ownsRow_lit w #[] 0 (Nat.le_refl _) (by unfold maxLen; omega) rfl⟩
theorem GrOwn.below {w w' : World} {B : Nat} {v : Value} {G : List GrantV} (h : GrOwn w B v G) (hb : Below w.heap.size w w') : GrOwn w' B v G := grantK.own_below h hb
theorem GrOwn.rows {w : World} {B : Nat} {v : Value} {G : List GrantV} {R : Nat -> Prop} (h : GrOwn w B v G) (hv : ∀ k, v.ownBlock = some k -> R k) : grantK.rows R w v G := grantK.own_rows h (fun _ h => h.elim) hv
theorem GrOwn.onlyG {S : Nat -> Prop} {w w' : World} {B : Nat} {v : Value} {G : List GrantV} (h : GrOwn w B v G) (ho : Only S w w') (hv : ∀ k, v.ownBlock = some k -> ¬ S k) : GrOwn w' B v G := grantK.own_only h ho (fun _ h => h.elim) hv
theorem GrOwn.sliced {w : World} {B : Nat} {v : Value} {G : List GrantV} (h : GrOwn w B v G) : ∃ p c, v = .slice p G.length c := by
  rcases h.row.2 with ⟨rfl, hn⟩ | ⟨g, cap, cur, rfl, _⟩
  · exact ⟨none, 0, by rw [hn]⟩
  · exact ⟨_, cap, rfl⟩
theorem GrOwn.ltG {w : World} {B : Nat} {v : Value} {G : List GrantV} (h : GrOwn w B v G) : ∀ k, v.ownBlock = some k -> B <= k /\ k < w.heap.size := fun k hk => World.ownsRow.lt h.row k hk
theorem gr_flat {w : World} {b : Nat} : ∀ {G : List GrantV} {off : Nat}, (∀ i x, G[i]? = some x -> CellsAt w b (off + i * 3) (grCells x)) -> ∀ j u, (grCss G).flatten[j]? = some u -> w.cell? ⟨b, off + j, none⟩ = some u
  | [], off, h, j, u, hu => by simp [grCss] at hu
  | g :: G, off, h, j, u, hu => by
    have e : (grCss (g :: G)).flatten = grCells g ++ (grCss G).flatten := by simp [grCss]
    rw [e] at hu
    rcases Nat.lt_or_ge j 3 with h3 | h3
    · rw [List.getElem?_append_left (by simpa using h3)] at hu
      have := h 0 g rfl j u hu
      rwa [Nat.zero_mul, Nat.add_zero] at this
    · rw [List.getElem?_append_right (by simpa using h3)] at hu
      have := gr_flat (G := G) (off := off + 3) (fun i x hx => by
        have := h (i + 1) x (by simpa using hx)
        rwa [show off + (i + 1) * 3 = off + 3 + i * 3 by omega] at this) (j - 3) u (by simpa using hu)
      rwa [show off + 3 + (j - 3) = off + j by omega] at this
theorem srcAt_gr {R : Nat -> Prop} {w : World} {v : Value} {G : List GrantV} (h : grantK.rows R w v G) : SrcAt w 3 v G.length (grCss G).flatten := by
  rcases h with ⟨rfl, rfl | ⟨ad, cap, rfl⟩⟩ | ⟨b, off, cap, rfl, h1, h2, hb, h3⟩
  · exact .inl ⟨rfl, rfl, rfl⟩
  · exact .inr ⟨ad, cap, rfl, rfl, fun j u hu => by simp [grCss] at hu⟩
  · refine .inr ⟨_, cap, rfl, grCss_len w G, fun j u hu => ?_⟩
    rw [Addr.add_lit]
    refine gr_flat (fun i x hx => ?_) j u hu
    obtain ⟨cs, hi, hc⟩ := h3 i x hx
    obtain ⟨a, d, rfl, e1, c, d2, rfl, e2, e3⟩ := hi
    have e1 : a = [.string x.1] := e1
    have e2 : c = [.bool x.2.1] := e2
    have e3 : d2 = [.bool x.2.2] := e3
    subst e1 e2 e3
    exact hc
theorem Tryd.eGrant : EInfo 23 48 (.agg #[.string ByteArray.empty, .bool false, .bool false]) 3 24 := EInfo.of (by kernel_rfl) (by kernel_rfl) rfl (by decide)
theorem step_append_gr (d : Option Tmp) {ops : Array Oper} {o : Oper} {a : Act} {K : Act -> World -> Prop} {Q : Exit -> Act -> World -> Prop} {X : Prop} (hd : o.dst = d) (hgd : o.guard = none) (s x : Operand)
    (ho : o.op = .call { callee := .builtin .append, args := #[s, x], argTypes := #[23, 23] }) (B : Nat) (W : World) (v : Value) (G : List GrantV) (hs : a.eval s = v) (hown : GrOwn W B v G) (v2 : Value) (G2 : List GrantV) (hx : a.eval x = v2) (hsrc : SrcAt W 3 v2 G2.length (grCss G2).flatten) (hn : G.length + G2.length <= 1000000) (hB : B <= W.heap.size)
    (h : ∀ v' w', GrOwn w' B v' (G ++ G2) -> W.grownBy w' v.ownBlock -> Placed W v v' -> K (a.put d v') w') :
    if Region.wanted o (yielded ops a.tmps) = true then Oper.wp Tryd.prog o a W K Q else X := by
  refine step_append_at Tryd.eGrant d hd hgd s x ho B W v G.length (grCss G).flatten hs hown.row v2 G2.length (grCss G2).flatten hx hsrc (grCss_one W G2) (by omega) (by omega) hB ?_
  intro v' w' h1 h2 h3
  refine h v' w' ?_ h2 h3
  have := grantK.own_more hown (each_gr W G2) (fun k hk => hk.elim) h1 h2
  unfold GrOwn
  rw [grCss_app]
  exact this
end Go.Proofs.YtdfbmcafmnhheaaDoor
