/- Texts of one seat, merged: OctD, OctE, OctM, OctF, OctG, Byt, OctH, AclP, ClnP, ClnA. -/
import Derived.Defers
import Derived.Recover
import Derived.Laws.Pointers
import Derived.Below
import Derived.Laws.IdiomStrings
import Derived.Deep.MidRow
import Derived.Lib.Hide
import Derived.Laws.AppendOwn
import Derived.Laws.MakeOwn
import Derived.Laws.AppendOwnNone
import Derived.Deep.OwnRows
import Derived.OneCell
import Derived.Lib.BufferWrite
import Derived.Test.YtgfibbecnmmpjaaQA
namespace Go.Proofs.Ytgfibbecnmmpjaa
set_option linter.all false
open Go.RowKit
theorem catch_idle (p : Addr) (w : World) :
    CallsD Try.prog 54 #[.pointer (some p)] .returning w fun e u' w' => e = .returned (.tuple #[]) /\ u' = .returning /\ w' = w := by
  refine callsD_of_wpS Try.func54 rfl fun c₀ cs hu => ?_
  apply wpS_seq
  apply wpS_region
  simp [wpOpsS, go_sem, recoverD, hu, Try.ntmps54, Exit.thenS]
  refine wpS_cond (t := false) (by simp [Act.eval, Array.replicate]) ?_
  simp only [Bool.false_eq_true, if_false]
  refine wpS_of_wp (wp_skip ?_)
  cases c₀
  simp_all [bodyPostS, results, Try.results54]
def SaysIn (b : Bool) (w : World) (e : Ending) (w' : World) : Prop := e = .returned (.bool b) /\ Below w.heap.size w w'
theorem below_drewN {B : Nat} {a w : World} (h : Below B a w) (n : Nat) : Below B a (w.drewN n) := ⟨h.os, h.tape, h.output, h.size, h.block⟩
set_option maxRecDepth 100000 in
theorem all_any (s : ByteArray) (f : Nat) (B : Int -> Bool) (w : World) (hs : s.size <= 9223372036854775807)
    (hcall : ∀ (x : Value) (w : World), (callFunc f #[x]).run Try.prog w = .ok (.enter f #[x]) w)
    (hB : ∀ (z : Int) (w : World), 0 <= z -> z <= 255 -> Calls Try.prog f #[.int .u8 z] w (Says (B z) w)) :
    Calls Try.prog 46 #[.string s, .func (.func f) #[] #[]] w (SaysIn (allB B s.data.toList) w) := by
  have hmf : ∀ (fn : Fn) (first cap : Array Value) (w : World), (Instr.makeFunc fn first cap).run Try.prog w = .ok (.func fn first cap) w := fun _ _ _ _ => rfl
  have HB := Lib.hid hB
  clear hB
  go_enter_defers Try.func46, Try.ntmps46
  go_wp2
  go_loop [9] (fun i => ∃ k : Nat, k <= s.size /\ i = .int .i64 k /\ allB B (s.data.toList.take k) = true) (fun i => s.size - (intOf i).toNat)
  case atStart => exact ⟨0, Nat.zero_le _, rfl, rfl⟩
  case round =>
    obtain ⟨n, hk, rfl, hm⟩ := hrel
    have Hm := Lib.hid hm
    clear hm
    by_cases hlt : n < s.size
    · have Hs := Lib.hid (allB_snoc B s n hlt)
      have Hy := Lib.hid (allB_no B s n hlt)
      go_wp2_with fail
      refine (HB.out _ _ (by omega) (byte_le _)).mono ?_
      rintro e w' ⟨rfl, rfl⟩
      by_cases hb : B (s[n].toNat : Int) = true
      · go_wp2_with fail
        go_round
        case rel => exact ⟨n + 1, by omega, by go_num, by rw [Hs.out, Hm.out, hb]; rfl⟩
        case measure => simp [intOf]; omega
      · go_wp2_with fail
        refine leaves_cons (f := 54) (args := #[.pointer (some ⟨w.heap.size, 0, none⟩)]) (by simp) (by simp [go_sem]) ?_
        refine (catch_idle ⟨w.heap.size, 0, none⟩ _).mono ?_
        rintro e u' w'' ⟨rfl, rfl, rfl⟩
        have Hr := Hy.out (by simpa using hb)
        simp [Leaves, settle, results, Try.results46, go_sem, SaysIn, Hr]
        exact (Below.refl _ _).alloc (Nat.le_refl _) _
    · go_wp2
      refine leaves_cons (f := 54) (args := #[.pointer (some ⟨w.heap.size, 0, none⟩)]) (by simp) (by simp [go_sem]) ?_
      refine (catch_idle ⟨w.heap.size, 0, none⟩ _).mono ?_
      rintro e u' w'' ⟨rfl, rfl, rfl⟩
      have Hr := allB_yes B s n (by omega) Hm.out
      simp [Leaves, settle, results, Try.results46, go_sem, SaysIn, Hr]
      exact (Below.refl _ _).alloc (Nat.le_refl _) _
end Go.Proofs.Ytgfibbecnmmpjaa
namespace Go.Proofs.Ytgfibbecnmmpjaa
set_option linter.all false
open Go.RowKit
def lowI (z : Int) : Int := if 65 <= z /\ z <= 90 then z + 32 else z
def lowU (b : UInt8) : UInt8 := if 65 <= b.toNat /\ b.toNat <= 90 then UInt8.ofNat (b.toNat + 32) else b
def lowS (s : ByteArray) : ByteArray := ⟨(s.data.toList.map lowU).toArray⟩
theorem lowU_toNat (b : UInt8) : ((lowU b).toNat : Int) = lowI (b.toNat : Int) := by
  unfold lowU lowI
  by_cases h : 65 <= b.toNat /\ b.toNat <= 90
  · rw [if_pos h, if_pos (by omega)]
    simp [UInt8.toNat_ofNat']
    omega
  · rw [if_neg h, if_neg (by omega)]
def LowSt (s : ByteArray) (B k : Nat) (w : World) : Prop :=
  (∀ j (hj : j < s.size), w.cell? ⟨B, j, none⟩ = some (.int .u8 (if j < k then lowI (s[j].toNat : Int) else (s[j].toNat : Int)))) /\ ∀ j, j < s.size -> w.frozen? ⟨B, j, none⟩ = false
theorem LowSt.start {s : ByteArray} {B : Nat} {w : World} {C : Array Value} {t : TypeId} (hB : w.heap.size = B) (hC : ∀ j (hj : j < s.size), C[j]? = some (.int .u8 (s[j].toNat : Int))) (hn : s.size <= C.size) :
    LowSt s B 0 (w.alloc (.cells C t (C.size, C.size + 1))).drew := by
  subst hB
  refine ⟨fun j hj => ?_, fun j hj => ?_⟩
  · show (w.alloc _).cell? _ = _
    rw [World.cell?_alloc_mark, hC j hj]
    simp
  · show (w.alloc _).frozen? _ = _
    rw [World.frozen?_alloc_mark]
    simp; omega
theorem LowSt.put {s : ByteArray} {B k : Nat} {w : World} (h : LowSt s B k w) (hk : k < s.size) : LowSt s B (k + 1) (w.setCell ⟨B, k, none⟩ (.int .u8 (lowI (s[k].toNat : Int)))) := by
  refine ⟨fun j hj => ?_, fun j hj => ?_⟩
  · by_cases hj2 : j = k
    · subst hj2
      have := World.cell?_setCell_same (w := w) (a := ⟨B, j, none⟩) (v := .int .u8 (lowI (s[j].toNat : Int))) (h.1 j hj)
      rw [this, if_pos (by omega)]
    · rw [World.cell?_setCell_other (h := fun h => hj2 (by injection h with h1 h2; exact h2.symm)), h.1 j hj]
      by_cases hjk : j < k
      · rw [if_pos hjk, if_pos (by omega)]
      · rw [if_neg hjk, if_neg (by omega)]
  · rw [World.frozen?_setCell]; exact h.2 j hj
theorem LowSt.back {s : ByteArray} {B cap : Nat} {w : World} (h : LowSt s B s.size w) :
    (convert 38 9 (.slice (some ⟨B, 0, none⟩) s.size cap)).run Try.prog w = .ok (.string (lowS s)) w := by
  have := run_convert_bytes_back (P := Try.prog) w 38 9 5 ⟨B, 0, none⟩ cap (s.data.toList.map lowU) Try.underlying38 Try.underlying5 Try.underlying9 (fun j hj => by
    have hj' : j < s.size := by simpa using hj
    rw [Addr.add_mid, Nat.zero_add, h.1 j hj', if_pos hj']
    simp only [List.getElem_map, Array.getElem_toList, lowU_toNat]
    rfl)
  rwa [show (s.data.toList.map lowU).length = s.size by simp] at this
end Go.Proofs.Ytgfibbecnmmpjaa
namespace Go.Proofs.Ytgfibbecnmmpjaa
set_option linter.all false
def blank (b : UInt8) : Bool := b == 32 || b == 9
def trimL (l : List UInt8) : List UInt8 := ((l.dropWhile blank).reverse.dropWhile blank).reverse
theorem drop_all {l : List UInt8} (h : ∀ b ∈ l, blank b = true) (m : List UInt8) : (l ++ m).dropWhile blank = m.dropWhile blank := by
  induction l with
  | nil => rfl
  | cons a l ih =>
    rw [List.cons_append, List.dropWhile_cons, if_pos (h a (by simp))]
    exact ih fun b hb => h b (by simp [hb])
theorem drop_head {m : List UInt8} (h : m = [] \/ ∃ a r, m = a :: r /\ blank a = false) : m.dropWhile blank = m := by
  rcases h with rfl | ⟨a, r, rfl, h⟩
  · rfl
  · rw [List.dropWhile_cons, h]; rfl
theorem trim_all {l : List UInt8} (h : ∀ b ∈ l, blank b = true) : trimL l = [] := by
  have := drop_all h []
  simp at this
  simp [trimL, this]
theorem trim_of {p m q : List UInt8} (hp : ∀ b ∈ p, blank b = true) (hq : ∀ b ∈ q, blank b = true) (hm : m = [] \/ ∃ a r, m = a :: r /\ blank a = false) (hl : m = [] \/ ∃ r a, m = r ++ [a] /\ blank a = false) : trimL (p ++ m ++ q) = m := by
  by_cases hm0 : m = []
  · subst hm0
    apply trim_all
    intro b hb
    simp at hb
    rcases hb with hb | hb
    · exact hp b hb
    · exact hq b hb
  · unfold trimL
    rw [List.append_assoc, drop_all hp]
    have e1 : (m ++ q).dropWhile blank = m ++ q := drop_head (by
      rcases hm with h | ⟨a, r, rfl, h⟩
      · exact absurd h hm0
      · exact .inr ⟨a, r ++ q, rfl, h⟩)
    rw [e1, List.reverse_append, drop_all (fun b hb => hq b (by simpa using hb)), drop_head, List.reverse_reverse]
    rcases hl with h | ⟨r, a, rfl, h⟩
    · exact absurd h hm0
    · exact .inr ⟨a, r.reverse, by simp, h⟩
theorem getElem_toList (s : ByteArray) (k : Nat) (h : k < s.size) : s.data.toList[k]'(by simpa using h) = s[k] := rfl
def Trimmed (s : ByteArray) (a b : Nat) : Prop :=
  a <= b /\ b <= s.size /\ (∀ j (h : j < s.size), j < a -> blank s[j] = true) /\ (∀ j (h : j < s.size), b <= j -> blank s[j] = true) /\ (a = b \/ (∃ h : a < s.size, blank s[a] = false) /\ ∃ h : b - 1 < s.size, blank s[b - 1] = false)
def trimS (s : ByteArray) : ByteArray := ⟨(trimL s.data.toList).toArray⟩
theorem Trimmed.text {s : ByteArray} {a b : Nat} (h : Trimmed s a b) : s.extract a b = trimS s := by
  obtain ⟨h1, h2, h3, h4, h5⟩ := h
  have hlen : s.data.toList.length = s.size := by simp
  have e : s.data.toList = s.data.toList.take a ++ (s.data.toList.drop a).take (b - a) ++ s.data.toList.drop b := by
    have e1 : (s.data.toList.drop a).drop (b - a) = s.data.toList.drop b := by rw [List.drop_drop]; congr 1; omega
    rw [List.append_assoc, <- e1, List.take_append_drop, List.take_append_drop]
  have key : trimL s.data.toList = (s.data.toList.drop a).take (b - a) := by
    conv => lhs; rw [e]
    apply trim_of
    · intro x hx
      obtain ⟨j, hj, rfl⟩ := List.getElem_of_mem hx
      simp at hj
      rw [List.getElem_take]
      exact h3 j (by omega) (by omega)
    · intro x hx
      obtain ⟨j, hj, rfl⟩ := List.getElem_of_mem hx
      simp at hj
      rw [List.getElem_drop]
      exact h4 (b + j) (by omega) (by omega)
    · rcases h5 with h5 | ⟨⟨h6, h7⟩, _⟩
      · left; subst h5; simp
      · by_cases hab : a = b
        · left; subst hab; simp
        right
        have : (s.data.toList.drop a).take (b - a) = s[a] :: (s.data.toList.drop (a + 1)).take (b - a - 1) := by
          rw [List.drop_eq_getElem_cons (by simpa using h6)]
          obtain ⟨n, hn⟩ : ∃ n, b - a = n + 1 := ⟨b - a - 1, by omega⟩
          rw [hn, List.take_succ_cons]
          rfl
        exact ⟨_, _, this, h7⟩
    · rcases h5 with h5 | ⟨_, h6, h7⟩
      · left; subst h5; simp
      · by_cases hab : a = b
        · left; subst hab; simp
        right
        have : (s.data.toList.drop a).take (b - a) = (s.data.toList.drop a).take (b - a - 1) ++ [s[b - 1]] := by
          obtain ⟨n, hn⟩ : ∃ n, b - a = n + 1 := ⟨b - a - 1, by omega⟩
          have hl : n < (s.data.toList.drop a).length := by simp; omega
          rw [hn, List.take_succ_eq_append_getElem hl]
          simp only [Nat.add_sub_cancel, List.getElem_drop]
          congr 2
          show s.data.toList[a + n] = s.data.toList[b - 1]
          congr 1; omega
        exact ⟨_, _, this, h7⟩
  unfold trimS
  rw [key]
  apply ByteArray.ext
  apply Array.toList_inj.1
  simp
end Go.Proofs.Ytgfibbecnmmpjaa
namespace Go.Proofs.Ytgfibbecnmmpjaa
set_option linter.all false
open Go.RowKit
theorem blank_iff (b : UInt8) : blank b = true ↔ (b.toNat : Int) = 32 \/ (b.toNat : Int) = 9 := by
  unfold blank
  rw [Bool.or_eq_true, beq_iff_eq, beq_iff_eq]
  constructor
  · rintro (h | h)
    · subst h; left; rfl
    · subst h; right; rfl
  · rintro (h | h)
    · left; apply UInt8.toNat.inj; show b.toNat = 32; omega
    · right; apply UInt8.toNat.inj; show b.toNat = 9; omega
theorem blank_no {b : UInt8} (h : ¬ (b.toNat : Int) = 32) (h' : ¬ (b.toNat : Int) = 9) : blank b = false := by
  rw [Bool.eq_false_iff]; intro hb; rcases (blank_iff b).1 hb with hb | hb
  · exact h hb
  · exact h' hb
def TrimSt (s : ByteArray) (k a b : Nat) : Prop :=
  (a = 0 /\ b = 0 /\ ∀ j (h : j < s.size), j < k -> blank s[j] = true) \/
  (a < b /\ b <= k /\ (∀ j (h : j < s.size), j < a -> blank s[j] = true) /\ (∃ h : a < s.size, blank s[a] = false) /\ (∃ h : b - 1 < s.size, blank s[b - 1] = false) /\ ∀ j (h : j < s.size), b <= j -> j < k -> blank s[j] = true)
theorem TrimSt.skip {s : ByteArray} {k a b : Nat} (h : TrimSt s k a b) (hk : k < s.size) (hb : blank s[k] = true) : TrimSt s (k + 1) a b := by
  rcases h with ⟨h1, h2, h3⟩ | ⟨h1, h2, h3, h4, h5, h6⟩
  · exact .inl ⟨h1, h2, fun j hj hjk => by
      by_cases hj2 : j = k
      · subst hj2; exact hb
      · exact h3 j hj (by omega)⟩
  · exact .inr ⟨h1, by omega, h3, h4, h5, fun j hj hbj hjk => by
      by_cases hj2 : j = k
      · subst hj2; exact hb
      · exact h6 j hj hbj (by omega)⟩
theorem TrimSt.first {s : ByteArray} {k a b : Nat} (h : TrimSt s k a b) (hk : k < s.size) (hb : blank s[k] = false) (h0 : b = 0) : TrimSt s (k + 1) k (k + 1) := by
  rcases h with ⟨h1, h2, h3⟩ | ⟨h1, h2, h3, h4, h5, h6⟩
  · exact .inr ⟨by omega, by omega, fun j hj hjk => h3 j hj hjk, ⟨hk, hb⟩, ⟨by omega, by simpa using hb⟩, fun j hj h7 h8 => by omega⟩
  · omega
theorem TrimSt.more {s : ByteArray} {k a b : Nat} (h : TrimSt s k a b) (hk : k < s.size) (hb : blank s[k] = false) (h0 : ¬ b = 0) : TrimSt s (k + 1) a (k + 1) := by
  rcases h with ⟨h1, h2, h3⟩ | ⟨h1, h2, h3, h4, h5, h6⟩
  · exact absurd h2 h0
  · exact .inr ⟨by omega, by omega, h3, h4, ⟨by omega, by simpa using hb⟩, fun j hj h7 h8 => by omega⟩
theorem TrimSt.text {s : ByteArray} {a b : Nat} (h : TrimSt s s.size a b) : s.extract a b = trimS s := by
  apply Trimmed.text
  rcases h with ⟨rfl, rfl, h3⟩ | ⟨h1, h2, h3, h4, h5, h6⟩
  · exact ⟨by omega, by omega, fun j h hj => by omega, fun j h _ => h3 j h h, .inl rfl⟩
  · exact ⟨by omega, h2, h3, fun j h hj => h6 j h hj h, .inr ⟨h4, h5⟩⟩
theorem TrimSt.le {s : ByteArray} {k a b : Nat} (h : TrimSt s k a b) : a <= b /\ b <= k := by
  rcases h with ⟨h1, h2, h3⟩ | ⟨h1, h2, _⟩ <;> omega
def SaysText (t : ByteArray) (w : World) (e : Ending) (w' : World) : Prop := e = .returned (.string t) /\ w = w'
theorem saysText_of {a b : ByteArray} (w : World) (h : a = b) : SaysText b w (.returned (.string a)) w := ⟨by rw [h], rfl⟩
set_option maxRecDepth 100000 in
theorem trim_any (s : ByteArray) (w : World) (hs : s.size <= 9223372036854775807) :
    Calls Try.prog 49 #[.string s] w (SaysText (trimS s) w) := by
  go_enter Try.func49, Try.ntmps49
  go_wp2
  go_loop [3, 4, 8] (fun x y i => ∃ k a b : Nat, k <= s.size /\ i = .int .i64 k /\ x = .int .i64 a /\ y = .int .i64 b /\ TrimSt s k a b) (fun _ _ i => s.size - (intOf i).toNat)
  case atStart => exact ⟨0, 0, 0, Nat.zero_le _, rfl, rfl, rfl, .inl ⟨rfl, rfl, fun j h hj => by omega⟩⟩
  case round =>
    obtain ⟨k, a, b, hk, rfl, rfl, rfl, ht⟩ := hrel
    have Ht := Lib.hid ht
    have hab := ht.le
    clear ht
    by_cases hlt : k < s.size
    · by_cases h32 : (s[k].toNat : Int) = 32
      · have hb := (blank_iff s[k]).2 (.inl h32)
        have Hb := Lib.hid hb
        clear hb
        go_wp2
        go_round
        case rel => exact ⟨k + 1, a, b, by omega, by go_num, rfl, rfl, Ht.out.skip hlt Hb.out⟩
        case measure => simp [intOf]; omega
      · by_cases h9 : (s[k].toNat : Int) = 9
        · have Hb := Lib.hid ((blank_iff s[k]).2 (.inr h9))
          go_wp2
          go_round
          case rel => exact ⟨k + 1, a, b, by omega, by go_num, rfl, rfl, Ht.out.skip hlt Hb.out⟩
          case measure => simp [intOf]; omega
        · have Hb := Lib.hid (blank_no h32 h9)
          have b32 : ((s[k].toNat : Int) == 32) = false := by simpa using h32
          have b9 : ((s[k].toNat : Int) == 9) = false := by simpa using h9
          by_cases hb0 : b = 0
          · have Ht2 := Lib.hid (Ht.out.first hlt Hb.out hb0)
            subst hb0
            go_wp2
            go_round
            case rel => exact ⟨k + 1, k, k + 1, by omega, by go_num, rfl, by go_num, Ht2.out⟩
            case measure => simp [intOf]; omega
          · go_wp2
            go_round
            case rel => exact ⟨k + 1, a, k + 1, by omega, by go_num, rfl, by go_num, Ht.out.more hlt Hb.out hb0⟩
            case measure => simp [intOf]; omega
    · obtain rfl : k = s.size := by omega
      go_wp2
      go_ret
      exact saysText_of w Ht.out.text
def LeadSt (s : ByteArray) (a : Nat) : Prop := ∀ j (h : j < s.size), j < a -> blank s[j] = true
def TailSt (s : ByteArray) (b : Nat) : Prop := ∀ j (h : j < s.size), b <= j -> blank s[j] = true
theorem LeadSt.up {s : ByteArray} {a : Nat} (h : LeadSt s a) (hk : a < s.size) (hb : blank s[a] = true) : LeadSt s (a + 1) := fun j hj hja => by
  by_cases e : j = a
  · subst e; exact hb
  · exact h j hj (by omega)
theorem TailSt.down {s : ByteArray} {b : Nat} (h : TailSt s b) (hi : b - 1 < s.size) (hb : blank s[b - 1] = true) : TailSt s (b - 1) := fun j hj hja => by
  by_cases e : j = b - 1
  · subst e; exact hb
  · exact h j hj (by omega)
theorem ref_text {s : ByteArray} {a b : Nat} (hab : a <= b) (hbs : b <= s.size) (hl : LeadSt s a) (ht : TailSt s b) (hx : a = s.size \/ ∃ h : a < s.size, blank s[a] = false) (hy : a = b \/ ∃ h : b - 1 < s.size, blank s[b - 1] = false) : s.extract a b = trimS s := by
  apply Trimmed.text
  refine ⟨hab, hbs, hl, ht, ?_⟩
  rcases hy with hy | hy
  · exact .inl hy
  · rcases hx with hx | hx
    · left; omega
    · exact .inr ⟨hx, hy⟩
set_option maxRecDepth 100000 in
theorem refTrim_any (s : ByteArray) (w : World) (hs : s.size <= 9223372036854775807) :
    Calls Try.prog 35 #[.string s] w (SaysText (trimS s) w) := by
  go_enter Try.func35, Try.ntmps35
  go_wp2
  go_loop [3] (fun x => ∃ a : Nat, a <= s.size /\ x = .int .i64 a /\ LeadSt s a) (fun i => s.size - (intOf i).toNat)
  case atStart => exact ⟨0, Nat.zero_le _, rfl, fun j h hj => by omega⟩
  case round =>
    obtain ⟨a, ha, rfl, hl⟩ := hrel
    have Hl := Lib.hid hl
    clear hl
    by_cases hlt : a < s.size
    · by_cases h32 : (s[a].toNat : Int) = 32
      · have Hb := Lib.hid ((blank_iff s[a]).2 (.inl h32))
        go_wp2
        go_round
        case rel => exact ⟨a + 1, by omega, by go_num, Hl.out.up hlt Hb.out⟩
        case measure => simp [intOf]; omega
      · by_cases h9 : (s[a].toNat : Int) = 9
        · have Hb := Lib.hid ((blank_iff s[a]).2 (.inr h9))
          go_wp2
          go_round
          case rel => exact ⟨a + 1, by omega, by go_num, Hl.out.up hlt Hb.out⟩
          case measure => simp [intOf]; omega
        · have b32 : ((s[a].toNat : Int) == 32) = false := by simpa using h32
          have b9 : ((s[a].toNat : Int) == 9) = false := by simpa using h9
          have Hx : Hid (a = s.size \/ ∃ h : a < s.size, blank s[a] = false) := Lib.hid (.inr ⟨hlt, blank_no h32 h9⟩)
          go_wp2
          go_loop [4] (fun y => ∃ b : Nat, a <= b /\ b <= s.size /\ y = .int .i64 b /\ TailSt s b) (fun y => (intOf y).toNat)
          case atStart => exact ⟨s.size, by omega, Nat.le_refl _, rfl, fun j h hj => by omega⟩
          case round =>
            obtain ⟨b, hab, hbs, rfl, htl⟩ := hrel
            have Ht := Lib.hid htl
            clear htl
            by_cases hlt2 : a < b
            · have hi : b - 1 < s.size := by omega
              by_cases h32 : (s[b - 1].toNat : Int) = 32
              · have Hb := Lib.hid ((blank_iff s[b - 1]).2 (.inl h32))
                go_wp2
                go_round
                case rel => exact ⟨b - 1, by omega, by omega, by go_num, Ht.out.down hi Hb.out⟩
                case measure => simp [intOf]; omega
              · by_cases h9 : (s[b - 1].toNat : Int) = 9
                · have Hb := Lib.hid ((blank_iff s[b - 1]).2 (.inr h9))
                  go_wp2
                  go_round
                  case rel => exact ⟨b - 1, by omega, by omega, by go_num, Ht.out.down hi Hb.out⟩
                  case measure => simp [intOf]; omega
                · have Hb := Lib.hid (blank_no h32 h9)
                  have c32 : ((s[b - 1].toNat : Int) == 32) = false := by simpa using h32
                  have c9 : ((s[b - 1].toNat : Int) == 9) = false := by simpa using h9
                  go_wp2
                  go_ret
                  exact saysText_of w (ref_text hab hbs Hl.out Ht.out Hx.out (.inr ⟨hi, Hb.out⟩))
            · go_wp2
              go_ret
              exact saysText_of w (ref_text hab hbs Hl.out Ht.out Hx.out (.inl (by omega)))
    · obtain rfl : a = s.size := by omega
      go_wp2
      go_loop [4] (fun y => y = .int .i64 s.size) (fun y => (intOf y).toNat)
      case atStart => rfl
      case round =>
        obtain rfl := hrel
        go_wp2
        go_ret
        exact saysText_of w ((by simp : ByteArray.empty = s.extract s.size s.size).trans (ref_text (Nat.le_refl _) (Nat.le_refl _) Hl.out (fun j hj hb => by omega) (.inl rfl) (.inl rfl)))
end Go.Proofs.Ytgfibbecnmmpjaa
namespace Go.Proofs.Ytgfibbecnmmpjaa
set_option linter.all false
open Go.RowKit
theorem Try.infoByte : (Try.prog.info? 5).map (fun i => (i.zero, i.size, i.bytes)) = some (some (.int .u8 0), 1, 1) := by kernel_rfl
def byteVals (l : List UInt8) : List Value := l.map fun b => .int .u8 (b.toNat : Int)
def OwnBytes (w : World) (base : Nat) (v : Value) (l : List UInt8) : Prop := w.ownsRow base 5 1 v l.length (byteVals l)
theorem OwnBytes.nil (w : World) (base : Nat) : OwnBytes w base (.slice none 0 0) [] := World.ownsRow_nil _ _ _ _
theorem bytes_none (w : World) (src dst e : TypeId) (cap : Nat) {P : Program} (hs : P.underlying src = some (.slice e)) (he : P.underlying e = some (.int .u8)) (hd : P.underlying dst = some .string) :
    (convert src dst (.slice none 0 cap)).run P w = .ok (.string ⟨#[]⟩) w := by
  rw [run_convert_bytes_string w src dst e none 0 cap hs he hd]
  unfold Conv.bytesToString
  simp [Sem.run_pure]
  rfl
theorem OwnBytes.back {w : World} {base : Nat} {v : Value} {l : List UInt8} (h : OwnBytes w base v l) : (convert 38 9 v).run Try.prog w = .ok (.string ⟨l.toArray⟩) w := by
  have h0 : w.ownsRow base 5 1 v l.length (l.map fun b => .int .u8 (b.toNat : Int)) := h
  rcases h0.2 with ⟨rfl, hn⟩ | ⟨g, cap, cur, rfl, _⟩
  · have : l = [] := List.length_eq_zero_iff.1 hn
    subst this
    exact bytes_none w 38 9 5 0 Try.underlying38 Try.underlying5 Try.underlying9
  · exact run_convert_bytes_back w 38 9 5 ⟨g, 0, none⟩ cap l Try.underlying38 Try.underlying5 Try.underlying9 fun j hj =>
      h0.cells (g := g) rfl j _ (by simp [List.getElem?_eq_getElem hj])
theorem OwnBytes.more {w : World} {base : Nat} {v : Value} {l : List UInt8} {c : UInt8} {z : Int} (h : w.ownsRow base 5 1 v (l.length + 1) (byteVals l ++ [.int .u8 z])) (hz : z = (c.toNat : Int)) : OwnBytes w base v (l ++ [c]) := by
  subst hz
  unfold OwnBytes byteVals
  rw [List.length_append, List.map_append]
  exact h
end Go.Proofs.Ytgfibbecnmmpjaa
namespace Go.Proofs.Ytgfibbecnmmpjaa
set_option linter.all false
open Go.RowKit
theorem own_below {w w' : World} {base : Nat} {e : TypeId} {size : Nat} {v : Value} {n : Nat} {xs : List Value} (h : w.ownsRow base e size v n xs) (hb : Below w.heap.size w w') : w'.ownsRow base e size v n xs :=
  h.kept (row := none) ⟨hb.os, hb.tape, hb.output, hb.size, fun k hk _ => hb.block k hk⟩ (by cases v.ownBlock <;> simp)
theorem bytesEq_bool (a b : ByteArray) : (a.toList == b.toList) = decide (a = b) := by
  rw [Bool.eq_iff_iff]
  simp only [beq_iff_eq, decide_eq_true_eq]
  rw [ByteArray.toList_eq, ByteArray.toList_eq]
  constructor
  · intro h; apply ByteArray.ext; exact Array.toList_inj.1 h
  · rintro rfl; rfl
theorem bytesEmpty_bool (a : ByteArray) : a.toList.isEmpty = decide (a.size = 0) := by
  rw [ByteArray.toList_eq, Bool.eq_iff_iff, decide_eq_true_eq, List.isEmpty_iff, <- List.length_eq_zero_iff]
  simp
end Go.Proofs.Ytgfibbecnmmpjaa
namespace Go.Proofs.Ytgfibbecnmmpjaa
set_option linter.all false
open Go.RowKit
theorem all_field (s : ByteArray) (w : World) (hs : s.size <= 9223372036854775807) : Calls Try.prog 46 #[.string s, .func (.func 48) #[] #[]] w (SaysIn (allB fieldB s.data.toList) w) :=
  all_any s _ fieldB w hs (fun x w => by kernel_rfl) (fun z w _ _ => field_any z w)
end Go.Proofs.Ytgfibbecnmmpjaa
namespace Go.Proofs.Ytgfibbecnmmpjaa
set_option linter.all false
open Go.RowKit
section
variable {α : Type} (pre : α -> List ByteArray)
end
end Go.Proofs.Ytgfibbecnmmpjaa
namespace Go.Proofs.Ytgfibbecnmmpjaa
set_option linter.all false
open Go.RowKit
def pre (l : List UInt8) (o : Option (List UInt8)) : Option (List UInt8) := o.map (l ++ ·)
end Go.Proofs.Ytgfibbecnmmpjaa
namespace Go.Proofs.Ytgfibbecnmmpjaa
set_option linter.all false
open Go.RowKit
theorem refAll5_any (s : ByteArray) (w : World) (hs : s.size <= 9223372036854775807) : Calls Try.prog 34 #[.string s, .int .i64 5] w (Says (allB fieldB s.data.toList) w) :=
  refAll_any s 5 fieldB w hs fun z w h0 h1 => class5 z w h0 h1
end Go.Proofs.Ytgfibbecnmmpjaa
