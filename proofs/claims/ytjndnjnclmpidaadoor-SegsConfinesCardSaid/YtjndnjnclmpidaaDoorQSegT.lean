/- The laws of layer 16: SegsConfines. -/
import Derived.Test.YtjndnjnclmpidaaDoorQSegO
namespace Go.Proofs.YtjndnjnclmpidaaDoor
set_option linter.all false
open Go.RowKit
def cntT (s : ByteArray) (k : Nat) : Nat := (s.data.toList.take k).count 47
theorem cntT_yes {s : ByteArray} {k : Nat} (h : k < s.size) (hc : s[k] = 47) : cntT s (k + 1) = cntT s k + 1 := by
 unfold cntT
 rw [take_snoc s k h, List.count_append, hc]; rfl
theorem cntT_no {s : ByteArray} {k : Nat} (h : k < s.size) (hc : s[k] ≠ 47) : cntT s (k + 1) = cntT s k := by
 unfold cntT
 rw [take_snoc s k h, List.count_append, List.count_singleton]
 simp [hc]
theorem cntT_all (s : ByteArray) : cntT s s.size = s.data.toList.count 47 := by
 unfold cntT
 rw [List.take_of_length_le (by simp)]
theorem cntT_le (s : ByteArray) (k : Nat) : cntT s k <= k := by
 unfold cntT
 refine Nat.le_trans List.count_le_length ?_
 rw [List.length_take]; omega
theorem clean_mem : ∀ (r : List ByteArray) (k : Nat) (acc : List ByteArray) (dir : Bool) (L : List ByteArray) (d : Bool), cleanS k acc dir r = .ok (L, d) -> ∀ x ∈ L, x ∈ acc \/ x ∈ r
 | [], k, acc, dir, L, d, e => fun x hx => by
  injection e with e
  injection e with e1 e2
  subst e1
  exact .inl hx
 | s :: r, k, acc, dir, L, d, e => fun x hx => by
  have up : ∀ {P : Prop}, (P \/ x ∈ r) -> (P \/ x ∈ s :: r) := fun h => h.elim .inl fun h => .inr (List.mem_cons_of_mem _ h)
  have more : (x ∈ acc ++ [s] \/ x ∈ r) -> (x ∈ acc \/ x ∈ s :: r) := fun h => by
   rcases h with h | h
   ·rcases List.mem_append.1 h with h | h
    ·exact .inl h
    ·rw [List.mem_singleton] at h
     subst h
     exact .inr (List.mem_cons_self ..)
   ·exact .inr (List.mem_cons_of_mem _ h)
  unfold cleanS at e
  split at e
  ·split at e
   ·cases e
   ·rcases clean_mem r (k + 1) acc.dropLast true L d e x hx with h | h
    ·exact .inl (List.dropLast_subset _ h)
    ·exact .inr (List.mem_cons_of_mem _ h)
  ·split at e
   ·exact up (clean_mem r (k + 1) acc true L d e x hx)
   ·split at e
    ·split at e
     ·injection e with e
      injection e with e1 e2
      subst e1
      exact .inl hx
     ·exact more (clean_mem r (k + 1) (acc ++ [s]) true L d e x hx)
    ·exact more (clean_mem r (k + 1) (acc ++ [s]) false L d e x hx)
theorem parse_size {s : ByteArray} {p : List ByteArray × Bool} (h : parseP s.data.toList = .ok p) : ∀ x ∈ p.1, x.size <= s.size := by
 intro x hx
 unfold parseP at h
 split at h
 ·split at h
  ·cases h
  ·split at h
   ·cases h
   ·split at h
    ·cases h
    ·next q hq =>
     injection h with h
     subst h
     rcases clean_mem _ _ _ _ q.1 q.2 hq x hx with h | h
     ·cases h
     ·obtain ⟨y, hy, rfl⟩ := List.mem_map.1 h
      have h1 := rawS_size s ⟨y.toArray⟩ (List.mem_map.2 ⟨y, hy, rfl⟩)
      rw [text_size] at h1
      exact decB_le y s.size h1
 ·cases h
set_option maxRecDepth 100000 in
set_option maxHeartbeats 4000000 in
theorem segsConfines_any (s : ByteArray) (w : World) (hg : ErrType w) :
  Calls Tryd.prog 4 #[.string s] w (SaysIn true w) := by
 have hnn := Tryd.neNNs
 have hnf := Tryd.neFNs
 have HG := Lib.hid hg
 have HA := Lib.hid (fun w hg => awake16_any w hg)
 clear hg
 by_cases hs : s.size <= 2000
 ·have HP := Lib.hid (fun w hg => segParse_any s w hg (by omega))
  unfold ParsesS at HP
  cases hr : parseP s.data.toList with
  | error k =>
   rw [hr] at HP
   have e1 : ansE (.error k) = .iface 77 (.agg #[.int .i64 400, .int .i64 (k : Int)]) := rfl
   rw [e1] at HP
   clear e1 hr
   go_enter Tryd.func4, Tryd.ntmps4
   go_wp2_with fail
   refine (HA.out _ HG.out).mono ?_
   rintro e w1 ⟨rfl, hb1⟩
   have B1 := Lib.hid hb1
   clear hb1 HA
   go_wp2_with fail
   refine (HP.out _ (HG.out.below B1.out)).mono ?_
   rintro e w2 ⟨x, rfl, hx, hb2⟩
   obtain ⟨p2, c2, rfl, hy⟩ := hx.parts
   have e3 : (ansP (.error k)).2 = false := rfl
   have e4 : (ansP (.error k)).1.length = 0 := rfl
   rw [e3, e4]
   have B2 := Lib.hid ((B1.out.trans (hb2.mono B1.out.size)).alloc (Nat.le_trans B1.out.size hb2.size) (.cells #[.slice p2 0 c2, .bool false] 25))
   clear hb2 hx hy B1 HP e3 e4
   go_wp2_with fail
   go_ret
   exact saysIn_of' (by simp) B2.out
  | ok p =>
   rw [hr] at HP
   have e1 : ansE (.ok p) = .nilIface := rfl
   rw [e1] at HP
   have HSz := Lib.hid (parse_size hr)
   obtain ⟨hpl, hcn⟩ := parse_plain (L := p.1) (d := p.2) hr
   have hpm : p.1.length <= 2000 := by
    have h2 := List.count_le_length (a := (47 : UInt8)) (l := s.data.toList)
    have h3 : s.size = s.data.toList.length := by simp
    omega
   obtain ⟨n, hn⟩ : ∃ n, n = p.1.length := ⟨_, rfl⟩
   obtain ⟨d, hd⟩ : ∃ d, d = p.2 := ⟨_, rfl⟩
   have HN := Lib.hid hn
   have HD := Lib.hid hd
   have hn2 : n <= 2000 := by omega
   have HCn := Lib.hid (show n <= cntT s s.size by rw [cntT_all, hn]; exact hcn)
   have HPl := Lib.hid hpl
   clear hn hd hcn hpl hpm e1 hr
   go_enter Tryd.func4, Tryd.ntmps4
   go_wp2_with fail
   refine (HA.out _ HG.out).mono ?_
   rintro e w1 ⟨rfl, hb1⟩
   have B1 := Lib.hid hb1
   clear hb1 HA
   go_wp2_with fail
   refine (HP.out _ (HG.out.below B1.out)).mono ?_
   rintro e w2 ⟨x, rfl, hx, hb2⟩
   obtain ⟨p2, c2, rfl, hy⟩ := hx.parts
   have e2 : ansP (.ok p) = p := rfl
   rw [e2] at hy
   rw [e2]
   rw [<- HN.out] at hy
   rw [<- HN.out, <- HD.out]
   have BA := Lib.hid ((Below.refl w2.heap.size w2).alloc (Nat.le_refl _) (.cells #[.slice p2 n c2, .bool d] 25))
   have B2 := Lib.hid ((B1.out.trans (hb2.mono B1.out.size)).trans (BA.out.mono (Nat.le_trans B1.out.size hb2.size)))
   have X2 := Lib.hid (Box.new w2 [.slice p2 n c2, .bool d] 25)
   have Y2 := Lib.hid (hy.below BA.out)
   have q0 : (w2.alloc (.cells #[.slice p2 n c2, .bool d] 25)).cell? ⟨w2.heap.size, 0, none⟩ = some (.slice p2 n c2) := X2.out.cell rfl
   clear hb2 hx hy BA B1 HP e2 X2
   go_wp2_with fail
   generalize w2.alloc (.cells #[.slice p2 n c2, .bool d] 25) = W2 at B2 Y2 q0 ⊢
   generalize w2.heap.size = g2 at q0 ⊢
   go_loopw [5, 6] (fun nv i wi => ∃ k : Nat, k <= s.size /\ i = .int .i64 k /\ nv = .int .i64 ((cntT s k : Nat) : Int) /\ Hid (W2 = wi)) (fun _ i _ => (s.size - intOf i).toNat)
   case atStart => exact ⟨0, Nat.zero_le _, rfl, rfl, Lib.hid rfl⟩
   case round =>
    obtain ⟨k, hk, rfl, rfl, HWi⟩ := hrel
    obtain rfl := HWi.out
    clear HWi
    have hcl := cntT_le s k
    by_cases hlt : k < s.size
    ·by_cases h47 : (s[k].toNat : Int) = 47
     ·have HE := Lib.hid (cntT_yes hlt (byte_is (n := 47) (by decide) h47))
      obtain ⟨z, hz⟩ : ∃ z, z = cntT s k := ⟨_, rfl⟩
      rw [<- hz] at HE hcl ⊢
      clear hz
      go_wp2_with fail
      go_roundw
      case rel => exact ⟨k + 1, by omega, by go_num, by rw [HE.out]; go_num, (by first | exact Lib.hid rfl | exact Lib.hid trivial)⟩
      case measure => simp [intOf]; omega
     ·have HE := Lib.hid (cntT_no hlt (byte_not (n := 47) (by decide) h47))
      go_wp2_with fail
      go_roundw
      case rel => exact ⟨k + 1, by omega, by go_num, by rw [HE.out], (by first | exact Lib.hid rfl | exact Lib.hid trivial)⟩
      case measure => simp [intOf]; omega
    ·obtain rfl : k = s.size := by omega
     obtain ⟨z, hz⟩ : ∃ z, z = cntT s s.size := ⟨_, rfl⟩
     rw [<- hz] at HCn hcl ⊢
     clear hz hlt
     go_wp2
     go_loopw [7] (fun i wi => ∃ j : Nat, j <= n /\ i = .int .i64 j /\ Hid (W2 = wi)) (fun i _ => (n - intOf i).toNat)
     case atStart => exact ⟨0, Nat.zero_le _, rfl, Lib.hid rfl⟩
     case round =>
      obtain ⟨j, hj, rfl, HWi⟩ := hrel
      obtain rfl := HWi.out
      clear HWi
      by_cases hlt : j < n
      ·have hjL : j < p.1.length := by rw [<- HN.out]; exact hlt
       obtain ⟨b, o, hix, c0⟩ := Y2.out.at2 j hjL
       have hpl : plainS p.1[j] = true := HPl.out _ (List.getElem_mem hjL)
       have hsz := HSz.out _ (List.getElem_mem hjL)
       obtain ⟨x, hx⟩ : ∃ x, x = p.1[j] := ⟨_, rfl⟩
       rw [<- hx] at c0 hpl hsz
       have HPn := Lib.hid (fun W => plain_any x W (by omega))
       rw [hpl] at HPn
       clear hx hpl hjL hsz
       go_wp2_with fail
       refine (HPn.out _).mono ?_
       rintro e w' ⟨rfl, rfl⟩
       go_wp2_with fail
       go_roundw
       case rel => exact ⟨j + 1, by omega, by go_num, (by first | exact Lib.hid rfl | exact Lib.hid trivial)⟩
       case measure => simp [intOf]; omega
      ·obtain rfl : j = n := by omega
       have hle := HCn.out
       have hle2 : (j : Int) <= (z : Int) := by omega
       go_wp2
       go_ret
       exact saysIn_of' (by simp) B2.out
 ·go_enter Tryd.func4, Tryd.ntmps4
  go_wp2_with fail
  refine (HA.out _ HG.out).mono ?_
  rintro e w1 ⟨rfl, hb1⟩
  have B1 := Lib.hid hb1
  clear hb1
  go_wp2_with fail
  refine (HA.out _ (HG.out.below B1.out)).mono ?_
  rintro e w2 ⟨rfl, hb2⟩
  have B2 := Lib.hid (B1.out.trans (hb2.mono B1.out.size))
  clear hb2
  go_wp2_with fail
  go_ret
  exact saysIn_of' rfl B2.out
end Go.Proofs.YtjndnjnclmpidaaDoor
