/- ReqlineSpaces (where what it reads is not too great for the reference's slice of places). -/
import Derived.Test.YtfobpcedbaaiaaaDoorReqI
import Derived.Deep.DrawnRows
namespace Go.Proofs.YtfobpcedbaaiaaaDoor
set_option linter.all false
open Go.RowKit
attribute [local go_sem ↓] Go.wp_at_zero Go.wp_at_succ

theorem mk_size (l : List UInt8) : (⟨l.toArray⟩ : ByteArray).size = l.length := by show l.toArray.size = _; simp
theorem take_size (s : ByteArray) (k : Nat) (h : k ≤ s.size) : (s.data.toList.take k).length = k := by rw [List.length_take, ← Lib.size_eq]; omega
theorem drop_size (s : ByteArray) (k : Nat) : (s.data.toList.drop k).length = s.size - k := by rw [List.length_drop, ← Lib.size_eq]
set_option maxRecDepth 100000 in
set_option maxHeartbeats 1000000 in
theorem reqlineSpaces_any (s : ByteArray) (a : Int) (w : World) (hg : ErrType w) (hn : Named w) (hs : s.size ≤ 4000000) (ha : 0 ≤ a) (ha' : a ≤ 65535) : Calls Tryd.prog 6 #[.string s, .int .u16 a] w (SaysIn true w) := by
  have HW := Lib.hid (fun w hg hn => awake10 w hg hn)
  have HG := Lib.hid hg
  have HN := Lib.hid hn
  have HS4 := Lib.hid hs
  clear hg hn hs
  obtain ⟨o, ho⟩ := is_some s
  cases o with
  | bad st at_ =>
    have hst : (st != 0) = true := by rcases is_status ho with rfl | rfl <;> rfl
    have HR := Lib.hid (fun w => ref_bad ho w HS4.out)
    clear ho
    go_enter Tryd.func6, Tryd.ntmps6
    go_wp2_with fail
    refine (HR.out _).mono ?_
    rintro e w1 ⟨rfl, b1⟩
    have B1 := Lib.hid (b1.alloc b1.size (.cells #[.string ⟨#[]⟩, .string ⟨#[]⟩, .int .i64 0] 29))
    clear b1
    go_wp2_with fail
    refine (HW.out _ (HG.out.below B1.out) (HN.out.below B1.out)).mono ?_
    rintro e w2 ⟨rfl, b2⟩
    have B2 := Lib.hid (B1.out.trans (b2.mono B1.out.size))
    clear b2 B1
    by_cases h1000 : s.size ≤ 1000
    all_goals
      go_wp2_with fail
      refine (HW.out _ (HG.out.below B2.out) (HN.out.below B2.out)).mono ?_
      rintro e w3 ⟨rfl, b3⟩
      have B3 := Lib.hid (B2.out.trans (b3.mono B2.out.size))
      clear b3 B2
      go_wp2_with fail
      go_ret
      exact saysIn_q (by simp) B3.out
  | line A B m =>
    obtain ⟨q1, C, h3, q2, q3, hC, q4⟩ := is_text ho
    clear q1 q2 q3 q4
    have hC8 : C.size = 8 := by rcases hC with rfl | rfl <;> rfl
    have hz := is_size ho
    have HR := Lib.hid (fun w => ref_line ho w HS4.out)
    have HM := Lib.hid (fun i => more_spaces h3 i)
    have HL := Lib.hid (less_spaces h3 hC8)
    clear ho h3 hC hC8
    go_enter Tryd.func6, Tryd.ntmps6
    go_wp2_with fail
    refine (HR.out _).mono ?_
    rintro e w1 ⟨rfl, b1⟩
    have B1 := Lib.hid (b1.alloc b1.size (.cells #[.string A, .string B, .int .i64 m] 29))
    clear b1
    go_wp2_with fail
    refine (HW.out _ (HG.out.below B1.out) (HN.out.below B1.out)).mono ?_
    rintro e w2 ⟨rfl, b2⟩
    have B2 := Lib.hid (B1.out.trans (b2.mono B1.out.size))
    clear b2 B1
    by_cases h1000 : s.size ≤ 1000
    · obtain ⟨n, rfl⟩ : ∃ n : Nat, a = n := ⟨a.toNat, by omega⟩
      obtain ⟨k, hk⟩ : ∃ k, k = n % (s.size + 1) := ⟨_, rfl⟩
      have hks : k ≤ s.size := by rw [hk]; have := Nat.mod_lt n (show 0 < s.size + 1 by omega); omega
      have hrem : (n : Int).tmod ((s.size : Int) + 1) = (k : Int) := by rw [hk]; rfl
      clear hk
      obtain ⟨x, hx⟩ : ∃ x : ByteArray, x = ⟨(s.data.toList.take k).toArray⟩ := ⟨_, rfl⟩
      obtain ⟨y, hy⟩ : ∃ y : ByteArray, y = ⟨(s.data.toList.drop k).toArray⟩ := ⟨_, rfl⟩
      have hxs : x.size = k := by rw [hx, mk_size, take_size s k hks]
      have hys : y.size + k = s.size := by rw [hy, mk_size, drop_size]; omega
      have HP := Lib.hid (fun w => parse_bad (HM.out k) w (by rw [mk_size, List.length_append, List.length_cons, take_size s k hks, drop_size]; omega))
      have hxy : x ++ ⟨#[32]⟩ ++ y = ⟨(s.data.toList.take k ++ 32 :: s.data.toList.drop k).toArray⟩ := ba_ext (by rw [hx, hy]; simp)
      rw [← hxy] at HP
      have SA := fun W => slice_sto s x (k : Int) k rfl hks (by rw [hx]) W
      have SB := fun W => slice_sfrom s y (k : Int) k rfl hks (by rw [hy]) W
      have C1 : (9223372036854775807 < x.size + 1) = False := eq_false (by omega)
      have C2 : (9223372036854775807 < x.size + 1 + y.size) = False := eq_false (by omega)
      clear hx hy hxy HM hxs hys
      obtain ⟨r, hr⟩ : ∃ r : ByteArray, r = ⟨(s.data.toList.take (s.size - 9)).toArray⟩ := ⟨_, rfl⟩
      have HQ := Lib.hid (fun w => parse_bad HL.out w (by rw [mk_size, take_size s _ (by omega)]; omega))
      rw [← hr] at HQ
      have SR := fun W => slice_sto s r ((s.size : Int) - 9) (s.size - 9) (by omega) (by omega) (by rw [hr]) W
      clear hr HL
      go_wp2_with fail
      go_region_held3 (fun W => True) (trivial) ((go_at_call 9; refine (HP.out _).mono ?_; rintro e w' ⟨rfl, b3⟩; first | (have yb : Box w' w2.heap.size [.string ⟨#[]⟩, .string ⟨#[]⟩, .int .i64 0] := Box.below (Box.new w2 _ _).drew b3; obtain ⟨k0, k1, k2⟩ := yb.vals.three; have f0 := yb.free 0 (by decide); have f1 := yb.free 1 (by decide); have f2 := yb.free 2 (by decide); clear yb) | skip))
      all_goals
        go_wp2_with fail
        refine (HQ.out _).mono ?_
        rintro e w6 ⟨rfl, b6⟩
        have B6 : Hid (Below w.heap.size w w6) := Lib.hid (by
          first
          | (have B3 := B2.out.drew.trans (b3.mono B2.out.drew.size); exact (B3.alloc B3.size _).trans (b6.mono (B3.alloc B3.size _).size))
          | (have Ba := (B2.out.alloc B2.out.size (.cells #[.string ⟨#[]⟩, .string ⟨#[]⟩, .int .i64 0] 24)).drew
             have B3 := Ba.trans (b3.mono Ba.size)
             have B4 := ((B3.setCell (p := ⟨w2.heap.size, 0, none⟩) B2.out.size (.string ⟨#[]⟩)).setCell (p := ⟨w2.heap.size, 1, none⟩) B2.out.size (.string ⟨#[]⟩)).setCell (p := ⟨w2.heap.size, 2, none⟩) B2.out.size (.int .i64 0)
             exact B4.trans (b6.mono B4.size)))
        clear b6 b3
        have B7 := Lib.hid (B6.out.alloc B6.out.size (.cells #[.string ⟨#[]⟩, .string ⟨#[]⟩, .int .i64 0] 24))
        clear B6
        go_wp2_with fail
        refine (wrong10_at 400 0 _ (HG.out.below B7.out)).mono ?_
        rintro e w8 ⟨rfl, b8⟩
        have B8 := Lib.hid (B7.out.trans (b8.mono B7.out.size))
        clear b8 B7
        go_wp2_with fail
        refine (wrong10_at 400 0 _ (HG.out.below B8.out)).mono ?_
        rintro e w9 ⟨rfl, b9⟩
        have B9 := Lib.hid (B8.out.trans (b9.mono B8.out.size))
        clear b9 B8
        go_wp2_with fail
        go_ret
        exact saysIn_q (by simp) B9.out
    · go_wp2_with fail
      refine (HW.out _ (HG.out.below B2.out) (HN.out.below B2.out)).mono ?_
      rintro e w3 ⟨rfl, b3⟩
      have B3 := Lib.hid (B2.out.trans (b3.mono B2.out.size))
      clear b3 B2
      go_wp2_with fail
      go_ret
      exact saysIn_q (by simp) B3.out
end Go.Proofs.YtfobpcedbaaiaaaDoor
