/- The laws of layer 18: HostParses. -/
import Derived.Test.YtadocpoejbnhpaaDoorQH5
namespace Go.Proofs.YtadocpoejbnhpaaDoor
set_option linter.all false
open Go.RowKit
theorem host_at {s : List UInt8} {j : Nat} (h : hostP s = .error j) : j <= s.length := by
  rw [host_told] at h
  have hl := nmH_le s
  split at h
  · injection h with h; omega
  · split at h
    · cases h
    · rename_i h1 h2
      have h3 : nmH s < s.length := by
        rcases Nat.lt_or_ge (nmH s) s.length with h3 | h3
        · exact h3
        · exact absurd (List.drop_eq_nil_iff.2 h3) h2
      split at h
      · rw [portL_eq] at h
        cases hq : portQ (s.drop (nmH s + 1)) with
        | none => rw [hq] at h; injection h with h; omega
        | some q => rw [hq] at h; cases h
      · injection h with h; omega
set_option maxRecDepth 100000 in
set_option maxHeartbeats 4000000 in
theorem hostParses_any (s : ByteArray) (w : World) (hg : ErrType w) : Calls Tryd.prog 3 #[.string s] w (SaysIn true w) := by
  have hnn := Tryd.eqNNs
  have hq := Tryd.eqNil
  have HG := Lib.hid hg
  have HA := Lib.hid (fun w hg => awake18 w hg)
  have hgd := guardHost
  have hgr := guardRHost
  clear hg
  by_cases hs : s.size <= 500
  · have b500 : decide (500 < (s.size : Int)) = false := by simp; omega
    have HP := Lib.hid (fun w => hparse_any s w (by omega))
    have HR := Lib.hid (fun w => refHParse_any s w (by omega))
    have hj : ∀ j, hostP s.data.toList = .error j -> j <= 1000 := fun j e => by
      have := host_at e
      have h2 : s.data.toList.length = s.size := by simp
      omega
    have HJ := Lib.hid hj
    generalize hostP s.data.toList = r at HP HR HJ
    clear hs hj
    go_enter Tryd.func3, Tryd.ntmps3
    go_wp2_with fail
    refine (HA.out _ HG.out).mono ?_
    rintro e w1 ⟨rfl, b1⟩
    have B1 := Lib.hid b1
    clear b1 HA
    match r with
    | .ok (n, p) =>
      unfold HostTo hostAns at HP
      unfold RefHostTo refHostAns at HR
      simp only at HP HR
      generalize (⟨n.toArray⟩ : ByteArray) = nm at HP HR
      have heq : ∀ w, (binOp .eql 29 (.agg #[.string nm, .int .i64 p]) (.agg #[.string nm, .int .i64 p])).run Tryd.prog w = .ok (.bool true) w := fun w => (eqRHost nm p nm p w).trans (by rw [eqHo_self])
      go_wp2_with fail
      refine (HP.out _).mono ?_
      rintro e w2 ⟨rfl, b2⟩
      have ba := (Below.refl w2.heap.size w2).alloc (Nat.le_refl _) (.cells #[.string nm, .int .i64 p] 24)
      have X2 := Lib.hid (Box.new w2 [.string nm, .int .i64 p] 24)
      have B2 := Lib.hid ((B1.out.trans (b2.mono B1.out.size)).trans (ba.mono (B1.out.trans (b2.mono B1.out.size)).size))
      obtain ⟨g, hgg⟩ : ∃ g, g = w2.heap.size := ⟨_, rfl⟩
      clear b2 ba B1 HP
      go_wp2_with fail
      refine (HR.out _).mono ?_
      rintro e w3 ⟨rfl, b3⟩
      have X3 := Lib.hid (X2.out.below b3)
      have ba := (Below.refl w3.heap.size w3).alloc (Nat.le_refl _) (.cells #[.string nm, .int .i64 p] 29)
      have B3 := Lib.hid ((B2.out.trans (b3.mono B2.out.size)).trans (ba.mono (B2.out.trans (b3.mono B2.out.size)).size))
      have X4 := X3.out.below ba
      have c0 : (w3.alloc (.cells #[.string nm, .int .i64 p] 29)).cell? ⟨w2.heap.size, 0, none⟩ = some (.string nm) := X4.cell rfl
      have c1 : (w3.alloc (.cells #[.string nm, .int .i64 p] 29)).cell? ⟨w2.heap.size, 1, none⟩ = some (.int .i64 p) := X4.cell rfl
      clear b3 ba X2 B2 X3 X4 HR hgg
      go_wp2
      go_ret
      exact saysIn_of' (by simp) B3.out
    | .error j =>
      have hj0 := HJ.out j rfl
      unfold HostTo hostAns at HP
      unfold RefHostTo refHostAns at HR
      simp only at HP HR
      have heq : ∀ w, (binOp .eql 24 (.agg #[.string ⟨#[]⟩, .int .i64 0]) (.agg #[.string ⟨#[]⟩, .int .i64 0])).run Tryd.prog w = .ok (.bool true) w := fun w => (eqHost ⟨#[]⟩ 0 ⟨#[]⟩ 0 w).trans (by rw [eqHo_self])
      have HW := Lib.hid (fun w hg => wrong18_F (j : Int) (j : Int) w hg)
      rw [decide_eq_true (rfl : (j : Int) = (j : Int))] at HW
      go_wp2_with fail
      refine (HP.out _).mono ?_
      rintro e w2 ⟨rfl, b2⟩
      have ba := (Below.refl w2.heap.size w2).alloc (Nat.le_refl _) (.cells #[.string ⟨#[]⟩, .int .i64 0] 24)
      have X2 := Lib.hid (Box.new w2 [.string ⟨#[]⟩, .int .i64 0] 24)
      have B2 := Lib.hid ((B1.out.trans (b2.mono B1.out.size)).trans (ba.mono (B1.out.trans (b2.mono B1.out.size)).size))
      clear b2 ba B1 HP
      go_wp2_with fail
      refine (HR.out _).mono ?_
      rintro e w3 ⟨rfl, b3⟩
      have X3 := Lib.hid (X2.out.below b3)
      have ba := (Below.refl w3.heap.size w3).alloc (Nat.le_refl _) (.cells #[.string ⟨#[]⟩, .int .i64 0] 29)
      have B3 := Lib.hid ((B2.out.trans (b3.mono B2.out.size)).trans (ba.mono (B2.out.trans (b3.mono B2.out.size)).size))
      have X4 := X3.out.below ba
      have c0 : (w3.alloc (.cells #[.string ⟨#[]⟩, .int .i64 0] 29)).cell? ⟨w2.heap.size, 0, none⟩ = some (.string ⟨#[]⟩) := X4.cell rfl
      have c1 : (w3.alloc (.cells #[.string ⟨#[]⟩, .int .i64 0] 29)).cell? ⟨w2.heap.size, 1, none⟩ = some (.int .i64 0) := X4.cell rfl
      clear b3 ba X2 B2 X3 X4 HR
      go_wp2_with fail
      refine (HW.out _ (HG.out.below B3.out)).mono ?_
      rintro e w5 ⟨rfl, b5⟩
      have B5 := Lib.hid (B3.out.trans (b5.mono B3.out.size))
      clear b5 B3 c0 c1
      go_wp2
      go_ret
      exact saysIn_of' (by simp) B5.out
  · have b500 : decide (500 < (s.size : Int)) = true := by simp; omega
    clear hs
    go_enter Tryd.func3, Tryd.ntmps3
    go_wp2_with fail
    refine (HA.out _ HG.out).mono ?_
    rintro e w1 ⟨rfl, b1⟩
    have B1 := Lib.hid b1
    clear b1
    go_wp2_with fail
    refine (HA.out _ (HG.out.below B1.out)).mono ?_
    rintro e w2 ⟨rfl, b2⟩
    have B2 := Lib.hid (B1.out.trans (b2.mono B1.out.size))
    clear b2
    go_wp2
    go_ret
    exact saysIn_of' rfl B2.out
end Go.Proofs.YtadocpoejbnhpaaDoor
