/- octet.All: every byte of a string, by a class that is handed in. -/
import Derived.Test.YtfmcdhohmpffbaaDoorOctC
import Derived.Defers
import Derived.Recover
import Derived.Laws.Pointers
import Derived.Below
namespace Go.Proofs.YtfmcdhohmpffbaaDoor
set_option linter.all false
open Go.RowKit

theorem catch_idle (p : Addr) (w : World) :
    CallsD Tryd.prog 38 #[.pointer (some p)] .returning w fun e u' w' => e = .returned (.tuple #[]) ∧ u' = .returning ∧ w' = w := by
  refine callsD_of_wpS Tryd.func38 rfl fun c₀ cs hu => ?_
  apply wpS_seq
  apply wpS_region
  simp [wpOpsS, go_sem, recoverD, hu, Tryd.ntmps38, Exit.thenS]
  refine wpS_cond (t := false) (by simp [Act.eval, Array.replicate]) ?_
  simp only [Bool.false_eq_true, if_false]
  refine wpS_of_wp (wp_skip ?_)
  cases c₀
  simp_all [bodyPostS, results, Tryd.results38]

/-- A call that answers a bool and makes memory. -/
def SaysIn (b : Bool) (w : World) (e : Ending) (w' : World) : Prop := e = .returned (.bool b) ∧ Below w.heap.size w w'

theorem below_drewN {B : Nat} {a w : World} (h : Below B a w) (n : Nat) : Below B a (w.drewN n) := ⟨h.os, h.tape, h.output, h.size, h.block⟩
set_option maxRecDepth 100000 in
theorem all_any (s : ByteArray) (f : Nat) (B : Int → Bool) (w : World) (hs : s.size ≤ 9223372036854775807)
    (hcall : ∀ (x : Value) (w : World), (callFunc f #[x]).run Tryd.prog w = .ok (.enter f #[x]) w)
    (hB : ∀ (z : Int) (w : World), 0 ≤ z → z ≤ 255 → Calls Tryd.prog f #[.int .u8 z] w (Says (B z) w)) :
    Calls Tryd.prog 31 #[.string s, .func (.func f) #[] #[]] w (SaysIn (allB B s.data.toList) w) := by
  have hmf : ∀ (fn : Fn) (first cap : Array Value) (w : World), (Instr.makeFunc fn first cap).run Tryd.prog w = .ok (.func fn first cap) w := fun _ _ _ _ => rfl
  have HB := Lib.hid hB
  clear hB
  go_enter_defers Tryd.func31, Tryd.ntmps31
  go_wp2
  go_loop [9] (fun i => ∃ k : Nat, k ≤ s.size ∧ i = .int .i64 k ∧ allB B (s.data.toList.take k) = true) (fun i => s.size - (intOf i).toNat)
  case atStart => exact ⟨0, Nat.zero_le _, rfl, rfl⟩
  case round =>
    obtain ⟨n, hk, rfl, hm⟩ := hrel
    have Hm := Lib.hid hm
    clear hm
    by_cases hlt : n < s.size
    · have Hs := Lib.hid (allB_snoc B s n hlt)
      have Hy := Lib.hid (allB_no B s n hlt)
      go_wp2_with fail
      refine (HB.out _ _ (by omega) (byte_le _)).mono ?_
      rintro e w' ⟨rfl, rfl⟩
      by_cases hb : B (s[n].toNat : Int) = true
      · go_wp2_with fail
        go_round
        case rel => exact ⟨n + 1, by omega, by go_num, by rw [Hs.out, Hm.out, hb]; rfl⟩
        case measure => simp [intOf]; omega
      · go_wp2_with fail
        refine leaves_cons (f := 38) (args := #[.pointer (some ⟨w.heap.size, 0, none⟩)]) (by simp) (by simp [go_sem]) ?_
        refine (catch_idle ⟨w.heap.size, 0, none⟩ _).mono ?_
        rintro e u' w'' ⟨rfl, rfl, rfl⟩
        have Hr := Hy.out (by simpa using hb)
        simp [Leaves, settle, results, Tryd.results31, go_sem, SaysIn, Hr]
        exact (Below.refl _ _).alloc (Nat.le_refl _) _
    · go_wp2
      refine leaves_cons (f := 38) (args := #[.pointer (some ⟨w.heap.size, 0, none⟩)]) (by simp) (by simp [go_sem]) ?_
      refine (catch_idle ⟨w.heap.size, 0, none⟩ _).mono ?_
      rintro e u' w'' ⟨rfl, rfl, rfl⟩
      have Hr := allB_yes B s n (by omega) Hm.out
      simp [Leaves, settle, results, Tryd.results31, go_sem, SaysIn, Hr]
      exact (Below.refl _ _).alloc (Nat.le_refl _) _
end Go.Proofs.YtfmcdhohmpffbaaDoor
