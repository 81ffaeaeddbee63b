/- The reference of package equal: Pairs. -/
import Derived.Test.YtleogedinjijbaaEqD
namespace Go.Proofs.Ytleogedinjijbaa
set_option linter.all false
open Go.RowKit

theorem eqCells_snoc (a b : ByteArray) (k : Nat) (x y : Int) (hx : (eqAt a k : Int) = x) (hy : (eqAt b k : Int) = y) : eqCells a b (k + 1) = eqCells a b k ++ [.int .u8 x, .int .u8 y] := by rw [eqCells, hx, hy]
set_option maxRecDepth 100000 in
set_option maxHeartbeats 2000000 in
theorem refPairs_any (a b : ByteArray) (w : World) (ha : a.size ≤ 1000) (hb : b.size ≤ 1000) :
    Calls Try.prog 10 #[.string a, .string b] w fun e w' => ∃ v, e = .returned v ∧ w'.ownsRow w.heap.size 31 2 v (max a.size b.size) (eqCells a b (max a.size b.size)) ∧ Below w.heap.size w w' := by
  go_enter Try.func10, Try.ntmps10
  go_wp2
  go_loopw [5, 6] (fun v i wr => ∃ k : Nat, k ≤ max a.size b.size ∧ i = .int .i64 k ∧ Hid (wr.ownsRow w.heap.size 31 2 v k (eqCells a b k)) ∧ Below w.heap.size w wr) (fun _ i _ => max a.size b.size - (intOf i).toNat)
  case atStart => exact ⟨0, Nat.zero_le _, rfl, World.ownsRow_nil _ _ _ _, Below.refl _ _⟩
  case round =>
    obtain ⟨k, hk, rfl, HO, hbel⟩ := hrel
    have hsz := hbel.size
    have hk9 : k ≤ 1000000000 := by omega
    have HK := Lib.hid hk
    clear hk
    by_cases h1 : k < a.size
    · by_cases h2 : k < b.size
      · skip
        have HK2 := Lib.hid (show k + 1 ≤ max a.size b.size by omega)
        have Hn := Lib.hid (eqCells_snoc a b k (a[k].toNat : Int) (b[k].toNat : Int) (by rw [eqAt_in a k h1]) (by rw [eqAt_in b k h2]))
        have hszP : w.heap.size ≤ (wr.alloc (.cells #[.int .u8 (a[k].toNat : Int), .int .u8 (b[k].toNat : Int)] 31)).heap.size := by simp; omega
        have HQ := Lib.hid (show wr.heap.size + 1 = (wr.alloc (.cells #[.int .u8 (a[k].toNat : Int), .int .u8 (b[k].toNat : Int)] 31)).heap.size by simp)
        have hbP := hbel.alloc hsz (.cells #[.int .u8 (a[k].toNat : Int), .int .u8 (b[k].toNat : Int)] 31)
        have HbP := Lib.hid (hbP.alloc hszP (.cells #[.int .u8 (a[k].toNat : Int), .int .u8 (b[k].toNat : Int)] 31))
        have HOP := Lib.hid (World.ownsRow.alloc HO.out (.cells #[.int .u8 (a[k].toNat : Int), .int .u8 (b[k].toNat : Int)] 31))
        clear HO hbP
        go_wp2_with (at_builtin; refine wpList_append_pair rfl _ _ rfl w.heap.size (wr.alloc (.cells #[.int .u8 (a[k].toNat : Int), .int .u8 (b[k].toNat : Int)] 31)) u5 k (eqCells a b k) (a[k].toNat : Int) (b[k].toNat : Int) (wr.heap.size + 1) rfl HOP.out rfl HQ.out hk9 hszP ?_)
        intro v' w3 hown' hgr
        have hbel3 : Below w.heap.size w w3 := HbP.out.grown hgr (by simp; omega) fun j hj => (World.ownsRow.lt HOP.out j hj).1
        rw [← Hn.out] at hown'
        have HO3 := Lib.hid hown'
        clear hown' hgr HbP HOP hszP hsz
        go_wp2
        go_roundw
        case rel => exact ⟨k + 1, HK2.out, by go_num, HO3.out, hbel3⟩
        case measure => simp [intOf]; have := HK2.out; omega
      · skip
        have HK2 := Lib.hid (show k + 1 ≤ max a.size b.size by omega)
        have Hn := Lib.hid (eqCells_snoc a b k (a[k].toNat : Int) 0 (by rw [eqAt_in a k h1]) (by rw [eqAt_out b k (by omega)]; rfl))
        have hszP : w.heap.size ≤ (wr.alloc (.cells #[.int .u8 (a[k].toNat : Int), .int .u8 0] 31)).heap.size := by simp; omega
        have HQ := Lib.hid (show wr.heap.size + 1 = (wr.alloc (.cells #[.int .u8 (a[k].toNat : Int), .int .u8 0] 31)).heap.size by simp)
        have hbP := hbel.alloc hsz (.cells #[.int .u8 (a[k].toNat : Int), .int .u8 0] 31)
        have HbP := Lib.hid (hbP.alloc hszP (.cells #[.int .u8 (a[k].toNat : Int), .int .u8 0] 31))
        have HOP := Lib.hid (World.ownsRow.alloc HO.out (.cells #[.int .u8 (a[k].toNat : Int), .int .u8 0] 31))
        clear HO hbP
        go_wp2_with (at_builtin; refine wpList_append_pair rfl _ _ rfl w.heap.size (wr.alloc (.cells #[.int .u8 (a[k].toNat : Int), .int .u8 0] 31)) u5 k (eqCells a b k) (a[k].toNat : Int) 0 (wr.heap.size + 1) rfl HOP.out rfl HQ.out hk9 hszP ?_)
        intro v' w3 hown' hgr
        have hbel3 : Below w.heap.size w w3 := HbP.out.grown hgr (by simp; omega) fun j hj => (World.ownsRow.lt HOP.out j hj).1
        rw [← Hn.out] at hown'
        have HO3 := Lib.hid hown'
        clear hown' hgr HbP HOP hszP hsz
        go_wp2
        go_roundw
        case rel => exact ⟨k + 1, HK2.out, by go_num, HO3.out, hbel3⟩
        case measure => simp [intOf]; have := HK2.out; omega
    · by_cases h2 : k < b.size
      · skip
        have HK2 := Lib.hid (show k + 1 ≤ max a.size b.size by omega)
        have Hn := Lib.hid (eqCells_snoc a b k 0 (b[k].toNat : Int) (by rw [eqAt_out a k (by omega)]; rfl) (by rw [eqAt_in b k h2]))
        have hszP : w.heap.size ≤ (wr.alloc (.cells #[.int .u8 0, .int .u8 (b[k].toNat : Int)] 31)).heap.size := by simp; omega
        have HQ := Lib.hid (show wr.heap.size + 1 = (wr.alloc (.cells #[.int .u8 0, .int .u8 (b[k].toNat : Int)] 31)).heap.size by simp)
        have hbP := hbel.alloc hsz (.cells #[.int .u8 0, .int .u8 (b[k].toNat : Int)] 31)
        have HbP := Lib.hid (hbP.alloc hszP (.cells #[.int .u8 0, .int .u8 (b[k].toNat : Int)] 31))
        have HOP := Lib.hid (World.ownsRow.alloc HO.out (.cells #[.int .u8 0, .int .u8 (b[k].toNat : Int)] 31))
        clear HO hbP
        go_wp2_with (at_builtin; refine wpList_append_pair rfl _ _ rfl w.heap.size (wr.alloc (.cells #[.int .u8 0, .int .u8 (b[k].toNat : Int)] 31)) u5 k (eqCells a b k) 0 (b[k].toNat : Int) (wr.heap.size + 1) rfl HOP.out rfl HQ.out hk9 hszP ?_)
        intro v' w3 hown' hgr
        have hbel3 : Below w.heap.size w w3 := HbP.out.grown hgr (by simp; omega) fun j hj => (World.ownsRow.lt HOP.out j hj).1
        rw [← Hn.out] at hown'
        have HO3 := Lib.hid hown'
        clear hown' hgr HbP HOP hszP hsz
        go_wp2
        go_roundw
        case rel => exact ⟨k + 1, HK2.out, by go_num, HO3.out, hbel3⟩
        case measure => simp [intOf]; have := HK2.out; omega
      · have He : k = max a.size b.size := by have := HK.out; omega
        have Hend : Hid (wr.ownsRow w.heap.size 31 2 u5 (max a.size b.size) (eqCells a b (max a.size b.size))) := by rw [← He]; exact HO.out
        clear HO He
        go_wp2
        go_ret
        exact ⟨_, rfl, Hend.out, hbel⟩
end Go.Proofs.Ytleogedinjijbaa
