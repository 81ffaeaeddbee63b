/- The laws of layer 18: HostFinds. -/
import Derived.Test.YtadocpoejbnhpaaDoorQH5
namespace Go.Proofs.YtadocpoejbnhpaaDoor
set_option linter.all false
open Go.RowKit
set_option maxRecDepth 100000 in
set_option maxHeartbeats 8000000 in
theorem hostFinds_any (v : Value) (R : Nat -> Prop) (L : List HostVv) (nm : ByteArray) (w : World) (hv : hostK.rows R w v L) (hg : ErrType w) : Calls Tryd.prog 6 #[v, .string nm] w (SaysIn true w) := by
  have HG := Lib.hid hg
  have HA := Lib.hid (fun w hg => awake18 w hg)
  have HV := Lib.hid hv
  have HFw := Lib.hid (fun W (h : Below w.heap.size w W) => few18_any v R L W (Kind.rows_below _ hv h))
  clear hg
  cases hf : fewH L
  · rw [hf] at HFw
    obtain ⟨pt, ct, rfl⟩ := Kind.rows_sliced _ hv
    generalize L.length = ln at HFw
    clear hf hv HV
    go_enter Tryd.func6, Tryd.ntmps6
    go_wp2_with fail
    refine (HA.out _ HG.out).mono ?_
    rintro e w1 ⟨rfl, b1⟩
    have B1 := Lib.hid b1
    clear b1
    go_wp2_with fail
    refine (HFw.out _ B1.out).mono ?_
    rintro e w2 ⟨rfl, rfl⟩
    go_wp2_with fail
    refine (HA.out _ (HG.out.below B1.out)).mono ?_
    rintro e w2 ⟨rfl, b2⟩
    have B2 := Lib.hid (B1.out.trans (b2.mono B1.out.size))
    clear b2
    go_wp2
    go_ret
    exact saysIn_of' rfl B2.out
  · rw [hf] at HFw
    obtain ⟨hsz, hl10⟩ := fewH_out hf
    have hx : ∀ h ∈ L, ∀ x ∈ h.1, x.size <= 1000000 := fun h hh x hx => by have := hsz h hh x hx; omega
    by_cases hn : nm.size <= 100
    · have b100 : decide (100 < (nm.size : Int)) = false := by simp; omega
      have HF := Lib.hid (fun W (h : Below w.heap.size w W) => hFind_any v R L nm W (Kind.rows_below _ hv h) hx (by omega))
      have HFr := Lib.hid (fun W (h : Below w.heap.size w W) => refFind18_any v R L nm W (Kind.rows_below _ hv h) hx (by omega))
      have HFo := Lib.hid (fun W (h : Below w.heap.size w W) x hxs => hFind_any v R L x W (Kind.rows_below _ hv h) hx hxs)
      have HX := Lib.hid hx
      obtain ⟨pt, ct, rfl⟩ := Kind.rows_sliced _ hv
      have hlen := Kind.rows_len _ hv
      obtain ⟨n, hnn⟩ : ∃ n, n = L.length := ⟨_, rfl⟩
      generalize findH nm 0 (L.map (·.1)) = r at HF HFr
      rw [<- hnn] at HF HFr HFo HFw hlen ⊢
      have Hn := Lib.hid hnn
      have e1 : (r != r) = false := by simp
      clear hf hv hx hsz hl10 hn hnn
      go_enter Tryd.func6, Tryd.ntmps6
      go_wp2_with fail
      refine (HA.out _ HG.out).mono ?_
      rintro e w1 ⟨rfl, b1⟩
      have B1 := Lib.hid b1
      clear b1 HA
      go_wp2_with fail
      refine (HFw.out _ B1.out).mono ?_
      rintro e w2 ⟨rfl, rfl⟩
      go_wp2_with fail
      refine (HF.out _ B1.out).mono ?_
      rintro e w2 ⟨rfl, b2⟩
      have B2 := Lib.hid (B1.out.trans (b2.mono B1.out.size))
      clear b2 B1
      go_wp2_with fail
      refine (HFr.out _ B2.out).mono ?_
      rintro e w3 ⟨rfl, b3⟩
      have B3 := Lib.hid (B2.out.trans (b3.mono B2.out.size))
      clear b3 B2 HF HFr HFw
      go_wp2
      go_loopw [5] (fun j wi => ∃ q : Nat, q <= n /\ j = .int .i64 q /\ Hid (Below w.heap.size w wi)) (fun j _ => (n - intOf j).toNat)
      case atStart => exact ⟨0, Nat.zero_le _, rfl, B3⟩
      case round =>
        obtain ⟨q, hq, rfl, HB⟩ := hrel
        obtain ⟨wq, hwq⟩ : ∃ wq, wq = wr := ⟨_, rfl⟩
        subst hwq
        clear B3
        by_cases hqn : q < n
        · have hqL : q < L.length := by rw [<- Hn.out]; exact hqn
          obtain ⟨y, hy⟩ : ∃ y, y = L[q] := ⟨_, rfl⟩
          obtain ⟨m, hm⟩ : ∃ m, m = y.1.length := ⟨_, rfl⟩
          have HXy := Lib.hid (show ∀ x ∈ y.1, x.size <= 1000000 by rw [hy]; exact HX.out _ (List.getElem_mem hqL))
          have HOwn := Lib.hid (show ∀ x ∈ y.1, 0 <= findH x 0 (L.map (·.1)) /\ findH x 0 (L.map (·.1)) <= (q : Int) from fun x hx => by
            have := findH_own x (L.map (·.1)) 0 q y.1 (by rw [List.getElem?_map, List.getElem?_eq_getElem hqL, <- hy]; rfl) hx
            rwa [Nat.zero_add] at this)
          obtain ⟨p0, d0, hh⟩ : ∃ p0 d0 b o, (∀ W, (Instr.indexAt 38 (.slice pt n ct) (.int .i64 (q : Int))).run Tryd.prog W = .ok (.pointer (some ⟨b, o, none⟩)) W) /\ w.cell? ⟨b, o, none⟩ = some (.slice p0 m d0) /\ StrsIn w (.slice p0 m d0) y.1 := by
            have HV2 := HV.out
            rw [<- Hn.out] at HV2
            obtain ⟨b, o, cs, hat, _, hin, hcell⟩ := Kind.rows_at _ Tryd.uHosts Tryd.zHosts HV2 q hqL
            rw [<- hy] at hin
            obtain ⟨p0, d0, p1, d1, p2, d2, rfl, hs⟩ := hostK_cells hin
            rw [<- hm] at hs hcell
            exact ⟨p0, d0, b, o, hat, hcell 0 _ rfl, hs⟩
          obtain ⟨b, o, hat, hcell, hs⟩ := hh
          have Hcell := Lib.hid hcell
          have Hlt := Lib.hid (World.block_lt_of_cell? w _ hcell)
          have HSs := Lib.hid hs
          have hmlen : m <= 9223372036854775807 := by rw [hm]; exact strs_len hs
          have Hm := Lib.hid hm
          have hwr : IntKind.i64.wrap ((q : Int) + 1) = (q : Int) + 1 := by rw [IntKind.wrap_i64] <;> omega
          clear hy hcell hs hm
          go_wp2
          go_loopw [6] (fun j wi => ∃ k : Nat, k <= m /\ j = .int .i64 k /\ Hid (Below w.heap.size w wi)) (fun j _ => (m - intOf j).toNat)
          case atStart => exact ⟨0, Nat.zero_le _, rfl, HB⟩
          case round =>
            obtain ⟨k, hk, rfl, HB1⟩ := hrel
            have c1 : wr.cell? ⟨b, o, none⟩ = some (.slice p0 m d0) := (HB1.out.cell Hlt.out).trans Hcell.out
            by_cases hkm : k < m
            · have hkL : k < y.1.length := by rw [<- Hm.out]; exact hkm
              obtain ⟨b2, o2, hat2, hcell2⟩ := (HSs.out.below HB1.out).at2 k hkL
              obtain ⟨x, hx⟩ : ∃ x, x = y.1[k] := ⟨_, rfl⟩
              have hxm : x ∈ y.1 := by rw [hx]; exact List.getElem_mem hkL
              rw [<- hx] at hcell2
              have HFx := Lib.hid (HFo.out wr HB1.out x (HXy.out x hxm))
              have hO := HOwn.out x hxm
              generalize findH x 0 (L.map (·.1)) = f at HFx hO
              have f0 : decide (f < 0) = false := by simp; omega
              have f1 : decide ((q : Int) < f) = false := by simp; omega
              have hwk : IntKind.i64.wrap ((k : Int) + 1) = (k : Int) + 1 := by rw [IntKind.wrap_i64] <;> omega
              clear hx hxm hO
              go_wp2_with fail
              refine HFx.out.mono ?_
              rintro e w5 ⟨rfl, b5⟩
              have B5 := Lib.hid (HB1.out.trans (b5.mono HB1.out.size))
              clear b5
              go_wp2
              go_roundw
              case rel => exact ⟨k + 1, by omega, by go_num, B5⟩
              case measure => simp [intOf]; omega
            · go_wp2
              go_roundw
              case rel => exact ⟨q + 1, by omega, by go_num, HB1⟩
              case measure => simp [intOf]; omega
        · go_wp2
          go_ret
          exact saysIn_of' rfl HB.out
    · have b100 : decide (100 < (nm.size : Int)) = true := by simp; omega
      obtain ⟨pt, ct, rfl⟩ := Kind.rows_sliced _ hv
      generalize L.length = ln at HFw
      clear hf hv HV hx hsz hl10 hn
      go_enter Tryd.func6, Tryd.ntmps6
      go_wp2_with fail
      refine (HA.out _ HG.out).mono ?_
      rintro e w1 ⟨rfl, b1⟩
      have B1 := Lib.hid b1
      clear b1
      go_wp2_with fail
      refine (HFw.out _ B1.out).mono ?_
      rintro e w2 ⟨rfl, rfl⟩
      go_wp2_with fail
      refine (HA.out _ (HG.out.below B1.out)).mono ?_
      rintro e w2 ⟨rfl, b2⟩
      have B2 := Lib.hid (B1.out.trans (b2.mono B1.out.size))
      clear b2
      go_wp2
      go_ret
      exact saysIn_of' rfl B2.out
end Go.Proofs.YtadocpoejbnhpaaDoor
