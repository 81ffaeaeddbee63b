/- Texts of one seat, merged: TreI, TreL, TreM. -/
import Derived.Shelf.SlIter.Nil
import Derived.Shelf.SortM.Plain
import Derived.Shelf.SortM.SortNone
import Derived.Ground.GgzProg
import Derived.Ground.SlgmProg
import Derived.Test.YthnnfppjadgldaaGreatDoorQA
import Derived.Test.YthnnfppjadgldaaGreatDoorQV
import Derived.Test.YthnnfppjadgldaaGreatDoorQT3
namespace Go.Proofs
open Go.RowKit Go.Maps Go.Sort Go.Shelf
set_option linter.all false
shelf_lay_g SlLaysZ.n7 Ggz 7 at Tryz 47 as Tryz.keysN
shelf_lay_g SlLaysZ.n6 Ggz 6 at Tryz 46 as Tryz.sortedN
shelf_lay_g SlLaysM.n6 Slgm 6 at Tryz 57 as Tryz.sortN
theorem Tryz.sortsN (m : Nat) : AnyZ.SortsIn Tryz.prog Tryz.sortedN_ren Fence.wide m :=
  ⟨fun blk off cap ss W hH hblk hsz => callsIn_wide.2 (AnyM.slices_Sort_string Tryz.sortN blk off cap ss W hH hblk hsz),
   fun p cap W => callsIn_wide.2 (AnyM.slices_Sort_string_none Tryz.sortN p cap W)⟩
theorem Tryz.mapsKeysN (mb : Option Nat) (W : World) : CallsIn Fence.wide 5 Tryz.prog 47 #[.map mb] W fun e w' => e = .returned (.func (.func 58) #[] #[.pointer (some ⟨W.heap.size, 0, none⟩)]) /\ w' = W.alloc (.cells #[.map mb] 72) :=
  AnyZ.keys_in Tryz.keysN Fence.wide 5 trivial rfl mb W
set_option maxHeartbeats 1000000 in
theorem Tryz.sortedKeysN {H : Type} (b nn : Nat) (D0 : DataW H) (R : Value -> Option (DataW H × List MemPlace)) (w : World) (hown : w.ownsMap Tryz.prog 9 R b nn D0) (hmax : Maps.size D0 <= maxLen) (hbytes : Maps.size D0 * 16 <= 140737488355328) :
    CallsIn Fence.wide 5 Tryz.prog 46 #[.func (.func 58) #[] #[.pointer (some ⟨w.heap.size, 0, none⟩)]] (w.alloc (.cells #[.map (some b)] 72)) fun e w' => ∃ (v : Value) (ss : List (List UInt8)), e = .returned v /\ ss.Perm (strKeys D0) /\
      w'.ownsRow (w.alloc (.cells #[.map (some b)] 72)).heap.size 9 1 v ss.length ((ss.mergeSort (fun x y => decide (x <= y))).map encStr) /\ (v = .slice none 0 0 ↔ ss = []) /\ Below (w.alloc (.cells #[.map (some b)] 72)).heap.size (w.alloc (.cells #[.map (some b)] 72)) w' := by
  have hbl := hown.lt
  have hseq : SeqGives Fence.wide 2 Tryz.prog 58 #[.pointer (some ⟨w.heap.size, 0, none⟩)] encStr (fun ss => ss.Perm (strKeys D0)) (Maps.size D0) (w.alloc (.cells #[.map (some b)] 72)) :=
    AnyZ.keys_gives (ρ := Tryz.keysN_ren) { Tryz.keysN with } Fence.wide _ trivial rfl (by omega) w.heap.size b nn D0 _ (by simp) (by simp) (by
      obtain ⟨es, clock, hb, Ft, hs, hD⟩ := hown
      exact ⟨es, clock, (Below.heap_alloc _ _ b hbl).trans hb, Ft, hs, hD⟩)
  exact AnyZ.sorted_in Tryz.sortedN Fence.wide 5 trivial trivial trivial trivial rfl (by omega) (Tryz.sortsN _) (enters_of Tryz.func57 (by kernel_rfl) rfl) 58 #[.pointer (some ⟨w.heap.size, 0, none⟩)] trivial (enters_of Tryz.func58 (by kernel_rfl) rfl) _ _ hmax hbytes _ hseq
namespace YthnnfppjadgldaaGreatDoor
def mkS (b : List UInt8) : ByteArray := ⟨b.toArray⟩
theorem mkS_list (b : List UInt8) : (mkS b).toList = b := by rw [ByteArray.toList_eq]; simp [mkS]
theorem mkS_of (s : ByteArray) : mkS s.data.toList = s := ByteArray.ext (by simp [mkS])
theorem bytesLess_lt : ∀ a b : List UInt8, Op.bytesLess a b = true ↔ a < b
  | [], [] => by simp [Op.bytesLess]
  | _ :: _, [] => by simp [Op.bytesLess]
  | [], _ :: _ => by simp [Op.bytesLess]
  | x :: a, y :: b => by
    have ih := bytesLess_lt a b
    unfold Op.bytesLess
    rw [Bool.or_eq_true, Bool.and_eq_true, ih, List.cons_lt_cons_iff]
    simp
theorem strKeys_nodup {P : Program} {k : TypeId} {R : Value -> Option (DataW Unit × List MemPlace)} {w : World} {b n : Nat} {D : DataW Unit} (h : w.ownsMap P k R b n D) (K : Keyed P k) (hk : P.underlying k = some .string) : (strKeys D).Nodup /\ ∀ x, x ∈ strKeys D ↔ has D (.string x) = true := by
  obtain ⟨es, hD, hpw, _⟩ := h.entries K
  obtain ⟨es', hD', hko⟩ := h.keysOf
  obtain rfl : es = es' := by rw [hD] at hD'; simpa using hD'
  subst hD
  have hs : ∀ p ∈ es, ∃ x, p.1 = .string x := fun p hp => by
    obtain ⟨v, hv⟩ := hko p hp
    obtain ⟨x, _, hx, _⟩ := Maps.keyOf_str hk hv
    exact ⟨x, hx⟩
  constructor
  · show (es.map fun p => strOf p.1).Nodup
    refine List.pairwise_map.2 (hpw.imp_of_mem fun {p q} hp hq hne e => hne ?_)
    obtain ⟨a, ha⟩ := hs p hp
    obtain ⟨c, hc⟩ := hs q hq
    rw [ha, hc] at e ⊢
    exact congrArg _ e
  · intro x
    rw [has_eq, List.any_eq_true]
    show x ∈ es.map (fun p => strOf p.1) ↔ _
    rw [List.mem_map]
    constructor
    · rintro ⟨p, hp, rfl⟩
      obtain ⟨a, ha⟩ := hs p hp
      exact ⟨p, hp, by rw [ha]; simp [Lit.sameKey, strOf]⟩
    · rintro ⟨p, hp, he⟩
      obtain ⟨a, ha⟩ := hs p hp
      rw [ha] at he
      exact ⟨p, hp, by rw [ha]; simp [Lit.sameKey] at he; simp [strOf, he]⟩
theorem keys_sorted {w : World} {b n : Nat} {f : ByteArray -> Option Nat} {D : DataW Unit} (h : w.ownsMap Tryz.prog 9 ptrR b n D) (hat : ∀ s : ByteArray, s.size <= maxLen -> D.atKey (keyS s) .nil = ptrD (f s) /\ Maps.has D (keyS s) = (f s).isSome)
    {ss : List (List UInt8)} (hp : ss.Perm (strKeys D)) : SortedS ((ss.mergeSort fun x y => decide (x <= y)).map mkS) /\ ∀ x, x ∈ (ss.mergeSort fun x y => decide (x <= y)).map mkS ↔ x.size <= maxLen /\ (f x).isSome = true := by
  have hk : Tryz.prog.underlying 9 = some .string := by kernel_rfl
  have K := string_keyed hk
  obtain ⟨hnd, hmem⟩ := strKeys_nodup h K hk
  have hle := strKeys_le h hk
  have hpm := (List.mergeSort_perm ss fun x y => decide (x <= y)).trans hp
  have hnd2 : (ss.mergeSort fun x y => decide (x <= y)).Nodup := hpm.nodup_iff.2 hnd
  have tr : ∀ a b c : List UInt8, decide (a <= b) = true -> decide (b <= c) = true -> decide (a <= c) = true := fun a b c h1 h2 => by simp only [decide_eq_true_eq] at *; exact List.le_trans h1 h2
  have to : ∀ a b : List UInt8, (decide (a <= b) || decide (b <= a)) = true := fun a b => by simp only [Bool.or_eq_true, decide_eq_true_eq]; exact List.le_total a b
  have hpw := List.pairwise_mergeSort tr to ss
  refine ⟨?_, fun x => ?_⟩
  · unfold SortedS
    rw [List.pairwise_map]
    refine List.Pairwise.imp (fun {a c} hac => ?_) (hpw.and hnd2)
    obtain ⟨h1, h2⟩ := hac
    unfold blS
    rw [mkS_list, mkS_list, bytesLess_lt]
    rw [decide_eq_true_eq] at h1
    rcases bytesLess_tri a c with e | e | e
    · exact absurd e h2
    · exact (bytesLess_lt a c).1 e
    · exact absurd ((bytesLess_lt c a).1 e) (List.not_lt.2 h1)
  · rw [List.mem_map]
    constructor
    · rintro ⟨y, hy, rfl⟩
      have hy2 := hpm.mem_iff.1 hy
      have hsz : (mkS y).size <= maxLen := by
        have := hle y hy2
        simpa [mkS, ByteArray.size] using this
      refine ⟨hsz, ?_⟩
      have := (hat (mkS y) hsz).2
      rw [<- this]
      have := (hmem y).1 hy2
      simpa [keyS, mkS] using this
    · rintro ⟨hsz, hf⟩
      refine ⟨x.data.toList, ?_, mkS_of x⟩
      refine hpm.mem_iff.2 ((hmem _).2 ?_)
      have := (hat x hsz).2
      rw [hf] at this
      exact this
end YthnnfppjadgldaaGreatDoor
end Go.Proofs
namespace Go.Proofs.YthnnfppjadgldaaGreatDoor
set_option linter.all false
open Go.RowKit
set_option maxRecDepth 100000 in
theorem findNil_any (v : Value) (w : World) : Calls Tryz.prog 43 #[.pointer none, v] w (AtTo none w) := by
  go_enter Tryz.func43, Tryz.ntmps43
  go_wp2
  go_ret
  exact ⟨rfl, Below.refl _ _⟩
set_option maxRecDepth 100000 in
theorem find_any {R : Nat -> Prop} {N : Nat} {nd : PathS -> Option Nat} {mb : PathS -> Nat} {th : PathS -> Prop} {en : PathS -> Int} {fl : PathS -> Bool} (v : Value) (L : PathS) (tp root : Nat) (w : World) (hc : w.cell? ⟨tp, 0, none⟩ = some (.pointer (some ⟨root, 0, none⟩))) (hF : Forest R N w nd mb th en fl) (hr : nd [] = some root) (hup : ∀ p s, th (p ++ [s]) -> th p)
    (hv : StrsIn w v L) (hx : ∀ x ∈ L, x.size <= 1000000) : Calls Tryz.prog 43 #[.pointer (some ⟨tp, 0, none⟩), v] w (AtTo (nd L) w) := by
  have HA := Lib.hid (at_any v L root w hF hr hup hv hx)
  generalize nd L = c at HA ⊢
  clear hF hr hup hv hx
  go_enter Tryz.func43, Tryz.ntmps43
  go_wp2_with fail
  refine HA.out.mono ?_
  rintro e w1 ⟨rfl, hb⟩
  have HB := Lib.hid hb
  clear hb
  go_wp2_with fail
  go_ret
  exact ⟨rfl, HB.out⟩
theorem kindN_none {R : Nat -> Prop} {N : Nat} {w : World} {nd : PathS -> Option Nat} {mb : PathS -> Nat} {T : List TF} {en : PathS -> Int} {fl : PathS -> Bool} (hF : Forest R N w nd mb (There T) en fl) {L : PathS} (h : nd L = none) : kindN T L = 0 := by
  unfold kindN
  rw [if_neg fun e => (hF.dom L).2 e h]
theorem kindN_some {R : Nat -> Prop} {N : Nat} {w : World} {nd : PathS -> Option Nat} {mb : PathS -> Nat} {T : List TF} {en : PathS -> Int} {fl : PathS -> Bool} (hF : Forest R N w nd mb (There T) en fl) {L : PathS} {b : Nat} (h : nd L = some b) : kindN T L = if flP T L then 1 else 2 := by
  unfold kindN
  rw [if_pos (hF.there h)]
set_option maxRecDepth 100000 in
theorem treeKindNil_any (v : Value) (w : World) : Calls Tryz.prog 20 #[.pointer none, v] w (IntTo 0 w) := by
  go_enter Tryz.func20, Tryz.ntmps20
  go_wp2_with fail
  refine (findNil_any v w).mono ?_
  rintro e w1 ⟨rfl, hb⟩
  have HB := Lib.hid hb
  clear hb
  unfold ptrV
  go_wp2_with fail
  refine (kindNil_any w1).mono ?_
  rintro e w2 ⟨rfl, hb⟩
  have HB2 := Lib.hid (HB.out.trans (hb.mono HB.out.size))
  clear hb
  go_wp2_with fail
  go_ret
  exact ⟨rfl, HB2.out⟩
theorem kindOf_any {R : Nat -> Prop} {N : Nat} {w : World} {nd : PathS -> Option Nat} {mb : PathS -> Nat} {T : List TF} (hF : Forest R N w nd mb (There T) (fun q => enP q 0 T) (flP T)) (L : PathS) : Calls Tryz.prog 44 #[ptrV (nd L)] w (IntTo (kindN T L) w) := by
  cases h : nd L with
  | none => rw [kindN_none hF h]; exact kindNil_any w
  | some b =>
    rw [kindN_some hF h]
    have := kind_any b (flP T L) w ((hF.node _ _ h).2.1.cell rfl)
    generalize flP T L = x at this ⊢
    cases x <;> exact this
set_option maxRecDepth 100000 in
theorem treeKind_any {R : Nat -> Prop} (v : Value) (L : PathS) (tp : Nat) (T : List FileV) (w : World) (h : TreeAt R w tp T) (hv : StrsIn w v L) (hx : ∀ x ∈ L, x.size <= 1000000) :
    Calls Tryz.prog 20 #[.pointer (some ⟨tp, 0, none⟩), v] w (IntTo (kindN (T.map tfOf) L) w) := by
  obtain ⟨root, N, vE, _, ⟨nd, mb, hbox, hr, hF⟩, _, _⟩ := h
  have HA := Lib.hid (find_any v L tp root w (hbox.cell rfl) hF hr (there_up _) hv hx)
  have HK := Lib.hid (fun W (hb : Below w.heap.size w W) => kindOf_any (hF.below hb) L)
  generalize nd L = c at HA HK
  generalize kindN (T.map tfOf) L = k at HK ⊢
  clear hF hr hv hx hbox
  go_enter Tryz.func20, Tryz.ntmps20
  go_wp2_with fail
  refine HA.out.mono ?_
  rintro e w1 ⟨rfl, hb⟩
  have HB := Lib.hid hb
  clear hb
  go_wp2_with fail
  refine (HK.out _ HB.out).mono ?_
  rintro e w2 ⟨rfl, hb⟩
  have HB2 := Lib.hid (HB.out.trans (hb.mono HB.out.size))
  clear hb
  go_wp2_with fail
  go_ret
  exact ⟨rfl, HB2.out⟩
set_option maxRecDepth 100000 in
theorem entriesNil_any (w : World) : Calls Tryz.prog 26 #[.pointer none] w (fun e w' => e = .returned (.slice none 0 0) /\ Below w.heap.size w w') := by
  go_enter Tryz.func26, Tryz.ntmps26
  go_wp2
  go_ret
  exact ⟨rfl, Below.refl _ _⟩
set_option maxRecDepth 100000 in
theorem entries_any {R : Nat -> Prop} (tp : Nat) (T : List FileV) (w : World) (h : TreeAt R w tp T) (hS : ∀ f ∈ T, SmallF f) (hT : T.length <= 1000000) :
    Calls Tryz.prog 26 #[.pointer (some ⟨tp, 0, none⟩)] w (CopiesTo T w) := by
  obtain ⟨root, N, vE, _, ⟨nd, mb, hbox, hr, hF⟩, hrows, _⟩ := h
  have c1 := hbox.cell (i := 1) rfl
  have HC := Lib.hid (copies_any vE T w hrows hS hT)
  clear hbox hr hF hrows hS hT
  go_enter Tryz.func26, Tryz.ntmps26
  go_wp2_with fail
  refine HC.out.mono ?_
  rintro e w1 ⟨v, rfl, h1, h2⟩
  have H1 := Lib.hid (And.intro h1 h2)
  clear h1 h2
  go_wp2_with fail
  go_ret
  exact ⟨v, rfl, H1.out.1, H1.out.2⟩
theorem own_lower {w : World} {B B' : Nat} {v : Value} {L : List ByteArray} (h : OwnStrs w B v L) (hB : B' <= B) : OwnStrs w B' v L := by
  rcases h.2 with ⟨h1, h2⟩ | ⟨g, cap, cur, h1, h2, h3⟩
  · exact ⟨h.1, .inl ⟨h1, h2⟩⟩
  · exact ⟨h.1, .inr ⟨g, cap, cur, h1, Nat.le_trans hB h2, h3⟩⟩
def ListTo (X : List ByteArray) (w : World) (e : Ending) (w' : World) : Prop := ∃ v, e = .returned v /\ OwnStrs w' w.heap.size v X /\ Below w.heap.size w w'
theorem keys_any {b n : Nat} {f : ByteArray -> Option Nat} (w : World) (h : PMap Tryz.prog 9 w b n f) (hn : n <= 1000000) :
    Calls Tryz.prog 47 #[.map (some b)] w fun e w1 => ∃ x, e = .returned x /\ Calls Tryz.prog 46 #[x] w1 fun e w' => ∃ v X, e = .returned v /\ OwnStrs w' w.heap.size v X /\ Below w.heap.size w w' /\ SortedS X /\ ∀ s, s ∈ X ↔ s.size <= maxLen /\ (f s).isSome = true := by
  obtain ⟨D, hown, hat⟩ := h
  have hsz := hown.size_le
  refine ((callsIn_wide (n := 5)).1 (Tryz.mapsKeysN (some b) w)).mono ?_
  rintro e w1 ⟨rfl, rfl⟩
  refine ⟨_, rfl, ?_⟩
  refine ((callsIn_wide (n := 5)).1 (Tryz.sortedKeysN b n D ptrR w hown (by unfold maxLen; omega) (by omega))).mono ?_
  rintro e w' ⟨v, ss, rfl, hp, hrow, _, hb⟩
  obtain ⟨h1, h2⟩ := keys_sorted hown hat hp
  have hb0 : Below w.heap.size w (w.alloc (.cells #[.map (some b)] 72)) := (Below.refl _ _).alloc (Nat.le_refl _) _
  refine ⟨v, _, rfl, own_lower (B := (w.alloc (.cells #[.map (some b)] 72)).heap.size) ?_ hb0.size, hb0.trans (hb.mono hb0.size), h1, h2⟩
  unfold OwnStrs strVals
  rw [List.length_map, List.length_mergeSort, List.map_map]
  exact hrow
set_option maxRecDepth 100000 in
set_option maxHeartbeats 4000000 in
theorem treeList_any {R : Nat -> Prop} {ok : TF -> Bool} (v : Value) (L : PathS) (tp : Nat) (T : List FileV) (w : World) (h : TreeAt R w tp T) (hg : RightG ok (T.map tfOf)) (hv : StrsIn w v L) (hx : ∀ x ∈ L, x.size <= 1000000) (hS : ∀ f ∈ T, SmallF f) :
    Calls Tryz.prog 23 #[.pointer (some ⟨tp, 0, none⟩), v] w (ListTo (listP (T.map tfOf) L) w) := by
  obtain ⟨root, N, vE, _, ⟨nd, mb, hbox, hr, hF⟩, _, hN⟩ := h
  have HA := Lib.hid (find_any v L tp root w (hbox.cell rfl) hF hr (there_up _) hv hx)
  have HK := Lib.hid (fun W (hb : Below w.heap.size w W) => kindOf_any (hF.below hb) L)
  cases hnd : nd L with
  | none =>
    have HE := Lib.hid (list_not hg (q := L) (by rw [kindN_none hF hnd]; omega))
    rw [hnd] at HA HK
    rw [kindN_none hF hnd] at HK
    clear hF hr hv hx hbox hnd
    go_enter Tryz.func23, Tryz.ntmps23
    go_wp2_with fail
    refine HA.out.mono ?_
    rintro e w1 ⟨rfl, hb⟩
    have HB := Lib.hid hb
    clear hb
    go_wp2_with fail
    refine (HK.out _ HB.out).mono ?_
    rintro e w2 ⟨rfl, hb⟩
    have HB2 := Lib.hid (HB.out.trans (hb.mono HB.out.size))
    clear hb
    go_wp2_with fail
    go_ret
    exact ⟨_, rfl, by rw [HE.out]; exact OwnStrs.nil _ _, HB2.out⟩
  | some b =>
    have hk := kindN_some hF hnd
    have hnode := fun W (hb : Below w.heap.size w W) => (hF.below hb).node _ _ hnd
    have HNode := Lib.hid hnode
    cases hfl : flP (T.map tfOf) L
    · rw [hfl] at hk
      have hk : kindN (T.map tfOf) L = 2 := hk
      have HL := Lib.hid (fun X (h1 : SortedS X) (h2 : ∀ s, s ∈ X ↔ s.size <= maxLen /\ (nd (L ++ [s])).isSome = true) => show X = listP (T.map tfOf) L from list_eq hg h1 fun x => by
        rw [h2 x]
        constructor
        · rintro ⟨_, h3⟩
          obtain ⟨b', hb'⟩ := Option.isSome_iff_exists.1 h3
          exact hF.there hb'
        · intro ht
          refine ⟨?_, ?_⟩
          · rcases ht with h0 | ⟨f, hf, hp⟩
            · simp at h0
            · obtain ⟨F, hF', rfl⟩ := List.mem_map.1 hf
              have := (hS F hF').2.2.2 x (hp.subset (by simp))
              unfold maxLen; omega
          · have := (hF.dom _).2 ht
            cases e : nd (L ++ [x]) with
            | none => exact absurd e this
            | some y => rfl)
      rw [hnd] at HA HK
      rw [hk] at HK
      generalize listP (T.map tfOf) L = RL at HL ⊢
      clear hF hr hv hx hbox hnd hk hnode hS hfl
      go_enter Tryz.func23, Tryz.ntmps23
      go_wp2_with fail
      refine HA.out.mono ?_
      rintro e w1 ⟨rfl, hb⟩
      have HB := Lib.hid hb
      clear hb
      unfold ptrV at *
      go_wp2_with fail
      refine (HK.out _ HB.out).mono ?_
      rintro e w2 ⟨rfl, hb⟩
      have HB2 := Lib.hid (HB.out.trans (hb.mono HB.out.size))
      have g0 : w2.cell? ⟨b, 0, none⟩ = some (.map (some (mb L))) := (HNode.out _ HB2.out).2.1.cell rfl
      have HKe := Lib.hid (keys_any w2 ((HNode.out _ HB2.out).2.2.2) hN)
      generalize mb L = m at g0 HKe
      clear hb
      go_wp2_with fail
      refine HKe.out.mono ?_
      rintro e w3 ⟨x, rfl, hc⟩
      have HC := Lib.hid hc
      clear hc
      go_wp2_with fail
      refine HC.out.mono ?_
      rintro e w4 ⟨v4, X, rfl, h1, h2, h3, h4⟩
      have HF := Lib.hid (And.intro h1 (And.intro h2 (And.intro h3 h4)))
      clear h1 h2 h3 h4
      go_wp2_with fail
      go_ret
      obtain ⟨h1, h2, h3, h4⟩ := HF.out
      exact ⟨v4, rfl, by rw [<- HL.out X h3 h4]; exact own_lower h1 HB2.out.size, HB2.out.trans (h2.mono HB2.out.size)⟩
    · rw [hfl] at hk
      have hk : kindN (T.map tfOf) L = 1 := hk
      have HE := Lib.hid (list_not hg (q := L) (by rw [hk]; omega))
      rw [hk] at HK
      clear hF hr hv hx hbox hnd hk hnode hfl
      go_enter Tryz.func23, Tryz.ntmps23
      go_wp2_with fail
      refine HA.out.mono ?_
      rintro e w1 ⟨rfl, hb⟩
      have HB := Lib.hid hb
      clear hb
      go_wp2_with fail
      refine (HK.out _ HB.out).mono ?_
      rintro e w2 ⟨rfl, hb⟩
      have HB2 := Lib.hid (HB.out.trans (hb.mono HB.out.size))
      clear hb
      go_wp2_with fail
      go_ret
      exact ⟨_, rfl, by rw [HE.out]; exact OwnStrs.nil _ _, HB2.out⟩
end Go.Proofs.YthnnfppjadgldaaGreatDoor
namespace Go.Proofs.YthnnfppjadgldaaGreatDoor
set_option linter.all false
open Go.RowKit
def getF (T : List FileV) (L : PathS) : Option FileV := T.find? fun f => !f.2.1 && decide (f.1 = L)
def zeroF : FileV := ([], false, ⟨#[]⟩, [])
theorem tfOf_inj {f g : FileV} (h : tfOf f = tfOf g) : f = g := by
  obtain ⟨a, b, c, d⟩ := f
  obtain ⟨a', b', c', d'⟩ := g
  unfold tfOf at h
  injection h with h1 h2 h3 h4
  simp only at h1 h2 h3 h4
  rw [h1, h2, h3, h4]
theorem getP_map (T : List FileV) (L : PathS) : getP (T.map tfOf) L = (getF T L).map tfOf := by
  unfold getP getF
  rw [List.find?_map]
  rfl
theorem get_en_F {ok : TF -> Bool} {T : List FileV} (hg : RightG ok (T.map tfOf)) {L : PathS} (hk : kindN (T.map tfOf) L = 1) : ∃ (i : Nat) (f : FileV), enP L 0 (T.map tfOf) = (i : Int) /\ T[i]? = some f /\ getF T L = some f := by
  obtain ⟨i, f, h1, h2, h3⟩ := get_en hg hk
  rw [List.getElem?_map, Option.map_eq_some_iff] at h2
  obtain ⟨F, hF, rfl⟩ := h2
  rw [getP_map, Option.map_eq_some_iff] at h3
  obtain ⟨F', hF', he⟩ := h3
  rw [tfOf_inj he] at hF'
  exact ⟨i, F, h1, hF, hF'⟩
theorem get_not_F {ok : TF -> Bool} {T : List FileV} (hg : RightG ok (T.map tfOf)) {L : PathS} (hk : kindN (T.map tfOf) L ≠ 1) : getF T L = none := by
  have := get_not hg hk
  rw [getP_map, Option.map_eq_none_iff] at this
  exact this
def GetTo (r : Option FileV) (w : World) (e : Ending) (w' : World) : Prop := ∃ cs, e = .returned (.tuple #[.agg (List.toArray cs), .bool r.isSome]) /\ fileW.In (fun k => w.heap.size <= k /\ k < w'.heap.size) w' cs (r.getD zeroF) /\ Below w.heap.size w w'
theorem zeroF_in (R : Nat -> Prop) (w : World) : fileW.In R w fileZ zeroF := by
  refine ⟨?_, fun v hv b o n c e hn => ?_⟩
  rotate_left
  · simp only [fileZ, fileL, List.mem_cons, List.not_mem_nil, or_false] at hv
    rcases hv with rfl | rfl | rfl | rfl <;> cases e
  exact file_in (v := .slice none 0 0) (u := .slice none 0 0) (f := zeroF) (.inl ⟨rfl, .inl rfl⟩) (.inl ⟨rfl, .inl rfl⟩) (fun k hk => by cases hk) fun k hk => by cases hk
set_option maxRecDepth 100000 in
set_option maxHeartbeats 4000000 in
theorem treeGet_any {R : Nat -> Prop} {ok : TF -> Bool} (v : Value) (L : PathS) (tp : Nat) (T : List FileV) (w : World) (h : TreeAt R w tp T) (hg : RightG ok (T.map tfOf)) (hv : StrsIn w v L) (hx : ∀ x ∈ L, x.size <= 1000000) (hS : ∀ f ∈ T, SmallF f) :
    Calls Tryz.prog 17 #[.pointer (some ⟨tp, 0, none⟩), v] w (GetTo (getF T L) w) := by
  obtain ⟨root, N, vE, _, ⟨nd, mb, hbox, hr, hF⟩, hrows, hN⟩ := h
  have hb0 : Below w.heap.size w (w.alloc (.cells #[.slice none 0 0, .bool false, .string ⟨#[]⟩, .slice none 0 0] 39)) := (Below.refl _ _).alloc (Nat.le_refl _) _
  have hZ : Box (w.alloc (.cells #[.slice none 0 0, .bool false, .string ⟨#[]⟩, .slice none 0 0] 39)) w.heap.size fileZ := Box.new w fileZ 39
  have HA := Lib.hid (find_any v L tp root _ ((hbox.below hb0).cell rfl) (hF.below hb0) hr (there_up _) (hv.below hb0) hx)
  have HK := Lib.hid (fun W (hb : Below w.heap.size w W) => kindOf_any (hF.below hb) L)
  have HZ := Lib.hid hZ
  have HB0 := Lib.hid hb0
  by_cases hk : kindN (T.map tfOf) L = 1
  · obtain ⟨i, f, he, hi, hgf⟩ := get_en_F hg hk
    obtain ⟨b, hnd⟩ : ∃ b, nd L = some b := by
      cases e : nd L with
      | none => rw [kindN_none hF e] at hk; cases hk
      | some b => exact ⟨b, rfl⟩
    have HNode := Lib.hid (fun W (hb : Below w.heap.size w W) => show W.cell? ⟨b, 1, none⟩ = some (.int .i64 (i : Int)) by
      have := ((hF.below hb).node _ _ hnd).2.1.cell (i := 1) rfl
      rw [he] at this
      exact this)
    obtain ⟨hil, hie⟩ := List.getElem?_eq_some_iff.1 hi
    obtain ⟨pE, cE, rfl⟩ := fileK.rows_sliced hrows
    obtain ⟨n, hn⟩ : ∃ n, n = T.length := ⟨_, rfl⟩
    have HTp := Lib.hid (fun W (hb : Below w.heap.size w W) => show W.cell? ⟨tp, 1, none⟩ = some (.slice pE n cE) by rw [hn]; exact (hbox.below hb).cell rfl)
    obtain ⟨bF, oF, p0, c0, p1, c1, hat, _, hin, hcl⟩ := file_at hrows i hil
    rw [hie] at hin hcl
    rw [<- hn] at hat
    have hfm : f ∈ T := by rw [<- hie]; exact List.getElem_mem hil
    clear hie
    have hsm := hS f hfm
    have HCl := Lib.hid (fun W (hb : Below w.heap.size w W) => (show CellsAt W bF oF _ from CellsAt.only hcl (S := fun _ => False) (Only.of_below hb) fun h => h))
    have HCo := Lib.hid (fun W (hb : Below w.heap.size w W) => copyOf_any _ f W (fileK.below hin hb) hsm.2.1 hsm.1)
    have HG := Lib.hid hgf
    rw [hnd] at HA HK
    rw [hk] at HK
    obtain ⟨n0, hn0⟩ : ∃ n, n = f.1.length := ⟨_, rfl⟩
    obtain ⟨n1, hn1⟩ : ∃ n, n = f.2.2.2.length := ⟨_, rfl⟩
    obtain ⟨d, hd⟩ : ∃ d, d = f.2.1 := ⟨_, rfl⟩
    obtain ⟨t, htt⟩ : ∃ t, t = f.2.2.1 := ⟨_, rfl⟩
    rw [<- hn0, <- hn1, <- hd, <- htt] at HCl HCo
    unfold fileL at HCl HCo
    have hil2 : i < n := by rw [hn]; exact hil
    clear hil hn hF hr hv hx hbox hnd hS hrows hin hcl hsm hgf hn0 hn1 hd htt he hk hi hg
    generalize getF T L = r at HG ⊢
    unfold ptrV at *
    go_enter Tryz.func17, Tryz.ntmps17
    go_wp2_with fail
    refine HA.out.mono ?_
    rintro e w1 ⟨rfl, hb⟩
    have HB := Lib.hid (HB0.out.trans (hb.mono HB0.out.size))
    have HZ1 := Lib.hid (HZ.out.below hb)
    clear hb
    unfold ptrV
    go_wp2_with fail
    refine (HK.out _ HB.out).mono ?_
    rintro e w2 ⟨rfl, hb⟩
    have HB2 := Lib.hid (HB.out.trans (hb.mono HB.out.size))
    have HZ2 := Lib.hid (HZ1.out.below hb)
    have g1 := HNode.out _ HB2.out
    have t1 := HTp.out _ HB2.out
    have k0 : w2.cell? ⟨bF, oF, none⟩ = _ := HCl.out _ HB2.out 0 _ rfl
    have k1 : w2.cell? ⟨bF, oF + 1, none⟩ = _ := HCl.out _ HB2.out 1 _ rfl
    have k2 : w2.cell? ⟨bF, oF + 2, none⟩ = _ := HCl.out _ HB2.out 2 _ rfl
    have k3 : w2.cell? ⟨bF, oF + 3, none⟩ = _ := HCl.out _ HB2.out 3 _ rfl
    clear hb hb0 hZ HA HK HZ HZ1
    go_wp2_with fail
    go_still_tail 10, (by kernel_rfl)
    change wpList _ _ _ _ _ (World.drew _)
    go_wp2_with fail
    refine (HCo.out _ HB2.out.drew).mono ?_
    rintro e w3 ⟨cs, rfl, hin3, hb3⟩
    obtain ⟨q0, d0, q1, d1, rfl, _⟩ := fileK_parts hin3.1
    have HIn := Lib.hid hin3
    have HB3 := Lib.hid (HB2.out.drew.trans (hb3.mono HB2.out.drew.size))
    have HZ3 := Lib.hid (HZ2.out.drew.below hb3)
    clear hin3 hb3 k0 k1 k2 k3 g1 t1
    go_wp2_with (refine wpList_store_box (n := 4) Tryz.fileSize rfl _ _ rfl (g := w.heap.size) (vs := fileL (.slice q0 f.1.length d0) f.2.1 f.2.2.1 (.slice q1 f.2.2.2.length d1)) rfl rfl HZ3.out rfl rfl fileL_one ?_)
    intro w5 b5 o5
    go_wp2
    refine bodyPost_ret (v := .tuple #[.agg (fileL (.slice q0 f.1.length d0) f.2.1 f.2.2.1 (.slice q1 f.2.2.2.length d1)).toArray, .bool true]) ?_ rfl ⟨_, by rw [HG.out]; rfl, ?_, HB3.out.trans (o5.below _ HB3.out.size fun k hk => by rw [hk]; exact Nat.le_refl _)⟩
    · exact results_cell1 Tryz.fileSize Tryz.fileAgg Tryz.results17 _ _ rfl rfl b5.vals rfl
    · rw [HG.out]
      have hz : w.heap.size < w2.heap.size := HZ2.out.lt (by simp [fileZ, fileL])
      refine fileW.mono (fileW.only HIn.out o5 fun k hk e => ?_) fun k hk => ⟨Nat.le_trans (Nat.le_of_lt hz) hk.1, Nat.lt_of_lt_of_le hk.2 o5.size⟩
      have h1 : w2.heap.size <= k := hk.1
      omega
  · have HG := Lib.hid (get_not_F hg hk)
    have hk2 : ((kindN (T.map tfOf) L : Nat) : Int) ≠ 1 := by omega
    generalize getF T L = r at HG ⊢
    generalize nd L = c at HA HK
    generalize kindN (T.map tfOf) L = kd at HK hk2
    have hk3 : (((kd : Nat) : Int) == 1) = false := by rw [beq_eq_false_iff_ne]; exact hk2
    clear hF hr hv hx hbox hS hrows hk hg hk2
    go_enter Tryz.func17, Tryz.ntmps17
    go_wp2_with fail
    refine HA.out.mono ?_
    rintro e w1 ⟨rfl, hb⟩
    have HB := Lib.hid (HB0.out.trans (hb.mono HB0.out.size))
    have HZ1 := Lib.hid (HZ.out.below hb)
    clear hb
    go_wp2_with fail
    refine (HK.out _ HB.out).mono ?_
    rintro e w2 ⟨rfl, hb⟩
    have HB2 := Lib.hid (HB.out.trans (hb.mono HB.out.size))
    have HZ2 := Lib.hid (HZ1.out.below hb)
    clear hb hb0 hZ HA HK HZ HZ1
    go_wp2_with (refine wpList_store_box (n := 4) Tryz.fileSize rfl _ _ rfl (g := w.heap.size) (vs := fileZ) rfl rfl HZ2.out rfl rfl fileL_one ?_)
    intro w5 b5 o5
    go_wp2
    refine bodyPost_ret (v := .tuple #[.agg fileZ.toArray, .bool false]) ?_ rfl ⟨_, by rw [HG.out]; rfl, by rw [HG.out]; exact zeroF_in _ _, HB2.out.trans (o5.below _ HB2.out.size fun k hk => by rw [hk]; exact Nat.le_refl _)⟩
    exact results_cell1 Tryz.fileSize Tryz.fileAgg Tryz.results17 _ _ rfl rfl b5.vals rfl
end Go.Proofs.YthnnfppjadgldaaGreatDoor
