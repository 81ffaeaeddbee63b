/- Texts of one seat, merged: TreA, TreB, TreFl, TreD, TreE. -/
import Derived.Deep.RegionHeld3
import Derived.StillTailTactics
import Derived.Test.YtgfibbecnmmpjaaQA
import Derived.Test.YtgfibbecnmmpjaaQO
import Derived.Test.YtgfibbecnmmpjaaQV
import Derived.Test.YtgfibbecnmmpjaaQF
namespace Go.Proofs.Ytgfibbecnmmpjaa
set_option linter.all false
open Go.RowKit
abbrev PathS := List ByteArray
theorem Box.set1 {w : World} {g : Nat} {vs : List Value} (h : Box w g vs) (i : Nat) (hi : i < vs.length) (v : Value) : Box (w.setCell ⟨g, i, none⟩ v) g (vs.set i v) := by
  refine ⟨fun j u hu => ?_, fun j hj => by rw [World.frozen?_setCell]; exact h.free j (by simpa using hj)⟩
  by_cases e : j = i
  · subst e
    rw [List.getElem?_set_self hi] at hu
    injection hu with hu
    subst hu
    exact World.cell?_setCell_same _ _ _ (h.vals j _ (List.getElem?_eq_getElem hi))
  · rw [List.getElem?_set_ne (fun e2 => e e2.symm)] at hu
    rw [World.cell?_setCell_other _ _ _ _ (by simpa using e)]
    exact h.vals j u hu
structure Forest (R : Nat -> Prop) (N : Nat) (w : World) (nd : PathS -> Option Nat) (mb : PathS -> Nat) (th : PathS -> Prop) (en : PathS -> Int) (fl : PathS -> Bool) : Prop where
  dom : ∀ q, nd q ≠ none ↔ th q
  node : ∀ q b, nd q = some b -> R b /\ Box w b [.map (some (mb q)), .int .i64 (en q), .bool (fl q)] /\ R (mb q) /\ PMap Try.prog 9 w (mb q) N (fun s => nd (q ++ [s]))
  inj : ∀ p q b, nd p = some b -> nd q = some b -> p = q
  minj : ∀ p q, th p -> th q -> mb p = mb q -> p = q
  apart : ∀ p q b, nd p = some b -> th q -> b ≠ mb q
section
variable {R : Nat -> Prop} {N : Nat} {w : World} {nd : PathS -> Option Nat} {mb : PathS -> Nat} {th : PathS -> Prop} {en : PathS -> Int} {fl : PathS -> Bool}
theorem Forest.blk (h : Forest R N w nd mb th en fl) {q : PathS} (hq : th q) : ∃ b, nd q = some b := by
  have := (h.dom q).2 hq
  cases e : nd q with
  | none => exact absurd e this
  | some b => exact ⟨b, rfl⟩
theorem Forest.there (h : Forest R N w nd mb th en fl) {q : PathS} {b : Nat} (hq : nd q = some b) : th q := (h.dom q).1 (by rw [hq]; simp)
theorem Forest.only {S : Nat -> Prop} {w' : World} (h : Forest R N w nd mb th en fl) (ho : Only S w w') (hR : ∀ k, R k -> ¬ S k) : Forest R N w' nd mb th en fl :=
  ⟨h.dom, fun q b hq => by
    obtain ⟨h1, h2, h3, h4⟩ := h.node q b hq
    exact ⟨h1, h2.only ho (hR b h1), h3, h4.only ho (hR _ h3)⟩, h.inj, h.minj, h.apart⟩
theorem Forest.below {w' : World} (h : Forest R N w nd mb th en fl) (hb : Below w.heap.size w w') : Forest R N w' nd mb th en fl := h.only (S := fun _ => False) (Only.of_below hb) fun _ _ h => h
theorem Forest.drew (h : Forest R N w nd mb th en fl) : Forest R N w.drew nd mb th en fl := h.only (S := fun _ => False) (Only.refl _ _).drew fun _ _ h => h
theorem Forest.mono {N' : Nat} (h : Forest R N w nd mb th en fl) (hn : N <= N') : Forest R N' w nd mb th en fl :=
  ⟨h.dom, fun q b hq => by
    obtain ⟨h1, h2, h3, h4⟩ := h.node q b hq
    exact ⟨h1, h2, h3, h4.mono hn⟩, h.inj, h.minj, h.apart⟩
theorem Forest.imp {R' : Nat -> Prop} (h : Forest R N w nd mb th en fl) (hR : ∀ k, R k -> R' k) : Forest R' N w nd mb th en fl :=
  ⟨h.dom, fun q b hq => by
    obtain ⟨h1, h2, h3, h4⟩ := h.node q b hq
    exact ⟨hR _ h1, h2, hR _ h3, h4⟩, h.inj, h.minj, h.apart⟩
theorem Forest.low (h : Forest R N w nd mb th en fl) : Forest (fun k => R k /\ k < w.heap.size) N w nd mb th en fl :=
  ⟨h.dom, fun q b hq => by
    obtain ⟨h1, h2, h3, h4⟩ := h.node q b hq
    exact ⟨⟨h1, h2.lt (by simp)⟩, h2, ⟨h3, h4.lt⟩, h4⟩, h.inj, h.minj, h.apart⟩
theorem Forest.congr {th' : PathS -> Prop} {en' : PathS -> Int} {fl' : PathS -> Bool} (h : Forest R N w nd mb th en fl) (h1 : ∀ q, th q ↔ th' q) (h2 : ∀ q, th q -> en q = en' q) (h3 : ∀ q, th q -> fl q = fl' q) : Forest R N w nd mb th' en' fl' := by
  refine ⟨fun q => (h.dom q).trans (h1 q), fun q b hq => ?_, h.inj, fun p q hp hq => h.minj p q ((h1 p).2 hp) ((h1 q).2 hq), fun p q b hp hq => h.apart p q b hp ((h1 q).2 hq)⟩
  obtain ⟨a1, a2, a3, a4⟩ := h.node q b hq
  have ht := h.there hq
  rw [h2 q ht, h3 q ht] at a2
  exact ⟨a1, a2, a3, a4⟩
theorem Forest.root {c m : Nat} (hc : R c) (hm : R m) (hne : c ≠ m) (hb : Box w c [.map (some m), .int .i64 (-1), .bool false]) (hp : PMap Try.prog 9 w m 0 (fun _ => none)) :
    Forest R 0 w (fun q => if q = [] then some c else none) (fun _ => m) (fun q => q = []) (fun _ => -1) (fun _ => false) := by
  refine ⟨fun q => ?_, fun q b hq => ?_, fun p q b hp hq => ?_, fun p q hp hq _ => by rw [hp, hq], fun p q b hp hq => ?_⟩
  · by_cases e : q = []
    · simp [e]
    · simp [e]
  · by_cases e : q = []
    · rw [if_pos e] at hq
      injection hq with hq
      subst hq
      exact ⟨hc, hb, hm, by simpa using hp⟩
    · rw [if_neg e] at hq; cases hq
  · by_cases e : p = []
    · by_cases e' : q = []
      · rw [e, e']
      · rw [if_neg e'] at hq; cases hq
    · rw [if_neg e] at hp; cases hp
  · by_cases e : p = []
    · rw [if_pos e] at hp
      injection hp with hp
      rw [<- hp]; exact hne
    · rw [if_neg e] at hp; cases hp
theorem Forest.grow {w1 w2 : World} {q : PathS} {s : ByteArray} {b c m : Nat} (h : Forest R N w nd mb th en fl) (hup : ∀ p s, th (p ++ [s]) -> th p) (hq : nd q = some b) (hn : nd (q ++ [s]) = none) (hb1 : Below w.heap.size w w1)
    (hc : R c) (hm : R m) (hcw : w.heap.size <= c) (hmw : w.heap.size <= m) (hne : c ≠ m) (hbox : Box w1 c [.map (some m), .int .i64 (en (q ++ [s])), .bool (fl (q ++ [s]))]) (hpm : PMap Try.prog 9 w1 m 0 (fun _ => none))
    (hst : PMap Try.prog 9 w2 (mb q) (N + 1) (fun x => if x = s then some c else nd (q ++ [x]))) (hgr : w1.grownBy w2 (some (mb q))) :
    Forest R (N + 1) w2 (fun p => if p = q ++ [s] then some c else nd p) (fun p => if p = q ++ [s] then m else mb p) (fun p => th p \/ p = q ++ [s]) en fl := by
  have h1 := h.below hb1
  have hO : Only (fun k => k = mb q) w1 w2 := (Only.refl _ w1).grown hgr fun k hk _ => by injection hk with hk; exact hk.symm
  have hmq := (h.node q b hq).2.2.2.lt
  have hns : ¬ th (q ++ [s]) := fun e => (h.dom _).2 e hn
  have old : ∀ p a, nd p = some a -> a < w.heap.size := fun p a hp => (h.node p a hp).2.1.lt (by simp)
  have oldm : ∀ p, th p -> mb p < w.heap.size := fun p hp => by
    obtain ⟨a, ha⟩ := h.blk hp
    exact (h.node p a ha).2.2.2.lt
  have ndm : ∀ p, p ≠ q -> ∀ x : ByteArray, ¬ (p ++ [x] = q ++ [s]) := fun p hp x e => hp (List.append_inj_left' e rfl)
  have none_below : ∀ x : ByteArray, nd (q ++ [s] ++ [x]) = none := fun x => by
    cases e : nd (q ++ [s] ++ [x]) with
    | none => rfl
    | some a => exact absurd (hup _ _ (h.there e)) hns
  refine ⟨fun p => ?_, fun p a hp => ?_, fun p p' a hp hp' => ?_, fun p p' hp hp' he => ?_, fun p p' a hp hp' => ?_⟩
  · by_cases e : p = q ++ [s]
    · simp [e]
    · simp only [if_neg e]
      rw [h.dom p]
      exact ⟨fun x => .inl x, fun x => x.resolve_right e⟩
  · by_cases e : p = q ++ [s]
    · subst e
      rw [if_pos rfl] at hp
      injection hp with hp
      subst hp
      simp only [if_true]
      refine ⟨hc, hbox.only hO (by omega), hm, ?_⟩
      have := (hpm.only hO (by omega : ¬ m = mb q)).mono (Nat.zero_le (N + 1))
      have e2 : (fun x => if q ++ [s] ++ [x] = q ++ [s] then some c else nd (q ++ [s] ++ [x])) = fun _ => none := by
        funext x
        rw [if_neg (by simp), none_below x]
      rw [e2]
      exact this
    · rw [if_neg e] at hp
      simp only [if_neg e]
      obtain ⟨a1, a2, a3, a4⟩ := h1.node p a hp
      have hne2 : a ≠ mb q := h.apart p q a hp (h.there hq)
      refine ⟨a1, a2.only hO hne2, a3, ?_⟩
      by_cases e3 : p = q
      · subst e3
        have e2 : (fun x => if p ++ [x] = p ++ [s] then some c else nd (p ++ [x])) = fun x => if x = s then some c else nd (p ++ [x]) := by
          funext x
          by_cases ex : x = s
          · rw [if_pos ex, if_pos (by rw [ex])]
          · rw [if_neg ex, if_neg (by simpa using ex)]
        rw [e2]
        exact hst
      · have e2 : (fun x => if p ++ [x] = q ++ [s] then some c else nd (p ++ [x])) = fun x => nd (p ++ [x]) := by
          funext x
          rw [if_neg (ndm p e3 x)]
        rw [e2]
        exact (a4.only hO fun k => e3 (h.minj p q (h.there hp) (h.there hq) k)).mono (Nat.le_succ N)
  · by_cases e : p = q ++ [s]
    · by_cases e' : p' = q ++ [s]
      · rw [e, e']
      · rw [if_pos e] at hp
        rw [if_neg e'] at hp'
        injection hp with hp
        have := old _ _ hp'
        omega
    · by_cases e' : p' = q ++ [s]
      · rw [if_neg e] at hp
        rw [if_pos e'] at hp'
        injection hp' with hp'
        have := old _ _ hp
        omega
      · rw [if_neg e] at hp
        rw [if_neg e'] at hp'
        exact h.inj p p' a hp hp'
  · by_cases e : p = q ++ [s]
    · by_cases e' : p' = q ++ [s]
      · rw [e, e']
      · simp only [if_pos e, if_neg e'] at he
        have := oldm p' (hp'.resolve_right e')
        omega
    · by_cases e' : p' = q ++ [s]
      · simp only [if_neg e, if_pos e'] at he
        have := oldm p (hp.resolve_right e)
        omega
      · simp only [if_neg e, if_neg e'] at he
        exact h.minj p p' (hp.resolve_right e) (hp'.resolve_right e') he
  · by_cases e : p = q ++ [s]
    · rw [if_pos e] at hp
      injection hp with hp
      subst hp
      by_cases e' : p' = q ++ [s]
      · simp only [if_pos e']; exact hne
      · simp only [if_neg e']
        have := oldm p' (hp'.resolve_right e')
        omega
    · rw [if_neg e] at hp
      by_cases e' : p' = q ++ [s]
      · simp only [if_pos e']
        have := old _ _ hp
        omega
      · simp only [if_neg e']
        exact h.apart p p' a hp (hp'.resolve_right e')
theorem Forest.set {q : PathS} {b i : Nat} {v : Value} {en' : PathS -> Int} {fl' : PathS -> Bool} (h : Forest R N w nd mb th en fl) (hq : nd q = some b) (hi : i < 3) (hen : ∀ p, p ≠ q -> en' p = en p /\ fl' p = fl p)
    (hv : [Value.map (some (mb q)), .int .i64 (en q), .bool (fl q)].set i v = [Value.map (some (mb q)), .int .i64 (en' q), .bool (fl' q)]) : Forest R N (w.setCell ⟨b, i, none⟩ v) nd mb th en' fl' := by
  have hO : Only (fun k => k = b) w (w.setCell ⟨b, i, none⟩ v) := Only.setCell (S := fun k => k = b) (p := ⟨b, i, none⟩) (Only.refl _ w) (fun _ => rfl) v
  refine ⟨h.dom, fun p a hp => ?_, h.inj, h.minj, h.apart⟩
  obtain ⟨a1, a2, a3, a4⟩ := h.node p a hp
  have hma : ¬ mb p = b := fun e => h.apart q p b hq (h.there hp) e.symm
  refine ⟨a1, ?_, a3, a4.only hO hma⟩
  by_cases e : p = q
  · subst e
    rw [hq] at hp
    injection hp with hp
    subst hp
    have := a2.set1 i hi v
    rw [hv] at this
    exact this
  · obtain ⟨e1, e2⟩ := hen p e
    rw [e1, e2]
    exact a2.only hO fun k => e (h.inj p q b (by rw [<- k]; exact hp) hq)
theorem Forest.child (h : Forest R N w nd mb th en fl) {q : PathS} {b : Nat} (hq : nd q = some b) {s : ByteArray} (hs : s.size <= maxLen) (e t : TypeId) (hk : Try.prog.underlying 9 = some .string) (ht : Try.prog.underlying t = some (.map 9 e)) (hz : ∀ w, (zeroValue e).run Try.prog w = .ok (.pointer none) w) :
    (Instr.lookup t (.map (some (mb q))) (.string s) false).run Try.prog w = .ok (ptrV (nd (q ++ [s]))) w := (h.node q b hq).2.2.2.look hk ht (hz w) hs
end
end Go.Proofs.Ytgfibbecnmmpjaa
namespace Go.Proofs.Ytgfibbecnmmpjaa
set_option linter.all false
open Go.RowKit
abbrev FileV := PathS × Bool × ByteArray × List UInt8
def fileK : Kind FileV := (Kind.slice Kind.str).and (Kind.bool.and (Kind.str.and (Kind.slice Kind.u8)))
def tfOf (f : FileV) : TF := ⟨f.1, f.2.1, f.2.2.1, f.2.2.2⟩
theorem fileK_cells {R : Nat -> Prop} {w : World} {cs : List Value} {f : FileV} (hi : fileK.In R w cs f) : ∃ p0 c0 p1 c1, cs = [.slice p0 f.1.length c0, .bool f.2.1, .string f.2.2.1, .slice p1 f.2.2.2.length c1] /\ StrsIn w (.slice p0 f.1.length c0) f.1 /\ BytesIn w (.slice p1 f.2.2.2.length c1) f.2.2.2 := by
  obtain ⟨a, b, rfl, ⟨v0, rfl, h0⟩, c, d, rfl, h1, e, g, rfl, h2, ⟨v1, rfl, h3⟩⟩ := hi
  obtain ⟨p0, c0, rfl⟩ := Kind.rows_sliced _ h0
  obtain ⟨p1, c1, rfl⟩ := Kind.rows_sliced _ h3
  have h1 : c = [.bool f.2.1] := h1
  have h2 : e = [.string f.2.2.1] := h2
  subst h1 h2
  exact ⟨p0, c0, p1, c1, rfl, Kind.strs_of h0, Kind.bytes_of h3⟩
theorem Try.uFiles : Try.prog.underlying 23 = some (.slice (Try.prog.elem 23)) := by kernel_rfl
theorem Try.zFiles (w : World) : (sizeOf (Try.prog.elem 23)).run Try.prog w = .ok fileK.sz w := by kernel_rfl
theorem Try.uMapN : Try.prog.underlying 73 = some (.map 9 57) := by kernel_rfl
theorem Try.zNode (w : World) : (zeroValue 57).run Try.prog w = .ok (.pointer none) w := by kernel_rfl
def NodeTo (w : World) (e : Ending) (w' : World) : Prop := e = .returned (.pointer (some ⟨w.heap.size + 1, 0, none⟩)) /\ Below w.heap.size w w' /\ Box w' (w.heap.size + 1) [.map (some w.heap.size), .int .i64 (-1), .bool false] /\ PMap Try.prog 9 w' w.heap.size 0 (fun _ => none)
set_option maxRecDepth 100000 in
set_option maxHeartbeats 1000000 in
theorem newNode_any (w : World) : Calls Try.prog 23 #[] w (NodeTo w) := by
  have hfin : NodeTo w (.returned (.pointer (some ⟨w.heap.size + 1, 0, none⟩))) ((w.alloc (.map #[] 0)).alloc (.cells #[.map (some w.heap.size), .int .i64 (-1), .bool false] 75)) := by
    refine ⟨rfl, ((Below.refl _ w).alloc (Nat.le_refl _) _).alloc (by simp) _, ?_, ?_⟩
    · have := Box.new (w.alloc (.map #[] 0)) [.map (some w.heap.size), .int .i64 (-1), .bool false] 75
      rwa [show (w.alloc (.map #[] 0)).heap.size = w.heap.size + 1 by simp] at this
    · exact (PMap.made (P := Try.prog) (k := 9) w).below ((Below.refl _ _).alloc (Nat.le_refl _) _)
  have HF := Lib.hid hfin
  clear hfin
  have hmk : (Instr.makeMap 73 none).run Try.prog w = .ok (.map (some w.heap.size)) (w.alloc (.map #[] 0)) := rfl
  go_enter Try.func23, Try.ntmps23
  go_wp2
  go_ret
  exact HF.out
def IntTo (k : Nat) (w : World) (e : Ending) (w' : World) : Prop := e = .returned (.int .i64 (k : Int)) /\ Below w.heap.size w w'
theorem kindNil_any (w : World) : Calls Try.prog 41 #[.pointer none] w (IntTo 0 w) := by
  go_enter Try.func41, Try.ntmps41
  go_wp2
  go_ret
  exact ⟨rfl, Below.refl _ _⟩
theorem kind_any (b : Nat) (fl : Bool) (w : World) (hc : w.cell? ⟨b, 2, none⟩ = some (.bool fl)) : Calls Try.prog 41 #[.pointer (some ⟨b, 0, none⟩)] w (IntTo (if fl then 1 else 2) w) := by
  cases fl
  · go_enter Try.func41, Try.ntmps41
    go_wp2
    go_ret
    exact ⟨rfl, Below.refl _ _⟩
  · go_enter Try.func41, Try.ntmps41
    go_wp2
    go_ret
    exact ⟨rfl, Below.refl _ _⟩
def AtTo (c : Option Nat) (w : World) (e : Ending) (w' : World) : Prop := e = .returned (ptrV c) /\ Below w.heap.size w w'
theorem strsT_len {w : World} {v : Value} {L : List ByteArray} (h : StrsIn w v L) : L.length <= 9223372036854775807 := by
  rcases h with ⟨rfl, _⟩ | ⟨_, _, _, _, h1, h2, _⟩
  · simp
  · omega
theorem none_up {R : Nat -> Prop} {N : Nat} {w : World} {nd : PathS -> Option Nat} {mb : PathS -> Nat} {th : PathS -> Prop} {en : PathS -> Int} {fl : PathS -> Bool} (hF : Forest R N w nd mb th en fl) (hup : ∀ p s, th (p ++ [s]) -> th p) : ∀ (r p : PathS), nd p = none -> nd (p ++ r) = none
  | [], p, h => by rw [List.append_nil]; exact h
  | s :: r, p, h => by
    have h1 : nd (p ++ [s]) = none := by
      cases e : nd (p ++ [s]) with
      | none => rfl
      | some b => exact absurd h ((hF.dom p).2 (hup p s (hF.there e)))
    have := none_up hF hup r (p ++ [s]) h1
    rwa [List.append_assoc] at this
set_option maxRecDepth 100000 in
set_option maxHeartbeats 4000000 in
theorem at_any {R : Nat -> Prop} {N : Nat} {nd : PathS -> Option Nat} {mb : PathS -> Nat} {th : PathS -> Prop} {en : PathS -> Int} {fl : PathS -> Bool} (v : Value) (L : PathS) (root : Nat) (w : World) (hF : Forest R N w nd mb th en fl) (hr : nd [] = some root) (hup : ∀ p s, th (p ++ [s]) -> th p)
    (hv : StrsIn w v L) (hx : ∀ x ∈ L, x.size <= 1000000) :
    Calls Try.prog 50 #[.pointer (some ⟨root, 0, none⟩), v] w (AtTo (nd L) w) := by
  obtain ⟨p, c, rfl⟩ := hv.sliced
  have hlen := strsT_len hv
  obtain ⟨n, hn⟩ : ∃ n, n = L.length := ⟨_, rfl⟩
  have HV := Lib.hid hv
  have HX := Lib.hid hx
  have HF := Lib.hid hF
  have HU := Lib.hid (fun (q : Nat) (h : nd (L.take q) = none) => show nd L = none by
    have := none_up hF hup (L.drop q) (L.take q) h
    rwa [List.take_append_drop] at this)
  have HR := Lib.hid hr
  rw [<- hn] at hlen ⊢
  have Hn := Lib.hid hn
  clear hv hx hF hr hup hn
  go_enter Try.func50, Try.ntmps50
  go_wp2
  go_loopw [0, 9] (fun x j wi => ∃ q : Nat, q <= n /\ j = .int .i64 q /\ x = ptrV (nd (L.take q)) /\ Hid (Below w.heap.size w wi)) (fun _ j _ => (n - intOf j).toNat)
  case atStart => exact ⟨0, Nat.zero_le _, rfl, by rw [List.take_zero, HR.out]; rfl, Lib.hid (Below.refl _ _)⟩
  case round =>
    obtain ⟨q, hq, rfl, rfl, HB⟩ := hrel
    by_cases hqn : q < n
    · have hqL : q < L.length := by rw [<- Hn.out]; exact hqn
      have HV2 := HV.out.below HB.out
      rw [<- Hn.out] at HV2
      obtain ⟨b, o, hat, hcell⟩ := HV2.at2 q hqL
      have HT := Lib.hid (List.take_succ_eq_append_getElem hqL)
      have hys := HX.out L[q] (List.getElem_mem hqL)
      obtain ⟨y, hy⟩ : ∃ y, y = L[q] := ⟨_, rfl⟩
      rw [<- hy] at hcell HT hys
      have hwr : IntKind.i64.wrap ((q : Int) + 1) = (q : Int) + 1 := by rw [IntKind.wrap_i64] <;> omega
      clear HV2 hy
      cases hnd : nd (L.take q) with
      | none =>
        have HE := Lib.hid (HU.out q hnd)
        clear hnd HT
        unfold ptrV
        go_wp2
        go_ret
        exact ⟨by rw [HE.out]; rfl, HB.out⟩
      | some g =>
        have hF2 := HF.out.below HB.out
        have hnode := (hF2.node _ _ hnd).2.1
        have hlk := hF2.child hnd (s := y) (by unfold maxLen; omega) 57 73 (by kernel_rfl) Try.uMapN Try.zNode
        rw [<- HT.out] at hlk
        have g0 : wr.cell? ⟨g, 0, none⟩ = some (.map (some (mb (L.take q)))) := hnode.cell rfl
        generalize mb (L.take q) = m at g0 hlk
        clear hnode hF2 hnd HT
        obtain ⟨z, hz⟩ : ∃ z, z = ptrV (nd (L.take (q + 1))) := ⟨_, rfl⟩
        rw [<- hz] at hlk
        have HZ := Lib.hid hz
        clear hz
        unfold ptrV
        go_wp2
        go_roundw
        case rel => exact ⟨q + 1, by omega, by go_num, HZ.out, HB⟩
        case measure => simp [intOf]; omega
    · obtain rfl : q = n := by omega
      have HE := Lib.hid (show nd (L.take q) = nd L by rw [List.take_of_length_le (by rw [Hn.out]; exact Nat.le_refl _)])
      go_wp2
      go_ret
      exact ⟨by rw [<- HE.out]; rfl, HB.out⟩
end Go.Proofs.Ytgfibbecnmmpjaa
namespace Go.Proofs.Ytgfibbecnmmpjaa
set_option linter.all false
open Go.RowKit
theorem fileK_parts {R : Nat -> Prop} {w : World} {cs : List Value} {f : FileV} (hi : fileK.In R w cs f) : ∃ p0 c0 p1 c1, cs = [.slice p0 f.1.length c0, .bool f.2.1, .string f.2.2.1, .slice p1 f.2.2.2.length c1] /\ ∀ (S : Nat -> Prop) (w' : World), Only S w w' -> (∀ k, R k -> ¬ S k) -> StrsIn w' (.slice p0 f.1.length c0) f.1 /\ BytesIn w' (.slice p1 f.2.2.2.length c1) f.2.2.2 := by
  obtain ⟨p0, c0, p1, c1, rfl, h1, h2⟩ := fileK_cells hi
  refine ⟨p0, c0, p1, c1, rfl, fun S w' ho hS => ?_⟩
  obtain ⟨q0, d0, q1, d1, e, h3, h4⟩ := fileK_cells (fileK.only hi ho hS)
  injection e with e1 e
  injection e with e2 e
  injection e with e3 e
  injection e with e4 e
  rw [e1, e4]
  exact ⟨h3, h4⟩
theorem Try.fileSize : (Try.prog.info? 40).map (·.size) = some 4 := by kernel_rfl
theorem Try.fileAgg (w : World) : (isAgg 40).run Try.prog w = .ok true w := by kernel_rfl
def fileL (v : Value) (d : Bool) (t : ByteArray) (u : Value) : List Value := [v, .bool d, .string t, u]
def fileZ : List Value := fileL (.slice none 0 0) false ⟨#[]⟩ (.slice none 0 0)
theorem fileL_one {p0 p1 : Option Addr} {n0 c0 n1 c1 : Nat} {d : Bool} {t : ByteArray} : ∀ v ∈ fileL (.slice p0 n0 c0) d t (.slice p1 n1 c1), v.oneCell' = true := by
  intro v hv
  simp [fileL] at hv
  rcases hv with rfl | rfl | rfl | rfl <;> rfl
def SmallF (f : FileV) : Prop := f.1.length <= 1000000 /\ f.2.2.2.length <= 1000000 /\ f.2.2.1.size <= 1000000 /\ ∀ x ∈ f.1, x.size <= 1000000
theorem file_at {R : Nat -> Prop} {w : World} {p : Option Addr} {n c : Nat} {T : List FileV} (h : fileK.rows R w (.slice p n c) T) (k : Nat) (hk : k < T.length) :
    ∃ b o p0 c0 p1 c1, (∀ W, (Instr.indexAt 23 (.slice p n c) (.int .i64 (k : Int))).run Try.prog W = .ok (.pointer (some ⟨b, o, none⟩)) W) /\ R b /\ fileK.In R w (fileL (.slice p0 T[k].1.length c0) T[k].2.1 T[k].2.2.1 (.slice p1 T[k].2.2.2.length c1)) T[k] /\
      CellsAt w b o (fileL (.slice p0 T[k].1.length c0) T[k].2.1 T[k].2.2.1 (.slice p1 T[k].2.2.2.length c1)) := by
  obtain ⟨b, o, cs, h1, h2, h3, h4⟩ := fileK.rows_at Try.uFiles Try.zFiles h k hk
  obtain ⟨p0, c0, p1, c1, rfl, _⟩ := fileK_cells h3
  exact ⟨b, o, p0, c0, p1, c1, h1, h2, h3, h4⟩
def getF (T : List FileV) (L : PathS) : Option FileV := T.find? fun f => !f.2.1 && decide (f.1 = L)
def zeroF : FileV := ([], false, ⟨#[]⟩, [])
theorem tfOf_inj {f g : FileV} (h : tfOf f = tfOf g) : f = g := by
  obtain ⟨a, b, c, d⟩ := f
  obtain ⟨a', b', c', d'⟩ := g
  unfold tfOf at h
  injection h with h1 h2 h3 h4
  simp only at h1 h2 h3 h4
  rw [h1, h2, h3, h4]
theorem getP_map (T : List FileV) (L : PathS) : getP (T.map tfOf) L = (getF T L).map tfOf := by
  unfold getP getF
  rw [List.find?_map]
  rfl
theorem get_en_F {ok : TF -> Bool} {T : List FileV} (hg : RightG ok (T.map tfOf)) {L : PathS} (hk : kindN (T.map tfOf) L = 1) : ∃ (i : Nat) (f : FileV), enP L 0 (T.map tfOf) = (i : Int) /\ T[i]? = some f /\ getF T L = some f := by
  obtain ⟨i, f, h1, h2, h3⟩ := get_en hg hk
  rw [List.getElem?_map, Option.map_eq_some_iff] at h2
  obtain ⟨F, hF, rfl⟩ := h2
  rw [getP_map, Option.map_eq_some_iff] at h3
  obtain ⟨F', hF', he⟩ := h3
  rw [tfOf_inj he] at hF'
  exact ⟨i, F, h1, hF, hF'⟩
theorem get_not_F {ok : TF -> Bool} {T : List FileV} (hg : RightG ok (T.map tfOf)) {L : PathS} (hk : kindN (T.map tfOf) L ≠ 1) : getF T L = none := by
  have := get_not hg hk
  rw [getP_map, Option.map_eq_none_iff] at this
  exact this
end Go.Proofs.Ytgfibbecnmmpjaa
namespace Go.Proofs.Ytgfibbecnmmpjaa
set_option linter.all false
open Go.RowKit
def NewTo (c m : Nat) (w : World) (e : Ending) (w' : World) : Prop := e = .returned (.pointer (some ⟨c, 0, none⟩)) /\ Below w.heap.size w w' /\ Box w' c [.map (some m), .int .i64 (-1), .bool false] /\ PMap Try.prog 9 w' m 0 (fun _ => none)
theorem newNode_at (w : World) : ∃ c m, w.heap.size <= c /\ w.heap.size <= m /\ c ≠ m /\ Calls Try.prog 23 #[] w.drew (NewTo c m w) :=
  ⟨w.heap.size + 1, w.heap.size, by omega, by omega, by omega, (newNode_any w.drew).mono fun e w' h => ⟨h.1, (Below.refl _ w).drew.trans h.2.1, h.2.2.1, h.2.2.2⟩⟩
def GrowTo (R : Nat -> Prop) (N root : Nat) (th : PathS -> Prop) (en : PathS -> Int) (fl : PathS -> Bool) (L : PathS) (w : World) (e : Ending) (w' : World) : Prop :=
  ∃ b nd' mb', e = .returned (.pointer (some ⟨b, 0, none⟩)) /\ nd' L = some b /\ nd' [] = some root /\ Forest R N w' nd' mb' (fun q => th q \/ q <+: L) en fl /\ Only R w w'
structure GrowSt (R : Nat -> Prop) (N root : Nat) (th : PathS -> Prop) (en : PathS -> Int) (fl : PathS -> Bool) (L : PathS) (w wi : World) (nd' : PathS -> Option Nat) (mb' : PathS -> Nat) (b q : Nat) : Prop where
  at_ : nd' (L.take q) = some b
  root_ : nd' [] = some root
  frs : Forest R (N + q) wi nd' mb' (fun p => th p \/ p <+: L.take q) en fl
  only : Only R w wi
theorem th_up {th : PathS -> Prop} (hup : ∀ p s, th (p ++ [s]) -> th p) (l : PathS) : ∀ (p : PathS) (s : ByteArray), (th (p ++ [s]) \/ (p ++ [s]) <+: l) -> (th p \/ p <+: l) := fun p s h =>
  h.imp (hup p s) fun h => (List.prefix_append p [s]).trans h
set_option maxRecDepth 100000 in
set_option maxHeartbeats 4000000 in
theorem grow_any {R : Nat -> Prop} {N : Nat} {nd : PathS -> Option Nat} {mb : PathS -> Nat} {th : PathS -> Prop} {en : PathS -> Int} {fl : PathS -> Bool} (v : Value) (L : PathS) (root : Nat) (w : World) (hF : Forest R N w nd mb th en fl) (hr : nd [] = some root) (hup : ∀ p s, th (p ++ [s]) -> th p)
    (hRw : ∀ k, w.heap.size <= k -> R k) (hv : ∀ w', Only R w w' -> StrsIn w' v L) (hx : ∀ x ∈ L, x.size <= 1000000) (hN : N + L.length <= 1000000) (hfr : ∀ q, ¬ th q -> en q = -1 /\ fl q = false) :
    Calls Try.prog 36 #[.pointer (some ⟨root, 0, none⟩), v] w (GrowTo R (N + L.length) root th en fl L w) := by
  obtain ⟨p, c, rfl⟩ := (hv w (Only.refl _ _)).sliced
  obtain ⟨n, hn⟩ : ∃ n, n = L.length := ⟨_, rfl⟩
  have HV := Lib.hid hv
  have HX := Lib.hid hx
  have hlen : n <= 9223372036854775807 := by omega
  have HRw := Lib.hid hRw
  have HU := Lib.hid hup
  have HFr := Lib.hid hfr
  have hst0 : GrowSt R N root th en fl L w w nd mb root 0 := by
    refine ⟨by rw [List.take_zero]; exact hr, hr, hF.congr (fun q => ⟨.inl, fun h => h.elim (fun h => h) fun h => ?_⟩) (fun _ _ => rfl) fun _ _ => rfl, Only.refl _ _⟩
    rw [List.take_zero] at h
    rw [List.prefix_nil.1 h]
    exact hF.there hr
  have HS0 := Lib.hid hst0
  have HNn := Lib.hid hN
  rw [<- hn] at hN ⊢
  have Hn := Lib.hid hn
  clear hv hx hF hr hup hn hRw hfr hst0 hN
  go_enter Try.func36, Try.ntmps36
  go_wp2
  go_loopw [0, 9] (fun x j wi => ∃ (q b : Nat) (nd' : PathS -> Option Nat) (mb' : PathS -> Nat), q <= n /\ j = .int .i64 q /\ x = .pointer (some ⟨b, 0, none⟩) /\ Hid (GrowSt R N root th en fl L w wi nd' mb' b q)) (fun _ j _ => (n - intOf j).toNat)
  case atStart => exact ⟨0, root, nd, mb, Nat.zero_le _, rfl, rfl, HS0⟩
  case round =>
    clear HS0
    obtain ⟨q, b, nd', mb', hq, rfl, rfl, HS⟩ := hrel
    by_cases hqn : q < n
    · have hqL : q < L.length := by rw [<- Hn.out]; exact hqn
      have HV2 := HV.out _ HS.out.only
      rw [<- Hn.out] at HV2
      obtain ⟨b2, o, hat, hcell⟩ := HV2.at2 q hqL
      have HT := Lib.hid (List.take_succ_eq_append_getElem hqL)
      have hys := HX.out L[q] (List.getElem_mem hqL)
      obtain ⟨y, hy⟩ : ∃ y, y = L[q] := ⟨_, rfl⟩
      rw [<- hy] at hcell HT hys
      have hwr : IntKind.i64.wrap ((q : Int) + 1) = (q : Int) + 1 := by rw [IntKind.wrap_i64] <;> omega
      clear HV2 hy
      have hF2 := HS.out.frs
      have hnode := hF2.node _ _ HS.out.at_
      have hlk := hF2.child HS.out.at_ (s := y) (by unfold maxLen; omega) 57 73 (by kernel_rfl) Try.uMapN Try.zNode
      have g0 : wr.cell? ⟨b, 0, none⟩ = some (.map (some (mb' (L.take q)))) := hnode.2.1.cell rfl
      have hb0 : b < wr.heap.size := hnode.2.1.lt (by simp)
      have Hb0 := Lib.hid hb0
      obtain ⟨m, hm⟩ : ∃ m, m = mb' (L.take q) := ⟨_, rfl⟩
      rw [<- hm] at g0 hlk
      have Hm := Lib.hid hm
      have hbm : b ≠ m := by rw [hm]; exact hF2.apart _ _ _ HS.out.at_ (hF2.there HS.out.at_)
      have Hbm := Lib.hid hbm
      clear hm hb0 hbm
      cases hnd : nd' (L.take q ++ [y]) with
      | some g =>
        have HS2 := Lib.hid (show GrowSt R N root th en fl L w wr nd' mb' g (q + 1) from by
          refine ⟨by rw [HT.out]; exact hnd, HS.out.root_, (HS.out.frs.mono (by omega)).congr (fun p => ?_) (fun _ _ => rfl) fun _ _ => rfl, HS.out.only⟩
          rw [HT.out]
          constructor
          · exact fun h => h.imp id fun h => h.trans (List.prefix_append _ _)
          · rintro (h | h)
            · exact .inl h
            · rcases List.prefix_concat_iff.1 h with h | h
              · rw [h]; exact HS.out.frs.there hnd
              · exact .inr h)
        rw [hnd] at hlk
        unfold ptrV at hlk
        clear hnode hF2 hnd HT HS
        go_wp2
        go_roundw
        case rel => exact ⟨q + 1, g, nd', mb', by omega, by go_num, rfl, HS2⟩
        case measure => simp [intOf]; omega
      | none =>
        obtain ⟨cN, mN, h1, h2, h3, HC⟩ := newNode_at wr
        have H1 := Lib.hid (And.intro h1 (And.intro h2 h3))
        have HC := Lib.hid HC
        have Hnd := Lib.hid hnd
        rw [hnd] at hlk
        unfold ptrV at hlk
        have d00 : wr.drew.cell? ⟨b, 0, none⟩ = some (.map (some m)) := g0
        clear h1 h2 h3 hnode hF2 hnd
        go_wp2
        go_region_held3 (fun W => W.cell? ⟨b, 0, none⟩ = some (.map (some m))) (first | with_reducible exact d00 | with_reducible exact d0 | with_reducible exact e0) (first | (go_at_call 23; refine HC.out.mono ?_; rintro e w1 ⟨rfl, hb1, hbx, hpm⟩; have d0 : w1.cell? ⟨b, 0, none⟩ = some (.map (some m)) := (hb1.cell Hb0.out).trans d00; have HB1 := Lib.hid hb1; have HBx := Lib.hid hbx; have HPm := Lib.hid hpm; obtain ⟨w2, hst, hP2, hg2⟩ := PMap.store (P := Try.prog) (k := 9) (t := 73) (e := 57) (by kernel_rfl) Try.uMapN (((HS.out.frs.below hb1).node _ _ HS.out.at_).2.2.2) (by have := HNn.out; have := Hn.out; unfold maxLen; omega) (s := y) (by unfold maxLen; omega) cN; rw [<- Hm.out] at hst hP2 hg2; have e0 : w2.cell? ⟨b, 0, none⟩ = some (.map (some m)) := Only.cell ((Only.refl (fun k => k = m) w1).grown hg2 (fun k hk _ => by injection hk with hk; exact hk.symm)) d0 Hbm.out; have HP2 := Lib.hid hP2; have HG2 := Lib.hid hg2; clear hb1 hbx hpm hP2 hg2))
        all_goals
          clear d0 hst d00 hlk
          have hlk2 := HP2.out.look (by kernel_rfl) Try.uMapN (Try.zNode w2) (s := y) (by unfold maxLen; omega)
          rw [if_pos rfl] at hlk2
          unfold ptrV at hlk2
          have HS2 := Lib.hid (show GrowSt R N root th en fl L w w2 (fun p => if p = L.take q ++ [y] then some cN else nd' p) (fun p => if p = L.take q ++ [y] then mN else mb' p) cN (q + 1) from by
            have hz : ¬ (th (L.take q ++ [y]) \/ (L.take q ++ [y]) <+: L.take q) := fun h => absurd Hnd.out ((HS.out.frs.dom _).2 h)
            have hz2 := HFr.out _ fun h => hz (.inl h)
            have hG := HS.out.frs.grow (th_up HU.out _) HS.out.at_ Hnd.out HB1.out (HRw.out _ (Nat.le_trans HS.out.only.size H1.out.1)) (HRw.out _ (Nat.le_trans HS.out.only.size H1.out.2.1)) H1.out.1 H1.out.2.1 H1.out.2.2 (by rw [hz2.1, hz2.2]; exact HBx.out) HPm.out (by rw [<- Hm.out]; exact HP2.out) (by rw [<- Hm.out]; exact HG2.out)
            refine ⟨by rw [HT.out, if_pos rfl], ?_, hG.congr (fun p => ?_) (fun _ _ => rfl) fun _ _ => rfl, ?_⟩
            · show (if ([] : PathS) = L.take q ++ [y] then some cN else nd' []) = some root
              rw [if_neg (by simp)]; exact HS.out.root_
            · rw [HT.out, List.prefix_concat_iff]
              constructor
              · rintro ((h | h) | h)
                · exact .inl h
                · exact .inr (.inr h)
                · exact .inr (.inl h)
              · rintro (h | h | h)
                · exact .inl (.inl h)
                · exact .inr h
                · exact .inl (.inr h)
            · refine (HS.out.only.trans (S' := fun _ => False) (Only.of_below HB1.out) fun _ _ h => h.elim).trans (S' := fun k => k = m) ((Only.refl _ _).grown HG2.out fun k hk _ => by injection hk with hk; exact hk.symm) fun k _ hk => ?_
              rw [hk, Hm.out]
              exact (HS.out.frs.node _ _ HS.out.at_).2.2.1)
          clear HS HP2 HG2 HB1 HBx HPm Hnd HC H1
          go_wp2
          go_roundw
          case rel => exact ⟨q + 1, cN, _, _, by omega, by go_num, rfl, HS2⟩
          case measure => simp [intOf]; omega
    · obtain rfl : q = n := by omega
      go_wp2
      go_ret
      have e : L.take q = L := List.take_of_length_le (by rw [Hn.out]; exact Nat.le_refl _)
      refine ⟨b, nd', mb', rfl, by have := HS.out.at_; rwa [e] at this, HS.out.root_, ?_, HS.out.only⟩
      have := HS.out.frs
      rwa [e] at this
end Go.Proofs.Ytgfibbecnmmpjaa
namespace Go.Proofs.Ytgfibbecnmmpjaa
set_option linter.all false
open Go.RowKit
def TreeSt (R : Nat -> Prop) (N : Nat) (w : World) (tp root : Nat) (vE : Value) (T : List TF) : Prop :=
  ∃ nd mb, Box w tp [.pointer (some ⟨root, 0, none⟩), vE] /\ nd [] = some root /\ Forest R N w nd mb (There T) (fun q => enP q 0 T) (flP T)
theorem TreeSt.only {R S : Nat -> Prop} {N : Nat} {w w' : World} {tp root : Nat} {vE : Value} {T : List TF} (h : TreeSt R N w tp root vE T) (ho : Only S w w') (hR : ∀ k, R k -> ¬ S k) (ht : ¬ S tp) : TreeSt R N w' tp root vE T := by
  obtain ⟨nd, mb, h1, h2, h3⟩ := h
  exact ⟨nd, mb, h1.only ho ht, h2, h3.only ho hR⟩
theorem TreeSt.below {R : Nat -> Prop} {N : Nat} {w w' : World} {tp root : Nat} {vE : Value} {T : List TF} (h : TreeSt R N w tp root vE T) (hb : Below w.heap.size w w') : TreeSt R N w' tp root vE T :=
  h.only (S := fun _ => False) (Only.of_below hb) (fun _ _ h => h) fun h => h
theorem there_up (T : List TF) : ∀ (p : PathS) (s : ByteArray), There T (p ++ [s]) -> There T p := fun p s h => h.up (List.prefix_append p [s])
def PutTo (R : Nat -> Prop) (N : Nat) (tp root : Nat) (vE : Value) (T : List TF) (w : World) (e : Ending) (w' : World) : Prop := e = .returned (.tuple #[]) /\ TreeSt R N w' tp root vE T /\ Only R w w'
theorem put_end {R : Nat -> Prop} {N : Nat} {w2 : World} {nd : PathS -> Option Nat} {mb : PathS -> Nat} {T : List TF} {f : FileV} {b : Nat} {tp root : Nat} {vE : Value} (hF : Forest R N w2 nd mb (fun q => There T q \/ q <+: f.1) (fun q => enP q 0 T) (flP T)) (hb : nd f.1 = some b) (hr : nd [] = some root) (hbox : Box w2 tp [.pointer (some ⟨root, 0, none⟩), vE]) (ht : ¬ R tp)
    (e : Int) (he : e = enP f.1 0 (T ++ [tfOf f])) (x : Bool) (hx : x = flP (T ++ [tfOf f]) f.1) : TreeSt R N ((w2.setCell ⟨b, 1, none⟩ (.int .i64 e)).setCell ⟨b, 2, none⟩ (.bool x)) tp root vE (T ++ [tfOf f]) /\ Only R w2 ((w2.setCell ⟨b, 1, none⟩ (.int .i64 e)).setCell ⟨b, 2, none⟩ (.bool x)) := by
  have hRb : R b := (hF.node _ _ hb).1
  have hO : Only R w2 ((w2.setCell ⟨b, 1, none⟩ (.int .i64 e)).setCell ⟨b, 2, none⟩ (.bool x)) := Only.setCell (S := R) (p := ⟨b, 2, none⟩) (Only.setCell (S := R) (p := ⟨b, 1, none⟩) (Only.refl _ w2) (fun _ => hRb) _) (fun _ => hRb) _
  have h1 := hF.set (i := 1) (v := .int .i64 e) (en' := fun q => enP q 0 (T ++ [tfOf f])) (fl' := flP T) hb (by omega) (fun p hp => ⟨by
    show enP p 0 (T ++ [tfOf f]) = enP p 0 T
    rw [enP_snoc, if_neg (fun h => hp h.symm : ¬ (tfOf f).p = p)]
    split <;> omega, rfl⟩) (by rw [he]; rfl)
  have h2 := h1.set (i := 2) (v := .bool x) (en' := fun q => enP q 0 (T ++ [tfOf f])) (fl' := flP (T ++ [tfOf f])) hb (by omega) (fun p hp => ⟨rfl, by
    rw [flP_snoc, decide_eq_false (fun h => hp h.symm : ¬ (tfOf f).p = p), Bool.and_false, Bool.or_false]⟩) (by rw [hx]; rfl)
  exact ⟨⟨nd, mb, hbox.only hO ht, hr, h2.congr (fun q => (There.snoc (T := T) (f := tfOf f) (q := q)).symm) (fun _ _ => rfl) fun _ _ => rfl⟩, hO⟩
theorem put_end1 {R : Nat -> Prop} {N : Nat} {w2 : World} {nd : PathS -> Option Nat} {mb : PathS -> Nat} {T : List TF} {f : FileV} {b : Nat} {tp root : Nat} {vE : Value} (hF : Forest R N w2 nd mb (fun q => There T q \/ q <+: f.1) (fun q => enP q 0 T) (flP T)) (hb : nd f.1 = some b) (hr : nd [] = some root) (hbox : Box w2 tp [.pointer (some ⟨root, 0, none⟩), vE]) (ht : ¬ R tp)
    (he : enP f.1 0 T = enP f.1 0 (T ++ [tfOf f])) (x : Bool) (hx : x = flP (T ++ [tfOf f]) f.1) : TreeSt R N (w2.setCell ⟨b, 2, none⟩ (.bool x)) tp root vE (T ++ [tfOf f]) /\ Only R w2 (w2.setCell ⟨b, 2, none⟩ (.bool x)) := by
  have hRb : R b := (hF.node _ _ hb).1
  have hO : Only R w2 (w2.setCell ⟨b, 2, none⟩ (.bool x)) := Only.setCell (S := R) (p := ⟨b, 2, none⟩) (Only.refl _ w2) (fun _ => hRb) _
  have h2 := hF.set (i := 2) (v := .bool x) (en' := fun q => enP q 0 (T ++ [tfOf f])) (fl' := flP (T ++ [tfOf f])) hb (by omega) (fun p hp => ⟨by
    show enP p 0 (T ++ [tfOf f]) = enP p 0 T
    rw [enP_snoc, if_neg (fun h => hp h.symm : ¬ (tfOf f).p = p)]
    split <;> omega, by
    rw [flP_snoc, decide_eq_false (fun h => hp h.symm : ¬ (tfOf f).p = p), Bool.and_false, Bool.or_false]⟩) (by rw [hx, he]; rfl)
  exact ⟨⟨nd, mb, hbox.only hO ht, hr, h2.congr (fun q => (There.snoc (T := T) (f := tfOf f) (q := q)).symm) (fun _ _ => rfl) fun _ _ => rfl⟩, hO⟩
set_option maxRecDepth 100000 in
set_option maxHeartbeats 4000000 in
theorem put_any {R R0 : Nat -> Prop} {N : Nat} (T : List TF) (tp root : Nat) (vE : Value) (i : Nat) (cs : List Value) (f : FileV) (w : World) (h : TreeSt R N w tp root vE T) (ht : ¬ R tp) (hR0 : ∀ k, R0 k -> ¬ R k) (hi : fileK.In R0 w cs f) (hil : i = T.length) (hx : ∀ x ∈ f.1, x.size <= 1000000) (hN : N + f.1.length <= 1000000) (hRw : ∀ k, w.heap.size <= k -> R k) :
    Calls Try.prog 24 #[.pointer (some ⟨tp, 0, none⟩), .int .i64 i, .agg cs.toArray] w (PutTo R (N + f.1.length) tp root vE (T ++ [tfOf f]) w) := by
  obtain ⟨p0, c0, p1, c1, rfl, hk⟩ := fileK_parts hi
  obtain ⟨nd, mb, hbox, hr, hF⟩ := h
  obtain ⟨n0, hn0⟩ : ∃ n, n = f.1.length := ⟨_, rfl⟩
  obtain ⟨n1, hn1⟩ : ∃ n, n = f.2.2.2.length := ⟨_, rfl⟩
  obtain ⟨d, hd⟩ : ∃ d, d = f.2.1 := ⟨_, rfl⟩
  obtain ⟨t, htt⟩ : ∃ t, t = f.2.2.1 := ⟨_, rfl⟩
  have hen : enP f.1 0 (T ++ [tfOf f]) = if enP f.1 0 T = -1 then (i : Int) else enP f.1 0 T := by
    rw [enP_snoc, hil]
    simp [tfOf]
  have hfl : flP (T ++ [tfOf f]) f.1 = (flP T f.1 || !d) := by
    rw [flP_snoc, hd]
    simp [tfOf]
  have hcall : ∀ W, W = (w.alloc (.cells #[.slice p0 n0 c0, .bool d, .string t, .slice p1 n1 c1] 40)) -> Box W w.heap.size [.slice p0 n0 c0, .bool d, .string t, .slice p1 n1 c1] /\ W.cell? ⟨tp, 0, none⟩ = some (.pointer (some ⟨root, 0, none⟩)) /\
      Calls Try.prog 36 #[.pointer (some ⟨root, 0, none⟩), .slice p0 n0 c0] W.drew (GrowTo (fun k => R k /\ k ≠ w.heap.size) (N + f.1.length) root (There T) (fun q => enP q 0 T) (flP T) f.1 W.drew) /\ Below w.heap.size w W := by
    intro W hW
    have hb1 : Below w.heap.size w W := by rw [hW]; exact (Below.refl _ w).alloc (Nat.le_refl _) _
    have hsz : W.heap.size = w.heap.size + 1 := by rw [hW]; simp
    refine ⟨by rw [hW]; exact Box.new w _ _, (hbox.below hb1).cell rfl, ?_, hb1⟩
    have hg := grow_any (R := fun k => R k /\ k ≠ w.heap.size) (.slice p0 f.1.length c0) f.1 root W.drew (((hF.low.imp fun k hk => ⟨hk.1, by omega⟩).below hb1).drew) hr (there_up T) (fun k hk => by
      have hk : W.heap.size <= k := hk
      exact ⟨hRw k (Nat.le_trans hb1.size hk), by omega⟩) (fun w' ho => (hk R w' ((Only.of_below hb1).drew.trans ho fun _ _ h => h.1) hR0).1) hx (by omega) fun q hq => not_there hq
    rwa [<- hn0] at hg ⊢
  rw [<- hn0, <- hn1, <- hd, <- htt]
  rw [<- hn0] at hcall
  have HEn := Lib.hid hen
  have HFl := Lib.hid hfl
  have HB := Lib.hid hbox
  have Ht := Lib.hid ht
  obtain ⟨X0, X1, Y2, Y3⟩ := hcall _ rfl
  obtain ⟨g, hg⟩ : ∃ g, g = w.heap.size := ⟨_, rfl⟩
  have Hg := Lib.hid (show tp ≠ g /\ g < (w.alloc (.cells #[.slice p0 n0 c0, .bool d, .string t, .slice p1 n1 c1] 40)).heap.size by
    have := hbox.lt (by simp)
    exact ⟨by omega, by rw [hg]; simp⟩)
  have x0 := X0.cell (i := 0) rfl
  have x1 := X0.cell (i := 1) rfl
  have HX0 := Lib.hid X0
  have X2 := Lib.hid Y2
  have X3 := Lib.hid Y3
  clear hcall hen hfl hbox ht hF hk hi hx hN hRw hR0 hr hn0 hn1 hd htt hil X0 Y2 Y3
  generalize hW : w.alloc (.cells #[.slice p0 n0 c0, .bool d, .string t, .slice p1 n1 c1] 40) = W at *
  have HWw := Lib.hid hW
  go_enter Try.func24, Try.ntmps24
  go_wp2_with fail
  rw [<- hg] at x0 x1 HX0 ⊢
  clear hW
  have HGw := Lib.hid hg
  clear hg
  have d0 : W.drew.cell? ⟨tp, 0, none⟩ = some (.pointer (some ⟨root, 0, none⟩)) := X1
  have d1 : W.drew.cell? ⟨g, 0, none⟩ = some (.slice p0 n0 c0) := x0
  clear X1 x0 x1
  go_region_held3 (fun V => V.cell? ⟨tp, 0, none⟩ = some (.pointer (some ⟨root, 0, none⟩)) /\ V.cell? ⟨g, 0, none⟩ = some (.slice p0 n0 c0)) (first | with_reducible exact ⟨d0, d1⟩ | with_reducible exact ⟨e0, e1⟩) (first | (go_at_call 36; refine X2.out.mono ?_; rintro e w2 ⟨b, nd', mb', rfl, hL, hr2, hF2, ho2⟩; have e0 : w2.cell? ⟨tp, 0, none⟩ = some (.pointer (some ⟨root, 0, none⟩)) := ho2.cell d0 (fun h => Ht.out h.1); have e1 : w2.cell? ⟨g, 0, none⟩ = some (.slice p0 n0 c0) := ho2.cell d1 (fun h => h.2 HGw.out); have HL2 := Lib.hid hL; have HR2 := Lib.hid hr2; have HF2 := Lib.hid hF2; have HO2 := Lib.hid ho2; clear hL hr2 hF2 ho2))
  all_goals
    clear d0 d1 e0 e1
    have hnode := HF2.out.node _ _ HL2.out
    have hbg : b ≠ g := fun h => hnode.1.2 (h.trans HGw.out)
    have hgb : g ≠ b := fun h => hbg h.symm
    have x1 : w2.cell? ⟨g, 1, none⟩ = some (.bool d) := HO2.out.cell (HX0.out.cell (i := 1) rfl) (fun h => h.2 HGw.out)
    have hbox2 := hnode.2.1
    have HF3 := Lib.hid (HF2.out.imp (R' := R) fun k h => h.1)
    have hbtp : Box w2 tp [.pointer (some ⟨root, 0, none⟩), vE] := (((HB.out.below X3.out).drew).only HO2.out fun h => Ht.out h.1)
    have HBt := Lib.hid hbtp
    have HOw := Lib.hid ((Only.of_below (S := R) X3.out).drew.trans HO2.out fun _ _ h => h.1)
    obtain ⟨e, he⟩ : ∃ e, e = enP f.1 0 T := ⟨_, rfl⟩
    obtain ⟨x, hx⟩ : ∃ x, x = flP T f.1 := ⟨_, rfl⟩
    rw [<- he, <- hx] at hbox2
    rw [<- he] at HEn
    rw [<- hx] at HFl
    have b1 := hbox2.cell (i := 1) rfl
    have b2 := hbox2.cell (i := 2) rfl
    have z1 := hbox2.free 1 (by simp)
    have z2 := hbox2.free 2 (by simp)
    have He := Lib.hid he
    clear hnode hbox2 hbtp he hx HF2 HO2 HX0 HB X3 X2 HWw Hg
    by_cases hm : e = -1
    · subst hm
      have HE2 := Lib.hid (show (i : Int) = enP f.1 0 (T ++ [tfOf f]) by rw [HEn.out, if_pos rfl])
      clear HEn He
      cases x
      · cases d
        · go_wp2
          go_end0
          obtain ⟨k1, k2⟩ := put_end HF3.out HL2.out HR2.out HBt.out Ht.out _ HE2.out true (by rw [HFl.out]; rfl)
          exact ⟨rfl, k1, HOw.out.trans k2 fun _ _ h => h⟩
        · go_wp2
          go_end0
          obtain ⟨k1, k2⟩ := put_end HF3.out HL2.out HR2.out HBt.out Ht.out _ HE2.out false (by rw [HFl.out]; rfl)
          exact ⟨rfl, k1, HOw.out.trans k2 fun _ _ h => h⟩
      · go_wp2
        go_end0
        obtain ⟨k1, k2⟩ := put_end HF3.out HL2.out HR2.out HBt.out Ht.out _ HE2.out true (by rw [HFl.out]; rfl)
        exact ⟨rfl, k1, HOw.out.trans k2 fun _ _ h => h⟩
    · have HE2 := Lib.hid (show enP f.1 0 T = enP f.1 0 (T ++ [tfOf f]) by rw [HEn.out, if_neg hm, He.out])
      have hm2 : decide (e = -1) = false := decide_eq_false hm
      clear HEn He
      cases x
      · cases d
        · go_wp2
          go_end0
          obtain ⟨k1, k2⟩ := put_end1 HF3.out HL2.out HR2.out HBt.out Ht.out HE2.out true (by rw [HFl.out]; rfl)
          exact ⟨rfl, k1, HOw.out.trans k2 fun _ _ h => h⟩
        · go_wp2
          go_end0
          obtain ⟨k1, k2⟩ := put_end1 HF3.out HL2.out HR2.out HBt.out Ht.out HE2.out false (by rw [HFl.out]; rfl)
          exact ⟨rfl, k1, HOw.out.trans k2 fun _ _ h => h⟩
      · go_wp2
        go_end0
        obtain ⟨k1, k2⟩ := put_end1 HF3.out HL2.out HR2.out HBt.out Ht.out HE2.out true (by rw [HFl.out]; rfl)
        exact ⟨rfl, k1, HOw.out.trans k2 fun _ _ h => h⟩
end Go.Proofs.Ytgfibbecnmmpjaa
