/- The framer, plainly: the bytes of a request, and that requests are found in them again. -/
import Derived.Test.YtpplgdnklpchkaaGreatDoorQFK
import Derived.Test.YtpplgdnklpchkaaGreatDoorQFO
namespace Go.Proofs.YtpplgdnklpchkaaGreatDoor
set_option linter.all false
open Go.RowKit
def Plain (l : List UInt8) : Prop := (10 : UInt8) ∉ l /\ (13 : UInt8) ∉ l
theorem Plain.nil : Plain [] := ⟨by simp, by simp⟩
theorem Plain.app {a b : List UInt8} (h : Plain a) (k : Plain b) : Plain (a ++ b) :=
 ⟨fun m => (List.mem_append.1 m).elim h.1 k.1, fun m => (List.mem_append.1 m).elim h.2 k.2⟩
theorem Plain.sub {a b : List UInt8} (h : Plain b) (hs : ∀ x ∈ a, x ∈ b) : Plain a := ⟨fun m => h.1 (hs _ m), fun m => h.2 (hs _ m)⟩
theorem step_cr (m st : Nat) (t : List UInt8) (x : ByteArray) (h : st = 0 \/ st = 1) : stepR m ⟨st, t, false, x⟩ 13 = ⟨0, t, true, x⟩ := by
 rcases h with rfl | rfl <;> simp [stepR, RS.wrong, takeR]
theorem step_lf (m : Nat) (t : List UInt8) (x : ByteArray) : stepR m ⟨0, t, true, x⟩ 10 = ⟨1, [], false, ⟨t.toArray⟩⟩ := by
 simp [stepR, RS.wrong, takeR]
theorem step_in (m st : Nat) (t : List UInt8) (x : ByteArray) (c : UInt8) (h : st = 0 \/ st = 1) (h1 : c ≠ 10) (h2 : c ≠ 13) (h3 : t.length < m) : stepR m ⟨st, t, false, x⟩ c = ⟨0, t ++ [c], false, x⟩ := by
 have h4 : ¬ m <= t.length := by omega
 rcases h with rfl | rfl <;> simp [stepR, RS.wrong, takeR, h1, h2, h4]
theorem scan_plain {m : Nat} : ∀ (s t : List UInt8) (st : Nat) (x : ByteArray) (k : Nat) (rest : List UInt8), Plain s -> t.length + s.length <= m -> (st = 0 \/ st = 1) ->
  scan m ⟨st, t, false, x⟩ k (s ++ 13 :: 10 :: rest) = .line ⟨(t ++ s).toArray⟩ (k + s.length + 2)
 | [], t, st, x, k, rest, hp, hl, h => by
  show scan m ⟨st, t, false, x⟩ k (13 :: 10 :: rest) = _
  unfold scan
  rw [step_cr m st t x h]
  rw [if_neg (show ¬ (⟨0, t, true, x⟩ : RS).st = 1 from (by decide : ¬ (0 : Nat) = 1)), if_neg (show ¬ (⟨0, t, true, x⟩ : RS).st = 2 from (by decide : ¬ (0 : Nat) = 2)), if_neg (show ¬ (⟨0, t, true, x⟩ : RS).st = 3 from (by decide : ¬ (0 : Nat) = 3))]
  unfold scan
  rw [step_lf m t x, if_pos rfl, List.append_nil]
  rfl
 | c :: s, t, st, x, k, rest, hp, hl, h => by
  rw [List.length_cons] at hl
  show scan m ⟨st, t, false, x⟩ k (c :: (s ++ 13 :: 10 :: rest)) = _
  unfold scan
  rw [step_in m st t x c h (fun e => hp.1 (by simp [e])) (fun e => hp.2 (by simp [e])) (by omega)]
  rw [if_neg (show ¬ (⟨0, t ++ [c], false, x⟩ : RS).st = 1 from (by decide : ¬ (0 : Nat) = 1)), if_neg (show ¬ (⟨0, t ++ [c], false, x⟩ : RS).st = 2 from (by decide : ¬ (0 : Nat) = 2)), if_neg (show ¬ (⟨0, t ++ [c], false, x⟩ : RS).st = 3 from (by decide : ¬ (0 : Nat) = 3))]
  rw [scan_plain s (t ++ [c]) 0 x (k + 1) rest (hp.sub fun y hy => by simp [hy]) (by rw [List.length_append, List.length_singleton]; omega) (.inl rfl), List.append_assoc, List.length_cons]
  congr 1; omega
theorem scan_clean {m : Nat} : ∀ (l : List UInt8) (st : Nat) (t : List UInt8) (e : Bool) (x : ByteArray) (k : Nat), (st = 0 \/ st = 1) -> Plain t -> t.length <= m -> ∀ s n, scan m ⟨st, t, e, x⟩ k l = .line s n -> Plain s.data.toList /\ s.size <= m
 | [], st, t, e, x, k, h, hp, hl => fun s n he => by unfold scan at he; cases he
 | c :: l, st, t, e, x, k, h, hp, hl => by
  intro s n he
  unfold scan at he
  have hw : (⟨st, t, e, x⟩ : RS).wrong = false := by rw [wrong_false]; show st ≠ 2 /\ st ≠ 3; omega
  rw [stepR_take c hw] at he
  cases e with
  | true =>
   by_cases hc : c = 10
   ·have ht : takeR m ⟨st, t, true, x⟩ c = ⟨1, [], false, ⟨t.toArray⟩⟩ := by simp [takeR, hc]
    rw [ht, if_pos rfl] at he
    injection he with h1 h2
    subst h1
    exact ⟨by simpa using hp, by rw [text_size]; exact hl⟩
   ·have ht : takeR m ⟨st, t, true, x⟩ c = ⟨2, t, true, x⟩ := by simp [takeR, hc]
    rw [ht, if_neg (show ¬ (⟨2, t, true, x⟩ : RS).st = 1 from (by decide : ¬ (2 : Nat) = 1)), if_pos rfl] at he
    cases he
  | false =>
   by_cases hc : c = 10
   ·have ht : takeR m ⟨st, t, false, x⟩ c = ⟨2, t, false, x⟩ := by simp [takeR, hc]
    rw [ht, if_neg (show ¬ (⟨2, t, false, x⟩ : RS).st = 1 from (by decide : ¬ (2 : Nat) = 1)), if_pos rfl] at he
    cases he
   ·by_cases hd : c = 13
    ·have ht : takeR m ⟨st, t, false, x⟩ c = ⟨0, t, true, x⟩ := by simp [takeR, hd]
     rw [ht, if_neg (show ¬ (⟨0, t, true, x⟩ : RS).st = 1 from (by decide : ¬ (0 : Nat) = 1)), if_neg (show ¬ (⟨0, t, true, x⟩ : RS).st = 2 from (by decide : ¬ (0 : Nat) = 2)), if_neg (show ¬ (⟨0, t, true, x⟩ : RS).st = 3 from (by decide : ¬ (0 : Nat) = 3))] at he
     exact scan_clean l 0 t true x (k + 1) (.inl rfl) hp hl s n he
    ·by_cases hm : m <= t.length
     ·have ht : takeR m ⟨st, t, false, x⟩ c = ⟨3, t, false, x⟩ := by simp [takeR, hc, hd, hm]
      rw [ht, if_neg (show ¬ (⟨3, t, false, x⟩ : RS).st = 1 from (by decide : ¬ (3 : Nat) = 1)), if_neg (show ¬ (⟨3, t, false, x⟩ : RS).st = 2 from (by decide : ¬ (3 : Nat) = 2)), if_pos rfl] at he
      cases he
     ·have ht : takeR m ⟨st, t, false, x⟩ c = ⟨0, t ++ [c], false, x⟩ := by simp [takeR, hc, hd, hm]
      rw [ht, if_neg (show ¬ (⟨0, t ++ [c], false, x⟩ : RS).st = 1 from (by decide : ¬ (0 : Nat) = 1)), if_neg (show ¬ (⟨0, t ++ [c], false, x⟩ : RS).st = 2 from (by decide : ¬ (0 : Nat) = 2)), if_neg (show ¬ (⟨0, t ++ [c], false, x⟩ : RS).st = 3 from (by decide : ¬ (0 : Nat) = 3))] at he
      exact scan_clean l 0 (t ++ [c]) false x (k + 1) (.inl rfl) (hp.app ⟨by simpa using Ne.symm hc, by simpa using Ne.symm hd⟩) (by rw [List.length_append, List.length_singleton]; omega) s n he
structure GoodH (h : Hd) : Prop where
 ln : outO (textP h.A h.B h.m) = .line h.A h.B h.m
 pl : Plain (textP h.A h.B h.m).data.toList
 fl : ∀ f ∈ h.F, ∃ s, outS s = .fld f.1 f.2 /\ Plain s.data.toList
 sm : sumF h.F <= h.n
def Framed (l : Lim) (h : Hd) (d : List UInt8) (a b : Nat) : Prop := checkH l h = .ok .chunked \/ ∃ q, checkH l h = .ok (.len q) /\ d.length = q /\ h.n + 2 + q + a <= b
theorem readB_good {l : Lim} {h h' : Hd} {k n : Nat} {b d : List UInt8} (e : readB (frF l) h k b = .req h' d n) : h' = h /\ ∀ j, 2 + j <= k -> Framed l h d j (h.n + n) := by
 unfold readB at e
 rw [show (frF l).check h = checkH l h from rfl] at e
 unfold Framed
 cases hc : checkH l h with
 | error s => rw [hc] at e; cases e
 | ok q =>
  cases q with
  | len q =>
   rw [hc] at e
   simp only at e
   split at e
   ·cases e
   ·next hn =>
    injection e with e1 e2 e3
    exact ⟨e1.symm, fun j hj => .inr ⟨q, rfl, by rw [<- e2, List.length_take]; omega, by omega⟩⟩
  | chunked =>
   rw [hc] at e
   simp only at e
   split at e
   ·cases e
   ·cases e
   ·injection e with e1 e2 e3
    exact ⟨e1.symm, fun j hj => .inl rfl⟩
theorem readH_good (l : Lim) : ∀ (f : Nat) (h : Hd) (x : ByteArray) (k : Nat) (b : List UInt8) (h' : Hd) (d : List UInt8) (n : Nat), readH (frF l) f h x k b = .req h' d n -> GoodH h -> GoodH h' /\ h'.n <= h.n + b.length /\ textP h'.A h'.B h'.m = textP h.A h.B h.m /\ Framed l h' d k (h.n + n)
 | 0, h, x, k, b, h', d, n, e, g => by unfold readH at e; cases e
 | f + 1, h, x, k, b, h', d, n, e, g => by
  unfold readH at e
  cases hs : scan (frF l).m (bnd x) k b with
  | open_ => rw [hs] at e; cases e
  | bad j => rw [hs] at e; cases e
  | long j => rw [hs] at e; cases e
  | line s j =>
   rw [hs] at e
   simp only at e
   have h1 := scan_lt _ _ _ s j hs
   have h2 := scan_len _ _ _ (.inr rfl) s j hs
   rw [tot_bnd] at h2
   have h3 := scan_clean b 1 [] false x k (.inr rfl) Plain.nil (Nat.zero_le _) s j hs
   split at e
   ·obtain ⟨rfl, hf⟩ := readB_good e
    exact ⟨g, by omega, rfl, hf k (by omega)⟩
   ·rw [show (frF l).more h s = moreH l h s from rfl] at e
    cases hm : moreH l h s with
    | error st => rw [hm] at e; cases e
    | ok h2' =>
     rw [hm] at e
     obtain ⟨N, V, ho, rfl, _⟩ := moreH_ok hm
     have hz := fld_size ho
     have g2 : GoodH ⟨h.A, h.B, h.m, h.F ++ [(N, V)], h.n + (s.size + 2)⟩ := ⟨g.ln, g.pl, fun f hf => by
      rcases List.mem_append.1 hf with hf | hf
      ·exact g.fl f hf
      ·rw [List.mem_singleton] at hf; subst hf; exact ⟨s, ho, h3.1⟩, by
      show sumF (h.F ++ [(N, V)]) <= h.n + (s.size + 2)
      rw [sumF_app]
      have := g.sm
      simp only [sumF]
      omega⟩
     obtain ⟨r1, r2, r3, r4⟩ := readH_good l f _ s j _ h' d n e g2
     have hd : (b.drop (j - k)).length = b.length - (j - k) := List.length_drop
     refine ⟨r1, by have : h'.n <= h.n + (s.size + 2) + _ := r2; omega, r3, ?_⟩
     rcases r4 with r4 | ⟨q, q1, q2, q3⟩
     ·exact .inl r4
     ·exact .inr ⟨q, q1, q2, by have q3 : h'.n + 2 + q + j <= h.n + (s.size + 2) + n := q3; omega⟩
theorem readS_good (l : Lim) : ∀ (f : Nat) (x : ByteArray) (k : Nat) (b : List UInt8) (h' : Hd) (d : List UInt8) (n : Nat), readS (frF l) f x k b = .req h' d n -> GoodH h' /\ h'.n <= b.length /\ (textP h'.A h'.B h'.m).size <= b.length /\ Framed l h' d ((textP h'.A h'.B h'.m).size + 2 + k) n
 | 0, x, k, b, h', d, n, e => by unfold readS at e; cases e
 | f + 1, x, k, b, h', d, n, e => by
  unfold readS at e
  cases hs : scan (frF l).m (bnd x) k b with
  | open_ => rw [hs] at e; cases e
  | bad j => rw [hs] at e; cases e
  | long j => rw [hs] at e; cases e
  | line s j =>
   rw [hs] at e
   simp only at e
   have h1 := scan_lt _ _ _ s j hs
   have h2 := scan_len _ _ _ (.inr rfl) s j hs
   rw [tot_bnd] at h2
   have h3 := scan_clean b 1 [] false x k (.inr rfl) Plain.nil (Nat.zero_le _) s j hs
   have hd : (b.drop (j - k)).length = b.length - (j - k) := List.length_drop
   split at e
   ·obtain ⟨r1, r2, r3, r4⟩ := readS_good l f s j _ h' d n e
    refine ⟨r1, by omega, by omega, ?_⟩
    rcases r4 with r4 | ⟨q, q1, q2, q3⟩
    ·exact .inl r4
    ·exact .inr ⟨q, q1, q2, by omega⟩
   ·rw [show (frF l).first s = firstH s from rfl] at e
    unfold firstH at e
    have hi := outO_is s
    cases ho : outO s with
    | bad st a => rw [ho] at e; cases e
    | line A B m =>
     rw [ho] at e hi
     have ht := (is_text hi).1
     have g : GoodH ⟨A, B, m, [], 0⟩ := ⟨by show outO (textP A B m) = _; rw [ht]; exact ho, by show Plain (textP A B m).data.toList; rw [ht]; exact h3.1, (fun f hf => by cases hf), Nat.le_refl _⟩
     obtain ⟨r1, r2, r3, r4⟩ := readH_good l f _ s j _ h' d n e g
     have r3 : textP h'.A h'.B h'.m = textP A B m := r3
     refine ⟨r1, by have : h'.n <= 0 + _ := r2; omega, by rw [r3, ht]; omega, ?_⟩
     rcases r4 with r4 | ⟨q, q1, q2, q3⟩
     ·exact .inl r4
     ·exact .inr ⟨q, q1, q2, by rw [r3, ht]; have q3 : h'.n + 2 + q + j <= 0 + n := q3; omega⟩
def FoundF (l : Lim) (N : Nat) (x : Hd × List UInt8) : Prop := GoodH x.1 /\ x.1.n <= N /\ (textP x.1.A x.1.B x.1.m).size <= N /\ ∃ a b, Framed l x.1 x.2 a b
open Classical in
noncomputable def wtx (l : Lim) (x : Hd × List UInt8) : Nat := if checkH l x.1 = .ok .chunked then 0 else (bytesTx x.1 x.2).length
theorem splitF_good (l : Lim) (N : Nat) : ∀ (f k : Nat) (b : List UInt8) (L : List (Hd × List UInt8)), b.length <= N -> (∀ x ∈ L, FoundF l N x) ->
  (∀ x ∈ lsS (splitF (frF l) f k b L), FoundF l N x) /\ ((lsS (splitF (frF l) f k b L)).map (wtx l)).sum <= (L.map (wtx l)).sum + 2 * b.length
 | 0, k, b, L, hb, hL => ⟨hL, by show (L.map (wtx l)).sum <= _; omega⟩
 | f + 1, k, b, L, hb, hL => by
  unfold splitF
  cases hr : nextF (frF l) k b with
  | open_ => exact ⟨hL, by show (L.map (wtx l)).sum <= _; omega⟩
  | bad s j => exact ⟨hL, by show (L.map (wtx l)).sum <= _; omega⟩
  | req h d n =>
   have hd : (b.drop (n - k)).length = b.length - (n - k) := List.length_drop
   obtain ⟨r1, r2, r3, r4⟩ := readS_good l _ _ _ _ _ _ _ hr
   obtain ⟨n1, n2⟩ := nextF_req (frF l) (frF_taken l) hr
   have ih := splitF_good l N f n (b.drop (n - k)) (L ++ [(h, d)]) (by omega) fun x hx => by
    rcases List.mem_append.1 hx with hx | hx
    ·exact hL x hx
    ·rw [List.mem_singleton] at hx
     subst hx
     exact ⟨r1, by show h.n <= N; omega, by show (textP h.A h.B h.m).size <= N; omega, _, _, r4⟩
   refine ⟨ih.1, Nat.le_trans ih.2 ?_⟩
   have hw : wtx l (h, d) <= 2 * (n - k) := by
    unfold wtx
    split
    ·exact Nat.zero_le _
    ·next hc =>
     rcases r4 with r4 | ⟨q, q1, q2, q3⟩
     ·exact absurd r4 hc
     ·have := sumT_le h.F
      have := r1.sm
      show (bytesTx h d).length <= _
      rw [bytesTx_len]
      omega
   rw [List.map_append, List.sum_append, List.map_singleton, List.sum_singleton]
   omega
theorem drop_line (s rest : List UInt8) (k : Nat) : (s ++ 13 :: 10 :: rest).drop (k + s.length + 2 - k) = rest := by
 rw [show k + s.length + 2 - k = s.length + 2 by omega, <- List.drop_drop, List.drop_left]
 rfl
theorem nextH_plain (F : Fr Hd) (h : Hd) (k : Nat) (s : ByteArray) (rest : List UInt8) (hp : Plain s.data.toList) (hl : s.size <= F.m) :
  nextH F h k (s.data.toList ++ 13 :: 10 :: rest) = if s.size = 0 then readB F h (k + s.size + 2) rest else match F.more h s with
   | .ok h' => nextH F h' (k + s.size + 2) rest
   | .error st => .bad st (k + s.size + 2 - 1) := by
 have hz : s.data.toList.length = s.size := (Lib.size_eq s).symm
 rw [nextH_line]
 unfold bnd
 rw [scan_plain s.data.toList [] 1 ⟨#[]⟩ k rest hp (by simpa [hz] using hl) (.inr rfl)]
 have e : (⟨([] ++ s.data.toList).toArray⟩ : ByteArray) = s := by simp
 rw [e]
 simp only
 rw [drop_line, hz]
 cases F.more h s <;> rfl
theorem nextF_plain (F : Fr Hd) (k : Nat) (s : ByteArray) (rest : List UInt8) (hp : Plain s.data.toList) (hl : s.size <= F.m) (h0 : s.size ≠ 0) :
  nextF F k (s.data.toList ++ 13 :: 10 :: rest) = match F.first s with
   | .ok h => nextH F h (k + s.size + 2) rest
   | .error st => .bad st (k + s.size + 2 - 1) := by
 have hz : s.data.toList.length = s.size := (Lib.size_eq s).symm
 rw [nextF_line]
 unfold bnd
 rw [scan_plain s.data.toList [] 1 ⟨#[]⟩ k rest hp (by simpa [hz] using hl) (.inr rfl)]
 have e : (⟨([] ++ s.data.toList).toArray⟩ : ByteArray) = s := by simp
 rw [e]
 simp only
 rw [if_neg h0, drop_line, hz]
 cases F.first s <;> rfl
theorem fld_plain {f : FB} {s : ByteArray} (ho : outS s = .fld f.1 f.2) (hp : Plain s.data.toList) : Plain (fldTx f) /\ outS (textF f.1 f.2) = .fld f.1 f.2 := by
 obtain ⟨N, V⟩ := f
 refine ⟨?_, outS_pad ho [32] [] (by intro b hb; simp at hb; subst hb; decide) (by intro b hb; simp at hb) (by show fldTx (N, V) = _; rw [fldTx_eq]; simp)⟩
 obtain ⟨A, B, h2, ht, hf, rfl, rfl⟩ := outS_fld ho
 rw [fldTx_eq]
 have hA : Plain (lowS A).data.toList := by
  have ht' : tokS (lowS A) = true := by rw [tokS_low]; exact ht
  unfold tokS at ht'
  rw [Bool.and_eq_true] at ht'
  exact ⟨fun m => by have := allB_mem ht'.2 _ m; revert this; decide, fun m => by have := allB_mem ht'.2 _ m; revert this; decide⟩
 have hB : Plain (trimS B).data.toList := hp.sub fun x hx => by rw [h2.text]; have := trimS_sub B x hx; simp [this]
 exact hA.app ((show Plain [58, 32] from ⟨by decide, by decide⟩).app hB)
theorem nextH_again (l : Lim) (d rest : List UInt8) : ∀ (F : List FB) (h : Hd) (k : Nat), (∀ f ∈ F, ∃ s, outS s = .fld f.1 f.2 /\ Plain s.data.toList) -> (∀ f ∈ F, f.1.size + f.2.size + 2 <= l.line.toNat) ->
  ((h.F.length + F.length : Nat) : Int) <= l.fields -> ((h.n + sumT F : Nat) : Int) <= l.head -> checkH l ⟨h.A, h.B, h.m, h.F ++ F, h.n + sumT F⟩ = .ok (.len d.length) ->
  nextH (frF l) h k (fldsTx F ++ 13 :: 10 :: (d ++ rest)) = .req ⟨h.A, h.B, h.m, h.F ++ F, h.n + sumT F⟩ d (k + sumT F + 2 + d.length)
 | [], h, k, hF, hz, h1, h2, hc => by
  have hh := nextH_plain (frF l) h k ⟨#[]⟩ (d ++ rest) Plain.nil (Nat.zero_le _)
  show nextH (frF l) h k (13 :: 10 :: (d ++ rest)) = _
  have hh : nextH (frF l) h k (13 :: 10 :: (d ++ rest)) = _ := hh
  rw [hh, if_pos (show (⟨#[]⟩ : ByteArray).size = 0 from rfl)]
  have e : (⟨h.A, h.B, h.m, h.F ++ [], h.n + sumT []⟩ : Hd) = h := by simp [sumT]
  rw [e] at hc ⊢
  rw [readB_len hc, if_neg (by rw [List.length_append]; omega), List.take_left]
  show OneR.req h d _ = .req h d _
  congr 1
 | f :: F, h, k, hF, hz, h1, h2, hc => by
  obtain ⟨s, ho, hp⟩ := hF f (by simp)
  obtain ⟨hp2, ho2⟩ := fld_plain ho hp
  have hz1 := hz f (by simp)
  have hsz : (textF f.1 f.2).size = f.1.size + f.2.size + 2 := by rw [Lib.size_eq]; exact fldTx_len f
  have hh := nextH_plain (frF l) h k (textF f.1 f.2) (fldsTx F ++ 13 :: 10 :: (d ++ rest)) hp2 (by rw [hsz]; exact hz1)
  have e : fldsTx (f :: F) ++ 13 :: 10 :: (d ++ rest) = (textF f.1 f.2).data.toList ++ 13 :: 10 :: (fldsTx F ++ 13 :: 10 :: (d ++ rest)) := by simp [fldsTx, fldTx]
  rw [e, hh, if_neg (by rw [hsz]; omega), show (frF l).more h (textF f.1 f.2) = moreH l h (textF f.1 f.2) from rfl]
  simp only [List.length_cons] at h1
  simp only [sumT] at h2 hc ⊢
  unfold moreH
  rw [if_neg (by rw [hsz]; omega), ho2]
  simp only
  have ih := nextH_again l d rest F ⟨h.A, h.B, h.m, h.F ++ [(f.1, f.2)], h.n + ((textF f.1 f.2).size + 2)⟩ (k + (textF f.1 f.2).size + 2) (fun g hg => hF g (by simp [hg])) (fun g hg => hz g (by simp [hg]))
   (by show (((h.F ++ [(f.1, f.2)]).length + F.length : Nat) : Int) <= l.fields; rw [List.length_append, List.length_singleton]; omega)
   (by show ((h.n + ((textF f.1 f.2).size + 2) + sumT F : Nat) : Int) <= l.head; rw [hsz]; omega)
   (by
    show checkH l ⟨h.A, h.B, h.m, h.F ++ [(f.1, f.2)] ++ F, h.n + ((textF f.1 f.2).size + 2) + sumT F⟩ = _
    rw [List.append_assoc, hsz, show h.n + (f.1.size + f.2.size + 2 + 2) + sumT F = h.n + (f.1.size + f.2.size + 4 + sumT F) by omega]
    exact hc)
  rw [ih]
  show OneR.req (⟨h.A, h.B, h.m, h.F ++ [(f.1, f.2)] ++ F, h.n + ((textF f.1 f.2).size + 2) + sumT F⟩ : Hd) d _ = _
  rw [List.append_assoc, hsz, show h.n + (f.1.size + f.2.size + 2 + 2) + sumT F = h.n + (f.1.size + f.2.size + 4 + sumT F) by omega]
  show OneR.req (⟨h.A, h.B, h.m, h.F ++ f :: F, _⟩ : Hd) d _ = _
  congr 1; omega
def again (x : Hd × List UInt8) : Hd × List UInt8 := (⟨x.1.A, x.1.B, x.1.m, x.1.F, sumT x.1.F⟩, x.2)
theorem nextF_again {N : Nat} (hN : N <= 1000) (k : Nat) (x : Hd × List UInt8) (rest : List UInt8) (h : FoundF greatF N x) (hc : ¬ checkH greatF x.1 = .ok .chunked) :
  nextF (frF greatF) k (bytesTx x.1 x.2 ++ rest) = .req (again x).1 (again x).2 (k + (bytesTx x.1 x.2).length) := by
 obtain ⟨⟨A, B, m, F, n⟩, d⟩ := x
 obtain ⟨g, hn, ht, hf⟩ := h
 obtain ⟨fa, fb, hf⟩ := hf
 rcases hf with hf | ⟨q, hf, hq, _⟩
 ·exact absurd hf hc
 have hq : d.length = q := hq
 subst hq
 have hn : n <= N := hn
 have ht : (textP A B m).size <= N := ht
 have hsm : sumF F <= n := g.sm
 have hsT := sumT_le F
 have hsL := sumF_len F
 have hmem : ∀ (F : List FB), ∀ f ∈ F, f.1.size + f.2.size + 3 <= sumF F := by
  intro F
  induction F with
  | nil => intro f hf; cases hf
  | cons a F ih =>
   intro f hf
   rcases List.mem_cons.1 hf with rfl | hf
   ·simp only [sumF]; omega
   ·have := ih f hf; simp only [sumF]; omega
 have h0 : (textP A B m).size ≠ 0 := by
  intro h0
  rw [Lib.size_eq, textP_data] at h0
  simp at h0
 have e : bytesTx ⟨A, B, m, F, n⟩ d ++ rest = (textP A B m).data.toList ++ 13 :: 10 :: (fldsTx F ++ 13 :: 10 :: (d ++ rest)) := by simp [bytesTx]
 have hm : (frF greatF).m = 10000 := rfl
 rw [e, nextF_plain (frF greatF) k (textP A B m) _ g.pl (by rw [hm]; omega) h0, show (frF greatF).first (textP A B m) = firstH (textP A B m) from rfl]
 unfold firstH
 have hl : outO (textP A B m) = .line A B m := g.ln
 rw [hl]
 simp only
 rw [nextH_again greatF d rest F ⟨A, B, m, [], 0⟩ (k + (textP A B m).size + 2) g.fl (fun f hf => by have := hmem F f hf; show _ <= 10000; omega) (by show ((0 + F.length : Nat) : Int) <= 1000; omega) (by show ((0 + sumT F : Nat) : Int) <= 100000; omega) (by rw [<- hf]; rfl)]
 rw [bytesTx_len]
 show OneR.req (⟨A, B, m, [] ++ F, 0 + sumT F⟩ : Hd) d _ = .req ⟨A, B, m, F, sumT F⟩ d _
 rw [List.nil_append, Nat.zero_add]
 congr 1
 show k + (textP A B m).size + 2 + sumT F + 2 + d.length = k + ((textP A B m).size + 2 + sumT F + 2 + d.length)
 omega
def allTx : List (Hd × List UInt8) -> List UInt8
 | [] => []
 | x :: L => bytesTx x.1 x.2 ++ allTx L
theorem allTx_app : ∀ a b, allTx (a ++ b) = allTx a ++ allTx b
 | [], b => rfl
 | x :: a, b => by simp [allTx, allTx_app a b]
theorem split_again {N : Nat} (hN : N <= 1000) : ∀ (L : List (Hd × List UInt8)) (k : Nat) (M : List (Hd × List UInt8)), (∀ x ∈ L, FoundF greatF N x /\ ¬ checkH greatF x.1 = .ok .chunked) ->
  splitR (frF greatF) k (allTx L) M = .all (k + (allTx L).length) (M ++ L.map again)
 | [], k, M, h => by
  rw [splitR_step _ (frF_taken _), nextF_line]
  show SpR.all k M = .all (k + 0) (M ++ [])
  rw [List.append_nil, Nat.add_zero]
 | x :: L, k, M, h => by
  have hx := h x (by simp)
  rw [splitR_step _ (frF_taken _)]
  rw [show allTx (x :: L) = bytesTx x.1 x.2 ++ allTx L from rfl]
  rw [nextF_again hN k x (allTx L) hx.1 hx.2]
  simp only
  rw [show k + (bytesTx x.1 x.2).length - k = (bytesTx x.1 x.2).length by omega, List.drop_left, split_again hN L _ _ fun y hy => h y (by simp [hy])]
  rw [List.append_assoc]
  show SpR.all (k + (bytesTx x.1 x.2).length + (allTx L).length) (M ++ (again x :: L.map again)) = .all (k + (bytesTx x.1 x.2 ++ allTx L).length) (M ++ (again x :: L.map again))
  rw [List.length_append, Nat.add_assoc]
theorem chunked_field {l : Lim} {h : Hd} (hc : checkH l h = .ok .chunked) : ∃ f ∈ h.F, lowS f.1 = lowS nTE := by
 have h2 : (chkV l h).1 = 2 := by
  unfold checkH at hc
  split at hc
  ·split at hc
   ·assumption
   ·cases hc
  ·cases hc
  ·cases hc
 unfold chkV frameV at h2
 have hne : valsH h.F nTE ≠ [] := by
  intro e
  rw [e, if_neg (by simp)] at h2
  split at h2
  ·split at h2 <;> cases h2
  ·cases h2
 unfold valsH at hne
 generalize h.F = F at hne
 induction F with
 | nil => exact absurd rfl hne
 | cons f F ih =>
  by_cases hf : lowS f.1 = lowS nTE
  ·exact ⟨f, by simp, hf⟩
  ·simp only [selS] at hne
   rw [if_neg hf] at hne
   obtain ⟨g, hg, he⟩ := ih hne
   exact ⟨g, by simp [hg], he⟩
end Go.Proofs.YtpplgdnklpchkaaGreatDoor
