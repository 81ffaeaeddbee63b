/- The framer, plainly: where all bytes are taken by requests; empty lines ahead of a request; requests behind others. -/
import Derived.Test.YtpplgdnklpchkaaGreatDoorQB
namespace Go.Proofs.YtpplgdnklpchkaaGreatDoor
set_option linter.all false
open Go.RowKit
variable {H : Type}
theorem split_end (F : Fr H) (hc : F.chunk.taken = 0) : ∀ (f k : Nat) (l : List UInt8) (L : List (H × List UInt8)) (x : ByteArray) (L' : List (H × List UInt8)), l.length < f -> splitF F f k l L = .all (k + l.length) L' ->
  ∃ y, runF F (.go k k L (bnd x) .start) l = .go (k + l.length) (k + l.length) L' (bnd y) .start
 | 0, _, _, _, _, _, hf, _ => by omega
 | f + 1, k, l, L, x, L', hf, he => by
  have hn := next_all F hc k L x k l
  unfold splitF at he
  cases hr : nextF F k l with
  | open_ =>
   rw [hr] at he
   have he : SpR.all k L = .all (k + l.length) L' := he
   injection he with e1 e2
   have h0 : l = [] := List.length_eq_zero_iff.1 (by omega)
   subst h0
   subst e2
   exact ⟨x, rfl⟩
  | bad s j =>
   rw [hr] at he
   cases he
  | req h d n =>
   rw [hr] at hn he
   obtain ⟨a, b, y, e⟩ := hn
   have hd : (l.drop (n - k)).length = l.length - (n - k) := List.length_drop
   have he : splitF F f n (l.drop (n - k)) (L ++ [(h, d)]) = .all (k + l.length) L' := he
   have ee : n + (l.drop (n - k)).length = k + l.length := by omega
   rw [<- ee] at he ⊢
   obtain ⟨z, e2⟩ := split_end F hc f n (l.drop (n - k)) (L ++ [(h, d)]) y L' (by omega) he
   exact ⟨z, e.trans e2⟩
theorem crlf_start (F : Fr H) (nx k : Nat) (L : List (H × List UInt8)) (x : ByteArray) : runF F (.go nx k L (bnd x) .start) [13, 10] = .go nx (k + 2) L (bnd ⟨#[]⟩) .start := by
 have e1 : stepR F.m (bnd x) 13 = ⟨0, [], true, x⟩ := by simp [stepR, RS.wrong, bnd, takeR]
 have e2 : stepR F.m ⟨0, [], true, x⟩ 10 = bnd ⟨#[]⟩ := by simp [stepR, RS.wrong, bnd, takeR]
 rw [runF_cons, runF_cons, runF_nil]
 show stepF F (txtF F nx k L (bnd x) .start 13) 10 = _
 unfold txtF
 rw [e1]
 simp only
 rw [if_neg (by decide), if_neg (by decide), if_neg (by decide)]
 show txtF F nx (k + 1) L ⟨0, [], true, x⟩ .start 10 = _
 unfold txtF
 rw [e2]
 rw [if_pos (show (bnd ⟨#[]⟩).st = 1 from rfl)]
 rfl
def crlfs : Nat -> List UInt8
 | 0 => []
 | e + 1 => crlfs e ++ [13, 10]
theorem crlfs_len : ∀ e, (crlfs e).length = 2 * e
 | 0 => rfl
 | e + 1 => by simp [crlfs, crlfs_len e]; omega
theorem crlfs_start (F : Fr H) (nx k : Nat) (L : List (H × List UInt8)) (x : ByteArray) : ∀ e, ∃ y, runF F (.go nx k L (bnd x) .start) (crlfs e) = .go nx (k + 2 * e) L (bnd y) .start
 | 0 => ⟨x, rfl⟩
 | e + 1 => by
  obtain ⟨y, h⟩ := crlfs_start F nx k L x e
  refine ⟨⟨#[]⟩, ?_⟩
  show runF F _ (crlfs e ++ [13, 10]) = _
  rw [runF_app, h, crlf_start]
  congr 1
def LateTo (F : Fr H) (s : FS H) (l : List UInt8) (e : Nat) : SpR H -> Prop
 | .all _ L => ∃ nx r p, runF F s l = .go nx e L r p
 | .bad st k _ L => ∃ nx, runF F s l = .bad st k nx L
theorem late_all (F : Fr H) (hc : F.chunk.taken = 0) (f nx k : Nat) (l : List UInt8) (L : List (H × List UInt8)) (x : ByteArray) (hf : l.length < f) :
  LateTo F (.go nx k L (bnd x) .start) l (k + l.length) (splitF F f k l L) := by
 obtain ⟨f, rfl⟩ : ∃ g, f = g + 1 := ⟨f - 1, by omega⟩
 have hn := next_all F hc nx L x k l
 unfold splitF
 cases hr : nextF F k l with
 | open_ =>
  rw [hr] at hn
  obtain ⟨r, p, e⟩ := hn
  exact ⟨nx, r, p, e⟩
 | bad s j =>
  rw [hr] at hn
  exact ⟨nx, hn⟩
 | req h d n =>
  rw [hr] at hn
  obtain ⟨a, b, y, e⟩ := hn
  have hd : (l.drop (n - k)).length = l.length - (n - k) := List.length_drop
  have ih := split_all F hc f n (l.drop (n - k)) (L ++ [(h, d)]) y (by omega)
  have ee : n + (l.drop (n - k)).length = k + l.length := by omega
  rw [ee] at ih
  show LateTo F _ l _ (splitF F f n (l.drop (n - k)) (L ++ [(h, d)]))
  cases hs : splitF F f n (l.drop (n - k)) (L ++ [(h, d)]) with
  | all nx L' =>
   rw [hs] at ih
   obtain ⟨r, p, e2⟩ := ih
   exact ⟨nx, r, p, e.trans e2⟩
  | bad s j nx L' =>
   rw [hs] at ih
   exact ⟨nx, e.trans ih⟩
theorem late_run (F : Fr H) (hc : F.chunk.taken = 0) (before b : List UInt8) (e : Nat) (M : List (H × List UInt8)) (x : ByteArray) (h : splitF F (before.length + 1) 0 before [] = .all before.length M) :
  LateTo F (.go 0 0 [] (bnd x) .start) (before ++ crlfs e ++ b) (before.length + 2 * e + b.length) ((splitF F (b.length + 1) 0 b []).from_ (before.length + 2 * e) M) := by
 obtain ⟨y, e1⟩ := split_end F hc (before.length + 1) 0 before [] x M (by omega) (by rw [Nat.zero_add]; exact h)
 obtain ⟨z, e2⟩ := crlfs_start F (0 + before.length) (0 + before.length) M y e
 have h3 := late_all F hc (b.length + 1) (0 + before.length) (before.length + 2 * e) b (M ++ []) z (by omega)
 have h4 := splitF_from F hc (before.length + 2 * e) M (b.length + 1) 0 b []
 rw [show before.length + 2 * e + 0 = before.length + 2 * e from rfl] at h4
 rw [h4, List.append_nil] at h3
 have h5 : runF F (.go 0 0 [] (bnd x) .start) (before ++ crlfs e ++ b) = runF F (.go (0 + before.length) (before.length + 2 * e) M (bnd z) .start) b := by
  rw [runF_app, runF_app, e1, e2, Nat.zero_add]
 cases hs : (splitF F (b.length + 1) 0 b []).from_ (before.length + 2 * e) M with
 | all nx L =>
  rw [hs] at h3
  obtain ⟨nx, r, p, e3⟩ := h3
  exact ⟨nx, r, p, h5.trans e3⟩
 | bad s k nx L =>
  rw [hs] at h3
  obtain ⟨nx, e3⟩ := h3
  exact ⟨nx, h5.trans e3⟩
end Go.Proofs.YtpplgdnklpchkaaGreatDoor
