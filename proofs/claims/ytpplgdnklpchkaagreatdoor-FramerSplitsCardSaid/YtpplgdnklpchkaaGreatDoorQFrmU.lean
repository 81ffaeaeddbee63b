/- FramerStops. -/
import Derived.StillTailTactics
import Derived.Test.YtpplgdnklpchkaaGreatDoorQFO
namespace Go.Proofs.YtpplgdnklpchkaaGreatDoor
set_option linter.all false
open Go.RowKit
theorem runF_bad_lt {l : Lim} (hl : LimR l) : ∀ (b : List UInt8) (nx k : Nat) (L : List (Hd × List UInt8)) (r : RS) (p : FP Hd), LiveP l k r p -> ∀ s j nx' L', runF (frF l) (.go nx k L r p) b = .bad s j nx' L' -> j < k + b.length
 | [], nx, k, L, r, p, hp => fun s j nx' L' e => by cases e
 | c :: b, nx, k, L, r, p, hp => by
  intro s j nx' L' e
  rw [runF_cons, stepF_T (frF l) nx k L r p c hp.fit] at e
  have hv := takeT_live hl (c := c) hp
  rw [List.length_cons]
  cases e2 : takeT (frF l) k r p c with
  | go r2 q2 => rw [e2] at e hv; have := runF_bad_lt hl b _ _ _ _ _ hv _ _ _ _ e; omega
  | bad s2 =>
   rw [e2] at e
   have e : runF (frF l) (.bad s2 k nx L) b = .bad s j nx' L' := e
   rw [runF_bad] at e
   injection e with _ e
   omega
  | comp h d r2 =>
   rw [e2] at e hv
   obtain ⟨o, ⟨y, rfl⟩, _⟩ := hv
   have := runF_bad_lt hl b _ _ _ _ _ (show LiveP l (k + 1) (bnd y) .start from ⟨.inr rfl, Nat.zero_le _⟩) _ _ _ _ e
   omega
theorem feed_bad {l : Lim} {s : Int} {k nx : Nat} {L : List (Hd × List UInt8)} (b : List UInt8) : runF (frF l) (.bad s k nx L) b = .bad s k nx L := runF_bad _ _ _ _ _ b
end Go.Proofs.YtpplgdnklpchkaaGreatDoor
