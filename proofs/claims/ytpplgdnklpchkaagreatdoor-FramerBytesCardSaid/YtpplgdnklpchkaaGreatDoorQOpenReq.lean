/- A request that came in is a request of the walk. -/
import Derived.Lib.SmallJoins
import Derived.Test.YtpplgdnklpchkaaGreatDoorQOpenBytes
import Derived.Test.YtpplgdnklpchkaaGreatDoorQOpenFlds
namespace Go.Proofs.YtpplgdnklpchkaaGreatDoor
open Go.ChangeShapes Go.WideShapes Go.ChangeAt Go.RowKit
set_option linter.all false
theorem Tryz.cellsStrQ : Tryz.prog.cellsOf 9 = 1 := by kernel_rfl
theorem Tryz.cellsIntQ : Tryz.prog.cellsOf 3 = 1 := by kernel_rfl
theorem Tryz.cellsFldsQ : Tryz.prog.cellsOf 46 = 1 := by kernel_rfl
theorem Tryz.cellsBytesQ : Tryz.prog.cellsOf 22 = 1 := by kernel_rfl
theorem Tryz.cellsReq : Tryz.prog.cellsOf 48 = 5 := by kernel_rfl
set_option maxRecDepth 100000 in
theorem req_of_open {H : Type} {enc : TypeId × Value -> H} {W : World} {v : Value} {d : DataW H} {p : List MemPlace} {r : Reach} {base : Nat} (hv : Value.okWide Tryz.prog W r base 48 v)
  (h : DataW.Trod enc Tryz.prog W 0 (fun _ => true) true 48 v d p) : ∃ (A B : ByteArray) (m : Int) (fv bv : Value) (F : List FB) (l : List UInt8), v = .agg #[.string A, .string B, .int .i64 m, fv, bv] /\ FldsIn W fv F /\ BytesIn W bv l := by
 obtain ⟨cs, rfl, hsz⟩ := okWide_struct Tryz.underlying48 hv
 rw [Tryz.cellsReq] at hsz
 obtain ⟨fuel, hf⟩ := h
 obtain ⟨cl⟩ := cs
 have hsz : cl.length = 5 := hsz
 match cl, hsz with
 | [c0, c1, c2, c3, c4], _ =>
  have hf : DataW.trod enc Tryz.prog W 0 (fun _ => true) true fuel 48 [c0, c1, c2, c3, c4] = some (d, p) := hf
  obtain ⟨xs, n, _, hx, hl, hlen, hfd⟩ := DataW.trod_struct Tryz.underlying48 hf
  match xs, hlen with
  | [y0, y1, y2, y3, y4], _ =>
   have h0 : DataW.trod enc Tryz.prog W 0 (fun _ => true) true n 9 (([c0, c1, c2, c3, c4].drop 0).take (Tryz.prog.cellsOf 9)) = some y0 := hfd 0 _ rfl
   have h1 : DataW.trod enc Tryz.prog W 0 (fun _ => true) true n 9 (([c0, c1, c2, c3, c4].drop 1).take (Tryz.prog.cellsOf 9)) = some y1 := hfd 1 _ rfl
   have h2 : DataW.trod enc Tryz.prog W 0 (fun _ => true) true n 3 (([c0, c1, c2, c3, c4].drop 2).take (Tryz.prog.cellsOf 3)) = some y2 := hfd 2 _ rfl
   have h3 : DataW.trod enc Tryz.prog W 0 (fun _ => true) true n 46 (([c0, c1, c2, c3, c4].drop 3).take (Tryz.prog.cellsOf 46)) = some y3 := hfd 3 _ rfl
   have h4 : DataW.trod enc Tryz.prog W 0 (fun _ => true) true n 22 (([c0, c1, c2, c3, c4].drop 4).take (Tryz.prog.cellsOf 22)) = some y4 := hfd 4 _ rfl
   rw [Tryz.cellsStrQ] at h0 h1
   rw [Tryz.cellsIntQ] at h2
   rw [Tryz.cellsFldsQ] at h3
   rw [Tryz.cellsBytesQ] at h4
   have h0 : DataW.trod enc Tryz.prog W 0 (fun _ => true) true n 9 [c0] = some y0 := h0
   have h1 : DataW.trod enc Tryz.prog W 0 (fun _ => true) true n 9 [c1] = some y1 := h1
   have h2 : DataW.trod enc Tryz.prog W 0 (fun _ => true) true n 3 [c2] = some y2 := h2
   have h3 : DataW.trod enc Tryz.prog W 0 (fun _ => true) true n 46 [c3] = some y3 := h3
   have h4 : DataW.trod enc Tryz.prog W 0 (fun _ => true) true n 22 [c4] = some y4 := h4
   obtain ⟨A, e0, _, _⟩ := DataW.trod_string Tryz.underlying9 h0
   obtain ⟨B, e1, _, _⟩ := DataW.trod_string Tryz.underlying9 h1
   obtain ⟨m, e2, _, _⟩ := DataW.trod_int Tryz.underlying3 h2
   injection e0 with e0
   injection e1 with e1
   injection e2 with e2
   subst e0 e1 e2
   have s3 : ∃ a len cap, c3 = .slice a len cap := by
    rcases DataW.trod_slice Tryz.uFlds2 h3 with ⟨hcs, _⟩ | ⟨a, len, cap, elems, rest, k, _, hcs, _⟩
    ·simp at hcs; exact ⟨_, _, _, hcs⟩
    ·simp at hcs; exact ⟨_, _, _, hcs⟩
   have s4 : ∃ a len cap, c4 = .slice a len cap := by
    rcases DataW.trod_slice Tryz.underlying22 h4 with ⟨hcs, _⟩ | ⟨a, len, cap, elems, rest, k, _, hcs, _⟩
    ·simp at hcs; exact ⟨_, _, _, hcs⟩
    ·simp at hcs; exact ⟨_, _, _, hcs⟩
   have g3 := s3
   have g4 := s4
   obtain ⟨a3, l3, k3, rfl⟩ := s3
   obtain ⟨a4, l4, k4, rfl⟩ := s4
   obtain ⟨F, hF⟩ := flds_of_open g3 (d := y3.1) (p := y3.2) ⟨n, h3⟩
   obtain ⟨l, hB, _⟩ := bytes_of_open g4 (d := y4.1) (p := y4.2) ⟨n, h4⟩
   exact ⟨A, B, m, _, _, F, l, rfl, hF, hB⟩
end Go.Proofs.YtpplgdnklpchkaaGreatDoor
