/- Chunked bodies: number. -/
import Derived.Test.YtpplgdnklpchkaaGreatDoorQB
import Derived.Test.YtpplgdnklpchkaaGreatDoorQB2
import Derived.Test.YtpplgdnklpchkaaGreatDoorQDA
namespace Go.Proofs.YtpplgdnklpchkaaGreatDoor
set_option linter.all false
open Go.RowKit
def IsErr (s : Int) (er : Value) : Prop := er = baseS s \/ ∃ k, er = baseF s k
def SizeTo (r : SzR) (w : World) (e : Ending) (w' : World) : Prop := ((∃ n, r = .ok n /\ e = .returned (.tuple #[.int .i64 (n : Int), .nilIface])) \/ (∃ s er, r = .bad s /\ IsErr s er /\ e = .returned (.tuple #[.int .i64 0, er]))) /\ Below w.heap.size w w'
theorem sizeTo_ok {r : SzR} {n : Nat} {z : Int} {w w' : World} (h : r = .ok n) (hz : z = (n : Int)) (hb : Below w.heap.size w w') : SizeTo r w (.returned (.tuple #[.int .i64 z, .nilIface])) w' := by
 subst hz; exact ⟨.inl ⟨n, h, rfl⟩, hb⟩
theorem sizeTo_bad {r : SzR} {s : Int} {er : Value} {w w' : World} (h : r = .bad s) (he : IsErr s er) (hb : Below w.heap.size w w') : SizeTo r w (.returned (.tuple #[.int .i64 0, er])) w' := by
 exact ⟨.inr ⟨s, er, h, he, rfl⟩, hb⟩
set_option maxRecDepth 100000 in
set_option maxHeartbeats 1000000 in
theorem cnum_any (s : ByteArray) (most : Int) (w : World) (hs : s.size <= 4000000) (h0 : 0 <= most) (h1 : most <= 4611686018427387904) :
  Calls Tryz.prog 177 #[.string s, .int .i64 most] w (SizeTo (sizeN (num hexV 16 most s.data.toList)) w) := by
 have hq := Tryz.eqNil
 by_cases hz : s.size = 0
 ·have he : s = ⟨#[]⟩ := ByteArray.ext (Array.eq_empty_of_size_eq_zero hz)
  subst he
  have HR := Lib.hid (show sizeN (num hexV 16 most (⟨#[]⟩ : ByteArray).data.toList) = .bad 400 from rfl)
  have HL := Lib.hid (fun W => parseHex_any ⟨#[]⟩ 15 W (by decide) (by omega) (by omega))
  have hn : num hexV 16 15 (⟨#[]⟩ : ByteArray).data.toList = .bad 0 := rfl
  rw [hn] at HL
  unfold NumIn numRes baseF at HL
  clear hn hz hs
  go_enter Tryz.func177, Tryz.ntmps177
  go_wp2_with fail
  refine (HL.out _).mono ?_
  rintro e w1 ⟨rfl, rfl⟩
  go_wp2_with fail
  go_ret2
  exact sizeTo_bad HR.out (.inr ⟨_, rfl⟩) (Below.refl _ _)
 ·have HN := Lib.hid (num_last h0 s.data.toList)
  have hlen : s.data.toList.length = s.size := by simp
  rw [hlen] at HN
  have ht : (s.extract (s.size - 1) s.size).data.toList = s.data.toList.drop (s.size - 1) := by
   simp only [ByteArray.data_extract, Array.toList_extract, List.extract_eq_take_drop]
   exact List.take_of_length_le (by simp)
  have hf : (s.extract 0 (s.size - 1)).data.toList = s.data.toList.take (s.size - 1) := by
   simp only [ByteArray.data_extract, Array.toList_extract, List.extract_eq_take_drop]
   simp
  have hzl : (⟨#[48]⟩ ++ s.extract 0 (s.size - 1)).data.toList = 48 :: s.data.toList.take (s.size - 1) := by rw [<- hf]; simp
  have hzz : (⟨#[48]⟩ ++ s.extract 0 (s.size - 1)).size <= 4000001 := by
   have h9 := congrArg List.length hzl
   rw [List.length_cons, List.length_take] at h9
   have h8 : (⟨#[48]⟩ ++ s.extract 0 (s.size - 1)).size = (⟨#[48]⟩ ++ s.extract 0 (s.size - 1)).data.toList.length := Lib.size_eq _
   omega
  have HL := Lib.hid (fun W => parseHex_any (s.extract (s.size - 1) s.size) 15 W (by simp; omega) (by omega) (by omega))
  have HH := Lib.hid (fun W => parseHex_any (⟨#[48]⟩ ++ s.extract 0 (s.size - 1)) (most / 16) W (by omega) (by omega) (by omega))
  rw [ht] at HL
  rw [hzl] at HH
  have HLr := Lib.hid (fun n (h : num hexV 16 15 (s.data.toList.drop (s.size - 1)) = .ok n) => num_range digits16 h)
  have HHr := Lib.hid (fun n (h : num hexV 16 (most / 16) (48 :: s.data.toList.take (s.size - 1)) = .ok n) => num_range digits16 h)
  clear ht hf hzl hzz hlen
  generalize num hexV 16 15 (s.data.toList.drop (s.size - 1)) = lo at *
  generalize num hexV 16 (most / 16) (48 :: s.data.toList.take (s.size - 1)) = hi at *
  generalize sizeN (num hexV 16 most s.data.toList) = R at *
  unfold NumIn at HL HH
  have hlo : (∃ a, lo = .ok a) \/ (∃ er, numRes lo = .tuple #[.int .i64 0, er] /\ ∃ st k, er = baseF st k /\ R = .bad st) := by
   cases lo with
   | ok a => exact .inl ⟨a, rfl⟩
   | bad j => exact .inr ⟨_, rfl, 400, _, rfl, HN.out⟩
   | great => exact .inr ⟨_, rfl, 413, _, rfl, HN.out⟩
  rcases hlo with ⟨a, rfl⟩ | ⟨er, hr, st, k, rfl, hR⟩
  ·have ha := HLr.out a rfl
   have hhi : (∃ h, hi = .ok h) \/ (∃ er, numRes hi = .tuple #[.int .i64 0, er] /\ ∃ st k, er = baseF st k /\ R = .bad st) := by
    cases hi with
    | ok a => exact .inl ⟨a, rfl⟩
    | bad j => exact .inr ⟨_, rfl, 400, _, rfl, HN.out⟩
    | great => exact .inr ⟨_, rfl, 413, _, rfl, HN.out⟩
   rcases hhi with ⟨h, rfl⟩ | ⟨er, hr, st, k, rfl, hR⟩
   ·have hh := HHr.out h rfl
    have HN2 := Lib.hid (show R = if most < h * 16 + a then .bad 413 else .ok (h * 16 + a).toNat from HN.out)
    clear HN HLr HHr
    have hh2 : h * 16 <= most := by omega
    unfold numRes at HL HH
    by_cases hm : most < h * 16 + a
    ·have HR := Lib.hid (show R = .bad 413 by rw [HN2.out, if_pos hm])
     clear HN2
     go_enter Tryz.func177, Tryz.ntmps177
     go_wp2_with fail
     refine (HL.out _).mono ?_
     rintro e w1 ⟨rfl, rfl⟩
     go_wp2_with fail
     refine (HH.out _).mono ?_
     rintro e w1 ⟨rfl, rfl⟩
     go_wp2_with fail
     go_ret2
     exact sizeTo_bad HR.out (.inl rfl) (Below.refl _ _)
    ·have HR := Lib.hid (show R = .ok (h * 16 + a).toNat by rw [HN2.out, if_neg hm])
     clear HN2
     go_enter Tryz.func177, Tryz.ntmps177
     go_wp2_with fail
     refine (HL.out _).mono ?_
     rintro e w1 ⟨rfl, rfl⟩
     go_wp2_with fail
     refine (HH.out _).mono ?_
     rintro e w1 ⟨rfl, rfl⟩
     go_wp2_with fail
     go_ret2
     exact sizeTo_ok HR.out (by omega) (Below.refl _ _)
   ·have HR := Lib.hid hR
    clear hR HN HLr HHr
    rw [hr] at HH
    clear hr
    unfold numRes at HL
    unfold baseF at HH
    go_enter Tryz.func177, Tryz.ntmps177
    go_wp2_with fail
    refine (HL.out _).mono ?_
    rintro e w1 ⟨rfl, rfl⟩
    go_wp2_with fail
    refine (HH.out _).mono ?_
    rintro e w1 ⟨rfl, rfl⟩
    go_wp2_with fail
    go_ret2
    exact sizeTo_bad HR.out (.inr ⟨_, rfl⟩) (Below.refl _ _)
  ·have HR := Lib.hid hR
   clear hR HN HLr HHr
   rw [hr] at HL
   clear hr
   unfold baseF at HL
   go_enter Tryz.func177, Tryz.ntmps177
   go_wp2_with fail
   refine (HL.out _).mono ?_
   rintro e w1 ⟨rfl, rfl⟩
   go_wp2_with fail
   go_ret2
   exact sizeTo_bad HR.out (.inr ⟨_, rfl⟩) (Below.refl _ _)
end Go.Proofs.YtpplgdnklpchkaaGreatDoor
