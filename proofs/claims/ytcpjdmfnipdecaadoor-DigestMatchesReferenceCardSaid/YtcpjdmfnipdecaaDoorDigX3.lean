/- The reference's Sum: the blocks. -/
import Derived.Test.YtcpjdmfnipdecaaDoorDigS
import Derived.Test.YtcpjdmfnipdecaaDoorDigH
import Derived.Test.YtcpjdmfnipdecaaDoorDigW
import Derived.StillTailTactics
import Derived.Deep.RegionHeld3
import Derived.Test.YtcpjdmfnipdecaaDoorNumL
import Derived.Test.YtcpjdmfnipdecaaDoorDigX5
import Derived.Test.YtcpjdmfnipdecaaDoorDigX6
import Derived.Test.YtcpjdmfnipdecaaDoorDigX7
namespace Go.Proofs.YtcpjdmfnipdecaaDoor
set_option linter.all false
open Go.RowKit DigP


theorem own_empty (w : World) : OwnN 37 .u32 (w.alloc (.cells #[] 37)) w.heap.size (.slice (some ⟨w.heap.size, 0, none⟩) 0 0) [] :=
  World.ownsRow_lit w #[] 0 (Nat.le_refl _) (by unfold maxLen; omega) rfl
theorem rowIn_rd {w : World} {g cap : Nat} {xs : List Nat} (h : Rd w g .u32 xs) (hc : xs.length ≤ cap) (hm : cap ≤ 9223372036854775807) : RowIn w (.slice (some ⟨g, 0, none⟩) xs.length cap) (numVals .u32 xs) := by
  refine .inr ⟨g, 0, cap, by rw [numVals_len], by rw [numVals_len]; exact hc, hm, fun i u hu => ?_⟩
  have hi : i < xs.length := by
    have := (List.getElem?_eq_some_iff.1 hu).1
    rwa [numVals_len] at this
  rw [numVals_at .u32 xs hi] at hu
  injection hu with hu
  rw [Nat.zero_add, ← hu]; exact h i hi
set_option maxRecDepth 1000000 in
set_option maxHeartbeats 64000000 in
theorem sumLoop3 (c0 c2 c3 c4 c6 c8 c9 c11 c12 c13 c14 c15 c16 c17 c18 c19 c20 c21 c22 c23 c24 c25 c26 c27 c28 c29 c30 c31 c32 c33 c34 c35 c36 c37 c38 c39 c40 c41 c42 c43 c44 c45 c46 c47 c48 c49 c50 c51 c52 c53 c54 c55 c56 c57 c58 c59 c60 c61 c62 c63 c64 c65 c66 c67 c68 c69 c70 c71 c72 c73 c74 c75 c76 c77 c78 c79 c80 c81 c82 c83 c84 c85 c86 c87 c88 c89 c90 c91 c92 c93 c94 c95 c96 c97 c98 c99 c100 c101 c102 c103 c104 c105 c106 c107 c108 c109 c110 c111 c112 c113 c114 c115 c116 c117 c118 c119 c120 c121 c122 c123 c124 c125 c126 c127 c128 c129 c130 c131 c132 c133 c134 c135 c136 c137 c138 c139 c140 c141 c142 c143 c144 c145 c146 c147 c148 c149 c150 c151 c152 c153 c154 c155 c156 c157 c158 c159 c160 c161 c162 c163 c164 c165 c166 c167 c168 c169 c170 c171 c172 c173 c174 c175 c176 c177 c178 c179 c180 c181 c182 c183 c184 c185 c186 c187 c188 c189 c190 c191 c192 c193 c194 c195 c196 c197 c198 c199 c200 c201 c202 c203 c204 c205 c206 c207 c208 c209 c210 c211 c212 c213 c214 c215 c216 c217 c218 c219 c220 c221 c222 c223 c224 c225 c226 c227 c228 c229 c230 c231 c232 c233 c234 c235 c236 c237 c238 c239 c240 c241 c242 c243 c244 c245 c246 c247 c248 c249 c250 c251 c252 c253 c254 c255 c256 c257 c258 c259 c260 c261 c262 c263 c264 c265 c266 c267 c268 c269 c270 c271 c272 c273 c274 c275 c276 c277 c278 c279 c280 c281 c282 c283 c284 c285 c286 c287 c288 c289 c290 c291 c292 c293 c294 c295 c296 c297 c298 c299 c300 c301 c302 c303 c304 c305 c306 c307 c308 c309 c310 c311 c312 c313 c314 c315 c316 c317 c318 c319 c320 c321 c322 c323 c324 c325 c326 c327 c328 c329 c330 c331 : Value) (gt gp gv sct scp scv nb Q : Nat) (K0 PB : List Nat) (w : World) (Q0 : Exit → Act → World → Prop)
    (HKw : Hid (∀ _ : Unit, Words 8 K0)) (HPl : Hid (∀ _ : Unit, PB.length = nb)) (Hnb : Hid (∀ _ : Unit, nb = 64 * Q)) (HPs : Hid (∀ _ : Unit, Small PB))
    (HP0 : Hid (Rd w gp .u8 PB)) (HT0 : Hid (Rd w gt .u32 rootsK)) (HV0 : Hid (At w gv .u32 K0)) (GV : Hid (∀ _ : Unit, gt < gv ∧ gp < gv ∧ gv < w.heap.size)) (hnb : nb ≤ 128000) (hct : 64 ≤ sct) (hcv : 8 ≤ scv) (hcv2 : scv ≤ 9223372036854775807)
    (hexit : ∀ (u11 u12 u13 u14 u15 u16 u17 u18 u19 u20 u21 u22 u23 u24 u25 u73 u74 u75 u76 u77 u78 u79 u80 u81 u82 u83 u84 u85 u86 u87 u88 u89 u90 u91 u92 u93 u94 u95 u96 u97 u98 u99 u100 u101 u102 u103 u104 u105 u106 u107 u108 u109 u110 u111 u112 u113 u114 u115 u116 u117 u118 u119 u120 u121 u122 u123 u124 u125 u126 u127 u128 u129 u130 u131 u132 u133 u134 u135 u136 u137 u138 u139 u140 u141 u142 u143 u144 u145 u146 u147 u148 u149 u150 u151 u152 u153 u154 u155 u156 u157 u158 u159 u160 u161 u162 u163 u164 u165 u166 u167 u168 u169 u170 u171 u172 u173 u174 u175 u176 u177 u178 u179 u180 u181 u182 u183 u184 u185 u186 u187 u188 u189 u190 u191 u192 u193 u194 u195 u196 u197 u198 u199 u200 u201 u202 u203 u204 u205 u206 u207 u208 u209 u210 u211 u212 u213 u214 u215 u216 u217 u218 u219 u220 u221 u222 u223 u224 u225 u226 u227 u228 u229 u230 u231 u232 u233 u234 u235 u236 u237 u238 u239 u240 u241 u242 u243 u244 u245 u246 u247 u248 u249 u250 u251 u252 u253 u254 u255 u256 u257 u258 u259 u260 u261 u262 u263 u264 u265 u266 u267 u268 u269 u270 u271 u272 u273 u274 u275 u276 u277 u278 u279 u280 u281 u282 u283 u284 u285 : Value) (wr : World), Hid (At wr gv .u32 (blocksS K0 PB Q)) → Hid (Below gv w wr) → Q0 (.exit 4) ⟨(c0 :: .slice (some ⟨gt, 0, none⟩) 64 sct :: c2 :: c3 :: c4 :: .slice (some ⟨gp, 0, none⟩) nb scp :: c6 :: .slice (some ⟨gv, 0, none⟩) 8 scv :: c8 :: c9 :: .int .i64 (nb : Int) :: u11 :: u12 :: u13 :: u14 :: u15 :: u16 :: u17 :: u18 :: u19 :: u20 :: u21 :: u22 :: u23 :: u24 :: u25 :: c26 :: c27 :: c28 :: c29 :: c30 :: c31 :: c32 :: c33 :: c34 :: c35 :: c36 :: c37 :: c38 :: c39 :: c40 :: c41 :: c42 :: c43 :: c44 :: c45 :: c46 :: c47 :: c48 :: c49 :: c50 :: c51 :: c52 :: c53 :: c54 :: c55 :: c56 :: c57 :: c58 :: c59 :: c60 :: c61 :: c62 :: c63 :: c64 :: c65 :: c66 :: c67 :: c68 :: c69 :: c70 :: c71 :: c72 :: u73 :: u74 :: u75 :: u76 :: u77 :: u78 :: u79 :: u80 :: u81 :: u82 :: u83 :: u84 :: u85 :: u86 :: u87 :: u88 :: u89 :: u90 :: u91 :: u92 :: u93 :: u94 :: u95 :: u96 :: u97 :: u98 :: u99 :: u100 :: u101 :: u102 :: u103 :: u104 :: u105 :: u106 :: u107 :: u108 :: u109 :: u110 :: u111 :: u112 :: u113 :: u114 :: u115 :: u116 :: u117 :: u118 :: u119 :: u120 :: u121 :: u122 :: u123 :: u124 :: u125 :: u126 :: u127 :: u128 :: u129 :: u130 :: u131 :: u132 :: u133 :: u134 :: u135 :: u136 :: u137 :: u138 :: u139 :: u140 :: u141 :: u142 :: u143 :: u144 :: u145 :: u146 :: u147 :: u148 :: u149 :: u150 :: u151 :: u152 :: u153 :: u154 :: u155 :: u156 :: u157 :: u158 :: u159 :: u160 :: u161 :: u162 :: u163 :: u164 :: u165 :: u166 :: u167 :: u168 :: u169 :: u170 :: u171 :: u172 :: u173 :: u174 :: u175 :: u176 :: u177 :: u178 :: u179 :: u180 :: u181 :: u182 :: u183 :: u184 :: u185 :: u186 :: u187 :: u188 :: u189 :: u190 :: u191 :: u192 :: u193 :: u194 :: u195 :: u196 :: u197 :: u198 :: u199 :: u200 :: u201 :: u202 :: u203 :: u204 :: u205 :: u206 :: u207 :: u208 :: u209 :: u210 :: u211 :: u212 :: u213 :: u214 :: u215 :: u216 :: u217 :: u218 :: u219 :: u220 :: u221 :: u222 :: u223 :: u224 :: u225 :: u226 :: u227 :: u228 :: u229 :: u230 :: u231 :: u232 :: u233 :: u234 :: u235 :: u236 :: u237 :: u238 :: u239 :: u240 :: u241 :: u242 :: u243 :: u244 :: u245 :: u246 :: u247 :: u248 :: u249 :: u250 :: u251 :: u252 :: u253 :: u254 :: u255 :: u256 :: u257 :: u258 :: u259 :: u260 :: u261 :: u262 :: u263 :: u264 :: u265 :: u266 :: u267 :: u268 :: u269 :: u270 :: u271 :: u272 :: u273 :: u274 :: u275 :: u276 :: u277 :: u278 :: u279 :: u280 :: u281 :: u282 :: u283 :: u284 :: u285 :: c286 :: c287 :: c288 :: c289 :: c290 :: c291 :: c292 :: c293 :: c294 :: c295 :: c296 :: c297 :: c298 :: c299 :: c300 :: c301 :: c302 :: c303 :: c304 :: c305 :: c306 :: c307 :: c308 :: c309 :: c310 :: c311 :: c312 :: c313 :: c314 :: c315 :: c316 :: c317 :: c318 :: c319 :: c320 :: c321 :: c322 :: c323 :: c324 :: c325 :: c326 :: c327 :: c328 :: c329 :: c330 :: c331 :: []).toArray, []⟩ wr) :
    Code.wp Tryd.prog (Code.loop (refLoops.getD 2 .skip)) (noPanic Q0) ⟨(c0 :: .slice (some ⟨gt, 0, none⟩) 64 sct :: c2 :: c3 :: c4 :: .slice (some ⟨gp, 0, none⟩) nb scp :: c6 :: .slice (some ⟨gv, 0, none⟩) 8 scv :: c8 :: c9 :: .int .i64 0 :: c11 :: c12 :: c13 :: c14 :: c15 :: c16 :: c17 :: c18 :: c19 :: c20 :: c21 :: c22 :: c23 :: c24 :: c25 :: c26 :: c27 :: c28 :: c29 :: c30 :: c31 :: c32 :: c33 :: c34 :: c35 :: c36 :: c37 :: c38 :: c39 :: c40 :: c41 :: c42 :: c43 :: c44 :: c45 :: c46 :: c47 :: c48 :: c49 :: c50 :: c51 :: c52 :: c53 :: c54 :: c55 :: c56 :: c57 :: c58 :: c59 :: c60 :: c61 :: c62 :: c63 :: c64 :: c65 :: c66 :: c67 :: c68 :: c69 :: c70 :: c71 :: c72 :: c73 :: c74 :: c75 :: c76 :: c77 :: c78 :: c79 :: c80 :: c81 :: c82 :: c83 :: c84 :: c85 :: c86 :: c87 :: c88 :: c89 :: c90 :: c91 :: c92 :: c93 :: c94 :: c95 :: c96 :: c97 :: c98 :: c99 :: c100 :: c101 :: c102 :: c103 :: c104 :: c105 :: c106 :: c107 :: c108 :: c109 :: c110 :: c111 :: c112 :: c113 :: c114 :: c115 :: c116 :: c117 :: c118 :: c119 :: c120 :: c121 :: c122 :: c123 :: c124 :: c125 :: c126 :: c127 :: c128 :: c129 :: c130 :: c131 :: c132 :: c133 :: c134 :: c135 :: c136 :: c137 :: c138 :: c139 :: c140 :: c141 :: c142 :: c143 :: c144 :: c145 :: c146 :: c147 :: c148 :: c149 :: c150 :: c151 :: c152 :: c153 :: c154 :: c155 :: c156 :: c157 :: c158 :: c159 :: c160 :: c161 :: c162 :: c163 :: c164 :: c165 :: c166 :: c167 :: c168 :: c169 :: c170 :: c171 :: c172 :: c173 :: c174 :: c175 :: c176 :: c177 :: c178 :: c179 :: c180 :: c181 :: c182 :: c183 :: c184 :: c185 :: c186 :: c187 :: c188 :: c189 :: c190 :: c191 :: c192 :: c193 :: c194 :: c195 :: c196 :: c197 :: c198 :: c199 :: c200 :: c201 :: c202 :: c203 :: c204 :: c205 :: c206 :: c207 :: c208 :: c209 :: c210 :: c211 :: c212 :: c213 :: c214 :: c215 :: c216 :: c217 :: c218 :: c219 :: c220 :: c221 :: c222 :: c223 :: c224 :: c225 :: c226 :: c227 :: c228 :: c229 :: c230 :: c231 :: c232 :: c233 :: c234 :: c235 :: c236 :: c237 :: c238 :: c239 :: c240 :: c241 :: c242 :: c243 :: c244 :: c245 :: c246 :: c247 :: c248 :: c249 :: c250 :: c251 :: c252 :: c253 :: c254 :: c255 :: c256 :: c257 :: c258 :: c259 :: c260 :: c261 :: c262 :: c263 :: c264 :: c265 :: c266 :: c267 :: c268 :: c269 :: c270 :: c271 :: c272 :: c273 :: c274 :: c275 :: c276 :: c277 :: c278 :: c279 :: c280 :: c281 :: c282 :: c283 :: c284 :: c285 :: c286 :: c287 :: c288 :: c289 :: c290 :: c291 :: c292 :: c293 :: c294 :: c295 :: c296 :: c297 :: c298 :: c299 :: c300 :: c301 :: c302 :: c303 :: c304 :: c305 :: c306 :: c307 :: c308 :: c309 :: c310 :: c311 :: c312 :: c313 :: c314 :: c315 :: c316 :: c317 :: c318 :: c319 :: c320 :: c321 :: c322 :: c323 :: c324 :: c325 :: c326 :: c327 :: c328 :: c329 :: c330 :: c331 :: []).toArray, []⟩ w := by
  conv => arg 2; arg 1; whnf
  go_loopw [10] (fun i wq => ∃ q a : Nat, i = .int .i64 (a : Int) ∧ a ≤ nb ∧ Hid (∀ _ : Unit, a = 64 * q ∧ q ≤ Q) ∧ Hid (At wq gv .u32 (blocksS K0 PB q)) ∧ Hid (Below gv w wq)) (fun i _ => nb - (intOf i).toNat)
  case atStart => exact ⟨0, 0, rfl, Nat.zero_le _, fun _ => ⟨rfl, Nat.zero_le _⟩, HV0.out, Below.refl _ _⟩
  case round =>
    clear HV0
    obtain ⟨q, a, rfl, han, Ha, HV, HB⟩ := hrel
    by_cases hlt : a < nb
    · clear hexit
      have HPq := Lib.hid (HP0.out.below HB.out (GV.out ()).2.1)
      have HTq := Lib.hid (HT0.out.below HB.out (GV.out ()).1)
      have HW8 := Lib.hid (fun (_ : Unit) => Words.blocks (HKw.out ()) PB q)
      have Hsz := Lib.hid (fun (_ : Unit) => Nat.lt_of_lt_of_le (GV.out ()).2.2 HB.out.size)
      have Hnext := Lib.hid (fun (_ : Unit) => show blocksS K0 PB (q + 1) = blockS (blocksS K0 PB q) (cut64 PB q) from rfl)
      have Hbk := Lib.hid (fun (i : Nat) (hi : i < 64) => show (cut64 PB q).getD i 0 = PB.getD (a + i) 0 by
        rw [(Ha.out ()).1]; unfold cut64
        rw [List.getD_eq_getElem?_getD, List.getElem?_take, if_pos hi, List.getElem?_drop, ← List.getD_eq_getElem?_getD])
      obtain ⟨BK, hBK⟩ : ∃ BK, BK = cut64 PB q := ⟨_, rfl⟩
      obtain ⟨S, hS⟩ : ∃ S, S = blocksS K0 PB q := ⟨_, rfl⟩
      have HBs := Lib.hid (fun (_ : Unit) => show Small BK by
        intro i
        rw [hBK]; unfold cut64
        rw [List.getD_eq_getElem?_getD, List.getElem?_take]
        split
        · rw [List.getElem?_drop, ← List.getD_eq_getElem?_getD]; exact HPs.out () _
        · decide)
      rw [← hBK, ← hS] at Hnext
      rw [← hBK] at Hbk
      rw [← hS] at HV HW8
      have HWw := Lib.hid (fun (_ : Unit) => words16_words (HBs.out ()))
      have hPn : a + 64 ≤ nb := by have := (Ha.out ()).1; have := Hnb.out (); omega
      have Hq1 := Lib.hid (fun (_ : Unit) => show a + 64 = 64 * (q + 1) ∧ q + 1 ≤ Q by have := (Ha.out ()).1; have := Hnb.out (); omega)
      obtain ⟨wq, hwq⟩ : ∃ x, x = wr := ⟨_, rfl⟩
      subst hwq
      have hgpq : gp < wq.heap.size := Nat.lt_trans (GV.out ()).2.1 (Hsz.out ())
      clear hBK hS Ha
      go_wp2
      refine Code.wp_mono noPanic_mono (sumLoop4 _ _ _ _ _ _ _ _ _ _ _ _ _ _ _ _ _ _ _ _ _ _ _ _ _ _ _ _ _ _ _ _ _ _ _ _ _ _ _ _ _ _ _ _ _ _ _ _ _ _ _ _ _ _ _ _ _ _ _ _ _ _ _ _ _ _ _ _ _ _ _ _ _ _ _ _ _ _ _ _ _ _ _ _ _ _ _ _ _ _ _ _ _ _ _ _ _ _ _ _ _ _ _ _ _ _ _ _ _ _ _ _ _ _ _ _ _ _ _ _ _ _ _ _ _ _ _ _ _ _ _ _ _ _ _ _ _ _ _ _ _ _ _ _ _ _ _ _ _ _ _ _ _ _ _ _ _ _ _ _ _ _ _ _ _ _ _ _ _ _ _ _ _ _ _ _ _ _ _ _ _ _ _ _ _ _ _ _ _ _ _ _ _ _ _ _ _ _ _ _ _ _ _ _ _ _ _ _ _ _ _ _ _ _ _ _ _ _ _ _ _ _ _ _ _ _ _ _ _ _ _ _ _ _ _ _ _ _ _ _ _ _ _ _ _ _ _ _ _ _ _ _ _ _ _ _ _ _ _ _ _ _ _ _ _ _ _ _ _ _ _ _ _ _ _ _ _ _ _ _ _ _ _ _ _ _ _ _ _ _ _ _ _ _ _ _ _ _ _ _ _ _ _ _ _ _ _ _ _ _ _ _ _ _ _ _ _ _ _ _ _ _ _ _ _ _ _ _ gp nb scp a PB BK wq _ HPq hgpq HPl HPs hPn hnb Hbk HWw ?_)
      intro v11 f13 f79 f80 f81 f82 f83 f84 f85 f86 f87 f88 f89 f90 f91 f92 f93 f94 f95 f96 f97 f98 f99 f100 f101 f102 f103 f104 f105 f106 f107 f108 f109 f110 f111 f112 f113 f114 f115 f116 f117 f118 w1 HO1 HB1
      have HV1 := Lib.hid (HV.out.below HB1.out (Hsz.out ()))
      have HT1 := Lib.hid (HTq.out.below HB1.out (Nat.lt_trans (GV.out ()).1 (Hsz.out ())))
      have HBw1 := Lib.hid (HB.out.trans (HB1.out.mono (Nat.le_of_lt (Hsz.out ()))))
      have HZ1 := Lib.hid HB1.out.size
      clear HV HTq HPq HB HB1
      go_wp2
      refine Code.wp_mono noPanic_mono (sumLoop5 _ _ _ _ _ _ _ _ _ _ _ _ _ _ _ _ _ _ _ _ _ _ _ _ _ _ _ _ _ _ _ _ _ _ _ _ _ _ _ _ _ _ _ _ _ _ _ _ _ _ _ _ _ _ _ _ _ _ _ _ _ _ _ _ _ _ _ _ _ _ _ _ _ _ _ _ _ _ _ _ _ _ _ _ _ _ _ _ _ _ _ _ _ _ _ _ _ _ _ _ _ _ _ _ _ _ _ _ _ _ _ _ _ _ _ _ _ _ _ _ _ _ _ _ _ _ _ _ _ _ _ _ _ _ _ _ _ _ _ _ _ _ _ _ _ _ _ _ _ _ _ _ _ _ _ _ _ _ _ _ _ _ _ _ _ _ _ _ _ _ _ _ _ _ _ _ _ _ _ _ _ _ _ _ _ _ _ _ _ _ _ _ _ _ _ _ _ _ _ _ _ _ _ _ _ _ _ _ _ _ _ _ _ _ _ _ _ _ _ _ _ _ _ _ _ _ _ _ _ _ _ _ _ _ _ _ _ _ _ _ _ _ _ _ _ _ _ _ _ _ _ _ _ _ _ _ _ _ _ _ _ _ _ _ _ _ _ _ _ _ _ _ _ _ _ _ _ _ _ _ _ _ _ _ _ _ _ _ _ _ _ _ _ _ _ _ _ _ _ _ _ _ _ _ _ _ _ _ _ _ _ _ _ _ _ _ _ _ _ _ _ _ _ _ _ _ _ _ _ _ v11 wq.heap.size BK w1 _ HWw HO1 HZ1 ?_)
      intro ev h15 h16 h17 h18 h119 h120 h121 h122 h123 h124 h125 h126 h127 h128 h129 h130 h131 h132 h133 h134 h135 h136 h137 h138 h139 h140 h141 h142 h143 h144 h145 h146 h147 h148 h149 h150 h151 h152 h153 h154 h155 h156 h157 h158 h159 h160 h161 h162 h163 h164 h165 h166 w2 HO2 HB2
      have HV2 := Lib.hid (HV1.out.below HB2.out (Hsz.out ()))
      have HT2 := Lib.hid (HT1.out.below HB2.out (Nat.lt_trans (GV.out ()).1 (Hsz.out ())))
      have HBw2 := Lib.hid (HBw1.out.trans (HB2.out.mono (Nat.le_of_lt (Hsz.out ()))))
      have Hz2 := Lib.hid (fun (_ : Unit) => Nat.lt_of_lt_of_le (Hsz.out ()) (Nat.le_trans HZ1.out HB2.out.size))
      have HW64 := Lib.hid (fun (_ : Unit) => ((HWw.out ()).sched 48).1)
      obtain ⟨WW, hWW⟩ : ∃ W, W = wordsS BK := ⟨_, rfl⟩
      have HWl := Lib.hid (fun (_ : Unit) => show WW.length = 64 by rw [hWW]; exact HW64.out ())
      have HWW := Lib.hid (fun (_ : Unit) => hWW)
      have hO2 := HO2.out
      rw [← hWW] at hO2
      obtain ⟨gw, cw, hev, _, hgw2, hcw, _, hAw⟩ := hO2.open_ (by rw [HWl.out ()]; decide)
      rw [HWl.out ()] at hev hcw
      subst hev
      have HRw2 := Lib.hid hAw.rd
      have HSl := Lib.hid (fun (_ : Unit) => (HW8.out ()).1)
      have HE := Lib.hid (own_empty w2)
      have HVr : Hid (RowIn (w2.alloc (.cells #[] 37)) (.slice (some ⟨gv, 0, none⟩) 8 scv) (numVals .u32 S)) := Lib.hid (by
        have h := rowIn_rd (cap := scv) (HV2.out.rd.alloc (.cells #[] 37) (Hz2.out ())) (by rw [HSl.out ()]; exact hcv) hcv2
        rwa [HSl.out ()] at h)
      have HSb := Lib.hid (show S.length ≤ 1000000000 by rw [HSl.out ()]; decide)
      have HBe := Lib.hid ((Below.refl w2.heap.size w2).alloc (Nat.le_refl _) (.cells #[] 37))
      have HZe := Lib.hid (show w2.heap.size ≤ (w2.alloc (.cells #[] 37)).heap.size by rw [World.size_alloc]; omega)
      clear hWW hO2 hAw HO2 HO1 HV1 HT1 HBw1 HB2 HW64
      go_wp2_with (at_builtin; go_loud (refine wpList_append_num Tryd.numU32 rfl _ _ rfl w2.heap.size w2 (w2.alloc (.cells #[] 37)) (.slice (some ⟨w2.heap.size, 0, none⟩) 0 0) [] rfl HE.out (.slice (some ⟨gv, 0, none⟩) 8 scv) S rfl HVr.out (by decide) HSb.out HZe.out HBe.out ?_))
      intro v' w3 hown hb3 _
      obtain ⟨gu, cu, hv', hgu1, hgu2, hcu, _, hAu⟩ := hown.open_ (by rw [HSl.out ()]; decide)
      rw [HSl.out ()] at hv' hcu
      subst hv'
      have HRu := Lib.hid hAu.rd
      have HV3 := Lib.hid (HV2.out.below hb3 (Hz2.out ()))
      have HT3 := Lib.hid (HT2.out.below hb3 (Nat.lt_trans (GV.out ()).1 (Hz2.out ())))
      have HRw3 := Lib.hid (HRw2.out.below hb3 hgw2)
      have HBw3 := Lib.hid (HBw2.out.trans (hb3.mono (Nat.le_of_lt (Hz2.out ()))))
      have Hmin := Lib.hid (fun (_ : Unit) => show w2.heap.size ≤ gu ∧ w2.heap.size ≤ w3.heap.size from ⟨hgu1, hb3.size⟩)
      have HK64 := Lib.hid (fun (_ : Unit) => roots_words.1)
      have Hz3 := Lib.hid (fun (_ : Unit) => Nat.lt_of_lt_of_le (Hz2.out ()) hb3.size)
      clear hown hb3 hAu hgu1 hgu2 hgw2 HV2 HT2 HRw2 HBw2 HE HVr HBe HZe
      go_wp2
      refine Code.wp_mono noPanic_mono (sumLoop6 _ _ _ _ _ _ _ _ _ _ _ _ _ _ _ _ _ _ _ _ _ _ _ _ _ _ _ _ _ _ _ _ _ _ _ _ _ _ _ _ _ _ _ _ _ _ _ _ _ _ _ _ _ _ _ _ _ _ _ _ _ _ _ _ _ _ _ _ _ _ _ _ _ _ _ _ _ _ _ _ _ _ _ _ _ _ _ _ _ _ _ _ _ _ _ _ _ _ _ _ _ _ _ _ _ _ _ _ _ _ _ _ _ _ _ _ _ _ _ _ _ _ _ _ _ _ _ _ _ _ _ _ _ _ _ _ _ _ _ _ _ _ _ _ _ _ _ _ _ _ _ _ _ _ _ _ _ _ _ _ _ _ _ _ _ _ _ _ _ _ _ _ _ _ _ _ _ _ _ _ _ _ _ _ _ _ _ _ _ _ _ _ _ _ _ _ _ _ _ _ _ _ _ _ _ _ _ _ _ _ _ _ _ _ _ _ _ _ _ _ _ _ _ _ _ _ _ _ _ _ _ _ _ _ _ _ _ _ _ _ _ _ _ _ _ _ _ _ _ _ _ _ _ _ _ _ _ _ _ _ _ _ _ _ _ _ _ _ _ _ _ _ _ _ _ _ _ _ _ _ _ _ _ _ _ _ _ _ _ _ _ _ _ _ _ _ _ _ _ _ _ _ _ _ _ _ _ _ _ _ _ _ _ _ _ _ _ _ _ _ _ _ _ _ _ _ _ _ gt gw gu sct cw cu rootsK WW S w3 _ HW8 HK64 HWl HT3 HRw3 HRu hct hcw hcu w2.heap.size Hmin ?_)
      intro ge sce h21 h22 h23 h24 h170 h171 h172 h173 h174 h175 h176 h177 h178 h179 h180 h181 h182 h183 h184 h185 h186 h187 h188 h189 h190 h191 h192 h193 h194 h195 h196 h197 h198 h199 h200 h201 h202 h203 h204 h205 h206 h207 h208 h209 h210 h211 h212 h213 h214 h215 h216 h217 h218 h219 h220 h221 h222 h223 h224 h225 h226 h227 h228 h229 h230 h231 h232 h233 h234 h235 h236 h237 h238 h239 h240 h241 h242 h243 h244 h245 h246 h247 h248 h249 h250 h251 h252 h253 h254 h255 h256 h257 h258 h259 h260 h261 h262 h263 h264 h265 h266 h267 h268 h269 w4 hsce Hge HRe HB4
      obtain ⟨U, hU⟩ : ∃ U, U = roundsS rootsK WW S 64 := ⟨_, rfl⟩
      have HU := Lib.hid (fun (_ : Unit) => hU)
      have HU8 := Lib.hid (fun (_ : Unit) => show Words 8 U by rw [hU]; exact (HW8.out ()).rounds _ _ 64)
      have HRe2 := Lib.hid (show Rd w4 ge .u32 U by rw [hU]; exact HRe.out)
      have HV4 := Lib.hid (HV3.out.below HB4.out (Hz3.out ()))
      have HBw4 := Lib.hid (HBw3.out.trans (HB4.out.mono (Nat.le_of_lt (Hz3.out ()))))
      have Hne := Lib.hid (fun (_ : Unit) => show ge ≠ gv by have := Hge.out (); have := Hz2.out (); omega)
      clear hU HRe HV3 HT3 HRw3 HRu HBw3 HB4
      go_wp2
      refine Code.wp_mono noPanic_mono (sumLoop7 _ _ _ _ _ _ _ _ _ _ _ _ _ _ _ _ _ _ _ _ _ _ _ _ _ _ _ _ _ _ _ _ _ _ _ _ _ _ _ _ _ _ _ _ _ _ _ _ _ _ _ _ _ _ _ _ _ _ _ _ _ _ _ _ _ _ _ _ _ _ _ _ _ _ _ _ _ _ _ _ _ _ _ _ _ _ _ _ _ _ _ _ _ _ _ _ _ _ _ _ _ _ _ _ _ _ _ _ _ _ _ _ _ _ _ _ _ _ _ _ _ _ _ _ _ _ _ _ _ _ _ _ _ _ _ _ _ _ _ _ _ _ _ _ _ _ _ _ _ _ _ _ _ _ _ _ _ _ _ _ _ _ _ _ _ _ _ _ _ _ _ _ _ _ _ _ _ _ _ _ _ _ _ _ _ _ _ _ _ _ _ _ _ _ _ _ _ _ _ _ _ _ _ _ _ _ _ _ _ _ _ _ _ _ _ _ _ _ _ _ _ _ _ _ _ _ _ _ _ _ _ _ _ _ _ _ _ _ _ _ _ _ _ _ _ _ _ _ _ _ _ _ _ _ _ _ _ _ _ _ _ _ _ _ _ _ _ _ _ _ _ _ _ _ _ _ _ _ _ _ _ _ _ _ _ _ _ _ _ _ _ _ _ _ _ _ _ _ _ _ _ _ _ _ _ _ _ _ _ _ _ _ _ _ _ _ _ _ _ _ _ _ _ _ _ _ _ _ _ gv ge scv sce S U w4 _ HW8 HU8 HV4 HRe2 hcv hsce Hne ?_)
      intro h270 h271 h272 h273 h274 h275 h276 h277 h278 h279 h280 h281 h282 h283 h284 h285 w5 HV5 HB5
      have HBw5 := Lib.hid (HBw4.out.trans HB5.out)
      have HVn := Lib.hid (show At w5 gv .u32 (blocksS K0 PB (q + 1)) by
        rw [Hnext.out ()]
        unfold blockS
        rw [← HWW.out (), ← HU.out ()]
        exact HV5.out)
      clear HV4 HRe2 HV5 HB5 HBw4
      go_wp2
      go_roundw
      case rel => exact ⟨q + 1, a + 64, by go_num, hPn, Hq1.out, HVn.out, HBw5.out⟩
      case measure => simp [intOf]; omega
    · obtain rfl : a = nb := by omega
      have HV2 := Lib.hid (show At wr gv .u32 (blocksS K0 PB Q) by
        have h1 := Ha.out ()
        have h2 := Hnb.out ()
        obtain rfl : q = Q := by omega
        exact HV.out)
      go_wp2
      exact hexit _ _ _ _ _ _ _ _ _ _ _ _ _ _ _ _ _ _ _ _ _ _ _ _ _ _ _ _ _ _ _ _ _ _ _ _ _ _ _ _ _ _ _ _ _ _ _ _ _ _ _ _ _ _ _ _ _ _ _ _ _ _ _ _ _ _ _ _ _ _ _ _ _ _ _ _ _ _ _ _ _ _ _ _ _ _ _ _ _ _ _ _ _ _ _ _ _ _ _ _ _ _ _ _ _ _ _ _ _ _ _ _ _ _ _ _ _ _ _ _ _ _ _ _ _ _ _ _ _ _ _ _ _ _ _ _ _ _ _ _ _ _ _ _ _ _ _ _ _ _ _ _ _ _ _ _ _ _ _ _ _ _ _ _ _ _ _ _ _ _ _ _ _ _ _ _ _ _ _ _ _ _ _ _ _ _ _ _ _ _ _ _ _ _ _ _ _ _ _ _ _ _ _ _ _ _ _ _ _ _ _ _ _ _ _ _ _ _ _ _ _ _ _ _ _ _ _ _ _ HV2 HB
end Go.Proofs.YtcpjdmfnipdecaaDoor
