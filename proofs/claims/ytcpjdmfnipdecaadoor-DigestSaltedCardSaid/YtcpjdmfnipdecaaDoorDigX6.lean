/- The reference's Sum: the rounds of a block. -/
import Derived.Test.YtcpjdmfnipdecaaDoorDigS
import Derived.Test.YtcpjdmfnipdecaaDoorDigH
import Derived.Test.YtcpjdmfnipdecaaDoorDigW
import Derived.StillTailTactics
import Derived.Deep.RegionHeld3
import Derived.Test.YtcpjdmfnipdecaaDoorNumL
import Derived.Test.YtcpjdmfnipdecaaDoorDigX5
import Derived.Deep.QuietTactic
namespace Go.Proofs.YtcpjdmfnipdecaaDoor
set_option linter.all false
open Go.RowKit DigP


theorem stepS_at (k w a b c d e f m i : Nat) : stepS k w [a, b, c, d, e, f, m, i] = [add32 (t1S e f m i k w) (t2S a b c), a, b, c, add32 d (t1S e f m i k w), e, f, m] := rfl
theorem Rd.only {w w' : World} {g : Nat} {k : IntKind} {xs : List Nat} (h : Rd w g k xs) (hb : Below w.heap.size w w') (hx : 0 < xs.length) : Rd w' g k xs := h.below hb (h.lt hx)
set_option maxRecDepth 1000000 in
set_option maxHeartbeats 32000000 in
theorem sumLoop6 (c0 c2 c3 c4 c5 c6 c7 c8 c9 c10 c12 c13 c14 c15 c16 c17 c18 c21 c22 c23 c24 c25 c26 c27 c28 c29 c30 c31 c32 c33 c34 c35 c36 c37 c38 c39 c40 c41 c42 c43 c44 c45 c46 c47 c48 c49 c50 c51 c52 c53 c54 c55 c56 c57 c58 c59 c60 c61 c62 c63 c64 c65 c66 c67 c68 c69 c70 c71 c72 c73 c74 c75 c76 c77 c78 c79 c80 c81 c82 c83 c84 c85 c86 c87 c88 c89 c90 c91 c92 c93 c94 c95 c96 c97 c98 c99 c100 c101 c102 c103 c104 c105 c106 c107 c108 c109 c110 c111 c112 c113 c114 c115 c116 c117 c118 c119 c120 c121 c122 c123 c124 c125 c126 c127 c128 c129 c130 c131 c132 c133 c134 c135 c136 c137 c138 c139 c140 c141 c142 c143 c144 c145 c146 c147 c148 c149 c150 c151 c152 c153 c154 c155 c156 c157 c158 c159 c160 c161 c162 c163 c164 c165 c166 c167 c168 c169 c170 c171 c172 c173 c174 c175 c176 c177 c178 c179 c180 c181 c182 c183 c184 c185 c186 c187 c188 c189 c190 c191 c192 c193 c194 c195 c196 c197 c198 c199 c200 c201 c202 c203 c204 c205 c206 c207 c208 c209 c210 c211 c212 c213 c214 c215 c216 c217 c218 c219 c220 c221 c222 c223 c224 c225 c226 c227 c228 c229 c230 c231 c232 c233 c234 c235 c236 c237 c238 c239 c240 c241 c242 c243 c244 c245 c246 c247 c248 c249 c250 c251 c252 c253 c254 c255 c256 c257 c258 c259 c260 c261 c262 c263 c264 c265 c266 c267 c268 c269 c270 c271 c272 c273 c274 c275 c276 c277 c278 c279 c280 c281 c282 c283 c284 c285 c286 c287 c288 c289 c290 c291 c292 c293 c294 c295 c296 c297 c298 c299 c300 c301 c302 c303 c304 c305 c306 c307 c308 c309 c310 c311 c312 c313 c314 c315 c316 c317 c318 c319 c320 c321 c322 c323 c324 c325 c326 c327 c328 c329 c330 c331 : Value) (gt gw gs sct scw scs : Nat) (K WW S : List Nat) (w : World) (Q0 : Exit → Act → World → Prop)
    (HS8 : Hid (∀ _ : Unit, Words 8 S)) (HK64 : Hid (∀ _ : Unit, K.length = 64)) (HW64 : Hid (∀ _ : Unit, WW.length = 64)) (HRt : Hid (Rd w gt .u32 K)) (HRw : Hid (Rd w gw .u32 WW)) (HR0 : Hid (Rd w gs .u32 S)) (hct : 64 ≤ sct) (hcw : 64 ≤ scw) (hcs : 8 ≤ scs) (gmin : Nat) (Hmin : Hid (∀ _ : Unit, gmin ≤ gs ∧ gmin ≤ w.heap.size))
    (hexit : ∀ (ge sce : Nat) (u21 u22 u23 u24 u170 u171 u172 u173 u174 u175 u176 u177 u178 u179 u180 u181 u182 u183 u184 u185 u186 u187 u188 u189 u190 u191 u192 u193 u194 u195 u196 u197 u198 u199 u200 u201 u202 u203 u204 u205 u206 u207 u208 u209 u210 u211 u212 u213 u214 u215 u216 u217 u218 u219 u220 u221 u222 u223 u224 u225 u226 u227 u228 u229 u230 u231 u232 u233 u234 u235 u236 u237 u238 u239 u240 u241 u242 u243 u244 u245 u246 u247 u248 u249 u250 u251 u252 u253 u254 u255 u256 u257 u258 u259 u260 u261 u262 u263 u264 u265 u266 u267 u268 u269 : Value) (wr : World), 8 ≤ sce → Hid (∀ _ : Unit, gmin ≤ ge) → Hid (Rd wr ge .u32 (roundsS K WW S 64)) → Hid (Below w.heap.size w wr) → Q0 (.exit 10) ⟨(c0 :: .slice (some ⟨gt, 0, none⟩) 64 sct :: c2 :: c3 :: c4 :: c5 :: c6 :: c7 :: c8 :: c9 :: c10 :: .slice (some ⟨gw, 0, none⟩) 64 scw :: c12 :: c13 :: c14 :: c15 :: c16 :: c17 :: c18 :: .slice (some ⟨ge, 0, none⟩) 8 sce :: .int .i64 64 :: u21 :: u22 :: u23 :: u24 :: c25 :: c26 :: c27 :: c28 :: c29 :: c30 :: c31 :: c32 :: c33 :: c34 :: c35 :: c36 :: c37 :: c38 :: c39 :: c40 :: c41 :: c42 :: c43 :: c44 :: c45 :: c46 :: c47 :: c48 :: c49 :: c50 :: c51 :: c52 :: c53 :: c54 :: c55 :: c56 :: c57 :: c58 :: c59 :: c60 :: c61 :: c62 :: c63 :: c64 :: c65 :: c66 :: c67 :: c68 :: c69 :: c70 :: c71 :: c72 :: c73 :: c74 :: c75 :: c76 :: c77 :: c78 :: c79 :: c80 :: c81 :: c82 :: c83 :: c84 :: c85 :: c86 :: c87 :: c88 :: c89 :: c90 :: c91 :: c92 :: c93 :: c94 :: c95 :: c96 :: c97 :: c98 :: c99 :: c100 :: c101 :: c102 :: c103 :: c104 :: c105 :: c106 :: c107 :: c108 :: c109 :: c110 :: c111 :: c112 :: c113 :: c114 :: c115 :: c116 :: c117 :: c118 :: c119 :: c120 :: c121 :: c122 :: c123 :: c124 :: c125 :: c126 :: c127 :: c128 :: c129 :: c130 :: c131 :: c132 :: c133 :: c134 :: c135 :: c136 :: c137 :: c138 :: c139 :: c140 :: c141 :: c142 :: c143 :: c144 :: c145 :: c146 :: c147 :: c148 :: c149 :: c150 :: c151 :: c152 :: c153 :: c154 :: c155 :: c156 :: c157 :: c158 :: c159 :: c160 :: c161 :: c162 :: c163 :: c164 :: c165 :: c166 :: c167 :: c168 :: c169 :: u170 :: u171 :: u172 :: u173 :: u174 :: u175 :: u176 :: u177 :: u178 :: u179 :: u180 :: u181 :: u182 :: u183 :: u184 :: u185 :: u186 :: u187 :: u188 :: u189 :: u190 :: u191 :: u192 :: u193 :: u194 :: u195 :: u196 :: u197 :: u198 :: u199 :: u200 :: u201 :: u202 :: u203 :: u204 :: u205 :: u206 :: u207 :: u208 :: u209 :: u210 :: u211 :: u212 :: u213 :: u214 :: u215 :: u216 :: u217 :: u218 :: u219 :: u220 :: u221 :: u222 :: u223 :: u224 :: u225 :: u226 :: u227 :: u228 :: u229 :: u230 :: u231 :: u232 :: u233 :: u234 :: u235 :: u236 :: u237 :: u238 :: u239 :: u240 :: u241 :: u242 :: u243 :: u244 :: u245 :: u246 :: u247 :: u248 :: u249 :: u250 :: u251 :: u252 :: u253 :: u254 :: u255 :: u256 :: u257 :: u258 :: u259 :: u260 :: u261 :: u262 :: u263 :: u264 :: u265 :: u266 :: u267 :: u268 :: u269 :: c270 :: c271 :: c272 :: c273 :: c274 :: c275 :: c276 :: c277 :: c278 :: c279 :: c280 :: c281 :: c282 :: c283 :: c284 :: c285 :: c286 :: c287 :: c288 :: c289 :: c290 :: c291 :: c292 :: c293 :: c294 :: c295 :: c296 :: c297 :: c298 :: c299 :: c300 :: c301 :: c302 :: c303 :: c304 :: c305 :: c306 :: c307 :: c308 :: c309 :: c310 :: c311 :: c312 :: c313 :: c314 :: c315 :: c316 :: c317 :: c318 :: c319 :: c320 :: c321 :: c322 :: c323 :: c324 :: c325 :: c326 :: c327 :: c328 :: c329 :: c330 :: c331 :: []).toArray, []⟩ wr) :
    Code.wp Tryd.prog (Code.loop (refLoops.getD 5 .skip)) (noPanic Q0) ⟨(c0 :: .slice (some ⟨gt, 0, none⟩) 64 sct :: c2 :: c3 :: c4 :: c5 :: c6 :: c7 :: c8 :: c9 :: c10 :: .slice (some ⟨gw, 0, none⟩) 64 scw :: c12 :: c13 :: c14 :: c15 :: c16 :: c17 :: c18 :: .slice (some ⟨gs, 0, none⟩) 8 scs :: .int .i64 0 :: c21 :: c22 :: c23 :: c24 :: c25 :: c26 :: c27 :: c28 :: c29 :: c30 :: c31 :: c32 :: c33 :: c34 :: c35 :: c36 :: c37 :: c38 :: c39 :: c40 :: c41 :: c42 :: c43 :: c44 :: c45 :: c46 :: c47 :: c48 :: c49 :: c50 :: c51 :: c52 :: c53 :: c54 :: c55 :: c56 :: c57 :: c58 :: c59 :: c60 :: c61 :: c62 :: c63 :: c64 :: c65 :: c66 :: c67 :: c68 :: c69 :: c70 :: c71 :: c72 :: c73 :: c74 :: c75 :: c76 :: c77 :: c78 :: c79 :: c80 :: c81 :: c82 :: c83 :: c84 :: c85 :: c86 :: c87 :: c88 :: c89 :: c90 :: c91 :: c92 :: c93 :: c94 :: c95 :: c96 :: c97 :: c98 :: c99 :: c100 :: c101 :: c102 :: c103 :: c104 :: c105 :: c106 :: c107 :: c108 :: c109 :: c110 :: c111 :: c112 :: c113 :: c114 :: c115 :: c116 :: c117 :: c118 :: c119 :: c120 :: c121 :: c122 :: c123 :: c124 :: c125 :: c126 :: c127 :: c128 :: c129 :: c130 :: c131 :: c132 :: c133 :: c134 :: c135 :: c136 :: c137 :: c138 :: c139 :: c140 :: c141 :: c142 :: c143 :: c144 :: c145 :: c146 :: c147 :: c148 :: c149 :: c150 :: c151 :: c152 :: c153 :: c154 :: c155 :: c156 :: c157 :: c158 :: c159 :: c160 :: c161 :: c162 :: c163 :: c164 :: c165 :: c166 :: c167 :: c168 :: c169 :: c170 :: c171 :: c172 :: c173 :: c174 :: c175 :: c176 :: c177 :: c178 :: c179 :: c180 :: c181 :: c182 :: c183 :: c184 :: c185 :: c186 :: c187 :: c188 :: c189 :: c190 :: c191 :: c192 :: c193 :: c194 :: c195 :: c196 :: c197 :: c198 :: c199 :: c200 :: c201 :: c202 :: c203 :: c204 :: c205 :: c206 :: c207 :: c208 :: c209 :: c210 :: c211 :: c212 :: c213 :: c214 :: c215 :: c216 :: c217 :: c218 :: c219 :: c220 :: c221 :: c222 :: c223 :: c224 :: c225 :: c226 :: c227 :: c228 :: c229 :: c230 :: c231 :: c232 :: c233 :: c234 :: c235 :: c236 :: c237 :: c238 :: c239 :: c240 :: c241 :: c242 :: c243 :: c244 :: c245 :: c246 :: c247 :: c248 :: c249 :: c250 :: c251 :: c252 :: c253 :: c254 :: c255 :: c256 :: c257 :: c258 :: c259 :: c260 :: c261 :: c262 :: c263 :: c264 :: c265 :: c266 :: c267 :: c268 :: c269 :: c270 :: c271 :: c272 :: c273 :: c274 :: c275 :: c276 :: c277 :: c278 :: c279 :: c280 :: c281 :: c282 :: c283 :: c284 :: c285 :: c286 :: c287 :: c288 :: c289 :: c290 :: c291 :: c292 :: c293 :: c294 :: c295 :: c296 :: c297 :: c298 :: c299 :: c300 :: c301 :: c302 :: c303 :: c304 :: c305 :: c306 :: c307 :: c308 :: c309 :: c310 :: c311 :: c312 :: c313 :: c314 :: c315 :: c316 :: c317 :: c318 :: c319 :: c320 :: c321 :: c322 :: c323 :: c324 :: c325 :: c326 :: c327 :: c328 :: c329 :: c330 :: c331 :: []).toArray, []⟩ w := by
  conv => arg 2; arg 1; whnf
  go_loopw [19, 20] (fun v i wr => ∃ k ga gc : Nat, k ≤ 64 ∧ i = .int .i64 (k : Int) ∧ v = .slice (some ⟨ga, 0, none⟩) 8 gc ∧ 8 ≤ gc ∧ Hid (∀ _ : Unit, gmin ≤ ga) ∧ Hid (Rd wr ga .u32 (roundsS K WW S k)) ∧ Hid (Below w.heap.size w wr)) (fun _ i _ => 64 - (intOf i).toNat)
  case atStart => exact ⟨0, gs, scs, Nat.zero_le _, rfl, rfl, hcs, fun _ => (Hmin.out ()).1, HR0.out, Below.refl _ _⟩
  case round =>
    clear HR0
    obtain ⟨k, ga, gc, hk, rfl, rfl, hgc, Hga, HR, HB⟩ := hrel
    by_cases hlt : k < 64
    · clear hexit
      have Hw8 := Lib.hid (fun (_ : Unit) => (HS8.out ()).rounds K WW k)
      obtain ⟨L, hL⟩ : ∃ L, L = roundsS K WW S k := ⟨_, rfl⟩
      rw [← hL] at HR Hw8
      obtain ⟨kk, hkk⟩ : ∃ q, q = K.getD k 0 := ⟨_, rfl⟩
      obtain ⟨ww, hww⟩ : ∃ q, q = WW.getD k 0 := ⟨_, rfl⟩
      have Hnx := Lib.hid (fun (_ : Unit) => show roundsS K WW S (k + 1) = stepS kk ww L by rw [hkk, hww, hL]; rfl)
      have HRtk := Lib.hid (HRt.out.only HB.out (by rw [HK64.out ()]; decide))
      have HRwk := Lib.hid (HRw.out.only HB.out (by rw [HW64.out ()]; decide))
      have lt := HRtk.out k (by rw [HK64.out ()]; exact hlt)
      have lw := HRwk.out k (by rw [HW64.out ()]; exact hlt)
      rw [← hkk] at lt
      rw [← hww] at lw
      obtain ⟨a, b, c, d, e, f, m, i, hLL, ha, hb, hc, hd, he, hf, hm, hi⟩ := (Hw8.out ()).eight
      subst hLL
      clear hL hkk hww Hw8
      obtain ⟨r6, hr6⟩ : ∃ q, q = rotr 6 e := ⟨_, rfl⟩
      obtain ⟨r11, hr11⟩ : ∃ q, q = rotr 11 e := ⟨_, rfl⟩
      obtain ⟨r25, hr25⟩ : ∃ q, q = rotr 25 e := ⟨_, rfl⟩
      obtain ⟨r2, hr2⟩ : ∃ q, q = rotr 2 a := ⟨_, rfl⟩
      obtain ⟨r13, hr13⟩ : ∃ q, q = rotr 13 a := ⟨_, rfl⟩
      obtain ⟨r22, hr22⟩ : ∃ q, q = rotr 22 a := ⟨_, rfl⟩
      obtain ⟨xa, hxa⟩ : ∃ q, q = xor32 r6 r11 := ⟨_, rfl⟩
      obtain ⟨xe, hxe⟩ : ∃ q, q = xor32 xa r25 := ⟨_, rfl⟩
      obtain ⟨b1, hb1⟩ : ∃ q, q = and32 e f := ⟨_, rfl⟩
      obtain ⟨ne, hne⟩ : ∃ q, q = not32 e := ⟨_, rfl⟩
      obtain ⟨b2, hb2⟩ : ∃ q, q = and32 ne m := ⟨_, rfl⟩
      obtain ⟨ch, hch⟩ : ∃ q, q = xor32 b1 b2 := ⟨_, rfl⟩
      obtain ⟨s1, hs1⟩ : ∃ q, q = add32 i xe := ⟨_, rfl⟩
      obtain ⟨s2, hs2⟩ : ∃ q, q = add32 s1 ch := ⟨_, rfl⟩
      obtain ⟨s3, hs3⟩ : ∃ q, q = add32 s2 kk := ⟨_, rfl⟩
      obtain ⟨T1, hT1⟩ : ∃ q, q = add32 s3 ww := ⟨_, rfl⟩
      obtain ⟨ya, hya⟩ : ∃ q, q = xor32 r2 r13 := ⟨_, rfl⟩
      obtain ⟨ye, hye⟩ : ∃ q, q = xor32 ya r22 := ⟨_, rfl⟩
      obtain ⟨m1, hm1⟩ : ∃ q, q = and32 a b := ⟨_, rfl⟩
      obtain ⟨m2, hm2⟩ : ∃ q, q = and32 a c := ⟨_, rfl⟩
      obtain ⟨mm, hmm⟩ : ∃ q, q = xor32 m1 m2 := ⟨_, rfl⟩
      obtain ⟨m3, hm3⟩ : ∃ q, q = and32 b c := ⟨_, rfl⟩
      obtain ⟨mj, hmj⟩ : ∃ q, q = xor32 mm m3 := ⟨_, rfl⟩
      obtain ⟨T2, hT2⟩ : ∃ q, q = add32 ye mj := ⟨_, rfl⟩
      obtain ⟨n0, hn0⟩ : ∃ q, q = add32 T1 T2 := ⟨_, rfl⟩
      obtain ⟨n4, hn4⟩ : ∃ q, q = add32 d T1 := ⟨_, rfl⟩
      have HT6 := Lib.hid (turnS e 6 6 r6 rfl hr6 he (by decide))
      have HT11 := Lib.hid (turnS e 11 11 r11 rfl hr11 he (by decide))
      have HT25 := Lib.hid (turnS e 25 25 r25 rfl hr25 he (by decide))
      have HT2 := Lib.hid (turnS a 2 2 r2 rfl hr2 ha (by decide))
      have HT13 := Lib.hid (turnS a 13 13 r13 rfl hr13 ha (by decide))
      have HT22 := Lib.hid (turnS a 22 22 r22 rfl hr22 ha (by decide))
      have fxa : bits .xor .u32 (r6 : Int) (r11 : Int) = (xa : Int) := by rw [w32_xor, hxa]
      have fxe : bits .xor .u32 (xa : Int) (r25 : Int) = (xe : Int) := by rw [w32_xor, hxe]
      have fb1 : bits .and .u32 (e : Int) (f : Int) = (b1 : Int) := by rw [w32_and, hb1]
      have fb2 : bits .and .u32 (ne : Int) (m : Int) = (b2 : Int) := by rw [w32_and, hb2]
      have fch : bits .xor .u32 (b1 : Int) (b2 : Int) = (ch : Int) := by rw [w32_xor, hch]
      have fs1 : IntKind.u32.wrap ((i : Int) + (xe : Int)) = (s1 : Int) := by rw [w32_add, hs1]
      have gs1 : ((i : Int) + (xe : Int)) % 4294967296 = (s1 : Int) := by rw [w32_add', hs1]
      have fs2 : IntKind.u32.wrap ((s1 : Int) + (ch : Int)) = (s2 : Int) := by rw [w32_add, hs2]
      have gs2 : ((s1 : Int) + (ch : Int)) % 4294967296 = (s2 : Int) := by rw [w32_add', hs2]
      have fs3 : IntKind.u32.wrap ((s2 : Int) + (kk : Int)) = (s3 : Int) := by rw [w32_add, hs3]
      have gs3 : ((s2 : Int) + (kk : Int)) % 4294967296 = (s3 : Int) := by rw [w32_add', hs3]
      have fT1 : IntKind.u32.wrap ((s3 : Int) + (ww : Int)) = (T1 : Int) := by rw [w32_add, hT1]
      have gT1 : ((s3 : Int) + (ww : Int)) % 4294967296 = (T1 : Int) := by rw [w32_add', hT1]
      have fya : bits .xor .u32 (r2 : Int) (r13 : Int) = (ya : Int) := by rw [w32_xor, hya]
      have fye : bits .xor .u32 (ya : Int) (r22 : Int) = (ye : Int) := by rw [w32_xor, hye]
      have fm1 : bits .and .u32 (a : Int) (b : Int) = (m1 : Int) := by rw [w32_and, hm1]
      have fm2 : bits .and .u32 (a : Int) (c : Int) = (m2 : Int) := by rw [w32_and, hm2]
      have fmm : bits .xor .u32 (m1 : Int) (m2 : Int) = (mm : Int) := by rw [w32_xor, hmm]
      have fm3 : bits .and .u32 (b : Int) (c : Int) = (m3 : Int) := by rw [w32_and, hm3]
      have fmj : bits .xor .u32 (mm : Int) (m3 : Int) = (mj : Int) := by rw [w32_xor, hmj]
      have fT2 : IntKind.u32.wrap ((ye : Int) + (mj : Int)) = (T2 : Int) := by rw [w32_add, hT2]
      have gT2 : ((ye : Int) + (mj : Int)) % 4294967296 = (T2 : Int) := by rw [w32_add', hT2]
      have fn0 : IntKind.u32.wrap ((T1 : Int) + (T2 : Int)) = (n0 : Int) := by rw [w32_add, hn0]
      have gn0 : ((T1 : Int) + (T2 : Int)) % 4294967296 = (n0 : Int) := by rw [w32_add', hn0]
      have fn4 : IntKind.u32.wrap ((d : Int) + (T1 : Int)) = (n4 : Int) := by rw [w32_add, hn4]
      have gn4 : ((d : Int) + (T1 : Int)) % 4294967296 = (n4 : Int) := by rw [w32_add', hn4]
      have fn : (4294967295 : Int) - (e : Int) = (ne : Int) := by rw [w32_not e he, hne]
      have fn1 : (ne : Int) % 4294967296 = (ne : Int) := by rw [hne]; unfold not32; omega
      have fn2 : IntKind.u32.wrap (ne : Int) = (ne : Int) := by rw [IntKind.wrap_u32']; exact fn1
      have k0 : ((i : Int) + (xe : Int) + (ch : Int)) % 4294967296 = (s2 : Int) := by rw [hs2, hs1]; unfold add32; omega
      have k1 : ((s1 : Int) + (ch : Int) + (kk : Int)) % 4294967296 = (s3 : Int) := by rw [hs3, hs2, hs1]; unfold add32; omega
      have k2 : ((i : Int) + (xe : Int) + (ch : Int) + (kk : Int)) % 4294967296 = (s3 : Int) := by rw [hs3, hs2, hs1]; unfold add32; omega
      have k3 : ((s2 : Int) + (kk : Int) + (ww : Int)) % 4294967296 = (T1 : Int) := by rw [hT1, hs3, hs2, hs1]; unfold add32; omega
      have k4 : ((s1 : Int) + (ch : Int) + (kk : Int) + (ww : Int)) % 4294967296 = (T1 : Int) := by rw [hT1, hs3, hs2, hs1]; unfold add32; omega
      have k5 : ((i : Int) + (xe : Int) + (ch : Int) + (kk : Int) + (ww : Int)) % 4294967296 = (T1 : Int) := by rw [hT1, hs3, hs2, hs1]; unfold add32; omega
      have Hn2 := Lib.hid (fun (_ : Unit) => show roundsS K WW S (k + 1) = [n0, a, b, c, n4, e, f, m] by
        rw [Hnx.out (), stepS_at]
        unfold t1S t2S
        rw [hn0, hn4, hT1, hs3, hs2, hs1, hT2, hxe, hxa, hch, hb1, hb2, hne, hye, hya, hmj, hmm, hm1, hm2, hm3, hr6, hr11, hr25, hr2, hr13, hr22])
      have HRa := Lib.hid HR.out
      have HBa := Lib.hid HB.out
      have c0_0 : wr.cell? ⟨ga, 0, none⟩ = some (.int .u32 (a : Int)) := HR.out 0 (by simp)
      have c0_1 : wr.cell? ⟨ga, 1, none⟩ = some (.int .u32 (b : Int)) := HR.out 1 (by simp)
      have c0_2 : wr.cell? ⟨ga, 2, none⟩ = some (.int .u32 (c : Int)) := HR.out 2 (by simp)
      have c0_3 : wr.cell? ⟨ga, 3, none⟩ = some (.int .u32 (d : Int)) := HR.out 3 (by simp)
      have c0_4 : wr.cell? ⟨ga, 4, none⟩ = some (.int .u32 (e : Int)) := HR.out 4 (by simp)
      have c0_5 : wr.cell? ⟨ga, 5, none⟩ = some (.int .u32 (f : Int)) := HR.out 5 (by simp)
      have c0_6 : wr.cell? ⟨ga, 6, none⟩ = some (.int .u32 (m : Int)) := HR.out 6 (by simp)
      have c0_7 : wr.cell? ⟨ga, 7, none⟩ = some (.int .u32 (i : Int)) := HR.out 7 (by simp)
      clear hr6 hr11 hr25 hr2 hr13 hr22 hxa hxe hb1 hne hb2 hch hs1 hs2 hs3 hT1 hya hye hm1 hm2 hmm hm3 hmj hT2 hn0 hn4 Hnx HB HRtk HRwk ha hb hc hd he hf hm hi
      have hR := HR
      clear HR
      go_wp2_with fail
      refine wp_region_still_lit (by kernel_rfl) (by kernel_rfl) ?_
      repeat still_step
      still_call (HT6.out _)
      repeat still_step
      still_call (HT11.out _)
      repeat still_step
      still_call (HT25.out _)
      repeat still_step
      refine wpStill_nil ?_
      change Exit.then _ _ Exit.normal _ wr.drew
      have HR1 := Lib.hid HRa.out.drew
      have HB1 := Lib.hid HBa.out.drew
      clear HRa HBa hR c0_0 c0_1 c0_2 c0_3 c0_4 c0_5 c0_6 c0_7 lt lw HT6 HT11 HT25
      generalize wr.drew = wd at HR1 HB1 ⊢
      have d1_0 : wd.cell? ⟨ga, 0, none⟩ = some (.int .u32 (a : Int)) := HR1.out 0 (by simp)
      have d1_1 : wd.cell? ⟨ga, 1, none⟩ = some (.int .u32 (b : Int)) := HR1.out 1 (by simp)
      have d1_2 : wd.cell? ⟨ga, 2, none⟩ = some (.int .u32 (c : Int)) := HR1.out 2 (by simp)
      have d1_3 : wd.cell? ⟨ga, 3, none⟩ = some (.int .u32 (d : Int)) := HR1.out 3 (by simp)
      have d1_4 : wd.cell? ⟨ga, 4, none⟩ = some (.int .u32 (e : Int)) := HR1.out 4 (by simp)
      have d1_5 : wd.cell? ⟨ga, 5, none⟩ = some (.int .u32 (f : Int)) := HR1.out 5 (by simp)
      have d1_6 : wd.cell? ⟨ga, 6, none⟩ = some (.int .u32 (m : Int)) := HR1.out 6 (by simp)
      have d1_7 : wd.cell? ⟨ga, 7, none⟩ = some (.int .u32 (i : Int)) := HR1.out 7 (by simp)
      go_wp2_with fail
      refine wp_region_still_lit (by kernel_rfl) (by kernel_rfl) ?_
      repeat still_step
      still_call (HT2.out _)
      repeat still_step
      still_call (HT13.out _)
      repeat still_step
      still_call (HT22.out _)
      repeat still_step
      refine wpStill_nil ?_
      change Exit.then _ _ Exit.normal _ wd.drew
      have HR2 := Lib.hid HR1.out.drew
      have HB2 := Lib.hid HB1.out.drew
      clear HR1 HB1 d1_0 d1_1 d1_2 d1_3 d1_4 d1_5 d1_6 d1_7 HT2 HT13 HT22
      generalize wd.drew = we at HR2 HB2 ⊢
      have d2_0 : we.cell? ⟨ga, 0, none⟩ = some (.int .u32 (a : Int)) := HR2.out 0 (by simp)
      have d2_1 : we.cell? ⟨ga, 1, none⟩ = some (.int .u32 (b : Int)) := HR2.out 1 (by simp)
      have d2_2 : we.cell? ⟨ga, 2, none⟩ = some (.int .u32 (c : Int)) := HR2.out 2 (by simp)
      have d2_3 : we.cell? ⟨ga, 3, none⟩ = some (.int .u32 (d : Int)) := HR2.out 3 (by simp)
      have d2_4 : we.cell? ⟨ga, 4, none⟩ = some (.int .u32 (e : Int)) := HR2.out 4 (by simp)
      have d2_5 : we.cell? ⟨ga, 5, none⟩ = some (.int .u32 (f : Int)) := HR2.out 5 (by simp)
      have d2_6 : we.cell? ⟨ga, 6, none⟩ = some (.int .u32 (m : Int)) := HR2.out 6 (by simp)
      have d2_7 : we.cell? ⟨ga, 7, none⟩ = some (.int .u32 (i : Int)) := HR2.out 7 (by simp)
      have HSk := Lib.hid (fun (w' : World) (hb : Below we.heap.size we w') => (show w'.cell? ⟨ga, 0, none⟩ = some (.int .u32 (a : Int)) ∧ w'.cell? ⟨ga, 1, none⟩ = some (.int .u32 (b : Int)) ∧ w'.cell? ⟨ga, 2, none⟩ = some (.int .u32 (c : Int)) ∧ w'.cell? ⟨ga, 3, none⟩ = some (.int .u32 (d : Int)) ∧ w'.cell? ⟨ga, 4, none⟩ = some (.int .u32 (e : Int)) ∧ w'.cell? ⟨ga, 5, none⟩ = some (.int .u32 (f : Int)) ∧ w'.cell? ⟨ga, 6, none⟩ = some (.int .u32 (m : Int)) from by
        have h := HR2.out.only hb (by simp)
        exact ⟨h 0 (by simp), h 1 (by simp), h 2 (by simp), h 3 (by simp), h 4 (by simp), h 5 (by simp), h 6 (by simp)⟩))
      go_wp2_with fail
      go_region_held3 (fun w' => w'.cell? ⟨ga, 0, none⟩ = some (.int .u32 (a : Int)) ∧ w'.cell? ⟨ga, 1, none⟩ = some (.int .u32 (b : Int)) ∧ w'.cell? ⟨ga, 2, none⟩ = some (.int .u32 (c : Int)) ∧ w'.cell? ⟨ga, 3, none⟩ = some (.int .u32 (d : Int)) ∧ w'.cell? ⟨ga, 4, none⟩ = some (.int .u32 (e : Int)) ∧ w'.cell? ⟨ga, 5, none⟩ = some (.int .u32 (f : Int)) ∧ w'.cell? ⟨ga, 6, none⟩ = some (.int .u32 (m : Int))) (first | exact ⟨d2_0, d2_1, d2_2, d2_3, d2_4, d2_5, d2_6⟩ | exact HSk.out _ ((Below.refl _ we).alloc (Nat.le_refl _) _) | exact HSk.out _ ((Below.refl _ we).alloc (Nat.le_refl _) _).drew) (first | fail)
      go_wp2
      go_roundw
      case rel =>
        refine ⟨k + 1, we.heap.size, 8, by omega, by go_num, rfl, by decide, fun _ => Nat.le_trans (Hmin.out ()).2 HB2.out.size, ?_, (HB2.out.alloc HB2.out.size _).drew⟩
        rw [Hn2.out ()]
        exact (At.new we .u32 [n0, a, b, c, n4, e, f, m] 37).rd.drew
      case measure => simp [intOf]; omega
    · obtain rfl : k = 64 := by omega
      rw [show ((64 : Nat) : Int) = 64 from rfl]
      go_wp2
      exact hexit ga gc _ _ _ _ _ _ _ _ _ _ _ _ _ _ _ _ _ _ _ _ _ _ _ _ _ _ _ _ _ _ _ _ _ _ _ _ _ _ _ _ _ _ _ _ _ _ _ _ _ _ _ _ _ _ _ _ _ _ _ _ _ _ _ _ _ _ _ _ _ _ _ _ _ _ _ _ _ _ _ _ _ _ _ _ _ _ _ _ _ _ _ _ _ _ _ _ _ _ _ _ _ _ _ _ _ hgc Hga HR HB
end Go.Proofs.YtcpjdmfnipdecaaDoor
