/- The reference's Sum: the schedule. -/
import Derived.Test.YtcpjdmfnipdecaaDoorDigS
import Derived.Test.YtcpjdmfnipdecaaDoorDigH
import Derived.Test.YtcpjdmfnipdecaaDoorDigW
import Derived.StillTailTactics
import Derived.Deep.RegionHeld3
import Derived.Test.YtcpjdmfnipdecaaDoorNumL
namespace Go.Proofs.YtcpjdmfnipdecaaDoor
set_option linter.all false
open Go.RowKit DigP


theorem turnZ (x n : Nat) (z : Int) (r : Nat) (hz : z = (n : Int)) (hr : r = rotr n x) (hx : x < 4294967296) (h2 : n ≤ 31) (w : World) :
    Calls Tryd.prog 23 #[.int .u32 (x : Int), .int .i64 z] w (SaysW r w) := by subst hz hr; exact turn_any x n w hx h2
theorem turnS (x n : Nat) (z : Int) (r : Nat) (hz : z = (n : Int)) (hr : r = rotr n x) (hx : x < 4294967296) (h2 : n ≤ 31) (w : World) :
    Calls Tryd.prog 23 #[.int .u32 (x : Int), .int .i64 z] w (fun e w'' => e = .returned (.int .u32 (r : Int)) ∧ w'' = w) := turnZ x n z r hz hr hx h2 w
theorem sched_next (W : List Nat) (k : Nat) : sched W (k + 1) = sched W k ++ [nextW (sched W k) k] := rfl
set_option maxRecDepth 1000000 in
set_option maxHeartbeats 16000000 in
theorem sumLoop5 (c0 c1 c2 c3 c4 c5 c6 c7 c8 c9 c10 c12 c13 c15 c16 c17 c18 c19 c20 c21 c22 c23 c24 c25 c26 c27 c28 c29 c30 c31 c32 c33 c34 c35 c36 c37 c38 c39 c40 c41 c42 c43 c44 c45 c46 c47 c48 c49 c50 c51 c52 c53 c54 c55 c56 c57 c58 c59 c60 c61 c62 c63 c64 c65 c66 c67 c68 c69 c70 c71 c72 c73 c74 c75 c76 c77 c78 c79 c80 c81 c82 c83 c84 c85 c86 c87 c88 c89 c90 c91 c92 c93 c94 c95 c96 c97 c98 c99 c100 c101 c102 c103 c104 c105 c106 c107 c108 c109 c110 c111 c112 c113 c114 c115 c116 c117 c118 c119 c120 c121 c122 c123 c124 c125 c126 c127 c128 c129 c130 c131 c132 c133 c134 c135 c136 c137 c138 c139 c140 c141 c142 c143 c144 c145 c146 c147 c148 c149 c150 c151 c152 c153 c154 c155 c156 c157 c158 c159 c160 c161 c162 c163 c164 c165 c166 c167 c168 c169 c170 c171 c172 c173 c174 c175 c176 c177 c178 c179 c180 c181 c182 c183 c184 c185 c186 c187 c188 c189 c190 c191 c192 c193 c194 c195 c196 c197 c198 c199 c200 c201 c202 c203 c204 c205 c206 c207 c208 c209 c210 c211 c212 c213 c214 c215 c216 c217 c218 c219 c220 c221 c222 c223 c224 c225 c226 c227 c228 c229 c230 c231 c232 c233 c234 c235 c236 c237 c238 c239 c240 c241 c242 c243 c244 c245 c246 c247 c248 c249 c250 c251 c252 c253 c254 c255 c256 c257 c258 c259 c260 c261 c262 c263 c264 c265 c266 c267 c268 c269 c270 c271 c272 c273 c274 c275 c276 c277 c278 c279 c280 c281 c282 c283 c284 c285 c286 c287 c288 c289 c290 c291 c292 c293 c294 c295 c296 c297 c298 c299 c300 c301 c302 c303 c304 c305 c306 c307 c308 c309 c310 c311 c312 c313 c314 c315 c316 c317 c318 c319 c320 c321 c322 c323 c324 c325 c326 c327 c328 c329 c330 c331 : Value) (sv : Value) (B : Nat) (BK : List Nat) (w : World) (Q0 : Exit → Act → World → Prop)
    (HWw : Hid (∀ _ : Unit, Words 16 (words16 BK))) (HO0 : Hid (OwnN 37 .u32 w B sv (words16 BK))) (HBw : Hid (B ≤ w.heap.size))
    (hexit : ∀ (ev u15 u16 u17 u18 u119 u120 u121 u122 u123 u124 u125 u126 u127 u128 u129 u130 u131 u132 u133 u134 u135 u136 u137 u138 u139 u140 u141 u142 u143 u144 u145 u146 u147 u148 u149 u150 u151 u152 u153 u154 u155 u156 u157 u158 u159 u160 u161 u162 u163 u164 u165 u166 : Value) (wr : World), Hid (OwnN 37 .u32 wr B ev (wordsS BK)) → Hid (Below B w wr) → Q0 (.exit 8) ⟨(c0 :: c1 :: c2 :: c3 :: c4 :: c5 :: c6 :: c7 :: c8 :: c9 :: c10 :: ev :: c12 :: c13 :: .int .i64 64 :: u15 :: u16 :: u17 :: u18 :: c19 :: c20 :: c21 :: c22 :: c23 :: c24 :: c25 :: c26 :: c27 :: c28 :: c29 :: c30 :: c31 :: c32 :: c33 :: c34 :: c35 :: c36 :: c37 :: c38 :: c39 :: c40 :: c41 :: c42 :: c43 :: c44 :: c45 :: c46 :: c47 :: c48 :: c49 :: c50 :: c51 :: c52 :: c53 :: c54 :: c55 :: c56 :: c57 :: c58 :: c59 :: c60 :: c61 :: c62 :: c63 :: c64 :: c65 :: c66 :: c67 :: c68 :: c69 :: c70 :: c71 :: c72 :: c73 :: c74 :: c75 :: c76 :: c77 :: c78 :: c79 :: c80 :: c81 :: c82 :: c83 :: c84 :: c85 :: c86 :: c87 :: c88 :: c89 :: c90 :: c91 :: c92 :: c93 :: c94 :: c95 :: c96 :: c97 :: c98 :: c99 :: c100 :: c101 :: c102 :: c103 :: c104 :: c105 :: c106 :: c107 :: c108 :: c109 :: c110 :: c111 :: c112 :: c113 :: c114 :: c115 :: c116 :: c117 :: c118 :: u119 :: u120 :: u121 :: u122 :: u123 :: u124 :: u125 :: u126 :: u127 :: u128 :: u129 :: u130 :: u131 :: u132 :: u133 :: u134 :: u135 :: u136 :: u137 :: u138 :: u139 :: u140 :: u141 :: u142 :: u143 :: u144 :: u145 :: u146 :: u147 :: u148 :: u149 :: u150 :: u151 :: u152 :: u153 :: u154 :: u155 :: u156 :: u157 :: u158 :: u159 :: u160 :: u161 :: u162 :: u163 :: u164 :: u165 :: u166 :: c167 :: c168 :: c169 :: c170 :: c171 :: c172 :: c173 :: c174 :: c175 :: c176 :: c177 :: c178 :: c179 :: c180 :: c181 :: c182 :: c183 :: c184 :: c185 :: c186 :: c187 :: c188 :: c189 :: c190 :: c191 :: c192 :: c193 :: c194 :: c195 :: c196 :: c197 :: c198 :: c199 :: c200 :: c201 :: c202 :: c203 :: c204 :: c205 :: c206 :: c207 :: c208 :: c209 :: c210 :: c211 :: c212 :: c213 :: c214 :: c215 :: c216 :: c217 :: c218 :: c219 :: c220 :: c221 :: c222 :: c223 :: c224 :: c225 :: c226 :: c227 :: c228 :: c229 :: c230 :: c231 :: c232 :: c233 :: c234 :: c235 :: c236 :: c237 :: c238 :: c239 :: c240 :: c241 :: c242 :: c243 :: c244 :: c245 :: c246 :: c247 :: c248 :: c249 :: c250 :: c251 :: c252 :: c253 :: c254 :: c255 :: c256 :: c257 :: c258 :: c259 :: c260 :: c261 :: c262 :: c263 :: c264 :: c265 :: c266 :: c267 :: c268 :: c269 :: c270 :: c271 :: c272 :: c273 :: c274 :: c275 :: c276 :: c277 :: c278 :: c279 :: c280 :: c281 :: c282 :: c283 :: c284 :: c285 :: c286 :: c287 :: c288 :: c289 :: c290 :: c291 :: c292 :: c293 :: c294 :: c295 :: c296 :: c297 :: c298 :: c299 :: c300 :: c301 :: c302 :: c303 :: c304 :: c305 :: c306 :: c307 :: c308 :: c309 :: c310 :: c311 :: c312 :: c313 :: c314 :: c315 :: c316 :: c317 :: c318 :: c319 :: c320 :: c321 :: c322 :: c323 :: c324 :: c325 :: c326 :: c327 :: c328 :: c329 :: c330 :: c331 :: []).toArray, []⟩ wr) :
    Code.wp Tryd.prog (Code.loop (refLoops.getD 4 .skip)) (noPanic Q0) ⟨(c0 :: c1 :: c2 :: c3 :: c4 :: c5 :: c6 :: c7 :: c8 :: c9 :: c10 :: sv :: c12 :: c13 :: .int .i64 16 :: c15 :: c16 :: c17 :: c18 :: c19 :: c20 :: c21 :: c22 :: c23 :: c24 :: c25 :: c26 :: c27 :: c28 :: c29 :: c30 :: c31 :: c32 :: c33 :: c34 :: c35 :: c36 :: c37 :: c38 :: c39 :: c40 :: c41 :: c42 :: c43 :: c44 :: c45 :: c46 :: c47 :: c48 :: c49 :: c50 :: c51 :: c52 :: c53 :: c54 :: c55 :: c56 :: c57 :: c58 :: c59 :: c60 :: c61 :: c62 :: c63 :: c64 :: c65 :: c66 :: c67 :: c68 :: c69 :: c70 :: c71 :: c72 :: c73 :: c74 :: c75 :: c76 :: c77 :: c78 :: c79 :: c80 :: c81 :: c82 :: c83 :: c84 :: c85 :: c86 :: c87 :: c88 :: c89 :: c90 :: c91 :: c92 :: c93 :: c94 :: c95 :: c96 :: c97 :: c98 :: c99 :: c100 :: c101 :: c102 :: c103 :: c104 :: c105 :: c106 :: c107 :: c108 :: c109 :: c110 :: c111 :: c112 :: c113 :: c114 :: c115 :: c116 :: c117 :: c118 :: c119 :: c120 :: c121 :: c122 :: c123 :: c124 :: c125 :: c126 :: c127 :: c128 :: c129 :: c130 :: c131 :: c132 :: c133 :: c134 :: c135 :: c136 :: c137 :: c138 :: c139 :: c140 :: c141 :: c142 :: c143 :: c144 :: c145 :: c146 :: c147 :: c148 :: c149 :: c150 :: c151 :: c152 :: c153 :: c154 :: c155 :: c156 :: c157 :: c158 :: c159 :: c160 :: c161 :: c162 :: c163 :: c164 :: c165 :: c166 :: c167 :: c168 :: c169 :: c170 :: c171 :: c172 :: c173 :: c174 :: c175 :: c176 :: c177 :: c178 :: c179 :: c180 :: c181 :: c182 :: c183 :: c184 :: c185 :: c186 :: c187 :: c188 :: c189 :: c190 :: c191 :: c192 :: c193 :: c194 :: c195 :: c196 :: c197 :: c198 :: c199 :: c200 :: c201 :: c202 :: c203 :: c204 :: c205 :: c206 :: c207 :: c208 :: c209 :: c210 :: c211 :: c212 :: c213 :: c214 :: c215 :: c216 :: c217 :: c218 :: c219 :: c220 :: c221 :: c222 :: c223 :: c224 :: c225 :: c226 :: c227 :: c228 :: c229 :: c230 :: c231 :: c232 :: c233 :: c234 :: c235 :: c236 :: c237 :: c238 :: c239 :: c240 :: c241 :: c242 :: c243 :: c244 :: c245 :: c246 :: c247 :: c248 :: c249 :: c250 :: c251 :: c252 :: c253 :: c254 :: c255 :: c256 :: c257 :: c258 :: c259 :: c260 :: c261 :: c262 :: c263 :: c264 :: c265 :: c266 :: c267 :: c268 :: c269 :: c270 :: c271 :: c272 :: c273 :: c274 :: c275 :: c276 :: c277 :: c278 :: c279 :: c280 :: c281 :: c282 :: c283 :: c284 :: c285 :: c286 :: c287 :: c288 :: c289 :: c290 :: c291 :: c292 :: c293 :: c294 :: c295 :: c296 :: c297 :: c298 :: c299 :: c300 :: c301 :: c302 :: c303 :: c304 :: c305 :: c306 :: c307 :: c308 :: c309 :: c310 :: c311 :: c312 :: c313 :: c314 :: c315 :: c316 :: c317 :: c318 :: c319 :: c320 :: c321 :: c322 :: c323 :: c324 :: c325 :: c326 :: c327 :: c328 :: c329 :: c330 :: c331 :: []).toArray, []⟩ w := by
  conv => arg 2; arg 1; whnf
  go_loopw [11, 14] (fun v i wr => ∃ k t : Nat, t ≤ 64 ∧ i = .int .i64 (t : Int) ∧ Hid (∀ _ : Unit, t = k + 16) ∧ Hid (OwnN 37 .u32 wr B v (sched (words16 BK) k)) ∧ Hid (Below B w wr)) (fun _ i _ => 64 - (intOf i).toNat)
  case atStart => exact ⟨0, 16, by decide, rfl, fun _ => rfl, HO0.out, Below.refl _ _⟩
  case round =>
    clear HO0
    obtain ⟨k, t, ht64, rfl, Ht0, HO, HB⟩ := hrel
    by_cases htl : t < 64
    · clear hexit
      have ht := Ht0.out ()
      have ht16 : 16 ≤ t := by omega
      have hWs := (HWw.out ()).sched k
      obtain ⟨sl, hsl⟩ : ∃ l, l = sched (words16 BK) k := ⟨_, rfl⟩
      rw [← hsl] at hWs HO
      have hln : sl.length = t := by rw [hWs.1]; omega
      obtain ⟨sg, scap, hv, hgB, hgw, hcap, hcm, hA⟩ := HO.out.open_ (by omega)
      rw [hln] at hv hcap
      obtain ⟨q1, hq1⟩ : ∃ q, q = k + 1 := ⟨_, rfl⟩
      obtain ⟨q9, hq9⟩ : ∃ q, q = k + 9 := ⟨_, rfl⟩
      obtain ⟨q14, hq14⟩ : ∃ q, q = k + 14 := ⟨_, rfl⟩
      obtain ⟨x0, hx0⟩ : ∃ x, x = sl.getD k 0 := ⟨_, rfl⟩
      obtain ⟨x1, hx1⟩ : ∃ x, x = sl.getD q1 0 := ⟨_, rfl⟩
      obtain ⟨x9, hx9⟩ : ∃ x, x = sl.getD q9 0 := ⟨_, rfl⟩
      obtain ⟨x14, hx14⟩ : ∃ x, x = sl.getD q14 0 := ⟨_, rfl⟩
      have l0 : wr.cell? ⟨sg, k, none⟩ = some (.int .u32 (x0 : Int)) := by rw [hx0]; exact hA.cell (by omega)
      have l1 : wr.cell? ⟨sg, q1, none⟩ = some (.int .u32 (x1 : Int)) := by rw [hx1]; exact hA.cell (by omega)
      have l9 : wr.cell? ⟨sg, q9, none⟩ = some (.int .u32 (x9 : Int)) := by rw [hx9]; exact hA.cell (by omega)
      have l14 : wr.cell? ⟨sg, q14, none⟩ = some (.int .u32 (x14 : Int)) := by rw [hx14]; exact hA.cell (by omega)
      have hb1 : x1 < 4294967296 := by rw [hx1]; exact hWs.2 _ (by omega)
      have hb14 : x14 < 4294967296 := by rw [hx14]; exact hWs.2 _ (by omega)
      obtain ⟨r7, hr7⟩ : ∃ r, r = rotr 7 x1 := ⟨_, rfl⟩
      obtain ⟨r18, hr18⟩ : ∃ r, r = rotr 18 x1 := ⟨_, rfl⟩
      obtain ⟨r17, hr17⟩ : ∃ r, r = rotr 17 x14 := ⟨_, rfl⟩
      obtain ⟨r19, hr19⟩ : ∃ r, r = rotr 19 x14 := ⟨_, rfl⟩
      have HT7 := Lib.hid (turnZ x1 7 7 r7 rfl hr7 hb1 (by decide))
      have HT18 := Lib.hid (turnZ x1 18 18 r18 rfl hr18 hb1 (by decide))
      have HT17 := Lib.hid (turnZ x14 17 17 r17 rfl hr17 hb14 (by decide))
      have HT19 := Lib.hid (turnZ x14 19 19 r19 rfl hr19 hb14 (by decide))
      obtain ⟨d1, hd1⟩ : ∃ d, d = x1 / 8 := ⟨_, rfl⟩
      obtain ⟨d14, hd14⟩ : ∃ d, d = x14 / 1024 := ⟨_, rfl⟩
      obtain ⟨X1, hX1⟩ : ∃ d, d = xor32 r7 r18 := ⟨_, rfl⟩
      obtain ⟨S0, hS0⟩ : ∃ d, d = xor32 X1 d1 := ⟨_, rfl⟩
      obtain ⟨X14, hX14⟩ : ∃ d, d = xor32 r17 r19 := ⟨_, rfl⟩
      obtain ⟨S1, hS1⟩ : ∃ d, d = xor32 X14 d14 := ⟨_, rfl⟩
      obtain ⟨A1, hA1⟩ : ∃ d, d = add32 S1 x9 := ⟨_, rfl⟩
      obtain ⟨A2, hA2⟩ : ∃ d, d = add32 A1 S0 := ⟨_, rfl⟩
      obtain ⟨y, hy⟩ : ∃ d, d = add32 A2 x0 := ⟨_, rfl⟩
      have Hnx := Lib.hid (fun (_ : Unit) => show sched (words16 BK) (k + 1) = sl ++ [y] by
        rw [sched_next, ← hsl]
        congr 2
        rw [hy, hA2, hA1, hS1, hX14, hS0, hX1, hd1, hd14, hr7, hr18, hr17, hr19, hx0, hx1, hx9, hx14, hq1, hq9, hq14]; rfl)
      have f1 : bits .xor .u32 (r7 : Int) (r18 : Int) = (X1 : Int) := by rw [w32_xor, hX1]
      have f2 : bits .xor .u32 (X1 : Int) (d1 : Int) = (S0 : Int) := by rw [w32_xor, hS0]
      have f3 : bits .xor .u32 (r17 : Int) (r19 : Int) = (X14 : Int) := by rw [w32_xor, hX14]
      have f4 : bits .xor .u32 (X14 : Int) (d14 : Int) = (S1 : Int) := by rw [w32_xor, hS1]
      have f5 : (x1 : Int) / 8 = (d1 : Int) := by omega
      have f6 : (x14 : Int) / 1024 = (d14 : Int) := by omega
      have f7 : IntKind.u32.wrap ((S1 : Int) + (x9 : Int)) = (A1 : Int) := by rw [w32_add, hA1]
      have f8 : IntKind.u32.wrap ((A1 : Int) + (S0 : Int)) = (A2 : Int) := by rw [w32_add, hA2]
      have f9 : IntKind.u32.wrap ((A2 : Int) + (x0 : Int)) = (y : Int) := by rw [w32_add, hy]
      have f10 : ((S1 : Int) + (x9 : Int)) % 4294967296 = (A1 : Int) := by rw [w32_add', hA1]
      have f11 : ((A1 : Int) + (S0 : Int)) % 4294967296 = (A2 : Int) := by rw [w32_add', hA2]
      have f12 : ((A2 : Int) + (x0 : Int)) % 4294967296 = (y : Int) := by rw [w32_add', hy]
      have f13 : (d1 : Int) % 4294967296 = (d1 : Int) := by omega
      have f14 : (d14 : Int) % 4294967296 = (d14 : Int) := by omega
      have f15 : ((S1 : Int) + (x9 : Int) + (S0 : Int) + (x0 : Int)) % 4294967296 = (y : Int) := by rw [hy, hA2, hA1]; unfold add32; omega
      have i1 : (t : Int) - 15 = (q1 : Int) := by omega
      have i2 : (t : Int) - 2 = (q14 : Int) := by omega
      have i3 : (t : Int) - 7 = (q9 : Int) := by omega
      have i4 : (t : Int) - 16 = (k : Int) := by omega
      have i5 : IntKind.i64.wrap (q1 : Int) = (q1 : Int) := i64_small (by omega) (by omega)
      have i6 : IntKind.i64.wrap (q14 : Int) = (q14 : Int) := i64_small (by omega) (by omega)
      have i7 : IntKind.i64.wrap (q9 : Int) = (q9 : Int) := i64_small (by omega) (by omega)
      have i8 : IntKind.i64.wrap (k : Int) = (k : Int) := i64_small (by omega) (by omega)
      have p1 : q1 < t := by omega
      have p9 : q9 < t := by omega
      have p14 : q14 < t := by omega
      have p0 : k < t := by omega
      have HOk := Lib.hid HO.out
      have Hll := Lib.hid (fun (_ : Unit) => show sl.length ≤ 1000000000 by rw [hln]; omega)
      have Hln := Lib.hid (fun (_ : Unit) => hln.symm)
      have HBk := Lib.hid HB.out
      have HZ := Lib.hid (Nat.le_trans HBw.out HB.out.size)
      have Htk := Lib.hid (fun (_ : Unit) => ht)
      rw [hv] at HOk
      subst hv
      clear ht hsl hWs hln hgB hgw hcap hcm hA hq1 hq9 hq14 hx0 hx1 hx9 hx14 hb1 hb14 hr7 hr18 hr17 hr19 hd1 hd14 hX1 hS0 hX14 hS1 hA1 hA2 hy HO HB Ht0 HWw HBw
      go_wp2_with fail
      refine (HT7.out _).mono ?_
      rintro _ wr ⟨rfl, rfl⟩
      go_wp2_with fail
      refine (HT18.out _).mono ?_
      rintro _ wr ⟨rfl, rfl⟩
      go_wp2_with fail
      refine (HT17.out _).mono ?_
      rintro _ wr ⟨rfl, rfl⟩
      go_wp2_with fail
      refine (HT19.out _).mono ?_
      rintro _ wr ⟨rfl, rfl⟩
      go_wp2_with fail
      have hWc : ((wr.alloc (.cells #[.int .u32 (y : Int)] 37)).drew).cell? ⟨wr.heap.size, 0, none⟩ = some (.int .u32 (y : Int)) := by
        show (wr.alloc _).cell? _ = _
        rw [World.cell?_alloc_mark]; simp
      have HWc := Lib.hid hWc
      have HSk := Lib.hid (fun (w' : World) (hb : Below wr.heap.size wr w') => (show w'.cell? ⟨sg, q9, none⟩ = some (.int .u32 (x9 : Int)) ∧ w'.cell? ⟨sg, k, none⟩ = some (.int .u32 (x0 : Int)) from ⟨by rw [hb.cell (p := ⟨sg, q9, none⟩) (World.block_lt_of_cell? wr _ l9)]; exact l9, by rw [hb.cell (p := ⟨sg, k, none⟩) (World.block_lt_of_cell? wr _ l0)]; exact l0⟩))
      have Hbw := Lib.hid (show Below wr.heap.size wr (wr.alloc (.cells #[.int .u32 (y : Int)] 37)).drew from ((Below.refl _ wr).alloc (Nat.le_refl _) _).drew)
      have Hbb := Lib.hid (show Below B w (wr.alloc (.cells #[.int .u32 (y : Int)] 37)).drew from (HBk.out.alloc HZ.out _).drew)
      have HOx := Lib.hid ((HOk.out.alloc (.cells #[.int .u32 (y : Int)] 37)).drew)
      have Hd := Lib.hid (show B ≤ (wr.alloc (.cells #[.int .u32 (y : Int)] 37)).drew.heap.size by have := HZ.out; show _ ≤ (wr.heap.push _).size; simp; omega)
      clear hWc HBk HZ HOk
      go_region_held3 (fun w' => w'.cell? ⟨sg, q9, none⟩ = some (.int .u32 (x9 : Int)) ∧ w'.cell? ⟨sg, k, none⟩ = some (.int .u32 (x0 : Int))) (first | exact ⟨l9, l0⟩ | exact HSk.out _ Hbw.out | exact ⟨HK7.out _ _ p9 (HSk.out _ Hbw.out).1, HK7.out _ _ p0 (HSk.out _ Hbw.out).2⟩) (first | (refine step_append_kept Tryd.numU32 (some 166) rfl rfl _ _ rfl B w ((wr.alloc (.cells #[.int .u32 (y : Int)] 37)).drew) sg scap t sl rfl HOx.out (Hln.out ()) wr.heap.size y rfl HWc.out (Hll.out ()) Hd.out Hbb.out ?_; intro v' w7 hown hb7 hk7; have HO7 := Lib.hid hown; have HB7 := Lib.hid hb7; have HK7 := Lib.hid hk7; clear hown hb7 hk7))
      go_wp2
      go_roundw
      case rel => exact ⟨k + 1, t + 1, by omega, by go_num, fun _ => by have := Htk.out (); omega, by rw [Hnx.out ()]; exact HO7.out, HB7.out⟩
      case measure => simp [intOf]; omega
    · obtain rfl : t = 64 := by omega
      rw [show ((64 : Nat) : Int) = 64 from rfl]
      have HO2 : Hid (OwnN 37 .u32 wr B u11 (wordsS BK)) := by
        have h := Ht0.out ()
        obtain rfl : k = 48 := by omega
        exact HO.out
      go_wp2
      exact hexit _ _ _ _ _ _ _ _ _ _ _ _ _ _ _ _ _ _ _ _ _ _ _ _ _ _ _ _ _ _ _ _ _ _ _ _ _ _ _ _ _ _ _ _ _ _ _ _ _ _ _ _ _ _ HO2 HB
end Go.Proofs.YtcpjdmfnipdecaaDoor
