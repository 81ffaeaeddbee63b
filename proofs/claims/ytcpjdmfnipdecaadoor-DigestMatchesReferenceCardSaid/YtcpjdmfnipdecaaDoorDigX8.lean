/- The reference's Sum: the bytes. -/
import Derived.Test.YtcpjdmfnipdecaaDoorDigS
import Derived.Test.YtcpjdmfnipdecaaDoorDigH
import Derived.Test.YtcpjdmfnipdecaaDoorDigW
import Derived.StillTailTactics
import Derived.Deep.RegionHeld3
import Derived.Test.YtcpjdmfnipdecaaDoorNumL
namespace Go.Proofs.YtcpjdmfnipdecaaDoor
set_option linter.all false
open Go.RowKit DigP


theorem byteAt (S : List Nat) (k j : Nat) (hj : j < 4) : S.getD ((4 * k + j) / 4) 0 / 2 ^ (24 - 8 * ((4 * k + j) % 4)) % 256 = S.getD k 0 / 2 ^ (24 - 8 * j) % 256 := by
  rw [show (4 * k + j) / 4 = k by omega, show (4 * k + j) % 4 = j by omega]
theorem four_bytes (S : List Nat) (k : Nat) (hk : k < 8) :
    ((((padTo 32 ((bytesS S).take (4 * k))).set (4 * k) (S.getD k 0 / 16777216 % 256)).set (4 * k + 1) (S.getD k 0 / 65536 % 256)).set (4 * k + 2) (S.getD k 0 / 256 % 256)).set (4 * k + 3) (S.getD k 0 % 256) = padTo 32 ((bytesS S).take (4 * (k + 1))) := by
  have h0 := bytes_step S (i := 4 * k) (by omega)
  have h1 := bytes_step S (i := 4 * k + 1) (by omega)
  have h2 := bytes_step S (i := 4 * k + 2) (by omega)
  have h3 := bytes_step S (i := 4 * k + 3) (by omega)
  have b0 := byteAt S k 0 (by decide)
  rw [Nat.add_zero] at b0
  rw [b0] at h0
  rw [byteAt S k 1 (by decide)] at h1
  rw [byteAt S k 2 (by decide)] at h2
  rw [byteAt S k 3 (by decide)] at h3
  have e0 : (2 : Nat) ^ (24 - 8 * 0) = 16777216 := by decide
  have e1 : (2 : Nat) ^ (24 - 8 * 1) = 65536 := by decide
  have e2 : (2 : Nat) ^ (24 - 8 * 2) = 256 := by decide
  have e3 : (2 : Nat) ^ (24 - 8 * 3) = 1 := by decide
  rw [e0] at h0
  rw [e1] at h1
  rw [e2] at h2
  rw [e3, Nat.div_one] at h3
  rw [h0, h1, h2, h3]
  congr 2
set_option maxRecDepth 1000000 in
set_option maxHeartbeats 16000000 in
theorem sumLoop8 (c0 c1 c2 c3 c4 c5 c6 c8 c9 c10 c11 c12 c13 c14 c15 c16 c17 c18 c19 c20 c21 c22 c23 c24 c25 c28 c29 c30 c31 c32 c33 c34 c35 c36 c37 c38 c39 c40 c41 c42 c43 c44 c45 c46 c47 c48 c49 c50 c51 c52 c53 c54 c55 c56 c57 c58 c59 c60 c61 c62 c63 c64 c65 c66 c67 c68 c69 c70 c71 c72 c73 c74 c75 c76 c77 c78 c79 c80 c81 c82 c83 c84 c85 c86 c87 c88 c89 c90 c91 c92 c93 c94 c95 c96 c97 c98 c99 c100 c101 c102 c103 c104 c105 c106 c107 c108 c109 c110 c111 c112 c113 c114 c115 c116 c117 c118 c119 c120 c121 c122 c123 c124 c125 c126 c127 c128 c129 c130 c131 c132 c133 c134 c135 c136 c137 c138 c139 c140 c141 c142 c143 c144 c145 c146 c147 c148 c149 c150 c151 c152 c153 c154 c155 c156 c157 c158 c159 c160 c161 c162 c163 c164 c165 c166 c167 c168 c169 c170 c171 c172 c173 c174 c175 c176 c177 c178 c179 c180 c181 c182 c183 c184 c185 c186 c187 c188 c189 c190 c191 c192 c193 c194 c195 c196 c197 c198 c199 c200 c201 c202 c203 c204 c205 c206 c207 c208 c209 c210 c211 c212 c213 c214 c215 c216 c217 c218 c219 c220 c221 c222 c223 c224 c225 c226 c227 c228 c229 c230 c231 c232 c233 c234 c235 c236 c237 c238 c239 c240 c241 c242 c243 c244 c245 c246 c247 c248 c249 c250 c251 c252 c253 c254 c255 c256 c257 c258 c259 c260 c261 c262 c263 c264 c265 c266 c267 c268 c269 c270 c271 c272 c273 c274 c275 c276 c277 c278 c279 c280 c281 c282 c283 c284 c285 c286 c287 c288 c289 c290 c291 c292 c293 c294 c295 c296 c297 c298 c299 c300 c301 c302 c303 c304 c305 c306 c307 c308 c309 c310 c311 c312 c313 c314 c315 c316 c317 c318 c319 c320 c321 c322 c323 c324 c325 c326 c327 c328 c329 c330 c331 : Value) (gv go scv : Nat) (S : List Nat) (w : World) (Q0 : Exit → Act → World → Prop)
    (HS8 : Hid (∀ _ : Unit, Words 8 S)) (HR0 : Hid (Rd w gv .u32 S)) (HA0 : Hid (At w go .u8 (List.replicate 32 0))) (hcv : 8 ≤ scv) (Hne : Hid (∀ _ : Unit, gv ≠ go))
    (hexit : ∀ (u286 u287 u288 u289 u290 u291 u292 u293 u294 u295 u296 u297 u298 u299 u300 u301 u302 u303 u304 u305 u306 u307 u308 u309 u310 u311 u312 u313 u314 u315 u316 u317 u318 u319 u320 u321 u322 u323 u324 u325 u326 u327 u328 u329 u330 : Value) (wr : World), Hid (At wr go .u8 (bytesS S)) → Hid (Below go w wr) → Q0 (.exit 14) ⟨(c0 :: c1 :: c2 :: c3 :: c4 :: c5 :: c6 :: .slice (some ⟨gv, 0, none⟩) 8 scv :: c8 :: c9 :: c10 :: c11 :: c12 :: c13 :: c14 :: c15 :: c16 :: c17 :: c18 :: c19 :: c20 :: c21 :: c22 :: c23 :: c24 :: c25 :: .pointer (some ⟨go, 0, none⟩) :: .int .i64 8 :: c28 :: c29 :: c30 :: c31 :: c32 :: c33 :: c34 :: c35 :: c36 :: c37 :: c38 :: c39 :: c40 :: c41 :: c42 :: c43 :: c44 :: c45 :: c46 :: c47 :: c48 :: c49 :: c50 :: c51 :: c52 :: c53 :: c54 :: c55 :: c56 :: c57 :: c58 :: c59 :: c60 :: c61 :: c62 :: c63 :: c64 :: c65 :: c66 :: c67 :: c68 :: c69 :: c70 :: c71 :: c72 :: c73 :: c74 :: c75 :: c76 :: c77 :: c78 :: c79 :: c80 :: c81 :: c82 :: c83 :: c84 :: c85 :: c86 :: c87 :: c88 :: c89 :: c90 :: c91 :: c92 :: c93 :: c94 :: c95 :: c96 :: c97 :: c98 :: c99 :: c100 :: c101 :: c102 :: c103 :: c104 :: c105 :: c106 :: c107 :: c108 :: c109 :: c110 :: c111 :: c112 :: c113 :: c114 :: c115 :: c116 :: c117 :: c118 :: c119 :: c120 :: c121 :: c122 :: c123 :: c124 :: c125 :: c126 :: c127 :: c128 :: c129 :: c130 :: c131 :: c132 :: c133 :: c134 :: c135 :: c136 :: c137 :: c138 :: c139 :: c140 :: c141 :: c142 :: c143 :: c144 :: c145 :: c146 :: c147 :: c148 :: c149 :: c150 :: c151 :: c152 :: c153 :: c154 :: c155 :: c156 :: c157 :: c158 :: c159 :: c160 :: c161 :: c162 :: c163 :: c164 :: c165 :: c166 :: c167 :: c168 :: c169 :: c170 :: c171 :: c172 :: c173 :: c174 :: c175 :: c176 :: c177 :: c178 :: c179 :: c180 :: c181 :: c182 :: c183 :: c184 :: c185 :: c186 :: c187 :: c188 :: c189 :: c190 :: c191 :: c192 :: c193 :: c194 :: c195 :: c196 :: c197 :: c198 :: c199 :: c200 :: c201 :: c202 :: c203 :: c204 :: c205 :: c206 :: c207 :: c208 :: c209 :: c210 :: c211 :: c212 :: c213 :: c214 :: c215 :: c216 :: c217 :: c218 :: c219 :: c220 :: c221 :: c222 :: c223 :: c224 :: c225 :: c226 :: c227 :: c228 :: c229 :: c230 :: c231 :: c232 :: c233 :: c234 :: c235 :: c236 :: c237 :: c238 :: c239 :: c240 :: c241 :: c242 :: c243 :: c244 :: c245 :: c246 :: c247 :: c248 :: c249 :: c250 :: c251 :: c252 :: c253 :: c254 :: c255 :: c256 :: c257 :: c258 :: c259 :: c260 :: c261 :: c262 :: c263 :: c264 :: c265 :: c266 :: c267 :: c268 :: c269 :: c270 :: c271 :: c272 :: c273 :: c274 :: c275 :: c276 :: c277 :: c278 :: c279 :: c280 :: c281 :: c282 :: c283 :: c284 :: c285 :: u286 :: u287 :: u288 :: u289 :: u290 :: u291 :: u292 :: u293 :: u294 :: u295 :: u296 :: u297 :: u298 :: u299 :: u300 :: u301 :: u302 :: u303 :: u304 :: u305 :: u306 :: u307 :: u308 :: u309 :: u310 :: u311 :: u312 :: u313 :: u314 :: u315 :: u316 :: u317 :: u318 :: u319 :: u320 :: u321 :: u322 :: u323 :: u324 :: u325 :: u326 :: u327 :: u328 :: u329 :: u330 :: c331 :: []).toArray, []⟩ wr) :
    Code.wp Tryd.prog (Code.loop (refLoops.getD 7 .skip)) (noPanic Q0) ⟨(c0 :: c1 :: c2 :: c3 :: c4 :: c5 :: c6 :: .slice (some ⟨gv, 0, none⟩) 8 scv :: c8 :: c9 :: c10 :: c11 :: c12 :: c13 :: c14 :: c15 :: c16 :: c17 :: c18 :: c19 :: c20 :: c21 :: c22 :: c23 :: c24 :: c25 :: .pointer (some ⟨go, 0, none⟩) :: .int .i64 0 :: c28 :: c29 :: c30 :: c31 :: c32 :: c33 :: c34 :: c35 :: c36 :: c37 :: c38 :: c39 :: c40 :: c41 :: c42 :: c43 :: c44 :: c45 :: c46 :: c47 :: c48 :: c49 :: c50 :: c51 :: c52 :: c53 :: c54 :: c55 :: c56 :: c57 :: c58 :: c59 :: c60 :: c61 :: c62 :: c63 :: c64 :: c65 :: c66 :: c67 :: c68 :: c69 :: c70 :: c71 :: c72 :: c73 :: c74 :: c75 :: c76 :: c77 :: c78 :: c79 :: c80 :: c81 :: c82 :: c83 :: c84 :: c85 :: c86 :: c87 :: c88 :: c89 :: c90 :: c91 :: c92 :: c93 :: c94 :: c95 :: c96 :: c97 :: c98 :: c99 :: c100 :: c101 :: c102 :: c103 :: c104 :: c105 :: c106 :: c107 :: c108 :: c109 :: c110 :: c111 :: c112 :: c113 :: c114 :: c115 :: c116 :: c117 :: c118 :: c119 :: c120 :: c121 :: c122 :: c123 :: c124 :: c125 :: c126 :: c127 :: c128 :: c129 :: c130 :: c131 :: c132 :: c133 :: c134 :: c135 :: c136 :: c137 :: c138 :: c139 :: c140 :: c141 :: c142 :: c143 :: c144 :: c145 :: c146 :: c147 :: c148 :: c149 :: c150 :: c151 :: c152 :: c153 :: c154 :: c155 :: c156 :: c157 :: c158 :: c159 :: c160 :: c161 :: c162 :: c163 :: c164 :: c165 :: c166 :: c167 :: c168 :: c169 :: c170 :: c171 :: c172 :: c173 :: c174 :: c175 :: c176 :: c177 :: c178 :: c179 :: c180 :: c181 :: c182 :: c183 :: c184 :: c185 :: c186 :: c187 :: c188 :: c189 :: c190 :: c191 :: c192 :: c193 :: c194 :: c195 :: c196 :: c197 :: c198 :: c199 :: c200 :: c201 :: c202 :: c203 :: c204 :: c205 :: c206 :: c207 :: c208 :: c209 :: c210 :: c211 :: c212 :: c213 :: c214 :: c215 :: c216 :: c217 :: c218 :: c219 :: c220 :: c221 :: c222 :: c223 :: c224 :: c225 :: c226 :: c227 :: c228 :: c229 :: c230 :: c231 :: c232 :: c233 :: c234 :: c235 :: c236 :: c237 :: c238 :: c239 :: c240 :: c241 :: c242 :: c243 :: c244 :: c245 :: c246 :: c247 :: c248 :: c249 :: c250 :: c251 :: c252 :: c253 :: c254 :: c255 :: c256 :: c257 :: c258 :: c259 :: c260 :: c261 :: c262 :: c263 :: c264 :: c265 :: c266 :: c267 :: c268 :: c269 :: c270 :: c271 :: c272 :: c273 :: c274 :: c275 :: c276 :: c277 :: c278 :: c279 :: c280 :: c281 :: c282 :: c283 :: c284 :: c285 :: c286 :: c287 :: c288 :: c289 :: c290 :: c291 :: c292 :: c293 :: c294 :: c295 :: c296 :: c297 :: c298 :: c299 :: c300 :: c301 :: c302 :: c303 :: c304 :: c305 :: c306 :: c307 :: c308 :: c309 :: c310 :: c311 :: c312 :: c313 :: c314 :: c315 :: c316 :: c317 :: c318 :: c319 :: c320 :: c321 :: c322 :: c323 :: c324 :: c325 :: c326 :: c327 :: c328 :: c329 :: c330 :: c331 :: []).toArray, []⟩ w := by
  conv => arg 2; arg 1; whnf
  go_loopw [27] (fun i wr => ∃ k : Nat, k ≤ 8 ∧ i = .int .i64 (k : Int) ∧ Hid (At wr go .u8 (padTo 32 ((bytesS S).take (4 * k)))) ∧ Hid (Rd wr gv .u32 S) ∧ Hid (Below go w wr)) (fun i _ => 8 - (intOf i).toNat)
  case atStart => exact ⟨0, Nat.zero_le _, rfl, by show At w go .u8 (padTo 32 []); exact HA0.out, HR0.out, Below.refl _ _⟩
  case round =>
    clear HA0 HR0
    obtain ⟨k, hk, rfl, HA, HR, HB⟩ := hrel
    by_cases hlt : k < 8
    · clear hexit
      obtain ⟨x, hx⟩ : ∃ x, x = S.getD k 0 := ⟨_, rfl⟩
      have Hst := Lib.hid (fun (_ : Unit) => four_bytes S k hlt)
      rw [← hx] at Hst
      have hxb : x < 4294967296 := by rw [hx]; exact (HS8.out ()).2 k hlt
      have l0 : wr.cell? ⟨gv, k, none⟩ = some (.int .u32 (x : Int)) := by rw [hx]; exact HR.out k (by rw [(HS8.out ()).1]; exact hlt)
      obtain ⟨p, hp⟩ : ∃ p, p = 4 * k := ⟨_, rfl⟩
      rw [← hp] at Hst HA
      obtain ⟨l, hl⟩ : ∃ l, l = padTo 32 ((bytesS S).take p) := ⟨_, rfl⟩
      rw [← hl] at Hst HA
      have hln : l.length = 32 := by rw [hl]; exact padTo_len (by rw [List.length_take, bytesS_len]; omega)
      obtain ⟨p1, hp1⟩ : ∃ q, q = p + 1 := ⟨_, rfl⟩
      obtain ⟨p2, hp2⟩ : ∃ q, q = p + 2 := ⟨_, rfl⟩
      obtain ⟨p3, hp3⟩ : ∃ q, q = p + 3 := ⟨_, rfl⟩
      rw [← hp1, ← hp2, ← hp3] at Hst
      obtain ⟨y0, hy0⟩ : ∃ q, q = x / 16777216 := ⟨_, rfl⟩
      obtain ⟨y1, hy1⟩ : ∃ q, q = x / 65536 := ⟨_, rfl⟩
      obtain ⟨y2, hy2⟩ : ∃ q, q = x / 256 := ⟨_, rfl⟩
      obtain ⟨z0, hz0⟩ : ∃ q, q = y0 % 256 := ⟨_, rfl⟩
      obtain ⟨z1, hz1⟩ : ∃ q, q = y1 % 256 := ⟨_, rfl⟩
      obtain ⟨z2, hz2⟩ : ∃ q, q = y2 % 256 := ⟨_, rfl⟩
      obtain ⟨z3, hz3⟩ : ∃ q, q = x % 256 := ⟨_, rfl⟩
      rw [← hy0, ← hy1, ← hy2, ← hz0, ← hz1, ← hz2, ← hz3] at Hst
      have a0 : (x : Int) / 16777216 = (y0 : Int) := by omega
      have a1 : (x : Int) / 65536 = (y1 : Int) := by omega
      have a2 : (x : Int) / 256 = (y2 : Int) := by omega
      have a3 : (y0 : Int) % 4294967296 = (y0 : Int) := by omega
      have a4 : (y1 : Int) % 4294967296 = (y1 : Int) := by omega
      have a5 : (y2 : Int) % 4294967296 = (y2 : Int) := by omega
      have a6 : (y0 : Int) % 256 = (z0 : Int) := by omega
      have a7 : (y1 : Int) % 256 = (z1 : Int) := by omega
      have a8 : (y2 : Int) % 256 = (z2 : Int) := by omega
      have a9 : (x : Int) % 256 = (z3 : Int) := by omega
      have b1 : (z1 : Int) % 256 = (z1 : Int) := by omega
      have b2 : (z2 : Int) % 256 = (z2 : Int) := by omega
      have b3 : (z3 : Int) % 256 = (z3 : Int) := by omega
      have b4 : (z1 : Int) % 4294967296 = (z1 : Int) := by omega
      have b5 : (z2 : Int) % 4294967296 = (z2 : Int) := by omega
      have b6 : (z3 : Int) % 4294967296 = (z3 : Int) := by omega
      have i0 : 4 * (k : Int) = (p : Int) := by omega
      have i1 : (p : Int) + 1 = (p1 : Int) := by omega
      have i2 : (p : Int) + 2 = (p2 : Int) := by omega
      have i3 : (p : Int) + 3 = (p3 : Int) := by omega
      have j0 : p < 32 := by omega
      have j1 : p1 < 32 := by omega
      have j2 : p2 < 32 := by omega
      have j3 : p3 < 32 := by omega
      have A0 := HA.out
      have A1 := A0.put (i := p) (by omega) z0 rfl
      have A2 := A1.put (i := p1) (by rw [List.length_set]; omega) z1 rfl
      have A3 := A2.put (i := p2) (by rw [List.length_set, List.length_set]; omega) z2 rfl
      have A4 := A3.put (i := p3) (by rw [List.length_set, List.length_set, List.length_set]; omega) z3 rfl
      have m0 := A0.cell (i := p) (by omega)
      have m1 := A1.cell (i := p1) (by rw [List.length_set]; omega)
      have m2 := A2.cell (i := p2) (by rw [List.length_set, List.length_set]; omega)
      have m3 := A3.cell (i := p3) (by rw [List.length_set, List.length_set, List.length_set]; omega)
      have n0 := A0.free (i := p) (by omega)
      have n1 := A1.free (i := p1) (by rw [List.length_set]; omega)
      have n2 := A2.free (i := p2) (by rw [List.length_set, List.length_set]; omega)
      have n3 := A3.free (i := p3) (by rw [List.length_set, List.length_set, List.length_set]; omega)
      have g1 := HR.out.other ⟨go, p, none⟩ (.int .u8 (z0 : Int)) (Hne.out ())
      have g2 := g1.other ⟨go, p1, none⟩ (.int .u8 (z1 : Int)) (Hne.out ())
      have g3 := g2.other ⟨go, p2, none⟩ (.int .u8 (z2 : Int)) (Hne.out ())
      have g4 := g3.other ⟨go, p3, none⟩ (.int .u8 (z3 : Int)) (Hne.out ())
      have hk8 : k < S.length := by rw [(HS8.out ()).1]; exact hlt
      have l1 := g1 k hk8
      have l2 := g2 k hk8
      have l3 := g3 k hk8
      rw [← hx] at l1 l2 l3
      have HB4 := Lib.hid ((((HB.out.setCell (p := ⟨go, p, none⟩) (Nat.le_refl _) (.int .u8 (z0 : Int))).setCell (p := ⟨go, p1, none⟩) (Nat.le_refl _) (.int .u8 (z1 : Int))).setCell (p := ⟨go, p2, none⟩) (Nat.le_refl _) (.int .u8 (z2 : Int))).setCell (p := ⟨go, p3, none⟩) (Nat.le_refl _) (.int .u8 (z3 : Int)))
      have HA4 := Lib.hid (Hst.out () ▸ A4)
      have HR4 := Lib.hid g4
      generalize l.getD p 0 = s0 at m0
      generalize (l.set p z0).getD p1 0 = s1 at m1
      generalize ((l.set p z0).set p1 z1).getD p2 0 = s2 at m2
      generalize (((l.set p z0).set p1 z1).set p2 z2).getD p3 0 = s3 at m3
      clear hx hxb hp hl hln hp1 hp2 hp3 hy0 hy1 hy2 hz0 hz1 hz2 hz3 A0 A1 A2 A3 A4 g1 g2 g3 g4 hk8 HA HR HB Hst HS8
      go_wp2
      go_roundw
      case rel => exact ⟨k + 1, by omega, by go_num, HA4.out, HR4.out, HB4.out⟩
      case measure => simp [intOf]; omega
    · obtain rfl : k = 8 := by omega
      rw [show ((8 : Nat) : Int) = 8 from rfl]
      have HA2 : Hid (At wr go .u8 (bytesS S)) := by
        have h := HA.out
        rwa [show 4 * 8 = 32 from rfl, List.take_of_length_le (by rw [bytesS_len]; exact Nat.le_refl _), padTo_full (bytesS_len S)] at h
      go_wp2
      exact hexit _ _ _ _ _ _ _ _ _ _ _ _ _ _ _ _ _ _ _ _ _ _ _ _ _ _ _ _ _ _ _ _ _ _ _ _ _ _ _ _ _ _ _ _ _ _ HA2 HB
end Go.Proofs.YtcpjdmfnipdecaaDoor
