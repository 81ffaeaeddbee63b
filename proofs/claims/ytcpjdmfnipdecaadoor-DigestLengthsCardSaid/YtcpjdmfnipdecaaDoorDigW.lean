/- The reference's Sum: the words of a block. -/
import Derived.Test.YtcpjdmfnipdecaaDoorDigS
import Derived.Test.YtcpjdmfnipdecaaDoorDigH
import Derived.Deep.RegionHeld3
namespace Go.Proofs.YtcpjdmfnipdecaaDoor
set_option linter.all false
open Go.RowKit DigP

/-- The loops of a function's text, outer ones first. -/
def loopsOf : Code → List Code
  | .loop c => c :: loopsOf c
  | .seq a b => loopsOf a ++ loopsOf b
  | .block _ c => loopsOf c
  | .scope c => loopsOf c
  | .cond _ a b => loopsOf a ++ loopsOf b
  | _ => []
/-- No panic. -/
def noPanic (Q : Exit → Act → World → Prop) : Exit → Act → World → Prop := fun e a w => match e with
  | .panic _ => False
  | e => Q e a w
theorem noPanic_mono {Q : Exit → Act → World → Prop} (e : Exit) (a : Act) (w : World) (h : noPanic Q e a w) : Q e a w := by
  cases e <;> first | exact h | exact h.elim
theorem step_append_numD {S E : TypeId} {k : IntKind} {by_ : Nat} (hT : NumT Tryd.prog S E k by_)
    {ops : Array Oper} {o : Oper} {a : Act} {K : Act → World → Prop} {Q : Exit → Act → World → Prop} {F : Prop} (d : Option Tmp) (hd : o.dst = d) (hgd : o.guard = none) (s x : Operand)
    (ho : o.op = .call { callee := .builtin .append, args := #[s, x], argTypes := #[S, S] })
    (B : Nat) (w W : World) (v : Value) (l : List Nat) (hs : a.eval s = v) (hown : OwnN E k W B v l) (v2 : Value) (cs : List Nat) (hx : a.eval x = v2) (hsrc : RowIn W v2 (numVals k cs))
    (hl : l.length ≤ 1000000000) (hcs : cs.length ≤ 1000000000) (hB : B ≤ W.heap.size) (hbel : Below B w W)
    (h : ∀ v' w', OwnN E k w' B v' (l ++ cs) → Below B w w' → K (a.put d v') w') : if Region.wanted o (yielded ops a.tmps) = true then Oper.wp Tryd.prog o a W K Q else F := by
  subst hd
  exact step_append_num hT hgd s x ho B w W v l hs hown v2 cs hx hsrc hl hcs hB hbel fun v' w' h1 h2 _ => h v' w' h1 h2
noncomputable def refLoops : List Code := loopsOf (Tryd.f10.body.getD .skip)

set_option maxRecDepth 1000000 in
set_option maxHeartbeats 8000000 in
theorem sumLoop4 (c0 c1 c2 c3 c4 c6 c7 c8 c9 c13 c14 c15 c16 c17 c18 c19 c20 c21 c22 c23 c24 c25 c26 c27 c28 c29 c30 c31 c32 c33 c34 c35 c36 c37 c38 c39 c40 c41 c42 c43 c44 c45 c46 c47 c48 c49 c50 c51 c52 c53 c54 c55 c56 c57 c58 c59 c60 c61 c62 c63 c64 c65 c66 c67 c68 c69 c70 c71 c72 c73 c74 c75 c76 c77 c78 c79 c80 c81 c82 c83 c84 c85 c86 c87 c88 c89 c90 c91 c92 c93 c94 c95 c96 c97 c98 c99 c100 c101 c102 c103 c104 c105 c106 c107 c108 c109 c110 c111 c112 c113 c114 c115 c116 c117 c118 c119 c120 c121 c122 c123 c124 c125 c126 c127 c128 c129 c130 c131 c132 c133 c134 c135 c136 c137 c138 c139 c140 c141 c142 c143 c144 c145 c146 c147 c148 c149 c150 c151 c152 c153 c154 c155 c156 c157 c158 c159 c160 c161 c162 c163 c164 c165 c166 c167 c168 c169 c170 c171 c172 c173 c174 c175 c176 c177 c178 c179 c180 c181 c182 c183 c184 c185 c186 c187 c188 c189 c190 c191 c192 c193 c194 c195 c196 c197 c198 c199 c200 c201 c202 c203 c204 c205 c206 c207 c208 c209 c210 c211 c212 c213 c214 c215 c216 c217 c218 c219 c220 c221 c222 c223 c224 c225 c226 c227 c228 c229 c230 c231 c232 c233 c234 c235 c236 c237 c238 c239 c240 c241 c242 c243 c244 c245 c246 c247 c248 c249 c250 c251 c252 c253 c254 c255 c256 c257 c258 c259 c260 c261 c262 c263 c264 c265 c266 c267 c268 c269 c270 c271 c272 c273 c274 c275 c276 c277 c278 c279 c280 c281 c282 c283 c284 c285 c286 c287 c288 c289 c290 c291 c292 c293 c294 c295 c296 c297 c298 c299 c300 c301 c302 c303 c304 c305 c306 c307 c308 c309 c310 c311 c312 c313 c314 c315 c316 c317 c318 c319 c320 c321 c322 c323 c324 c325 c326 c327 c328 c329 c330 c331 : Value) (g5 nb c5v a : Nat) (PB BK : List Nat) (w : World) (Q0 : Exit → Act → World → Prop)
    (HP : Hid (Rd w g5 .u8 PB)) (g5w : g5 < w.heap.size) (HPll : Hid (∀ _ : Unit, PB.length = nb)) (HPs : Hid (∀ _ : Unit, Small PB)) (hPn : a + 64 ≤ nb) (hnb : nb ≤ 128000) (Hbk : Hid (∀ i, i < 64 → BK.getD i 0 = PB.getD (a + i) 0)) (HWw : Hid (∀ _ : Unit, Words 16 (words16 BK)))
    (hexit : ∀ (v11 u13 u79 u80 u81 u82 u83 u84 u85 u86 u87 u88 u89 u90 u91 u92 u93 u94 u95 u96 u97 u98 u99 u100 u101 u102 u103 u104 u105 u106 u107 u108 u109 u110 u111 u112 u113 u114 u115 u116 u117 u118 : Value) (wr : World), Hid (OwnN 37 .u32 wr w.heap.size v11 (words16 BK)) → Hid (Below w.heap.size w wr) → Q0 (.exit 6) ⟨(c0 :: c1 :: c2 :: c3 :: c4 :: .slice (some ⟨g5, 0, none⟩) nb c5v :: c6 :: c7 :: c8 :: c9 :: .int .i64 (a : Int) :: v11 :: .int .i64 16 :: u13 :: c14 :: c15 :: c16 :: c17 :: c18 :: c19 :: c20 :: c21 :: c22 :: c23 :: c24 :: c25 :: c26 :: c27 :: c28 :: c29 :: c30 :: c31 :: c32 :: c33 :: c34 :: c35 :: c36 :: c37 :: c38 :: c39 :: c40 :: c41 :: c42 :: c43 :: c44 :: c45 :: c46 :: c47 :: c48 :: c49 :: c50 :: c51 :: c52 :: c53 :: c54 :: c55 :: c56 :: c57 :: c58 :: c59 :: c60 :: c61 :: c62 :: c63 :: c64 :: c65 :: c66 :: c67 :: c68 :: c69 :: c70 :: c71 :: c72 :: c73 :: c74 :: c75 :: c76 :: c77 :: c78 :: u79 :: u80 :: u81 :: u82 :: u83 :: u84 :: u85 :: u86 :: u87 :: u88 :: u89 :: u90 :: u91 :: u92 :: u93 :: u94 :: u95 :: u96 :: u97 :: u98 :: u99 :: u100 :: u101 :: u102 :: u103 :: u104 :: u105 :: u106 :: u107 :: u108 :: u109 :: u110 :: u111 :: u112 :: u113 :: u114 :: u115 :: u116 :: u117 :: u118 :: c119 :: c120 :: c121 :: c122 :: c123 :: c124 :: c125 :: c126 :: c127 :: c128 :: c129 :: c130 :: c131 :: c132 :: c133 :: c134 :: c135 :: c136 :: c137 :: c138 :: c139 :: c140 :: c141 :: c142 :: c143 :: c144 :: c145 :: c146 :: c147 :: c148 :: c149 :: c150 :: c151 :: c152 :: c153 :: c154 :: c155 :: c156 :: c157 :: c158 :: c159 :: c160 :: c161 :: c162 :: c163 :: c164 :: c165 :: c166 :: c167 :: c168 :: c169 :: c170 :: c171 :: c172 :: c173 :: c174 :: c175 :: c176 :: c177 :: c178 :: c179 :: c180 :: c181 :: c182 :: c183 :: c184 :: c185 :: c186 :: c187 :: c188 :: c189 :: c190 :: c191 :: c192 :: c193 :: c194 :: c195 :: c196 :: c197 :: c198 :: c199 :: c200 :: c201 :: c202 :: c203 :: c204 :: c205 :: c206 :: c207 :: c208 :: c209 :: c210 :: c211 :: c212 :: c213 :: c214 :: c215 :: c216 :: c217 :: c218 :: c219 :: c220 :: c221 :: c222 :: c223 :: c224 :: c225 :: c226 :: c227 :: c228 :: c229 :: c230 :: c231 :: c232 :: c233 :: c234 :: c235 :: c236 :: c237 :: c238 :: c239 :: c240 :: c241 :: c242 :: c243 :: c244 :: c245 :: c246 :: c247 :: c248 :: c249 :: c250 :: c251 :: c252 :: c253 :: c254 :: c255 :: c256 :: c257 :: c258 :: c259 :: c260 :: c261 :: c262 :: c263 :: c264 :: c265 :: c266 :: c267 :: c268 :: c269 :: c270 :: c271 :: c272 :: c273 :: c274 :: c275 :: c276 :: c277 :: c278 :: c279 :: c280 :: c281 :: c282 :: c283 :: c284 :: c285 :: c286 :: c287 :: c288 :: c289 :: c290 :: c291 :: c292 :: c293 :: c294 :: c295 :: c296 :: c297 :: c298 :: c299 :: c300 :: c301 :: c302 :: c303 :: c304 :: c305 :: c306 :: c307 :: c308 :: c309 :: c310 :: c311 :: c312 :: c313 :: c314 :: c315 :: c316 :: c317 :: c318 :: c319 :: c320 :: c321 :: c322 :: c323 :: c324 :: c325 :: c326 :: c327 :: c328 :: c329 :: c330 :: c331 :: []).toArray, []⟩ wr) :
    Code.wp Tryd.prog (Code.loop (refLoops.getD 3 .skip)) (noPanic Q0) ⟨(c0 :: c1 :: c2 :: c3 :: c4 :: .slice (some ⟨g5, 0, none⟩) nb c5v :: c6 :: c7 :: c8 :: c9 :: .int .i64 (a : Int) :: .slice none 0 0 :: .int .i64 0 :: c13 :: c14 :: c15 :: c16 :: c17 :: c18 :: c19 :: c20 :: c21 :: c22 :: c23 :: c24 :: c25 :: c26 :: c27 :: c28 :: c29 :: c30 :: c31 :: c32 :: c33 :: c34 :: c35 :: c36 :: c37 :: c38 :: c39 :: c40 :: c41 :: c42 :: c43 :: c44 :: c45 :: c46 :: c47 :: c48 :: c49 :: c50 :: c51 :: c52 :: c53 :: c54 :: c55 :: c56 :: c57 :: c58 :: c59 :: c60 :: c61 :: c62 :: c63 :: c64 :: c65 :: c66 :: c67 :: c68 :: c69 :: c70 :: c71 :: c72 :: c73 :: c74 :: c75 :: c76 :: c77 :: c78 :: c79 :: c80 :: c81 :: c82 :: c83 :: c84 :: c85 :: c86 :: c87 :: c88 :: c89 :: c90 :: c91 :: c92 :: c93 :: c94 :: c95 :: c96 :: c97 :: c98 :: c99 :: c100 :: c101 :: c102 :: c103 :: c104 :: c105 :: c106 :: c107 :: c108 :: c109 :: c110 :: c111 :: c112 :: c113 :: c114 :: c115 :: c116 :: c117 :: c118 :: c119 :: c120 :: c121 :: c122 :: c123 :: c124 :: c125 :: c126 :: c127 :: c128 :: c129 :: c130 :: c131 :: c132 :: c133 :: c134 :: c135 :: c136 :: c137 :: c138 :: c139 :: c140 :: c141 :: c142 :: c143 :: c144 :: c145 :: c146 :: c147 :: c148 :: c149 :: c150 :: c151 :: c152 :: c153 :: c154 :: c155 :: c156 :: c157 :: c158 :: c159 :: c160 :: c161 :: c162 :: c163 :: c164 :: c165 :: c166 :: c167 :: c168 :: c169 :: c170 :: c171 :: c172 :: c173 :: c174 :: c175 :: c176 :: c177 :: c178 :: c179 :: c180 :: c181 :: c182 :: c183 :: c184 :: c185 :: c186 :: c187 :: c188 :: c189 :: c190 :: c191 :: c192 :: c193 :: c194 :: c195 :: c196 :: c197 :: c198 :: c199 :: c200 :: c201 :: c202 :: c203 :: c204 :: c205 :: c206 :: c207 :: c208 :: c209 :: c210 :: c211 :: c212 :: c213 :: c214 :: c215 :: c216 :: c217 :: c218 :: c219 :: c220 :: c221 :: c222 :: c223 :: c224 :: c225 :: c226 :: c227 :: c228 :: c229 :: c230 :: c231 :: c232 :: c233 :: c234 :: c235 :: c236 :: c237 :: c238 :: c239 :: c240 :: c241 :: c242 :: c243 :: c244 :: c245 :: c246 :: c247 :: c248 :: c249 :: c250 :: c251 :: c252 :: c253 :: c254 :: c255 :: c256 :: c257 :: c258 :: c259 :: c260 :: c261 :: c262 :: c263 :: c264 :: c265 :: c266 :: c267 :: c268 :: c269 :: c270 :: c271 :: c272 :: c273 :: c274 :: c275 :: c276 :: c277 :: c278 :: c279 :: c280 :: c281 :: c282 :: c283 :: c284 :: c285 :: c286 :: c287 :: c288 :: c289 :: c290 :: c291 :: c292 :: c293 :: c294 :: c295 :: c296 :: c297 :: c298 :: c299 :: c300 :: c301 :: c302 :: c303 :: c304 :: c305 :: c306 :: c307 :: c308 :: c309 :: c310 :: c311 :: c312 :: c313 :: c314 :: c315 :: c316 :: c317 :: c318 :: c319 :: c320 :: c321 :: c322 :: c323 :: c324 :: c325 :: c326 :: c327 :: c328 :: c329 :: c330 :: c331 :: []).toArray, []⟩ w := by
  conv => arg 2; arg 1; whnf
  go_loopw [11, 12] (fun v i wr => ∃ k : Nat, k ≤ 16 ∧ i = .int .i64 (k : Int) ∧ Hid (OwnN 37 .u32 wr w.heap.size v ((words16 BK).take k)) ∧ Hid (Below w.heap.size w wr)) (fun _ i _ => 16 - (intOf i).toNat)
  case atStart => exact ⟨0, Nat.zero_le _, rfl, OwnN.nil _ _ _ _, Below.refl _ _⟩
  case round =>
    obtain ⟨k, hk, rfl, HO, HB⟩ := hrel
    by_cases hk16 : k < 16
    · clear hexit
      obtain ⟨p, hp⟩ : ∃ p, p = a + 4 * k := ⟨_, rfl⟩
      have k2 : (a : Int) + 4 * (k : Int) = (p : Int) := by omega
      have k3 := i64_small (z := 4 * (k : Int)) (by omega) (by omega)
      have k4 := i64_small (z := (p : Int)) (by omega) (by omega)
      have k5 := i64_small (z := (p : Int) + 1) (by omega) (by omega)
      have k6 := i64_small (z := (p : Int) + 2) (by omega) (by omega)
      have k7 := i64_small (z := (p : Int) + 3) (by omega) (by omega)
      have HPk := Lib.hid (HP.out.below HB.out g5w)
      obtain ⟨z0, hz0⟩ : ∃ c, c = PB.getD p 0 := ⟨_, rfl⟩
      obtain ⟨z1, hz1⟩ : ∃ c, c = PB.getD (p + 1) 0 := ⟨_, rfl⟩
      obtain ⟨z2, hz2⟩ : ∃ c, c = PB.getD (p + 2) 0 := ⟨_, rfl⟩
      obtain ⟨z3, hz3⟩ : ∃ c, c = PB.getD (p + 3) 0 := ⟨_, rfl⟩
      have l0 : wr.cell? ⟨g5, p, none⟩ = some (.int .u8 (z0 : Int)) := by rw [hz0]; exact HPk.out p (by rw [HPll.out ()]; omega)
      have l1 : wr.cell? ⟨g5, p + 1, none⟩ = some (.int .u8 (z1 : Int)) := by rw [hz1]; exact HPk.out (p + 1) (by rw [HPll.out ()]; omega)
      have l2 : wr.cell? ⟨g5, p + 2, none⟩ = some (.int .u8 (z2 : Int)) := by rw [hz2]; exact HPk.out (p + 2) (by rw [HPll.out ()]; omega)
      have l3 : wr.cell? ⟨g5, p + 3, none⟩ = some (.int .u8 (z3 : Int)) := by rw [hz3]; exact HPk.out (p + 3) (by rw [HPll.out ()]; omega)
      have b0 : z0 < 256 := by rw [hz0]; exact HPs.out () _
      have b1 : z1 < 256 := by rw [hz1]; exact HPs.out () _
      have b2 : z2 < 256 := by rw [hz2]; exact HPs.out () _
      have b3 : z3 < 256 := by rw [hz3]; exact HPs.out () _
      obtain ⟨m0, hm0⟩ : ∃ m, m = z0 * 16777216 := ⟨_, rfl⟩
      obtain ⟨m1, hm1⟩ : ∃ m, m = z1 * 65536 := ⟨_, rfl⟩
      obtain ⟨m2, hm2⟩ : ∃ m, m = z2 * 256 := ⟨_, rfl⟩
      obtain ⟨s1, hs1⟩ : ∃ m, m = m0 + m1 := ⟨_, rfl⟩
      obtain ⟨s2, hs2⟩ : ∃ m, m = s1 + m2 := ⟨_, rfl⟩
      obtain ⟨y, hy⟩ : ∃ m, m = s2 + z3 := ⟨_, rfl⟩
      have Hy := Lib.hid (fun (_ : Unit) => show y = wordB BK k by
        rw [wordB_sum, Hbk.out _ (by omega), Hbk.out _ (by omega), Hbk.out _ (by omega), Hbk.out _ (by omega), show a + 4 * k = p from hp.symm, show a + (4 * k + 1) = p + 1 by omega, show a + (4 * k + 2) = p + 2 by omega, show a + (4 * k + 3) = p + 3 by omega, ← hz0, ← hz1, ← hz2, ← hz3]
        omega)
      have f0 : (z0 : Int) % 4294967296 = (z0 : Int) := by omega
      have f1 : (z1 : Int) % 4294967296 = (z1 : Int) := by omega
      have f2 : (z2 : Int) % 4294967296 = (z2 : Int) := by omega
      have f3 : (z3 : Int) % 4294967296 = (z3 : Int) := by omega
      have f4 : (z0 : Int) * 16777216 = (m0 : Int) := by omega
      have f5 : (z1 : Int) * 65536 = (m1 : Int) := by omega
      have f6 : (z2 : Int) * 256 = (m2 : Int) := by omega
      have f7 : (m0 : Int) % 4294967296 = (m0 : Int) := by omega
      have f8 : (m1 : Int) % 4294967296 = (m1 : Int) := by omega
      have f9 : (m2 : Int) % 4294967296 = (m2 : Int) := by omega
      have f10 : (m0 : Int) + (m1 : Int) = (s1 : Int) := by omega
      have f11 : (s1 : Int) + (m2 : Int) = (s2 : Int) := by omega
      have f12 : (s2 : Int) + (z3 : Int) = (y : Int) := by omega
      have f13 : (s1 : Int) % 4294967296 = (s1 : Int) := by omega
      have f14 : (s2 : Int) % 4294967296 = (s2 : Int) := by omega
      have f15 : (y : Int) % 4294967296 = (y : Int) := by omega
      have fw0 : IntKind.u32.wrap (z0 : Int) = (z0 : Int) := by rw [IntKind.wrap_u32']; omega
      have fw1 : IntKind.u32.wrap (z1 : Int) = (z1 : Int) := by rw [IntKind.wrap_u32']; omega
      have fw2 : IntKind.u32.wrap (z2 : Int) = (z2 : Int) := by rw [IntKind.wrap_u32']; omega
      have fw3 : IntKind.u32.wrap (z3 : Int) = (z3 : Int) := by rw [IntKind.wrap_u32']; omega
      have fw4 : IntKind.u32.wrap (m0 : Int) = (m0 : Int) := by rw [IntKind.wrap_u32']; omega
      have fw5 : IntKind.u32.wrap (m1 : Int) = (m1 : Int) := by rw [IntKind.wrap_u32']; omega
      have fw6 : IntKind.u32.wrap (m2 : Int) = (m2 : Int) := by rw [IntKind.wrap_u32']; omega
      have fw7 : IntKind.u32.wrap (s1 : Int) = (s1 : Int) := by rw [IntKind.wrap_u32']; omega
      have fw8 : IntKind.u32.wrap (s2 : Int) = (s2 : Int) := by rw [IntKind.wrap_u32']; omega
      have fw9 : IntKind.u32.wrap (y : Int) = (y : Int) := by rw [IntKind.wrap_u32']; omega
      have hp0 : p < nb := by omega
      have hp1 : p + 1 < nb := by omega
      have hp2 : p + 2 < nb := by omega
      have hp3 : p + 3 < nb := by omega
      have hi1 : (p : Int) + 1 < (nb : Int) := by omega
      have hi2 : (p : Int) + 2 < (nb : Int) := by omega
      have hi3 : (p : Int) + 3 < (nb : Int) := by omega
      have hj1 : (0 : Int) ≤ (p : Int) + 1 := by omega
      have hj2 : (0 : Int) ≤ (p : Int) + 2 := by omega
      have hj3 : (0 : Int) ≤ (p : Int) + 3 := by omega
      have ht1 : ((p : Int) + 1).toNat = p + 1 := by omega
      have ht2 : ((p : Int) + 2).toNat = p + 2 := by omega
      have ht3 : ((p : Int) + 3).toNat = p + 3 := by omega
      have Ht := Lib.hid (fun (_ : Unit) => show (words16 BK).take (k + 1) = (words16 BK).take k ++ [y] by
        rw [take_succ_getD _ _ (by rw [(HWw.out ()).1]; exact hk16), Hy.out ()]; simp [words16, hk16])
      have Hll := Lib.hid (fun (_ : Unit) => show ((words16 BK).take k).length ≤ 1000000000 by rw [List.length_take]; omega)
      have Hsrc := Lib.hid (show RowIn (wr.alloc (.cells #[.int .u32 (y : Int)] 37)).drew (.slice (some ⟨wr.heap.size, 0, none⟩) 1 1) (numVals .u32 [y]) from rowIn_block wr .u32 [y] 37 (by simp))
      have Hd := Lib.hid (show w.heap.size ≤ (wr.alloc (.cells #[.int .u32 (y : Int)] 37)).drew.heap.size by have := HB.out.size; show _ ≤ (wr.heap.push _).size; simp; omega)
      have Hbb := Lib.hid (show Below w.heap.size w (wr.alloc (.cells #[.int .u32 (y : Int)] 37)).drew from (HB.out.alloc HB.out.size _).drew)
      have HOx := Lib.hid ((HO.out.alloc (.cells #[.int .u32 (y : Int)] 37)).drew)
      have HS4 : Hid (∀ w', Below w.heap.size w w' → w'.cell? ⟨g5, p, none⟩ = some (.int .u8 (z0 : Int)) ∧ w'.cell? ⟨g5, p + 1, none⟩ = some (.int .u8 (z1 : Int)) ∧ w'.cell? ⟨g5, p + 2, none⟩ = some (.int .u8 (z2 : Int)) ∧ w'.cell? ⟨g5, p + 3, none⟩ = some (.int .u8 (z3 : Int))) := Lib.hid fun w' hb => by
        have h := HP.out.below hb g5w
        rw [hz0, hz1, hz2, hz3]
        exact ⟨h p (by rw [HPll.out ()]; omega), h (p + 1) (by rw [HPll.out ()]; omega), h (p + 2) (by rw [HPll.out ()]; omega), h (p + 3) (by rw [HPll.out ()]; omega)⟩
      clear hp hz0 hz1 hz2 hz3 hm0 hm1 hm2 hs1 hs2 hy b0 b1 b2 b3 HO HB HPk HP HPll HPs Hbk HWw Hy
      go_wp2_with fail
      go_region_held3 (fun w' => w'.cell? ⟨g5, p, none⟩ = some (.int .u8 (z0 : Int)) ∧ w'.cell? ⟨g5, p + 1, none⟩ = some (.int .u8 (z1 : Int)) ∧ w'.cell? ⟨g5, p + 2, none⟩ = some (.int .u8 (z2 : Int)) ∧ w'.cell? ⟨g5, p + 3, none⟩ = some (.int .u8 (z3 : Int))) (first | exact ⟨l0, l1, l2, l3⟩ | exact HS4.out _ Hbb.out | exact HS4.out _ (Hid.out (by assumption))) (first | (refine step_append_numD Tryd.numU32 (some 118) rfl rfl _ _ rfl w.heap.size w ((wr.alloc (.cells #[.int .u32 (y : Int)] 37)).drew) u11 ((words16 BK).take k) rfl HOx.out (.slice (some ⟨wr.heap.size, 0, none⟩) 1 1) [y] rfl Hsrc.out (Hll.out ()) (by simp) Hd.out Hbb.out ?_; intro v' w2 hown hb2; have HO2 := Lib.hid hown; have HB2 := Lib.hid hb2; clear hown hb2))
      all_goals
        go_wp2
        go_roundw
        case rel => exact ⟨k + 1, by omega, by go_num, by rw [Ht.out ()]; exact HO2.out, HB2.out⟩
        case measure => simp [intOf]; omega
    · obtain rfl : k = 16 := by omega
      rw [show ((16 : Nat) : Int) = 16 from rfl]
      have HO2 : Hid (OwnN 37 .u32 wr w.heap.size u11 (words16 BK)) := by
        have := HO.out
        rwa [List.take_of_length_le (by rw [(HWw.out ()).1]; exact Nat.le_refl _)] at this
      go_wp2
      exact hexit _ _ _ _ _ _ _ _ _ _ _ _ _ _ _ _ _ _ _ _ _ _ _ _ _ _ _ _ _ _ _ _ _ _ _ _ _ _ _ _ _ _ _ HO2 HB
end Go.Proofs.YtcpjdmfnipdecaaDoor
