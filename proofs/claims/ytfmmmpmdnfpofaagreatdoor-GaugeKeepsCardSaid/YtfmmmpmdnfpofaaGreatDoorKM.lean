/-
  The loop of GaugeKeeps over the levels. Conditions: written at the theorem.
-/
import Derived.Test.YtfmmmpmdnfpofaaGreatDoorKL
namespace Go.Proofs.YtfmmmpmdnfpofaaGreatDoor
open Go.RowKit
attribute [local go_sem] Oper.semAt_some

theorem mapI_at (l : List Int) (i : Nat) (h : i < l.length) : (l.map (Value.int .i64))[i]? = some (.int .i64 (l.getD i 0)) := by simp [h]
theorem feq_ne {a b : Nat} (h : feqL a b = true) : (FloatKind.f32.format.order a b == some .eq) = true ∧ (FloatKind.f32.format.order a b != some .eq) = false := by
  unfold feqL at h
  exact ⟨h, by simpa using h⟩
/-- A cell of a list of integers in a world behind. -/
theorem rdI {W V : World} {A : Option Addr} {n c : Nat} {l : List Int} (h : Rd W W.heap.size (.slice A n c) n (l.map (Value.int .i64))) (hl : l.length = n) (hb : Below W.heap.size W V) {k : Nat} (hk : k < n) : ∃ b o, A = some ⟨b, o, none⟩ ∧ V.cell? ⟨b, o + k, none⟩ = some (.int .i64 (l.getD k 0)) := by
  obtain ⟨A', c', e', -, -, hx⟩ := h
  cases e'
  obtain ⟨b, o, rfl, hbb, hc⟩ := hx (by omega)
  exact ⟨b, o, rfl, (hb.cell (p := ⟨b, _, none⟩) hbb).trans ((hc k (by simpa [hl] using hk)).trans (mapI_at l k (by omega)))⟩

set_option maxRecDepth 1000000 in
set_option maxHeartbeats 8000000 in
theorem keeps_l1 (nm : ByteArray) (st : Int) (A A2 A3 AC AD AX AN : Option Addr) (cA cG cU cC cD cX cN n B C : Nat) (bs CB : List Nat) (gs CG : List (Int × Int)) (l : List Ru) (R Z : List Int) (W w : World) (Q0 : Exit → Act → World → Prop)
    (HQ : Hid (W.heap[B]? = some (.cells #[.string nm, .int .i64 st, .slice A n cA, .slice A2 gs.length cG] 25 (0, 0)))) (HC : Hid (W.heap[C]? = some (.cells #[.string nm, .int .i64 st, .slice AC n cC, .slice AD CG.length cD] 35 (0, 0))))
    (RL : Hid (Rd W W.heap.size (.slice A n cA) n (flc bs))) (RG : Hid (Rd W W.heap.size (.slice A2 gs.length cG) gs.length (spc gs))) (RU : Hid (Rd W W.heap.size (.slice A3 l.length cU) l.length (ruc l)))
    (RC : Hid (Rd W W.heap.size (.slice AC n cC) n (flc CB))) (RD : Hid (Rd W W.heap.size (.slice AD CG.length cD) CG.length (spc CG)))
    (RX : Hid (Rd W W.heap.size (.slice AX n cX) n (R.map (Value.int .i64)))) (RN : Hid (Rd W W.heap.size (.slice AN n cN) n (Z.map (Value.int .i64))))
    (HN : Hid (n ≤ 100000 ∧ l.length ≤ 100000 ∧ bs.length = n ∧ CB.length = n ∧ R.length = n ∧ Z.length = n)) (HV : Hid (∀ j, j < n → chkLev (CB.getD j 0) = 0))
    (HP : Hid (∀ i, i < n → 0 ≤ R.getD i 0 ∧ R.getD i 0 ≤ (l.length : Int) ∧ Z.getD i 0 = 0 ∧ ((hasL gs (i : Int) = false ∧ R.getD i 0 = 0 ∧ hasL CG (i : Int) = false ∧ feqL (CB.getD i 0) (bs.getD i 0) = true) ∨ (hasL gs (i : Int) = false ∧ 0 < R.getD i 0 ∧ hasL CG (i : Int) = true ∧ feqL (CB.getD i 0) 0 = true) ∨ (hasL gs (i : Int) = true ∧ R.getD i 0 = 0 ∧ hasL CG (i : Int) = true ∧ feqL (CB.getD i 0) 0 = true))))
    (HG : Hid (∀ i, i < n → hasL CG (i : Int) = false → ∀ q, q < l.length → Asked CB CG i (l.getD q ru0).1 (l.getD q ru0).2.1 (l.getD q ru0).2.2)) (HJ0 : Hid (Below W.heap.size W w))
    {c0 c3 c4 c5 c6 c8 c9 c10 c12 c13 c14 c15 c16 c17 c18 c19 c20 c21 c22 c23 c24 c25 c26 c27 c28 c29 c30 c31 c32 c33 c34 c35 c36 c37 c38 c39 c40 c41 c42 c43 c44 c45 c46 c47 c48 c49 c50 c51 c52 c53 c54 c55 c56 c57 c58 c59 c60 c61 c62 c63 c64 c65 c66 c67 c68 c69 c70 c71 c72 c73 c74 c75 c76 c77 c78 c79 c80 c81 c82 c83 c84 c85 c86 c87 c88 c89 c90 c91 c92 c93 c94 c95 c96 c97 c98 c99 c100 c101 c102 c103 c104 c105 c106 c107 c108 c109 c110 c111 c112 c113 c114 c115 c116 c117 c118 c119 c120 c121 c122 c123 c124 c125 c126 c127 c128 c129 c130 c131 c132 c133 c134 c135 c136 c137 c141 c142 c143 c144 c145 c146 c147 c148 c149 c150 c151 c152 c153 c154 c155 c156 c157 c158 c159 c160 c161 c162 c163 c164 c165 c166 c167 c168 c169 c170 c171 c172 c173 c174 c175 c176 c177 c178 c179 c180 c181 c182 c183 c184 c185 c186 c187 c188 c189 c190 c191 c192 c193 c194 c195 c196 c197 c198 c199 c200 c201 c202 c203 c204 c205 c206 c207 c208 c209 c210 c211 c212 c213 c214 c215 c216 c217 c218 c219 c220 c221 c222 c223 c224 c225 c226 c227 c228 c229 c230 c231 c232 c233 c234 c235 c236 c237 c238 c239 c240 c241 c242 c243 c244 c245 c246 c247 c248 c249 c250 c251 c252 c253 c254 c255 c256 c257 c258 c259 c260 c261 c262 c263 c264 c265 c266 c267 c268 c269 c270 c271 c272 c273 c274 c275 c276 c277 c278 c279 c280 c281 c282 c283 c284 c285 c286 c287 c288 c289 c290 c291 c292 c293 c294 c295 c296 c297 c298 c299 c300 c301 c302 c303 c304 c305 c306 c307 c308 c309 c310 c311 c312 c313 c314 c315 c316 c317 c318 c319 c320 c321 c322 c323 c324 c325 c326 c327 c328 c329 c330 c331 c332 c333 c334 c335 c336 c337 c338 c339 c340 c341 c342 c343 c344 c345 c346 c347 c348 c349 c350 c351 c352 c353 c354 c355 c356 c357 c358 c359 c360 c361 c362 c363 c364 c365 c366 c367 c368 c369 c370 c371 c372 c373 c374 c375 c376 c377 c378 c379 : Value}
    (hexit : ∀ (u4 u13 u14 u15 u16 u17 u18 u19 u20 u21 u22 u140 u141 u142 u143 u144 u145 u146 u147 u148 u149 u150 u151 u152 u153 u154 u155 u156 u157 u158 u159 u160 u161 u162 u163 u164 u165 u166 u167 u168 u169 u170 u171 u172 u173 u174 u175 u176 u177 u178 u179 u180 u181 u182 u183 u184 u185 u186 u187 u188 u189 u190 u191 u192 u193 u194 u195 u196 u197 u198 u199 u200 u201 u202 u203 u204 u205 u206 u207 u208 u209 u210 u211 u212 u213 u214 u215 u216 u217 u218 u219 u220 u221 u222 u223 u224 u225 u226 u227 u228 u229 u230 u231 u232 u233 u234 u235 u236 u237 u238 u239 u240 u241 u242 u243 u244 u245 u246 u247 u248 u249 u250 u251 u252 u253 u254 u255 u256 u257 u258 u259 u260 u261 u262 u263 u264 u265 u266 u267 u268 u269 u270 u271 u272 u273 u274 u275 u276 u277 u278 u279 u280 u281 u282 u283 u284 u285 u286 u287 u288 u289 u290 u291 u292 u293 u294 u295 u296 u297 u298 u299 u300 u301 u302 u303 u304 u305 u306 u307 u308 u309 u310 u311 u312 u313 : Value) (w' : World), Below W.heap.size W w' → Q0 (.exit 0) ⟨List.toArray (c0 :: .slice A3 l.length cU :: .pointer (some ⟨B, 0, none⟩) :: c3 :: u4 :: c5 :: c6 :: .pointer (some ⟨C, 0, none⟩) :: c8 :: c9 :: c10 :: .slice AN n cN :: c12 :: u13 :: u14 :: u15 :: u16 :: u17 :: u18 :: u19 :: u20 :: u21 :: u22 :: c23 :: c24 :: c25 :: c26 :: c27 :: c28 :: c29 :: c30 :: c31 :: c32 :: c33 :: c34 :: c35 :: c36 :: c37 :: c38 :: c39 :: c40 :: c41 :: c42 :: c43 :: c44 :: c45 :: c46 :: c47 :: c48 :: c49 :: c50 :: c51 :: c52 :: c53 :: c54 :: c55 :: c56 :: c57 :: c58 :: c59 :: c60 :: c61 :: c62 :: c63 :: c64 :: c65 :: c66 :: c67 :: c68 :: c69 :: c70 :: c71 :: c72 :: c73 :: c74 :: c75 :: c76 :: c77 :: c78 :: c79 :: c80 :: c81 :: c82 :: c83 :: c84 :: c85 :: c86 :: c87 :: c88 :: c89 :: c90 :: c91 :: c92 :: c93 :: c94 :: c95 :: c96 :: c97 :: c98 :: c99 :: c100 :: c101 :: c102 :: c103 :: c104 :: c105 :: c106 :: c107 :: c108 :: c109 :: c110 :: c111 :: c112 :: c113 :: c114 :: c115 :: c116 :: c117 :: c118 :: c119 :: c120 :: c121 :: c122 :: c123 :: c124 :: c125 :: c126 :: c127 :: c128 :: c129 :: c130 :: c131 :: c132 :: c133 :: c134 :: c135 :: c136 :: c137 :: .slice AX n cX :: .int .i64 n :: u140 :: u141 :: u142 :: u143 :: u144 :: u145 :: u146 :: u147 :: u148 :: u149 :: u150 :: u151 :: u152 :: u153 :: u154 :: u155 :: u156 :: u157 :: u158 :: u159 :: u160 :: u161 :: u162 :: u163 :: u164 :: u165 :: u166 :: u167 :: u168 :: u169 :: u170 :: u171 :: u172 :: u173 :: u174 :: u175 :: u176 :: u177 :: u178 :: u179 :: u180 :: u181 :: u182 :: u183 :: u184 :: u185 :: u186 :: u187 :: u188 :: u189 :: u190 :: u191 :: u192 :: u193 :: u194 :: u195 :: u196 :: u197 :: u198 :: u199 :: u200 :: u201 :: u202 :: u203 :: u204 :: u205 :: u206 :: u207 :: u208 :: u209 :: u210 :: u211 :: u212 :: u213 :: u214 :: u215 :: u216 :: u217 :: u218 :: u219 :: u220 :: u221 :: u222 :: u223 :: u224 :: u225 :: u226 :: u227 :: u228 :: u229 :: u230 :: u231 :: u232 :: u233 :: u234 :: u235 :: u236 :: u237 :: u238 :: u239 :: u240 :: u241 :: u242 :: u243 :: u244 :: u245 :: u246 :: u247 :: u248 :: u249 :: u250 :: u251 :: u252 :: u253 :: u254 :: u255 :: u256 :: u257 :: u258 :: u259 :: u260 :: u261 :: u262 :: u263 :: u264 :: u265 :: u266 :: u267 :: u268 :: u269 :: u270 :: u271 :: u272 :: u273 :: u274 :: u275 :: u276 :: u277 :: u278 :: u279 :: u280 :: u281 :: u282 :: u283 :: u284 :: u285 :: u286 :: u287 :: u288 :: u289 :: u290 :: u291 :: u292 :: u293 :: u294 :: u295 :: u296 :: u297 :: u298 :: u299 :: u300 :: u301 :: u302 :: u303 :: u304 :: u305 :: u306 :: u307 :: u308 :: u309 :: u310 :: u311 :: u312 :: u313 :: c314 :: c315 :: c316 :: c317 :: c318 :: c319 :: c320 :: c321 :: c322 :: c323 :: c324 :: c325 :: c326 :: c327 :: c328 :: c329 :: c330 :: c331 :: c332 :: c333 :: c334 :: c335 :: c336 :: c337 :: c338 :: c339 :: c340 :: c341 :: c342 :: c343 :: c344 :: c345 :: c346 :: c347 :: c348 :: c349 :: c350 :: c351 :: c352 :: c353 :: c354 :: c355 :: c356 :: c357 :: c358 :: c359 :: c360 :: c361 :: c362 :: c363 :: c364 :: c365 :: c366 :: c367 :: c368 :: c369 :: c370 :: c371 :: c372 :: c373 :: c374 :: c375 :: c376 :: c377 :: c378 :: c379 :: []), []⟩ w') :
    Code.wp Tryz.prog (Code.loop kL1) Q0 ⟨List.toArray (c0 :: .slice A3 l.length cU :: .pointer (some ⟨B, 0, none⟩) :: c3 :: c4 :: c5 :: c6 :: .pointer (some ⟨C, 0, none⟩) :: c8 :: c9 :: c10 :: .slice AN n cN :: c12 :: c13 :: c14 :: c15 :: c16 :: c17 :: c18 :: c19 :: c20 :: c21 :: c22 :: c23 :: c24 :: c25 :: c26 :: c27 :: c28 :: c29 :: c30 :: c31 :: c32 :: c33 :: c34 :: c35 :: c36 :: c37 :: c38 :: c39 :: c40 :: c41 :: c42 :: c43 :: c44 :: c45 :: c46 :: c47 :: c48 :: c49 :: c50 :: c51 :: c52 :: c53 :: c54 :: c55 :: c56 :: c57 :: c58 :: c59 :: c60 :: c61 :: c62 :: c63 :: c64 :: c65 :: c66 :: c67 :: c68 :: c69 :: c70 :: c71 :: c72 :: c73 :: c74 :: c75 :: c76 :: c77 :: c78 :: c79 :: c80 :: c81 :: c82 :: c83 :: c84 :: c85 :: c86 :: c87 :: c88 :: c89 :: c90 :: c91 :: c92 :: c93 :: c94 :: c95 :: c96 :: c97 :: c98 :: c99 :: c100 :: c101 :: c102 :: c103 :: c104 :: c105 :: c106 :: c107 :: c108 :: c109 :: c110 :: c111 :: c112 :: c113 :: c114 :: c115 :: c116 :: c117 :: c118 :: c119 :: c120 :: c121 :: c122 :: c123 :: c124 :: c125 :: c126 :: c127 :: c128 :: c129 :: c130 :: c131 :: c132 :: c133 :: c134 :: c135 :: c136 :: c137 :: .slice AX n cX :: .int .i64 n :: .int .i64 0 :: c141 :: c142 :: c143 :: c144 :: c145 :: c146 :: c147 :: c148 :: c149 :: c150 :: c151 :: c152 :: c153 :: c154 :: c155 :: c156 :: c157 :: c158 :: c159 :: c160 :: c161 :: c162 :: c163 :: c164 :: c165 :: c166 :: c167 :: c168 :: c169 :: c170 :: c171 :: c172 :: c173 :: c174 :: c175 :: c176 :: c177 :: c178 :: c179 :: c180 :: c181 :: c182 :: c183 :: c184 :: c185 :: c186 :: c187 :: c188 :: c189 :: c190 :: c191 :: c192 :: c193 :: c194 :: c195 :: c196 :: c197 :: c198 :: c199 :: c200 :: c201 :: c202 :: c203 :: c204 :: c205 :: c206 :: c207 :: c208 :: c209 :: c210 :: c211 :: c212 :: c213 :: c214 :: c215 :: c216 :: c217 :: c218 :: c219 :: c220 :: c221 :: c222 :: c223 :: c224 :: c225 :: c226 :: c227 :: c228 :: c229 :: c230 :: c231 :: c232 :: c233 :: c234 :: c235 :: c236 :: c237 :: c238 :: c239 :: c240 :: c241 :: c242 :: c243 :: c244 :: c245 :: c246 :: c247 :: c248 :: c249 :: c250 :: c251 :: c252 :: c253 :: c254 :: c255 :: c256 :: c257 :: c258 :: c259 :: c260 :: c261 :: c262 :: c263 :: c264 :: c265 :: c266 :: c267 :: c268 :: c269 :: c270 :: c271 :: c272 :: c273 :: c274 :: c275 :: c276 :: c277 :: c278 :: c279 :: c280 :: c281 :: c282 :: c283 :: c284 :: c285 :: c286 :: c287 :: c288 :: c289 :: c290 :: c291 :: c292 :: c293 :: c294 :: c295 :: c296 :: c297 :: c298 :: c299 :: c300 :: c301 :: c302 :: c303 :: c304 :: c305 :: c306 :: c307 :: c308 :: c309 :: c310 :: c311 :: c312 :: c313 :: c314 :: c315 :: c316 :: c317 :: c318 :: c319 :: c320 :: c321 :: c322 :: c323 :: c324 :: c325 :: c326 :: c327 :: c328 :: c329 :: c330 :: c331 :: c332 :: c333 :: c334 :: c335 :: c336 :: c337 :: c338 :: c339 :: c340 :: c341 :: c342 :: c343 :: c344 :: c345 :: c346 :: c347 :: c348 :: c349 :: c350 :: c351 :: c352 :: c353 :: c354 :: c355 :: c356 :: c357 :: c358 :: c359 :: c360 :: c361 :: c362 :: c363 :: c364 :: c365 :: c366 :: c367 :: c368 :: c369 :: c370 :: c371 :: c372 :: c373 :: c374 :: c375 :: c376 :: c377 :: c378 :: c379 :: []), []⟩ w := by
  conv => arg 2; arg 1; whnf
  have HX := hd hexit
  clear hexit
  go_loopw [140] (fun kv wr => ∃ k : Nat, k ≤ n ∧ kv = .int .i64 k ∧ Hid (Below W.heap.size W wr)) (fun kv _ => n - (intOf kv).toNat)
  case atStart => exact ⟨0, Nat.zero_le _, rfl, HJ0⟩
  case round =>
    obtain ⟨k, hk, rfl, HJ⟩ := hrel
    by_cases hlt : k < n
    · have hki : (k : Int) < (n : Int) := by omega
      have HLT := hd (show k < n ∧ n ≤ 100000 from ⟨hlt, HN.out.1⟩)
      have hnn : n ≤ 100000 := HN.out.1
      obtain ⟨nk, hnk⟩ : ∃ n, n = R.getD k 0 := ⟨_, rfl⟩
      obtain ⟨xb, xo, rfl, hx0⟩ := rdI RX.out HN.out.2.2.2.2.1 HJ.out hlt
      rw [← hnk] at hx0
      have HNK := hd hnk
      clear hnk
      have hq := (HJ.out.block _ (blk_lt HQ.out)).trans HQ.out
      have hc := (HJ.out.block _ (blk_lt HC.out)).trans HC.out
      have FK : ∀ p : Bw wr, p.out.cell? ⟨B, 3, none⟩ = some (.slice A2 gs.length cG) := fun p => p.cell (blk_lt hq) (blk_cell hq 3)
      have FD3 : ∀ p : Bw wr, p.out.cell? ⟨C, 3, none⟩ = some (.slice AD CG.length cD) := fun p => p.cell (blk_lt hc) (blk_cell hc 3)
      have HH1 := hd (fun p : Bw wr => has_any (.slice A2 gs.length cG) gs (k : Int) p.out ((RG.out.below (HJ.out.trans (p.below.mono HJ.out.size)) (Nat.le_refl _)).mono (HJ.out.trans (p.below.mono HJ.out.size)).size))
      have HH2 := hd (fun p : Bw wr => has_any (.slice AD CG.length cD) CG (k : Int) p.out ((RD.out.below (HJ.out.trans (p.below.mono HJ.out.size)) (Nat.le_refl _)).mono (HJ.out.trans (p.below.mono HJ.out.size)).size))
      clear hq hc
      go_wp2_with fail
      refine wp_region_bw (by kernel_rfl) (by kernel_rfl) ?_
      repeat (first | go_big_quiet_step (fail))
      go_big_quiet_step (first | (go_at_call 16; exact Bw.pure _ (HH1.out _)))
      repeat (first | go_big_quiet_step (fail))
      go_big_quiet_step (first | (go_at_call 16; exact Bw.pure _ (HH2.out _)))
      repeat (first | go_big_quiet_step (fail))
      refine wpQuiet_nil ?_
      rintro ⟨w2, hb⟩
      change Exit.then _ _ _ _ w2
      have HJ2 := hd (HJ.out.trans (hb.mono HJ.out.size))
      clear hb HJ FK FD3 HH1 HH2 hx0
      have hq := (HJ2.out.block _ (blk_lt HQ.out)).trans HQ.out
      have hc := (HJ2.out.block _ (blk_lt HC.out)).trans HC.out
      have k2 := blk_cell hq 2
      have d2 := blk_cell hc 2
      have d3 := blk_cell hc 3
      simp at k2 d2 d3
      clear hq hc
      obtain ⟨hp1, hp2, hp3, hp⟩ := HP.out k hlt
      rw [← HNK.out] at hp1 hp2 hp
      obtain ⟨zb, zo, rfl, hz0⟩ := rdI RN.out HN.out.2.2.2.2.2 HJ2.out hlt
      rw [hp3] at hz0
      obtain ⟨yb, yo, rfl, hy0⟩ := rdL2 RC.out HN.out.2.2.2.1 HJ2.out hlt
      obtain ⟨lb, lo, rfl, hl0⟩ := rdL2 RL.out HN.out.2.2.1 HJ2.out hlt
      obtain ⟨y, hy⟩ : ∃ y, y = CB.getD k 0 := ⟨_, rfl⟩
      obtain ⟨x, hx⟩ : ∃ x, x = bs.getD k 0 := ⟨_, rfl⟩
      rw [← hy] at hy0 hp
      rw [← hx] at hl0 hp
      clear hp3 hx
      have HYK := hd hy
      clear hy
      rcases hp with ⟨e1, e2, e3, e4⟩ | ⟨e1, e2, e3, e4⟩ | ⟨e1, e2, e3, e4⟩
      · subst e2
        rw [show (!hasL gs (k : Int)) = true from by rw [e1]; rfl, show (!hasL CG (k : Int)) = true from by rw [e3]; rfl]
        obtain ⟨q1, q2⟩ := feq_ne e4
        have HE3 := hd e3
        clear e1 e3 e4 hp1 hp2
        have hln2 : decide ((l.length : Int) < 0) = false := by simp
        have FK2 : ∀ p : Bw w2, p.out.cell? ⟨B, 2, none⟩ = some (.slice (some ⟨lb, lo, none⟩) n cA) := fun p => p.cell (World.block_lt_of_cell? _ _ k2) k2
        have FD2 : ∀ p : Bw w2, p.out.cell? ⟨C, 2, none⟩ = some (.slice (some ⟨yb, yo, none⟩) n cC) := fun p => p.cell (World.block_lt_of_cell? _ _ d2) d2
        have FZ : ∀ p : Bw w2, p.out.cell? ⟨zb, zo + k, none⟩ = some (.int .i64 0) := fun p => p.cell (World.block_lt_of_cell? _ _ hz0) hz0
        have FY : ∀ p : Bw w2, p.out.cell? ⟨yb, yo + k, none⟩ = some (.float .f32 y) := fun p => p.cell (World.block_lt_of_cell? _ _ hy0) hy0
        have FX : ∀ p : Bw w2, p.out.cell? ⟨lb, lo + k, none⟩ = some (.float .f32 x) := fun p => p.cell (World.block_lt_of_cell? _ _ hl0) hl0
        clear k2 d2 d3 hz0 hy0 hl0
        go_wp2_with fail
        refine wp_region_bw (by kernel_rfl) (by kernel_rfl) ?_
        repeat (first | go_big_quiet_step (fail))
        try rw [hln2]
        repeat (first | go_big_quiet_step (fail))
        refine wpQuiet_nil ?_
        rintro ⟨w3, hb⟩
        change Exit.then _ _ _ _ w3
        have HJ3 := hd (HJ2.out.trans (hb.mono HJ2.out.size))
        have d2 := FD2 ⟨w3, hb⟩
        have hy0 := FY ⟨w3, hb⟩
        dsimp only at d2 hy0
        clear hb FK2 FD2 FZ FY FX HJ2
        obtain ⟨x8, y8, v1, v2, v3⟩ := sixt_run (by rw [HYK.out]; exact HV.out k HLT.out.1 : chkLev y = 0)
        have hc1 := fun w => run_convert_float_float (P := Tryz.prog) w 44 45 .f32 .f64 y x8 (by kernel_rfl) Tryz.underlying45 v1
        have hc2 := fun w => run_float_arith (P := Tryz.prog) w .mul 45 .f64 4625196817309499392 x8 y8 v2
        have hc3 := fun w => run_convert_float_int (P := Tryz.prog) w 45 3 .f64 .i64 y8 (s16 y) (by kernel_rfl) Tryz.underlying3 v3
        clear v1 v2 v3 q1 q2
        go_wp2_with fail
        have hyk := HYK.out
        subst hyk
        clear hc1 hc2 hc3
        refine keeps_l2 nm st _ AD A3 cC cD cU n C k CB CG l _ _ _ HC RC RD RU (hd ⟨HN.out.2.2.2.1, HLT.out.1, HLT.out.2, HN.out.2.1⟩) HV (hd (HG.out k HLT.out.1 HE3.out)) HJ3 ?_
        intro u4 u19 u20 u21 u22 u227 u228 u229 u230 u231 u232 u233 u234 u235 u236 u237 u238 u239 u240 u241 u242 u243 u244 u245 u246 u247 u248 u249 u250 u251 u252 u253 u254 u255 u256 u257 u258 u259 u260 u261 u262 u263 u264 u265 u266 u267 u268 u269 u270 u271 u272 u273 u274 u275 u276 u277 u278 u279 u280 u281 u282 u283 u284 u285 u286 u287 u288 u289 u290 u291 u292 u293 u294 u295 u296 u297 u298 u299 u300 u301 u302 u303 u304 u305 u306 u307 u308 u309 u310 u311 u312 w5 hb5
        have HJ5 := hd hb5
        clear hb5
        go_wp2
        go_roundw
        case rel => exact ⟨k + 1, by have := HLT.out; omega, by have := HLT.out; go_num, HJ5⟩
        case measure => have := HLT.out; simp [intOf]; omega
      · rw [show (!hasL gs (k : Int)) = true from by rw [e1]; rfl, show (!hasL CG (k : Int)) = false from by rw [e3]; rfl]
        obtain ⟨q1, q2⟩ := feq_ne e4
        have f1 : decide (nk < 0) = false := by simp; omega
        have f2 : decide ((l.length : Int) < nk) = false := by simp; omega
        have f3 : decide (0 < nk) = true := by simp; omega
        have f4 : (nk == 0) = false := by simp; omega
        have f5 : decide (nk = 0) = false := by simp; omega
        clear e1 e3 e4 hp1 hp2 e2
        have FK2 : ∀ p : Bw w2, p.out.cell? ⟨B, 2, none⟩ = some (.slice (some ⟨lb, lo, none⟩) n cA) := fun p => p.cell (World.block_lt_of_cell? _ _ k2) k2
        have FD2 : ∀ p : Bw w2, p.out.cell? ⟨C, 2, none⟩ = some (.slice (some ⟨yb, yo, none⟩) n cC) := fun p => p.cell (World.block_lt_of_cell? _ _ d2) d2
        have FZ : ∀ p : Bw w2, p.out.cell? ⟨zb, zo + k, none⟩ = some (.int .i64 0) := fun p => p.cell (World.block_lt_of_cell? _ _ hz0) hz0
        have FY : ∀ p : Bw w2, p.out.cell? ⟨yb, yo + k, none⟩ = some (.float .f32 y) := fun p => p.cell (World.block_lt_of_cell? _ _ hy0) hy0
        have FX : ∀ p : Bw w2, p.out.cell? ⟨lb, lo + k, none⟩ = some (.float .f32 x) := fun p => p.cell (World.block_lt_of_cell? _ _ hl0) hl0
        clear k2 d2 d3 hz0 hy0 hl0
        go_wp2_with fail
        refine wp_region_bw (by kernel_rfl) (by kernel_rfl) ?_
        repeat (first | go_big_quiet_step (fail))
        try rw [f1]
        repeat (first | go_big_quiet_step (fail))
        try rw [f2]
        repeat (first | go_big_quiet_step (fail))
        try rw [f3]
        repeat (first | go_big_quiet_step (fail))
        try rw [f4]
        repeat (first | go_big_quiet_step (fail))
        try rw [f5]
        repeat (first | go_big_quiet_step (fail))
        refine wpQuiet_nil ?_
        rintro ⟨w3, hb⟩
        change Exit.then _ _ _ _ w3
        have HJ3 := hd (HJ2.out.trans (hb.mono HJ2.out.size))
        have d2 := FD2 ⟨w3, hb⟩
        have hy0 := FY ⟨w3, hb⟩
        dsimp only at d2 hy0
        clear hb FK2 FD2 FZ FY FX HJ2
        go_wp2
        go_roundw
        case rel => exact ⟨k + 1, by have := HLT.out; omega, by have := HLT.out; go_num, HJ3⟩
        case measure => have := HLT.out; simp [intOf]; omega
      · subst e2
        rw [show (!hasL gs (k : Int)) = false from by rw [e1]; rfl, show (!hasL CG (k : Int)) = false from by rw [e3]; rfl]
        obtain ⟨q1, q2⟩ := feq_ne e4
        have hln2 : decide ((l.length : Int) < 0) = false := by simp
        clear e1 e3 e4 hp1 hp2
        have FK2 : ∀ p : Bw w2, p.out.cell? ⟨B, 2, none⟩ = some (.slice (some ⟨lb, lo, none⟩) n cA) := fun p => p.cell (World.block_lt_of_cell? _ _ k2) k2
        have FD2 : ∀ p : Bw w2, p.out.cell? ⟨C, 2, none⟩ = some (.slice (some ⟨yb, yo, none⟩) n cC) := fun p => p.cell (World.block_lt_of_cell? _ _ d2) d2
        have FZ : ∀ p : Bw w2, p.out.cell? ⟨zb, zo + k, none⟩ = some (.int .i64 0) := fun p => p.cell (World.block_lt_of_cell? _ _ hz0) hz0
        have FY : ∀ p : Bw w2, p.out.cell? ⟨yb, yo + k, none⟩ = some (.float .f32 y) := fun p => p.cell (World.block_lt_of_cell? _ _ hy0) hy0
        have FX : ∀ p : Bw w2, p.out.cell? ⟨lb, lo + k, none⟩ = some (.float .f32 x) := fun p => p.cell (World.block_lt_of_cell? _ _ hl0) hl0
        clear k2 d2 d3 hz0 hy0 hl0
        go_wp2_with fail
        refine wp_region_bw (by kernel_rfl) (by kernel_rfl) ?_
        repeat (first | go_big_quiet_step (fail))
        try rw [hln2]
        repeat (first | go_big_quiet_step (fail))
        refine wpQuiet_nil ?_
        rintro ⟨w3, hb⟩
        change Exit.then _ _ _ _ w3
        have HJ3 := hd (HJ2.out.trans (hb.mono HJ2.out.size))
        have d2 := FD2 ⟨w3, hb⟩
        have hy0 := FY ⟨w3, hb⟩
        dsimp only at d2 hy0
        clear hb FK2 FD2 FZ FY FX HJ2
        go_wp2
        go_roundw
        case rel => exact ⟨k + 1, by have := HLT.out; omega, by have := HLT.out; go_num, HJ3⟩
        case measure => have := HLT.out; simp [intOf]; omega
    · have hki : ¬ (k : Int) < (n : Int) := by omega
      go_wp2
      exact HX.out _ _ _ _ _ _ _ _ _ _ _ _ _ _ _ _ _ _ _ _ _ _ _ _ _ _ _ _ _ _ _ _ _ _ _ _ _ _ _ _ _ _ _ _ _ _ _ _ _ _ _ _ _ _ _ _ _ _ _ _ _ _ _ _ _ _ _ _ _ _ _ _ _ _ _ _ _ _ _ _ _ _ _ _ _ _ _ _ _ _ _ _ _ _ _ _ _ _ _ _ _ _ _ _ _ _ _ _ _ _ _ _ _ _ _ _ _ _ _ _ _ _ _ _ _ _ _ _ _ _ _ _ _ _ _ _ _ _ _ _ _ _ _ _ _ _ _ _ _ _ _ _ _ _ _ _ _ _ _ _ _ _ _ _ _ _ _ _ _ _ _ _ _ _ _ _ _ _ _ _ _ _ _ _ _ _ HJ.out
end Go.Proofs.YtfmmmpmdnfpofaaGreatDoor
