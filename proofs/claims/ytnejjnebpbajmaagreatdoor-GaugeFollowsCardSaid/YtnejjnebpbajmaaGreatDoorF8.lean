/-
  The loops of GaugeFollows over the high waters. Conditions: written at the theorems.
-/
import Derived.Test.YtnejjnebpbajmaaGreatDoorF4
namespace Go.Proofs.YtnejjnebpbajmaaGreatDoor
open Go.RowKit
attribute [local go_sem] Oper.semAt_some

/-- That one of the first high waters is as high as the greatest level. -/
def topB (bs : List Nat) (H : List Int) (hx k : Nat) : Bool := (List.range k).any fun j => feqL (bs.getD (H.getD j 0).toNat 0) hx
theorem topB_succ (bs : List Nat) (H : List Int) (hx k : Nat) : topB bs H hx (k + 1) = (topB bs H hx k || feqL (bs.getD (H.getD k 0).toNat 0) hx) := by simp [topB, List.range_succ]
theorem rdIf {W V : World} {A : Option Addr} {c : Nat} {l : List Int} (h : Rd W W.heap.size (.slice A l.length c) l.length (l.map (Value.int .i64))) (hb : Below W.heap.size W V) {k : Nat} (hk : k < l.length) : ∃ b o, A = some ⟨b, o, none⟩ ∧ V.cell? ⟨b, o + k, none⟩ = some (.int .i64 (l.getD k 0)) := by
  obtain ⟨A', c', e', -, -, hx⟩ := h
  cases e'
  obtain ⟨b, o, rfl, hbb, hc⟩ := hx (by omega)
  exact ⟨b, o, rfl, (hb.cell (p := ⟨b, _, none⟩) hbb).trans ((hc k (by simpa using hk)).trans (by simp [hk]))⟩

set_option maxRecDepth 1000000 in
set_option maxHeartbeats 8000000 in
theorem follows_l6 (nm : ByteArray) (st : Int) (A A2 : Option Addr) (cA cG n B wd m j0 : Nat) (bs : List Nat) (gs : List (Int × Int)) (W w : World) (Q0 : Exit → Act → World → Prop)
    (HQ : Hid (W.heap[B]? = some (.cells #[.string nm, .int .i64 st, .slice A n cA, .slice A2 gs.length cG] 25 (0, 0))))
    (RL : Hid (Rd W W.heap.size (.slice A n cA) n (flc bs))) (RG : Hid (Rd W W.heap.size (.slice A2 gs.length cG) gs.length (spc gs)))
    (HN : Hid (n ≤ 100000 ∧ bs.length = n ∧ m < n ∧ wd ≤ 100000 ∧ j0 ≤ m ∧ m ≤ j0 + wd))
    (HP : Hid (∀ q : Nat, q < n → hasL gs (q : Int) = false → m ≤ q + wd → q ≤ m + wd → fgt (bs.getD q 0) (bs.getD m 0) = false)) (HJ0 : Hid (Below W.heap.size W w))
    {c0 c1 c3 c4 c5 c7 c8 c9 c10 c11 c12 c13 c14 c15 c16 c17 c18 c19 c20 c21 c22 c23 c24 c25 c26 c27 c28 c29 c30 c31 c32 c33 c34 c35 c38 c39 c40 c41 c42 c43 c44 c45 c46 c47 c48 c49 c50 c51 c52 c53 c54 c55 c56 c57 c58 c59 c60 c61 c62 c63 c64 c65 c66 c67 c68 c69 c70 c71 c72 c73 c74 c75 c76 c77 c78 c79 c80 c81 c82 c83 c84 c85 c86 c87 c88 c89 c90 c91 c92 c93 c94 c95 c96 c97 c98 c99 c100 c101 c102 c103 c104 c105 c106 c107 c108 c109 c110 c111 c112 c113 c114 c115 c116 c117 c118 c119 c120 c121 c122 c123 c124 c125 c126 c127 c128 c129 c130 c131 c132 c133 c134 c135 c136 c137 c138 c139 c140 c141 c142 c143 c144 c145 c146 c147 c148 c149 c150 c151 c152 c153 c154 c155 c156 c157 c158 c159 c160 c161 c162 c163 c164 c165 c166 c167 c168 c169 c170 c171 c172 c173 c174 c175 c176 c177 c178 c179 c180 c181 c182 c183 c184 c185 c186 c187 c188 c189 c190 c191 c192 c193 c194 c195 c196 c197 c198 c199 c200 c201 c202 c203 c204 c205 c206 c207 c208 c209 c210 c211 c212 c213 c214 c215 c216 c217 c218 c219 c220 c221 c222 c223 c224 c225 c226 c227 c228 c229 c230 c231 c232 c233 c234 c235 c236 c237 c238 c239 c240 c241 c242 c243 c244 c245 c246 c247 c248 c249 c250 c251 c252 c253 c254 c255 c256 c257 c258 c259 c260 c261 c262 c263 c264 c265 c266 c267 c268 c269 c270 c271 c272 c273 c274 c275 c276 c277 c278 c279 c280 c281 c282 c283 c284 c285 c286 c287 c288 c289 c290 c291 c292 c293 c294 c295 c296 c297 c298 c299 c300 c301 c302 c303 c304 c305 c306 c307 c308 c309 c310 c311 c312 c313 c314 c315 c316 c317 c318 c319 c320 c321 c322 c323 c324 c325 c326 c327 c328 c329 c330 c331 c332 c333 c334 c335 c336 c337 c338 c339 c340 c341 c342 c343 c344 c345 c346 c347 c348 c349 c350 c351 c352 c353 c354 c355 c356 c357 c358 c359 c360 c361 c362 c363 c364 c365 c366 c367 c368 c369 c370 c371 c372 c373 c374 c375 c376 c377 c378 c379 c380 c381 c382 c383 c384 c385 c386 c387 c388 c389 c390 c391 c392 c393 c394 c395 c396 c397 c398 c399 c400 c401 c402 c403 c404 c405 c406 c407 c408 c409 c410 c411 c412 c413 c414 c415 c416 c417 c418 c419 c420 c421 c422 c423 c424 c425 c426 c427 c428 c429 c430 c431 c432 c433 c434 c435 c436 c437 c438 c439 c440 c441 c442 c443 c444 c445 c446 c447 c448 c449 c450 c451 c452 c453 c454 c455 c456 c457 c458 c459 c460 c461 c462 c463 c464 c465 c466 c467 c468 c469 c470 c471 c472 c473 c474 c475 c476 c477 c478 c479 c480 c481 c482 c483 c484 c485 c486 c487 c488 c489 c490 c491 c492 c493 c494 c495 c496 c497 c498 c499 c500 c501 c502 c503 : Value}
    (hexit : ∀ (u4 u37 u461 u462 u463 u464 u465 u466 u467 u468 u469 u470 u471 u472 u473 u474 u475 u476 u477 u478 u479 u480 u481 u482 u483 u484 u485 u486 u487 u488 u489 u490 : Value) (w' : World), Below W.heap.size W w' → Q0 (.exit 10) ⟨List.toArray (c0 :: c1 :: .pointer (some ⟨B, 0, none⟩) :: c3 :: u4 :: c5 :: .int .i64 wd :: c7 :: c8 :: c9 :: c10 :: c11 :: c12 :: c13 :: c14 :: c15 :: c16 :: c17 :: c18 :: c19 :: c20 :: c21 :: c22 :: c23 :: c24 :: c25 :: c26 :: c27 :: c28 :: c29 :: c30 :: c31 :: c32 :: c33 :: c34 :: c35 :: .int .i64 m :: u37 :: c38 :: c39 :: c40 :: c41 :: c42 :: c43 :: c44 :: c45 :: c46 :: c47 :: c48 :: c49 :: c50 :: c51 :: c52 :: c53 :: c54 :: c55 :: c56 :: c57 :: c58 :: c59 :: c60 :: c61 :: c62 :: c63 :: c64 :: c65 :: c66 :: c67 :: c68 :: c69 :: c70 :: c71 :: c72 :: c73 :: c74 :: c75 :: c76 :: c77 :: c78 :: c79 :: c80 :: c81 :: c82 :: c83 :: c84 :: c85 :: c86 :: c87 :: c88 :: c89 :: c90 :: c91 :: c92 :: c93 :: c94 :: c95 :: c96 :: c97 :: c98 :: c99 :: c100 :: c101 :: c102 :: c103 :: c104 :: c105 :: c106 :: c107 :: c108 :: c109 :: c110 :: c111 :: c112 :: c113 :: c114 :: c115 :: c116 :: c117 :: c118 :: c119 :: c120 :: c121 :: c122 :: c123 :: c124 :: c125 :: c126 :: c127 :: c128 :: c129 :: c130 :: c131 :: c132 :: c133 :: c134 :: c135 :: c136 :: c137 :: c138 :: c139 :: c140 :: c141 :: c142 :: c143 :: c144 :: c145 :: c146 :: c147 :: c148 :: c149 :: c150 :: c151 :: c152 :: c153 :: c154 :: c155 :: c156 :: c157 :: c158 :: c159 :: c160 :: c161 :: c162 :: c163 :: c164 :: c165 :: c166 :: c167 :: c168 :: c169 :: c170 :: c171 :: c172 :: c173 :: c174 :: c175 :: c176 :: c177 :: c178 :: c179 :: c180 :: c181 :: c182 :: c183 :: c184 :: c185 :: c186 :: c187 :: c188 :: c189 :: c190 :: c191 :: c192 :: c193 :: c194 :: c195 :: c196 :: c197 :: c198 :: c199 :: c200 :: c201 :: c202 :: c203 :: c204 :: c205 :: c206 :: c207 :: c208 :: c209 :: c210 :: c211 :: c212 :: c213 :: c214 :: c215 :: c216 :: c217 :: c218 :: c219 :: c220 :: c221 :: c222 :: c223 :: c224 :: c225 :: c226 :: c227 :: c228 :: c229 :: c230 :: c231 :: c232 :: c233 :: c234 :: c235 :: c236 :: c237 :: c238 :: c239 :: c240 :: c241 :: c242 :: c243 :: c244 :: c245 :: c246 :: c247 :: c248 :: c249 :: c250 :: c251 :: c252 :: c253 :: c254 :: c255 :: c256 :: c257 :: c258 :: c259 :: c260 :: c261 :: c262 :: c263 :: c264 :: c265 :: c266 :: c267 :: c268 :: c269 :: c270 :: c271 :: c272 :: c273 :: c274 :: c275 :: c276 :: c277 :: c278 :: c279 :: c280 :: c281 :: c282 :: c283 :: c284 :: c285 :: c286 :: c287 :: c288 :: c289 :: c290 :: c291 :: c292 :: c293 :: c294 :: c295 :: c296 :: c297 :: c298 :: c299 :: c300 :: c301 :: c302 :: c303 :: c304 :: c305 :: c306 :: c307 :: c308 :: c309 :: c310 :: c311 :: c312 :: c313 :: c314 :: c315 :: c316 :: c317 :: c318 :: c319 :: c320 :: c321 :: c322 :: c323 :: c324 :: c325 :: c326 :: c327 :: c328 :: c329 :: c330 :: c331 :: c332 :: c333 :: c334 :: c335 :: c336 :: c337 :: c338 :: c339 :: c340 :: c341 :: c342 :: c343 :: c344 :: c345 :: c346 :: c347 :: c348 :: c349 :: c350 :: c351 :: c352 :: c353 :: c354 :: c355 :: c356 :: c357 :: c358 :: c359 :: c360 :: c361 :: c362 :: c363 :: c364 :: c365 :: c366 :: c367 :: c368 :: c369 :: c370 :: c371 :: c372 :: c373 :: c374 :: c375 :: c376 :: c377 :: c378 :: c379 :: c380 :: c381 :: c382 :: c383 :: c384 :: c385 :: c386 :: c387 :: c388 :: c389 :: c390 :: c391 :: c392 :: c393 :: c394 :: c395 :: c396 :: c397 :: c398 :: c399 :: c400 :: c401 :: c402 :: c403 :: c404 :: c405 :: c406 :: c407 :: c408 :: c409 :: c410 :: c411 :: c412 :: c413 :: c414 :: c415 :: c416 :: c417 :: c418 :: c419 :: c420 :: c421 :: c422 :: c423 :: c424 :: c425 :: c426 :: c427 :: c428 :: c429 :: c430 :: c431 :: c432 :: c433 :: c434 :: c435 :: c436 :: c437 :: c438 :: c439 :: c440 :: c441 :: c442 :: c443 :: c444 :: c445 :: c446 :: c447 :: c448 :: c449 :: c450 :: c451 :: c452 :: c453 :: c454 :: c455 :: c456 :: c457 :: c458 :: c459 :: c460 :: u461 :: u462 :: u463 :: u464 :: u465 :: u466 :: u467 :: u468 :: u469 :: u470 :: u471 :: u472 :: u473 :: u474 :: u475 :: u476 :: u477 :: u478 :: u479 :: u480 :: u481 :: u482 :: u483 :: u484 :: u485 :: u486 :: u487 :: u488 :: u489 :: u490 :: c491 :: c492 :: c493 :: c494 :: c495 :: c496 :: c497 :: c498 :: c499 :: c500 :: c501 :: c502 :: c503 :: []), []⟩ w') :
    Code.wp Tryz.prog (Code.loop fL6) Q0 ⟨List.toArray (c0 :: c1 :: .pointer (some ⟨B, 0, none⟩) :: c3 :: c4 :: c5 :: .int .i64 wd :: c7 :: c8 :: c9 :: c10 :: c11 :: c12 :: c13 :: c14 :: c15 :: c16 :: c17 :: c18 :: c19 :: c20 :: c21 :: c22 :: c23 :: c24 :: c25 :: c26 :: c27 :: c28 :: c29 :: c30 :: c31 :: c32 :: c33 :: c34 :: c35 :: .int .i64 m :: .int .i64 j0 :: c38 :: c39 :: c40 :: c41 :: c42 :: c43 :: c44 :: c45 :: c46 :: c47 :: c48 :: c49 :: c50 :: c51 :: c52 :: c53 :: c54 :: c55 :: c56 :: c57 :: c58 :: c59 :: c60 :: c61 :: c62 :: c63 :: c64 :: c65 :: c66 :: c67 :: c68 :: c69 :: c70 :: c71 :: c72 :: c73 :: c74 :: c75 :: c76 :: c77 :: c78 :: c79 :: c80 :: c81 :: c82 :: c83 :: c84 :: c85 :: c86 :: c87 :: c88 :: c89 :: c90 :: c91 :: c92 :: c93 :: c94 :: c95 :: c96 :: c97 :: c98 :: c99 :: c100 :: c101 :: c102 :: c103 :: c104 :: c105 :: c106 :: c107 :: c108 :: c109 :: c110 :: c111 :: c112 :: c113 :: c114 :: c115 :: c116 :: c117 :: c118 :: c119 :: c120 :: c121 :: c122 :: c123 :: c124 :: c125 :: c126 :: c127 :: c128 :: c129 :: c130 :: c131 :: c132 :: c133 :: c134 :: c135 :: c136 :: c137 :: c138 :: c139 :: c140 :: c141 :: c142 :: c143 :: c144 :: c145 :: c146 :: c147 :: c148 :: c149 :: c150 :: c151 :: c152 :: c153 :: c154 :: c155 :: c156 :: c157 :: c158 :: c159 :: c160 :: c161 :: c162 :: c163 :: c164 :: c165 :: c166 :: c167 :: c168 :: c169 :: c170 :: c171 :: c172 :: c173 :: c174 :: c175 :: c176 :: c177 :: c178 :: c179 :: c180 :: c181 :: c182 :: c183 :: c184 :: c185 :: c186 :: c187 :: c188 :: c189 :: c190 :: c191 :: c192 :: c193 :: c194 :: c195 :: c196 :: c197 :: c198 :: c199 :: c200 :: c201 :: c202 :: c203 :: c204 :: c205 :: c206 :: c207 :: c208 :: c209 :: c210 :: c211 :: c212 :: c213 :: c214 :: c215 :: c216 :: c217 :: c218 :: c219 :: c220 :: c221 :: c222 :: c223 :: c224 :: c225 :: c226 :: c227 :: c228 :: c229 :: c230 :: c231 :: c232 :: c233 :: c234 :: c235 :: c236 :: c237 :: c238 :: c239 :: c240 :: c241 :: c242 :: c243 :: c244 :: c245 :: c246 :: c247 :: c248 :: c249 :: c250 :: c251 :: c252 :: c253 :: c254 :: c255 :: c256 :: c257 :: c258 :: c259 :: c260 :: c261 :: c262 :: c263 :: c264 :: c265 :: c266 :: c267 :: c268 :: c269 :: c270 :: c271 :: c272 :: c273 :: c274 :: c275 :: c276 :: c277 :: c278 :: c279 :: c280 :: c281 :: c282 :: c283 :: c284 :: c285 :: c286 :: c287 :: c288 :: c289 :: c290 :: c291 :: c292 :: c293 :: c294 :: c295 :: c296 :: c297 :: c298 :: c299 :: c300 :: c301 :: c302 :: c303 :: c304 :: c305 :: c306 :: c307 :: c308 :: c309 :: c310 :: c311 :: c312 :: c313 :: c314 :: c315 :: c316 :: c317 :: c318 :: c319 :: c320 :: c321 :: c322 :: c323 :: c324 :: c325 :: c326 :: c327 :: c328 :: c329 :: c330 :: c331 :: c332 :: c333 :: c334 :: c335 :: c336 :: c337 :: c338 :: c339 :: c340 :: c341 :: c342 :: c343 :: c344 :: c345 :: c346 :: c347 :: c348 :: c349 :: c350 :: c351 :: c352 :: c353 :: c354 :: c355 :: c356 :: c357 :: c358 :: c359 :: c360 :: c361 :: c362 :: c363 :: c364 :: c365 :: c366 :: c367 :: c368 :: c369 :: c370 :: c371 :: c372 :: c373 :: c374 :: c375 :: c376 :: c377 :: c378 :: c379 :: c380 :: c381 :: c382 :: c383 :: c384 :: c385 :: c386 :: c387 :: c388 :: c389 :: c390 :: c391 :: c392 :: c393 :: c394 :: c395 :: c396 :: c397 :: c398 :: c399 :: c400 :: c401 :: c402 :: c403 :: c404 :: c405 :: c406 :: c407 :: c408 :: c409 :: c410 :: c411 :: c412 :: c413 :: c414 :: c415 :: c416 :: c417 :: c418 :: c419 :: c420 :: c421 :: c422 :: c423 :: c424 :: c425 :: c426 :: c427 :: c428 :: c429 :: c430 :: c431 :: c432 :: c433 :: c434 :: c435 :: c436 :: c437 :: c438 :: c439 :: c440 :: c441 :: c442 :: c443 :: c444 :: c445 :: c446 :: c447 :: c448 :: c449 :: c450 :: c451 :: c452 :: c453 :: c454 :: c455 :: c456 :: c457 :: c458 :: c459 :: c460 :: c461 :: c462 :: c463 :: c464 :: c465 :: c466 :: c467 :: c468 :: c469 :: c470 :: c471 :: c472 :: c473 :: c474 :: c475 :: c476 :: c477 :: c478 :: c479 :: c480 :: c481 :: c482 :: c483 :: c484 :: c485 :: c486 :: c487 :: c488 :: c489 :: c490 :: c491 :: c492 :: c493 :: c494 :: c495 :: c496 :: c497 :: c498 :: c499 :: c500 :: c501 :: c502 :: c503 :: []), []⟩ w := by
  conv => arg 2; arg 1; whnf
  have HX := hd hexit
  clear hexit
  go_loopw [37] (fun kv wr => ∃ q : Nat, j0 ≤ q ∧ q ≤ n ∧ kv = .int .i64 q ∧ Hid (Below W.heap.size W wr)) (fun kv _ => n - (intOf kv).toNat)
  case atStart => exact ⟨j0, Nat.le_refl _, by have := HN.out; omega, rfl, HJ0⟩
  case round =>
    obtain ⟨q, hjq, hqn, rfl, HJ⟩ := hrel
    obtain ⟨hn, hbn, hmn, hwd, hj0, hj1⟩ := HN.out
    have hc := (HJ.out.block _ (blk_lt HQ.out)).trans HQ.out
    have k2 := blk_cell hc 2
    simp at k2
    obtain ⟨M, hM⟩ : ∃ M : Nat, M = min (n - 1) (m + wd) := ⟨_, rfl⟩
    have hmin : min ((n : Int) - 1) ((m : Int) + (wd : Int)) = (M : Int) := by omega
    have HLT := hd (show j0 ≤ q ∧ q ≤ n ∧ n ≤ 100000 ∧ m < n from ⟨hjq, hqn, hn, hmn⟩)
    by_cases hq : q ≤ M
    · have hqi : (q : Int) ≤ (M : Int) := by omega
      have hqlt : q < n := by omega
      have hqm : q ≤ m + wd := by omega
      have hmq : m ≤ q + wd := by omega
      have HQ1 := hd (show q < n from hqlt)
      obtain ⟨lb, lo, rfl, hl0⟩ := rdLf RL.out hbn HJ.out hqlt
      have hl1 := hl0 q hqlt; have hl2 := hl0 m hmn
      clear hl0
      have hp := fun h => HP.out q hqlt h hmq hqm
      generalize bs.getD q 0 = x at *
      generalize bs.getD m 0 = y at *
      have H1 := fun p : Bw wr => has_any (.slice A2 gs.length cG) gs (q : Int) p.out ((RG.out.below (HJ.out.trans (p.below.mono HJ.out.size)) (Nat.le_refl _)).mono (HJ.out.trans (p.below.mono HJ.out.size)).size)
      clear hjq hqn hbn hj0 hj1 hqm hmq hM
      go_wp2_with fail
      clear k2 hmin hqi
      have FB2 : ∀ p : Bw wr, p.out.cell? ⟨B, 2, none⟩ = some (.slice (some ⟨lb, lo, none⟩) n cA) := fun p => p.cell (blk_lt hc) (blk_cell hc 2)
      have FB3 : ∀ p : Bw wr, p.out.cell? ⟨B, 3, none⟩ = some (.slice A2 gs.length cG) := fun p => p.cell (blk_lt hc) (blk_cell hc 3)
      have FX : ∀ p : Bw wr, p.out.cell? ⟨lb, lo + q, none⟩ = some (.float .f32 x) := fun p => p.cell (World.block_lt_of_cell? _ _ hl1) hl1
      have FY : ∀ p : Bw wr, p.out.cell? ⟨lb, lo + m, none⟩ = some (.float .f32 y) := fun p => p.cell (World.block_lt_of_cell? _ _ hl2) hl2
      clear hc hl1 hl2
      cases hh : hasL gs (q : Int)
      · rw [hh] at H1
        have hp2 := hp hh
        unfold fgt at hp2
        clear hp hh
        replace H1 := hd H1
        refine wp_region_bw (by kernel_rfl) (by kernel_rfl) ?_
        repeat (first | go_big_quiet_step (fail))
        go_big_quiet_step (first | (go_at_call 11; exact Bw.pure _ (H1.out _)))
        repeat (first | go_big_quiet_step (fail))
        refine wpQuiet_nil ?_
        rintro ⟨w2, hb⟩
        change Exit.then _ _ _ _ w2
        have HJ2 := hd (HJ.out.trans (hb.mono HJ.out.size))
        go_wp2
        go_roundw
        case rel => exact ⟨q + 1, by have := HLT.out; omega, by have := HQ1.out; omega, by have := HLT.out; go_num, HJ2⟩
        case measure => have := HLT.out; have := HQ1.out; simp [intOf]; omega
      · rw [hh] at H1
        clear hp hh FX FY
        replace H1 := hd H1
        refine wp_region_bw (by kernel_rfl) (by kernel_rfl) ?_
        repeat (first | go_big_quiet_step (fail))
        go_big_quiet_step (first | (go_at_call 11; exact Bw.pure _ (H1.out _)))
        repeat (first | go_big_quiet_step (fail))
        refine wpQuiet_nil ?_
        rintro ⟨w2, hb⟩
        change Exit.then _ _ _ _ w2
        have HJ2 := hd (HJ.out.trans (hb.mono HJ.out.size))
        go_wp2
        go_roundw
        case rel => exact ⟨q + 1, by have := HLT.out; omega, by have := HQ1.out; omega, by have := HLT.out; go_num, HJ2⟩
        case measure => have := HLT.out; have := HQ1.out; simp [intOf]; omega
    · have hqi : ¬ (q : Int) ≤ (M : Int) := by omega
      clear hjq hqn hbn hj0 hj1 hM
      go_wp2_with fail
      exact HX.out _ _ _ _ _ _ _ _ _ _ _ _ _ _ _ _ _ _ _ _ _ _ _ _ _ _ _ _ _ _ _ _ _ HJ.out

set_option maxRecDepth 1000000 in
set_option maxHeartbeats 8000000 in
theorem follows_l5 (nm : ByteArray) (st cx sx : Int) (A A2 AH : Option Addr) (cA cG cH n B X wd lx hx : Nat) (bs : List Nat) (gs : List (Int × Int)) (H : List Int) (W w : World) (Q0 : Exit → Act → World → Prop)
    (HQ : Hid (W.heap[B]? = some (.cells #[.string nm, .int .i64 st, .slice A n cA, .slice A2 gs.length cG] 25 (0, 0)))) (HS : Hid (W.heap[X]? = some (.cells #[.int .i64 cx, .int .i64 sx, .float .f32 lx, .float .f32 hx] 46 (0, 0))))
    (RL : Hid (Rd W W.heap.size (.slice A n cA) n (flc bs))) (RG : Hid (Rd W W.heap.size (.slice A2 gs.length cG) gs.length (spc gs))) (RH : Hid (Rd W W.heap.size (.slice AH H.length cH) H.length (H.map (Value.int .i64))))
    (HN : Hid (n ≤ 100000 ∧ bs.length = n ∧ wd ≤ 100000 ∧ H.length ≤ 100000))
    (HP : Hid (∀ j, j < H.length → ∃ m : Nat, H.getD j 0 = (m : Int) ∧ m < n ∧ hasL gs (m : Int) = false ∧ ∀ q : Nat, q < n → hasL gs (q : Int) = false → m ≤ q + wd → q ≤ m + wd → fgt (bs.getD q 0) (bs.getD m 0) = false)) (HJ0 : Hid (Below W.heap.size W w))
    {c0 c1 c3 c4 c5 c7 c8 c9 c10 c11 c12 c13 c14 c15 c16 c17 c18 c19 c21 c22 c23 c24 c25 c26 c27 c28 c29 c30 c31 c32 c33 c35 c36 c37 c38 c39 c40 c41 c42 c43 c44 c45 c46 c47 c48 c49 c50 c51 c52 c53 c54 c55 c56 c57 c58 c59 c60 c61 c62 c63 c64 c65 c66 c67 c68 c69 c70 c71 c72 c73 c74 c75 c76 c77 c78 c79 c80 c81 c82 c83 c84 c85 c86 c87 c88 c89 c90 c91 c92 c93 c94 c95 c96 c97 c98 c99 c100 c101 c102 c103 c104 c105 c106 c107 c108 c109 c110 c111 c112 c113 c114 c115 c116 c117 c118 c119 c120 c121 c122 c123 c124 c125 c126 c127 c128 c129 c130 c131 c132 c133 c134 c135 c136 c137 c138 c139 c140 c141 c142 c143 c144 c145 c146 c147 c148 c149 c150 c151 c152 c153 c154 c155 c156 c157 c158 c159 c160 c161 c162 c163 c164 c165 c166 c167 c168 c169 c170 c171 c172 c173 c174 c175 c176 c177 c178 c179 c180 c181 c182 c183 c184 c185 c186 c187 c188 c189 c190 c191 c192 c193 c194 c195 c196 c197 c198 c199 c200 c201 c202 c203 c204 c205 c206 c207 c208 c209 c210 c211 c212 c213 c214 c215 c216 c217 c218 c219 c220 c221 c222 c223 c224 c225 c226 c227 c228 c229 c230 c231 c232 c233 c234 c235 c236 c237 c238 c239 c240 c241 c242 c243 c244 c245 c246 c247 c248 c249 c250 c251 c252 c253 c254 c255 c256 c257 c258 c259 c260 c261 c262 c263 c264 c265 c266 c267 c268 c269 c270 c271 c272 c273 c274 c275 c276 c277 c278 c279 c280 c281 c282 c283 c284 c285 c286 c287 c288 c289 c290 c291 c292 c293 c294 c295 c296 c297 c298 c299 c300 c301 c302 c303 c304 c305 c306 c307 c308 c309 c310 c311 c312 c313 c314 c315 c316 c317 c318 c319 c320 c321 c322 c323 c324 c325 c326 c327 c328 c329 c330 c331 c332 c333 c334 c335 c336 c337 c338 c339 c340 c341 c342 c343 c344 c345 c346 c347 c348 c349 c350 c351 c352 c353 c354 c355 c356 c357 c358 c359 c360 c361 c362 c363 c364 c365 c366 c367 c368 c369 c370 c371 c372 c373 c374 c375 c376 c377 c378 c379 c380 c381 c382 c383 c384 c385 c386 c387 c388 c389 c390 c391 c392 c393 c394 c395 c396 c397 c398 c399 c400 c401 c402 c403 c404 c405 c406 c407 c408 c409 c410 c411 c412 c413 c414 c415 c416 c417 c418 c419 c420 c421 c422 c423 c424 c425 c426 c427 c428 c429 c430 c431 c432 c433 c434 c435 c439 c440 c441 c442 c443 c444 c445 c446 c447 c448 c449 c450 c451 c452 c453 c454 c455 c456 c457 c458 c459 c460 c461 c462 c463 c464 c465 c466 c467 c468 c469 c470 c471 c472 c473 c474 c475 c476 c477 c478 c479 c480 c481 c482 c483 c484 c485 c486 c487 c488 c489 c490 c491 c492 c493 c494 c495 c496 c497 c498 c499 c500 c501 c502 c503 : Value}
    (hexit : ∀ (u4 u36 u37 u438 u439 u440 u441 u442 u443 u444 u445 u446 u447 u448 u449 u450 u451 u452 u453 u454 u455 u456 u457 u458 u459 u460 u461 u462 u463 u464 u465 u466 u467 u468 u469 u470 u471 u472 u473 u474 u475 u476 u477 u478 u479 u480 u481 u482 u483 u484 u485 u486 u487 u488 u489 u490 u491 u492 u493 u494 u495 u496 u497 u498 u499 u500 u501 u502 : Value) (w' : World), Below W.heap.size W w' → Q0 (.exit 8) ⟨List.toArray (c0 :: c1 :: .pointer (some ⟨B, 0, none⟩) :: c3 :: u4 :: c5 :: .int .i64 wd :: c7 :: c8 :: c9 :: c10 :: c11 :: c12 :: c13 :: c14 :: c15 :: c16 :: c17 :: c18 :: c19 :: .pointer (some ⟨X, 0, none⟩) :: c21 :: c22 :: c23 :: c24 :: c25 :: c26 :: c27 :: c28 :: c29 :: c30 :: c31 :: c32 :: c33 :: .bool (topB bs H hx H.length) :: c35 :: u36 :: u37 :: c38 :: c39 :: c40 :: c41 :: c42 :: c43 :: c44 :: c45 :: c46 :: c47 :: c48 :: c49 :: c50 :: c51 :: c52 :: c53 :: c54 :: c55 :: c56 :: c57 :: c58 :: c59 :: c60 :: c61 :: c62 :: c63 :: c64 :: c65 :: c66 :: c67 :: c68 :: c69 :: c70 :: c71 :: c72 :: c73 :: c74 :: c75 :: c76 :: c77 :: c78 :: c79 :: c80 :: c81 :: c82 :: c83 :: c84 :: c85 :: c86 :: c87 :: c88 :: c89 :: c90 :: c91 :: c92 :: c93 :: c94 :: c95 :: c96 :: c97 :: c98 :: c99 :: c100 :: c101 :: c102 :: c103 :: c104 :: c105 :: c106 :: c107 :: c108 :: c109 :: c110 :: c111 :: c112 :: c113 :: c114 :: c115 :: c116 :: c117 :: c118 :: c119 :: c120 :: c121 :: c122 :: c123 :: c124 :: c125 :: c126 :: c127 :: c128 :: c129 :: c130 :: c131 :: c132 :: c133 :: c134 :: c135 :: c136 :: c137 :: c138 :: c139 :: c140 :: c141 :: c142 :: c143 :: c144 :: c145 :: c146 :: c147 :: c148 :: c149 :: c150 :: c151 :: c152 :: c153 :: c154 :: c155 :: c156 :: c157 :: c158 :: c159 :: c160 :: c161 :: c162 :: c163 :: c164 :: c165 :: c166 :: c167 :: c168 :: c169 :: c170 :: c171 :: c172 :: c173 :: c174 :: c175 :: c176 :: c177 :: c178 :: c179 :: c180 :: c181 :: c182 :: c183 :: c184 :: c185 :: c186 :: c187 :: c188 :: c189 :: c190 :: c191 :: c192 :: c193 :: c194 :: c195 :: c196 :: c197 :: c198 :: c199 :: c200 :: c201 :: c202 :: c203 :: c204 :: c205 :: c206 :: c207 :: c208 :: c209 :: c210 :: c211 :: c212 :: c213 :: c214 :: c215 :: c216 :: c217 :: c218 :: c219 :: c220 :: c221 :: c222 :: c223 :: c224 :: c225 :: c226 :: c227 :: c228 :: c229 :: c230 :: c231 :: c232 :: c233 :: c234 :: c235 :: c236 :: c237 :: c238 :: c239 :: c240 :: c241 :: c242 :: c243 :: c244 :: c245 :: c246 :: c247 :: c248 :: c249 :: c250 :: c251 :: c252 :: c253 :: c254 :: c255 :: c256 :: c257 :: c258 :: c259 :: c260 :: c261 :: c262 :: c263 :: c264 :: c265 :: c266 :: c267 :: c268 :: c269 :: c270 :: c271 :: c272 :: c273 :: c274 :: c275 :: c276 :: c277 :: c278 :: c279 :: c280 :: c281 :: c282 :: c283 :: c284 :: c285 :: c286 :: c287 :: c288 :: c289 :: c290 :: c291 :: c292 :: c293 :: c294 :: c295 :: c296 :: c297 :: c298 :: c299 :: c300 :: c301 :: c302 :: c303 :: c304 :: c305 :: c306 :: c307 :: c308 :: c309 :: c310 :: c311 :: c312 :: c313 :: c314 :: c315 :: c316 :: c317 :: c318 :: c319 :: c320 :: c321 :: c322 :: c323 :: c324 :: c325 :: c326 :: c327 :: c328 :: c329 :: c330 :: c331 :: c332 :: c333 :: c334 :: c335 :: c336 :: c337 :: c338 :: c339 :: c340 :: c341 :: c342 :: c343 :: c344 :: c345 :: c346 :: c347 :: c348 :: c349 :: c350 :: c351 :: c352 :: c353 :: c354 :: c355 :: c356 :: c357 :: c358 :: c359 :: c360 :: c361 :: c362 :: c363 :: c364 :: c365 :: c366 :: c367 :: c368 :: c369 :: c370 :: c371 :: c372 :: c373 :: c374 :: c375 :: c376 :: c377 :: c378 :: c379 :: c380 :: c381 :: c382 :: c383 :: c384 :: c385 :: c386 :: c387 :: c388 :: c389 :: c390 :: c391 :: c392 :: c393 :: c394 :: c395 :: c396 :: c397 :: c398 :: c399 :: c400 :: c401 :: c402 :: c403 :: c404 :: c405 :: c406 :: c407 :: c408 :: c409 :: c410 :: c411 :: c412 :: c413 :: c414 :: c415 :: c416 :: c417 :: c418 :: c419 :: c420 :: c421 :: c422 :: c423 :: c424 :: c425 :: c426 :: c427 :: c428 :: c429 :: c430 :: c431 :: c432 :: c433 :: c434 :: c435 :: .slice AH H.length cH :: .int .i64 H.length :: u438 :: u439 :: u440 :: u441 :: u442 :: u443 :: u444 :: u445 :: u446 :: u447 :: u448 :: u449 :: u450 :: u451 :: u452 :: u453 :: u454 :: u455 :: u456 :: u457 :: u458 :: u459 :: u460 :: u461 :: u462 :: u463 :: u464 :: u465 :: u466 :: u467 :: u468 :: u469 :: u470 :: u471 :: u472 :: u473 :: u474 :: u475 :: u476 :: u477 :: u478 :: u479 :: u480 :: u481 :: u482 :: u483 :: u484 :: u485 :: u486 :: u487 :: u488 :: u489 :: u490 :: u491 :: u492 :: u493 :: u494 :: u495 :: u496 :: u497 :: u498 :: u499 :: u500 :: u501 :: u502 :: c503 :: []), []⟩ w') :
    Code.wp Tryz.prog (Code.loop fL5) Q0 ⟨List.toArray (c0 :: c1 :: .pointer (some ⟨B, 0, none⟩) :: c3 :: c4 :: c5 :: .int .i64 wd :: c7 :: c8 :: c9 :: c10 :: c11 :: c12 :: c13 :: c14 :: c15 :: c16 :: c17 :: c18 :: c19 :: .pointer (some ⟨X, 0, none⟩) :: c21 :: c22 :: c23 :: c24 :: c25 :: c26 :: c27 :: c28 :: c29 :: c30 :: c31 :: c32 :: c33 :: .bool false :: c35 :: c36 :: c37 :: c38 :: c39 :: c40 :: c41 :: c42 :: c43 :: c44 :: c45 :: c46 :: c47 :: c48 :: c49 :: c50 :: c51 :: c52 :: c53 :: c54 :: c55 :: c56 :: c57 :: c58 :: c59 :: c60 :: c61 :: c62 :: c63 :: c64 :: c65 :: c66 :: c67 :: c68 :: c69 :: c70 :: c71 :: c72 :: c73 :: c74 :: c75 :: c76 :: c77 :: c78 :: c79 :: c80 :: c81 :: c82 :: c83 :: c84 :: c85 :: c86 :: c87 :: c88 :: c89 :: c90 :: c91 :: c92 :: c93 :: c94 :: c95 :: c96 :: c97 :: c98 :: c99 :: c100 :: c101 :: c102 :: c103 :: c104 :: c105 :: c106 :: c107 :: c108 :: c109 :: c110 :: c111 :: c112 :: c113 :: c114 :: c115 :: c116 :: c117 :: c118 :: c119 :: c120 :: c121 :: c122 :: c123 :: c124 :: c125 :: c126 :: c127 :: c128 :: c129 :: c130 :: c131 :: c132 :: c133 :: c134 :: c135 :: c136 :: c137 :: c138 :: c139 :: c140 :: c141 :: c142 :: c143 :: c144 :: c145 :: c146 :: c147 :: c148 :: c149 :: c150 :: c151 :: c152 :: c153 :: c154 :: c155 :: c156 :: c157 :: c158 :: c159 :: c160 :: c161 :: c162 :: c163 :: c164 :: c165 :: c166 :: c167 :: c168 :: c169 :: c170 :: c171 :: c172 :: c173 :: c174 :: c175 :: c176 :: c177 :: c178 :: c179 :: c180 :: c181 :: c182 :: c183 :: c184 :: c185 :: c186 :: c187 :: c188 :: c189 :: c190 :: c191 :: c192 :: c193 :: c194 :: c195 :: c196 :: c197 :: c198 :: c199 :: c200 :: c201 :: c202 :: c203 :: c204 :: c205 :: c206 :: c207 :: c208 :: c209 :: c210 :: c211 :: c212 :: c213 :: c214 :: c215 :: c216 :: c217 :: c218 :: c219 :: c220 :: c221 :: c222 :: c223 :: c224 :: c225 :: c226 :: c227 :: c228 :: c229 :: c230 :: c231 :: c232 :: c233 :: c234 :: c235 :: c236 :: c237 :: c238 :: c239 :: c240 :: c241 :: c242 :: c243 :: c244 :: c245 :: c246 :: c247 :: c248 :: c249 :: c250 :: c251 :: c252 :: c253 :: c254 :: c255 :: c256 :: c257 :: c258 :: c259 :: c260 :: c261 :: c262 :: c263 :: c264 :: c265 :: c266 :: c267 :: c268 :: c269 :: c270 :: c271 :: c272 :: c273 :: c274 :: c275 :: c276 :: c277 :: c278 :: c279 :: c280 :: c281 :: c282 :: c283 :: c284 :: c285 :: c286 :: c287 :: c288 :: c289 :: c290 :: c291 :: c292 :: c293 :: c294 :: c295 :: c296 :: c297 :: c298 :: c299 :: c300 :: c301 :: c302 :: c303 :: c304 :: c305 :: c306 :: c307 :: c308 :: c309 :: c310 :: c311 :: c312 :: c313 :: c314 :: c315 :: c316 :: c317 :: c318 :: c319 :: c320 :: c321 :: c322 :: c323 :: c324 :: c325 :: c326 :: c327 :: c328 :: c329 :: c330 :: c331 :: c332 :: c333 :: c334 :: c335 :: c336 :: c337 :: c338 :: c339 :: c340 :: c341 :: c342 :: c343 :: c344 :: c345 :: c346 :: c347 :: c348 :: c349 :: c350 :: c351 :: c352 :: c353 :: c354 :: c355 :: c356 :: c357 :: c358 :: c359 :: c360 :: c361 :: c362 :: c363 :: c364 :: c365 :: c366 :: c367 :: c368 :: c369 :: c370 :: c371 :: c372 :: c373 :: c374 :: c375 :: c376 :: c377 :: c378 :: c379 :: c380 :: c381 :: c382 :: c383 :: c384 :: c385 :: c386 :: c387 :: c388 :: c389 :: c390 :: c391 :: c392 :: c393 :: c394 :: c395 :: c396 :: c397 :: c398 :: c399 :: c400 :: c401 :: c402 :: c403 :: c404 :: c405 :: c406 :: c407 :: c408 :: c409 :: c410 :: c411 :: c412 :: c413 :: c414 :: c415 :: c416 :: c417 :: c418 :: c419 :: c420 :: c421 :: c422 :: c423 :: c424 :: c425 :: c426 :: c427 :: c428 :: c429 :: c430 :: c431 :: c432 :: c433 :: c434 :: c435 :: .slice AH H.length cH :: .int .i64 H.length :: .int .i64 0 :: c439 :: c440 :: c441 :: c442 :: c443 :: c444 :: c445 :: c446 :: c447 :: c448 :: c449 :: c450 :: c451 :: c452 :: c453 :: c454 :: c455 :: c456 :: c457 :: c458 :: c459 :: c460 :: c461 :: c462 :: c463 :: c464 :: c465 :: c466 :: c467 :: c468 :: c469 :: c470 :: c471 :: c472 :: c473 :: c474 :: c475 :: c476 :: c477 :: c478 :: c479 :: c480 :: c481 :: c482 :: c483 :: c484 :: c485 :: c486 :: c487 :: c488 :: c489 :: c490 :: c491 :: c492 :: c493 :: c494 :: c495 :: c496 :: c497 :: c498 :: c499 :: c500 :: c501 :: c502 :: c503 :: []), []⟩ w := by
  conv => arg 2; arg 1; whnf
  have HX := hd hexit
  clear hexit
  go_loopw [34, 438] (fun tv kv wr => ∃ k : Nat, k ≤ H.length ∧ tv = .bool (topB bs H hx k) ∧ kv = .int .i64 k ∧ Hid (Below W.heap.size W wr)) (fun _ kv _ => H.length - (intOf kv).toNat)
  case atStart => exact ⟨0, Nat.zero_le _, rfl, rfl, HJ0⟩
  case round =>
    obtain ⟨k, hk, rfl, rfl, HJ⟩ := hrel
    obtain ⟨tb, htb⟩ : ∃ tb, tb = topB bs H hx k := ⟨_, rfl⟩
    rw [← htb]
    by_cases hlt : k < H.length
    · have hki : (k : Int) < (H.length : Int) := by omega
      have HLT := hd (show k < H.length ∧ H.length ≤ 100000 from ⟨hlt, HN.out.2.2.2⟩)
      have hhn : H.length ≤ 100000 := HN.out.2.2.2
      obtain ⟨hb, ho, rfl, hh0⟩ := rdIf RH.out HJ.out hlt
      obtain ⟨m, hm, hmn, hmh, hmp⟩ := HP.out k hlt
      have HSU := hd (topB_succ bs H hx k)
      rw [hm, Int.toNat_natCast, ← htb] at HSU
      rw [hm] at hh0
      have HMP := hd hmp
      clear hm hmp htb
      have hmi : (m : Int) < (n : Int) := by omega
      have hm0 : ¬ (m : Int) < 0 := by omega
      have hmg : ¬ (n : Int) ≤ (m : Int) := by omega
      have hc := (HJ.out.block _ (blk_lt HQ.out)).trans HQ.out
      have k2 := blk_cell hc 2
      have k3 := blk_cell hc 3
      simp at k2 k3
      clear hc
      go_wp2_with fail
      refine (has_any (.slice A2 gs.length cG) gs (m : Int) _ ((RG.out.below HJ.out (Nat.le_refl _)).mono HJ.out.size)).mono ?_
      rw [hmh]
      rintro e w1 ⟨rfl, rfl⟩
      obtain ⟨hn, hbn, hwd, -⟩ := HN.out
      have e1 : IntKind.i64.wrap ((m : Int) - (wd : Int)) = (m : Int) - (wd : Int) := IntWalk.i64_in _ (by omega)
      obtain ⟨j0, hj0⟩ : ∃ j0 : Nat, j0 = m - wd := ⟨_, rfl⟩
      have hmx : max (0 : Int) ((m : Int) - (wd : Int)) = (j0 : Int) := by omega
      have HJW := hd (show j0 ≤ m ∧ m ≤ j0 + wd by omega)
      have HMN := hd (And.intro hmn (And.intro hn (And.intro hbn hwd)))
      clear hn hbn hwd hj0 k2 k3 hmh hh0
      go_wp2_with fail
      refine follows_l6 nm st A A2 cA cG n B wd m j0 bs gs W _ _ HQ RL RG (hd ⟨HMN.out.2.1, HMN.out.2.2.1, HMN.out.1, HMN.out.2.2.2, HJW.out.1, HJW.out.2⟩) HMP HJ ?_
      intro u4 u37 u461 u462 u463 u464 u465 u466 u467 u468 u469 u470 u471 u472 u473 u474 u475 u476 u477 u478 u479 u480 u481 u482 u483 u484 u485 u486 u487 u488 u489 u490 w5 hb5
      have HJ5 := hd hb5
      clear hb5 e1 hmx
      obtain ⟨lb, lo, rfl, hl0⟩ := rdLf RL.out HMN.out.2.2.1 HJ5.out HMN.out.1
      have hl1 := hl0 m HMN.out.1
      clear hl0
      generalize bs.getD m 0 = x at *
      obtain ⟨fb, hfb⟩ : ∃ fb, fb = feqL x hx := ⟨_, rfl⟩
      rw [← hfb] at HSU
      have hfq : (FloatKind.f32.format.order x hx == some .eq) = fb := by rw [hfb]; rfl
      clear hfb
      have hc := (HJ5.out.block _ (blk_lt HQ.out)).trans HQ.out
      have hs := (HJ5.out.block _ (blk_lt HS.out)).trans HS.out
      have FB2 : ∀ p : Bw w5, p.out.cell? ⟨B, 2, none⟩ = some (.slice (some ⟨lb, lo, none⟩) n cA) := fun p => p.cell (blk_lt hc) (blk_cell hc 2)
      have FX3 : ∀ p : Bw w5, p.out.cell? ⟨X, 3, none⟩ = some (.float .f32 hx) := fun p => p.cell (blk_lt hs) (blk_cell hs 3)
      have FL : ∀ p : Bw w5, p.out.cell? ⟨lb, lo + m, none⟩ = some (.float .f32 x) := fun p => p.cell (World.block_lt_of_cell? _ _ hl1) hl1
      clear hc hs hl1
      go_wp2_with fail
      cases tb
      · skip
        refine wp_region_bw (by kernel_rfl) (by kernel_rfl) ?_
        repeat (first | go_big_quiet_step (fail))
        refine wpQuiet_nil ?_
        rintro ⟨w2, hb⟩
        change Exit.inBlock _ _ _ _ w2
        have HJ2 := hd (HJ5.out.trans (hb.mono HJ5.out.size))
        go_wp2
        go_roundw
        case rel => exact ⟨k + 1, by have := HLT.out; omega, by rw [HSU.out]; rfl, by have := HLT.out; go_num, HJ2⟩
        case measure => have := HLT.out; simp [intOf]; omega
      · skip
        refine wp_region_bw (by kernel_rfl) (by kernel_rfl) ?_
        repeat (first | go_big_quiet_step (fail))
        refine wpQuiet_nil ?_
        rintro ⟨w2, hb⟩
        change Exit.inBlock _ _ _ _ w2
        have HJ2 := hd (HJ5.out.trans (hb.mono HJ5.out.size))
        go_wp2
        go_roundw
        case rel => exact ⟨k + 1, by have := HLT.out; omega, by rw [HSU.out]; rfl, by have := HLT.out; go_num, HJ2⟩
        case measure => have := HLT.out; simp [intOf]; omega
    · have hki : ¬ (k : Int) < (H.length : Int) := by omega
      have hke : k = H.length := by omega
      rw [hke] at htb
      go_wp2_with fail
      exact HX.out _ _ _ _ _ _ _ _ _ _ _ _ _ _ _ _ _ _ _ _ _ _ _ _ _ _ _ _ _ _ _ _ _ _ _ _ _ _ _ _ _ _ _ _ _ _ _ _ _ _ _ _ _ _ _ _ _ _ _ _ _ _ _ _ _ _ _ _ _ HJ.out
end Go.Proofs.YtnejjnebpbajmaaGreatDoor
