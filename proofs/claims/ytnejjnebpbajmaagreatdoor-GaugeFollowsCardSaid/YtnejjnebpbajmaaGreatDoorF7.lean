/-
  The loop of GaugeFollows that writes the gaps of the second part. Conditions: written at the theorem.
-/
import Derived.Test.YtnejjnebpbajmaaGreatDoorF4
namespace Go.Proofs.YtnejjnebpbajmaaGreatDoor
open Go.RowKit
attribute [local go_sem] Oper.semAt_some

theorem cell_sameF {V W : World} {b : Nat} (h : V.heap[b]? = W.heap[b]?) (o : Nat) : V.cell? ⟨b, o, none⟩ = W.cell? ⟨b, o, none⟩ := by simp [World.cell?, h]
theorem new_twoF (w : World) (a b : Value) (T : TypeId) : ∀ j u, [a, b][j]? = some u → (w.alloc (.cells #[a, b] T)).cell? ((⟨w.heap.size, 0, none⟩ : Addr).add j) = some u := by
  intro j u hj
  have h := blk_new w #[a, b] T
  have ha : (⟨w.heap.size, 0, none⟩ : Addr).add j = ⟨w.heap.size, j, none⟩ := by unfold Addr.add; split <;> simp_all
  rw [ha, blk_cell h j]
  simpa using hj
/-- What holds while the gaps of the second part are written. -/
structure TJ (T B0 : Nat) (W : World) (nm : ByteArray) (st : Int) (LV : Value) (GM : List (Int × Int)) (k0 j : Nat) (V : World) : Prop where
  box : ∃ A c, V.heap[T]? = some (.cells #[.string nm, .int .i64 st, LV, .slice A j c] 25 (0, 0)) ∧ V.ownsRow B0 40 2 (.slice A j c) j (spc (shl k0 (GM.take j)))
  bel : Below T W V
  oth : ∀ b, b < B0 → b ≠ T → V.heap[b]? = W.heap[b]?
  siz : B0 ≤ V.heap.size
theorem TJ.alloc {T B0 : Nat} {W V : World} {nm : ByteArray} {st : Int} {LV : Value} {GM : List (Int × Int)} {k0 j : Nat} (h : TJ T B0 W nm st LV GM k0 j V) (hT : T < B0) (o : Obj) : TJ T B0 W nm st LV GM k0 j (V.alloc o) := by
  have hs := h.siz
  obtain ⟨A, c, h1, h2⟩ := h.box
  exact ⟨⟨A, c, (Below.heap_alloc _ _ _ (by omega)).trans h1, h2.alloc _⟩, h.bel.alloc (by omega) _, fun b hb hne => (Below.heap_alloc _ _ _ (by omega)).trans (h.oth b hb hne), by rw [World.size_alloc]; omega⟩
/-- One gap more. -/
theorem TJ.more {T B0 : Nat} {W V V' : World} {nm : ByteArray} {st : Int} {LV : Value} {GM : List (Int × Int)} {k0 j : Nat} (h : TJ T B0 W nm st LV GM k0 j V) (hT : T < B0) {A : Option Addr} {c : Nat}
    (h1 : V.heap[T]? = some (.cells #[.string nm, .int .i64 st, LV, .slice A j c] 25 (0, 0))) (h2 : V.ownsRow B0 40 2 (.slice A j c) j (spc (shl k0 (GM.take j)))) {A' : Option Addr} {c' : Nat} {ys : List Value}
    (hown : V'.ownsRow B0 40 2 (.slice A' (j + 1) c') (j + 1) ys) (hys : ys = spc (shl k0 (GM.take (j + 1)))) (hg : V.grownBy V' (Value.slice A j c).ownBlock) : TJ T B0 W nm st LV GM k0 (j + 1) (V'.setCell ⟨T, 3, none⟩ (.slice A' (j + 1) c')) := by
  have hs := h.siz
  have bT := (hg.block T (blk_lt h1) (blk_not_row h1 (by decide) h2)).trans h1
  subst hys
  refine ⟨⟨A', c', by simpa using blk_set bT 3 (.slice A' (j + 1) c'), own_far hown (own_box hown bT (by decide))⟩, (h.bel.grown hg (by omega) (fun kk hk => by have := (h2.lt kk hk).1; omega)).setCell (p := ⟨T, 3, none⟩) (Nat.le_refl _) _, fun b hb hne => ?_, ?_⟩
  · refine (Below.heap_setCell V' ⟨T, 3, none⟩ _ _ hne).trans ((hg.block b (by omega) (fun e => ?_)).trans (h.oth b hb hne))
    have := (h2.lt b e.symm).1
    omega
  · have := hg.size
    show B0 ≤ (V'.setCell ⟨T, 3, none⟩ (.slice A' (j + 1) c')).heap.size
    rw [World.size_setCell]; omega

set_option maxRecDepth 1000000 in
set_option maxHeartbeats 8000000 in
theorem follows_l3 (nm : ByteArray) (st : Int) (LV : Value) (AM : Option Addr) (cM T k0 : Nat) (GM : List (Int × Int)) (W : World) (Q0 : Exit → Act → World → Prop)
    (HJ0 : Hid (TJ T W.heap.size W nm st LV GM k0 0 W)) (HT : Hid (T < W.heap.size))
    (RM : Hid (Rd W W.heap.size (.slice AM GM.length cM) GM.length (spc GM))) (HMT : Hid (∀ b o : Nat, AM = some ⟨b, o, none⟩ → b ≠ T))
    (HN : Hid (GM.length ≤ 100000 ∧ k0 ≤ 100000)) (HBD : Hid (∀ s ∈ GM, (k0 : Int) ≤ s.1 ∧ s.1 < s.2 ∧ s.2 ≤ 100000))
    {c0 c1 c2 c3 c4 c5 c6 c7 c8 c9 c10 c11 c12 c14 c16 c17 c18 c19 c20 c21 c22 c23 c24 c25 c26 c27 c28 c29 c30 c31 c32 c33 c34 c35 c36 c37 c38 c39 c40 c41 c42 c43 c44 c45 c46 c47 c48 c49 c50 c51 c52 c53 c54 c55 c56 c57 c58 c59 c60 c61 c62 c63 c64 c65 c66 c67 c68 c69 c70 c71 c72 c73 c74 c75 c76 c77 c78 c79 c80 c81 c82 c83 c84 c85 c86 c87 c88 c89 c90 c91 c92 c93 c94 c95 c96 c97 c98 c99 c100 c101 c102 c103 c104 c105 c106 c107 c108 c109 c110 c111 c112 c113 c114 c115 c116 c117 c118 c119 c120 c121 c122 c123 c124 c125 c126 c127 c128 c129 c130 c131 c132 c133 c134 c135 c136 c137 c138 c139 c140 c141 c142 c143 c144 c145 c146 c147 c148 c149 c150 c151 c152 c153 c154 c155 c156 c157 c158 c159 c160 c161 c162 c163 c164 c165 c166 c167 c168 c169 c170 c171 c172 c173 c174 c175 c176 c177 c178 c179 c180 c181 c182 c183 c184 c185 c186 c187 c188 c189 c190 c191 c192 c193 c194 c195 c196 c197 c198 c199 c200 c201 c202 c203 c204 c205 c206 c207 c208 c209 c210 c211 c212 c213 c214 c215 c216 c217 c218 c219 c220 c221 c222 c223 c224 c225 c226 c227 c228 c229 c230 c231 c232 c233 c234 c235 c236 c237 c238 c239 c240 c241 c242 c246 c247 c248 c249 c250 c251 c252 c253 c254 c255 c256 c257 c258 c259 c260 c261 c262 c263 c264 c265 c266 c267 c268 c269 c270 c271 c272 c273 c274 c275 c276 c277 c278 c279 c280 c281 c282 c283 c284 c285 c286 c287 c288 c289 c290 c291 c292 c293 c294 c295 c296 c297 c298 c299 c300 c301 c302 c303 c304 c305 c306 c307 c308 c309 c310 c311 c312 c313 c314 c315 c316 c317 c318 c319 c320 c321 c322 c323 c324 c325 c326 c327 c328 c329 c330 c331 c332 c333 c334 c335 c336 c337 c338 c339 c340 c341 c342 c343 c344 c345 c346 c347 c348 c349 c350 c351 c352 c353 c354 c355 c356 c357 c358 c359 c360 c361 c362 c363 c364 c365 c366 c367 c368 c369 c370 c371 c372 c373 c374 c375 c376 c377 c378 c379 c380 c381 c382 c383 c384 c385 c386 c387 c388 c389 c390 c391 c392 c393 c394 c395 c396 c397 c398 c399 c400 c401 c402 c403 c404 c405 c406 c407 c408 c409 c410 c411 c412 c413 c414 c415 c416 c417 c418 c419 c420 c421 c422 c423 c424 c425 c426 c427 c428 c429 c430 c431 c432 c433 c434 c435 c436 c437 c438 c439 c440 c441 c442 c443 c444 c445 c446 c447 c448 c449 c450 c451 c452 c453 c454 c455 c456 c457 c458 c459 c460 c461 c462 c463 c464 c465 c466 c467 c468 c469 c470 c471 c472 c473 c474 c475 c476 c477 c478 c479 c480 c481 c482 c483 c484 c485 c486 c487 c488 c489 c490 c491 c492 c493 c494 c495 c496 c497 c498 c499 c500 c501 c502 c503 : Value}
    (hexit : ∀ (u17 u245 u246 u247 u248 u249 u250 u251 u252 u253 u254 u255 u256 u257 u258 u259 u260 u261 u262 u263 : Value) (w' : World), TJ T W.heap.size W nm st LV GM k0 GM.length w' → Q0 (.exit 4) ⟨List.toArray (c0 :: c1 :: c2 :: c3 :: c4 :: c5 :: c6 :: c7 :: c8 :: c9 :: c10 :: c11 :: c12 :: .int .i64 k0 :: c14 :: .pointer (some ⟨T, 0, none⟩) :: c16 :: u17 :: c18 :: c19 :: c20 :: c21 :: c22 :: c23 :: c24 :: c25 :: c26 :: c27 :: c28 :: c29 :: c30 :: c31 :: c32 :: c33 :: c34 :: c35 :: c36 :: c37 :: c38 :: c39 :: c40 :: c41 :: c42 :: c43 :: c44 :: c45 :: c46 :: c47 :: c48 :: c49 :: c50 :: c51 :: c52 :: c53 :: c54 :: c55 :: c56 :: c57 :: c58 :: c59 :: c60 :: c61 :: c62 :: c63 :: c64 :: c65 :: c66 :: c67 :: c68 :: c69 :: c70 :: c71 :: c72 :: c73 :: c74 :: c75 :: c76 :: c77 :: c78 :: c79 :: c80 :: c81 :: c82 :: c83 :: c84 :: c85 :: c86 :: c87 :: c88 :: c89 :: c90 :: c91 :: c92 :: c93 :: c94 :: c95 :: c96 :: c97 :: c98 :: c99 :: c100 :: c101 :: c102 :: c103 :: c104 :: c105 :: c106 :: c107 :: c108 :: c109 :: c110 :: c111 :: c112 :: c113 :: c114 :: c115 :: c116 :: c117 :: c118 :: c119 :: c120 :: c121 :: c122 :: c123 :: c124 :: c125 :: c126 :: c127 :: c128 :: c129 :: c130 :: c131 :: c132 :: c133 :: c134 :: c135 :: c136 :: c137 :: c138 :: c139 :: c140 :: c141 :: c142 :: c143 :: c144 :: c145 :: c146 :: c147 :: c148 :: c149 :: c150 :: c151 :: c152 :: c153 :: c154 :: c155 :: c156 :: c157 :: c158 :: c159 :: c160 :: c161 :: c162 :: c163 :: c164 :: c165 :: c166 :: c167 :: c168 :: c169 :: c170 :: c171 :: c172 :: c173 :: c174 :: c175 :: c176 :: c177 :: c178 :: c179 :: c180 :: c181 :: c182 :: c183 :: c184 :: c185 :: c186 :: c187 :: c188 :: c189 :: c190 :: c191 :: c192 :: c193 :: c194 :: c195 :: c196 :: c197 :: c198 :: c199 :: c200 :: c201 :: c202 :: c203 :: c204 :: c205 :: c206 :: c207 :: c208 :: c209 :: c210 :: c211 :: c212 :: c213 :: c214 :: c215 :: c216 :: c217 :: c218 :: c219 :: c220 :: c221 :: c222 :: c223 :: c224 :: c225 :: c226 :: c227 :: c228 :: c229 :: c230 :: c231 :: c232 :: c233 :: c234 :: c235 :: c236 :: c237 :: c238 :: c239 :: c240 :: c241 :: c242 :: .slice AM GM.length cM :: .int .i64 GM.length :: u245 :: u246 :: u247 :: u248 :: u249 :: u250 :: u251 :: u252 :: u253 :: u254 :: u255 :: u256 :: u257 :: u258 :: u259 :: u260 :: u261 :: u262 :: u263 :: c264 :: c265 :: c266 :: c267 :: c268 :: c269 :: c270 :: c271 :: c272 :: c273 :: c274 :: c275 :: c276 :: c277 :: c278 :: c279 :: c280 :: c281 :: c282 :: c283 :: c284 :: c285 :: c286 :: c287 :: c288 :: c289 :: c290 :: c291 :: c292 :: c293 :: c294 :: c295 :: c296 :: c297 :: c298 :: c299 :: c300 :: c301 :: c302 :: c303 :: c304 :: c305 :: c306 :: c307 :: c308 :: c309 :: c310 :: c311 :: c312 :: c313 :: c314 :: c315 :: c316 :: c317 :: c318 :: c319 :: c320 :: c321 :: c322 :: c323 :: c324 :: c325 :: c326 :: c327 :: c328 :: c329 :: c330 :: c331 :: c332 :: c333 :: c334 :: c335 :: c336 :: c337 :: c338 :: c339 :: c340 :: c341 :: c342 :: c343 :: c344 :: c345 :: c346 :: c347 :: c348 :: c349 :: c350 :: c351 :: c352 :: c353 :: c354 :: c355 :: c356 :: c357 :: c358 :: c359 :: c360 :: c361 :: c362 :: c363 :: c364 :: c365 :: c366 :: c367 :: c368 :: c369 :: c370 :: c371 :: c372 :: c373 :: c374 :: c375 :: c376 :: c377 :: c378 :: c379 :: c380 :: c381 :: c382 :: c383 :: c384 :: c385 :: c386 :: c387 :: c388 :: c389 :: c390 :: c391 :: c392 :: c393 :: c394 :: c395 :: c396 :: c397 :: c398 :: c399 :: c400 :: c401 :: c402 :: c403 :: c404 :: c405 :: c406 :: c407 :: c408 :: c409 :: c410 :: c411 :: c412 :: c413 :: c414 :: c415 :: c416 :: c417 :: c418 :: c419 :: c420 :: c421 :: c422 :: c423 :: c424 :: c425 :: c426 :: c427 :: c428 :: c429 :: c430 :: c431 :: c432 :: c433 :: c434 :: c435 :: c436 :: c437 :: c438 :: c439 :: c440 :: c441 :: c442 :: c443 :: c444 :: c445 :: c446 :: c447 :: c448 :: c449 :: c450 :: c451 :: c452 :: c453 :: c454 :: c455 :: c456 :: c457 :: c458 :: c459 :: c460 :: c461 :: c462 :: c463 :: c464 :: c465 :: c466 :: c467 :: c468 :: c469 :: c470 :: c471 :: c472 :: c473 :: c474 :: c475 :: c476 :: c477 :: c478 :: c479 :: c480 :: c481 :: c482 :: c483 :: c484 :: c485 :: c486 :: c487 :: c488 :: c489 :: c490 :: c491 :: c492 :: c493 :: c494 :: c495 :: c496 :: c497 :: c498 :: c499 :: c500 :: c501 :: c502 :: c503 :: []), []⟩ w') :
    Code.wp Tryz.prog (Code.loop fL3) Q0 ⟨List.toArray (c0 :: c1 :: c2 :: c3 :: c4 :: c5 :: c6 :: c7 :: c8 :: c9 :: c10 :: c11 :: c12 :: .int .i64 k0 :: c14 :: .pointer (some ⟨T, 0, none⟩) :: c16 :: c17 :: c18 :: c19 :: c20 :: c21 :: c22 :: c23 :: c24 :: c25 :: c26 :: c27 :: c28 :: c29 :: c30 :: c31 :: c32 :: c33 :: c34 :: c35 :: c36 :: c37 :: c38 :: c39 :: c40 :: c41 :: c42 :: c43 :: c44 :: c45 :: c46 :: c47 :: c48 :: c49 :: c50 :: c51 :: c52 :: c53 :: c54 :: c55 :: c56 :: c57 :: c58 :: c59 :: c60 :: c61 :: c62 :: c63 :: c64 :: c65 :: c66 :: c67 :: c68 :: c69 :: c70 :: c71 :: c72 :: c73 :: c74 :: c75 :: c76 :: c77 :: c78 :: c79 :: c80 :: c81 :: c82 :: c83 :: c84 :: c85 :: c86 :: c87 :: c88 :: c89 :: c90 :: c91 :: c92 :: c93 :: c94 :: c95 :: c96 :: c97 :: c98 :: c99 :: c100 :: c101 :: c102 :: c103 :: c104 :: c105 :: c106 :: c107 :: c108 :: c109 :: c110 :: c111 :: c112 :: c113 :: c114 :: c115 :: c116 :: c117 :: c118 :: c119 :: c120 :: c121 :: c122 :: c123 :: c124 :: c125 :: c126 :: c127 :: c128 :: c129 :: c130 :: c131 :: c132 :: c133 :: c134 :: c135 :: c136 :: c137 :: c138 :: c139 :: c140 :: c141 :: c142 :: c143 :: c144 :: c145 :: c146 :: c147 :: c148 :: c149 :: c150 :: c151 :: c152 :: c153 :: c154 :: c155 :: c156 :: c157 :: c158 :: c159 :: c160 :: c161 :: c162 :: c163 :: c164 :: c165 :: c166 :: c167 :: c168 :: c169 :: c170 :: c171 :: c172 :: c173 :: c174 :: c175 :: c176 :: c177 :: c178 :: c179 :: c180 :: c181 :: c182 :: c183 :: c184 :: c185 :: c186 :: c187 :: c188 :: c189 :: c190 :: c191 :: c192 :: c193 :: c194 :: c195 :: c196 :: c197 :: c198 :: c199 :: c200 :: c201 :: c202 :: c203 :: c204 :: c205 :: c206 :: c207 :: c208 :: c209 :: c210 :: c211 :: c212 :: c213 :: c214 :: c215 :: c216 :: c217 :: c218 :: c219 :: c220 :: c221 :: c222 :: c223 :: c224 :: c225 :: c226 :: c227 :: c228 :: c229 :: c230 :: c231 :: c232 :: c233 :: c234 :: c235 :: c236 :: c237 :: c238 :: c239 :: c240 :: c241 :: c242 :: .slice AM GM.length cM :: .int .i64 GM.length :: .int .i64 0 :: c246 :: c247 :: c248 :: c249 :: c250 :: c251 :: c252 :: c253 :: c254 :: c255 :: c256 :: c257 :: c258 :: c259 :: c260 :: c261 :: c262 :: c263 :: c264 :: c265 :: c266 :: c267 :: c268 :: c269 :: c270 :: c271 :: c272 :: c273 :: c274 :: c275 :: c276 :: c277 :: c278 :: c279 :: c280 :: c281 :: c282 :: c283 :: c284 :: c285 :: c286 :: c287 :: c288 :: c289 :: c290 :: c291 :: c292 :: c293 :: c294 :: c295 :: c296 :: c297 :: c298 :: c299 :: c300 :: c301 :: c302 :: c303 :: c304 :: c305 :: c306 :: c307 :: c308 :: c309 :: c310 :: c311 :: c312 :: c313 :: c314 :: c315 :: c316 :: c317 :: c318 :: c319 :: c320 :: c321 :: c322 :: c323 :: c324 :: c325 :: c326 :: c327 :: c328 :: c329 :: c330 :: c331 :: c332 :: c333 :: c334 :: c335 :: c336 :: c337 :: c338 :: c339 :: c340 :: c341 :: c342 :: c343 :: c344 :: c345 :: c346 :: c347 :: c348 :: c349 :: c350 :: c351 :: c352 :: c353 :: c354 :: c355 :: c356 :: c357 :: c358 :: c359 :: c360 :: c361 :: c362 :: c363 :: c364 :: c365 :: c366 :: c367 :: c368 :: c369 :: c370 :: c371 :: c372 :: c373 :: c374 :: c375 :: c376 :: c377 :: c378 :: c379 :: c380 :: c381 :: c382 :: c383 :: c384 :: c385 :: c386 :: c387 :: c388 :: c389 :: c390 :: c391 :: c392 :: c393 :: c394 :: c395 :: c396 :: c397 :: c398 :: c399 :: c400 :: c401 :: c402 :: c403 :: c404 :: c405 :: c406 :: c407 :: c408 :: c409 :: c410 :: c411 :: c412 :: c413 :: c414 :: c415 :: c416 :: c417 :: c418 :: c419 :: c420 :: c421 :: c422 :: c423 :: c424 :: c425 :: c426 :: c427 :: c428 :: c429 :: c430 :: c431 :: c432 :: c433 :: c434 :: c435 :: c436 :: c437 :: c438 :: c439 :: c440 :: c441 :: c442 :: c443 :: c444 :: c445 :: c446 :: c447 :: c448 :: c449 :: c450 :: c451 :: c452 :: c453 :: c454 :: c455 :: c456 :: c457 :: c458 :: c459 :: c460 :: c461 :: c462 :: c463 :: c464 :: c465 :: c466 :: c467 :: c468 :: c469 :: c470 :: c471 :: c472 :: c473 :: c474 :: c475 :: c476 :: c477 :: c478 :: c479 :: c480 :: c481 :: c482 :: c483 :: c484 :: c485 :: c486 :: c487 :: c488 :: c489 :: c490 :: c491 :: c492 :: c493 :: c494 :: c495 :: c496 :: c497 :: c498 :: c499 :: c500 :: c501 :: c502 :: c503 :: []), []⟩ W := by
  obtain ⟨i0, hi, hz0, hz1, hz2⟩ := info_parts spanInfo
  have HIS := hd (And.intro hi (And.intro hz0 (And.intro hz1 hz2)))
  clear hi hz0 hz1 hz2
  conv => arg 2; arg 1; whnf
  have HX := hd hexit
  clear hexit
  go_loopw [245] (fun kv wr => ∃ k : Nat, k ≤ GM.length ∧ kv = .int .i64 k ∧ Hid (TJ T W.heap.size W nm st LV GM k0 k wr)) (fun kv _ => GM.length - (intOf kv).toNat)
  case atStart => exact ⟨0, Nat.zero_le _, rfl, HJ0⟩
  case round =>
    obtain ⟨k, hk, rfl, HJ⟩ := hrel
    by_cases hlt : k < GM.length
    · have hki : (k : Int) < (GM.length : Int) := by omega
      have HLT := hd (show k < GM.length ∧ GM.length ≤ 100000 from ⟨hlt, HN.out.1⟩)
      have hgn : GM.length ≤ 100000 := HN.out.1
      obtain ⟨lb, lo, rfl, g1, g2⟩ := rdSf RM.out (Below.refl _ W) hlt
      have hne := HMT.out lb lo rfl
      have hlb := World.block_lt_of_cell? _ _ g1
      have hce := HJ.out.oth lb hlb hne
      rw [← cell_sameF hce] at g1 g2
      clear hce hne hlb
      obtain ⟨b0, b1, b2⟩ := HBD.out _ (getD_mem GM k hlt)
      have HNX := hd (shl_next k0 GM k hlt)
      generalize GM.getD k (0, 0) = g at *
      obtain ⟨f, t⟩ := g
      dsimp only at g1 g2 b0 b1 b2 HNX
      have hk0 : (k0 : Int) ≤ 100000 := by have := HN.out.2; omega
      have HJ1 := hd (HJ.out.alloc HT.out (Obj.cells #[.int .i64 f, .int .i64 t] 40))
      have HBX := hd (blk_new wr #[.int .i64 f, .int .i64 t] 40)
      have hX1 := HJ.out.siz
      have HXT := hd (show T < wr.heap.size by have := HT.out; omega)
      clear hX1
      obtain ⟨AG, cG, hbt, hog⟩ := HJ1.out.box
      have HBT := hd hbt
      have HOG := hd hog
      have t3 := blk_cell hbt 3
      simp at t3
      clear hbt hog
      have e1 : IntKind.i64.wrap (f - (k0 : Int)) = f - (k0 : Int) := IntWalk.i64_in _ (by omega)
      have e2 : IntKind.i64.wrap (t - (k0 : Int)) = t - (k0 : Int) := IntWalk.i64_in _ (by omega)
      have HPL := hd (show k + 1 ≤ maxLen ∧ (k + 1) * 16 ≤ 140737488355328 by unfold maxLen; omega)
      go_wp2_with (at_builtin; refine Hid.out ?_)
      refine hd ?_
      clear t3 g1 g2 e1 e2
      have HSZ := hd (show (wr.alloc (Obj.cells #[.int .i64 f, .int .i64 t] 40)).heap.size = wr.heap.size + 1 by simp)
      generalize wr.alloc (Obj.cells #[.int .i64 f, .int .i64 t] 40) = w1 at *
      generalize wr.heap.size = X at *
      refine wpList_append_own _ rfl (.tmp 250) (.tmp 260) 23 rfl W.heap.size 40 i0 (.agg #[.int .i64 0, .int .i64 0]) 2 16 Tryz.underlying23 HIS.out.1 HIS.out.2.1 HIS.out.2.2.1 HIS.out.2.2.2 rfl (by decide) (.slice AG k cG) k (spc (shl k0 (GM.take k))) rfl (HOG.out.alloc _) ⟨X + 1, 0, none⟩ 1 1 [.int .i64 (f - (k0 : Int)), .int .i64 (t - (k0 : Int))] rfl rfl (by rw [← HSZ.out]; exact new_twoF w1 _ _ _) (by simp [Value.oneCell']) HPL.out.1 HPL.out.2 (by have := HJ1.out.siz; simp; omega) ?_
      intro v7 w7 hown7 hg7 _
      obtain ⟨A7, c7, rfl, -⟩ := own_form hown7
      have HJ2 := hd (HJ1.out.alloc HT.out (Obj.cells #[.int .i64 (f - (k0 : Int)), .int .i64 (t - (k0 : Int))] 40))
      have hbt2 := (Below.heap_alloc w1 (Obj.cells #[.int .i64 (f - (k0 : Int)), .int .i64 (t - (k0 : Int))] 40) T (Nat.lt_of_lt_of_le HT.out HJ1.out.siz)).trans HBT.out
      have HM := hd (HJ2.out.more HT.out hbt2 (HOG.out.alloc _) hown7 (by rw [HNX.out, ← spc_snoc]) hg7)
      have bT := (hg7.block T (blk_lt hbt2) (blk_not_row hbt2 (by decide) (HOG.out.alloc _))).trans hbt2
      have t3 := blk_cell bT 3
      have z3 := blk_frozen bT 3
      simp at t3
      clear bT hbt2 hown7 hg7 HJ2
      go_wp2
      go_roundw
      case rel => exact ⟨k + 1, by have := HLT.out; omega, by have := HLT.out; go_num, HM⟩
      case measure => have := HLT.out; simp [intOf]; omega
    · have hki : ¬ (k : Int) < (GM.length : Int) := by omega
      have hke : k = GM.length := by omega
      subst hke
      go_wp2_with fail
      exact HX.out _ _ _ _ _ _ _ _ _ _ _ _ _ _ _ _ _ _ _ _ _ HJ.out
end Go.Proofs.YtnejjnebpbajmaaGreatDoor
