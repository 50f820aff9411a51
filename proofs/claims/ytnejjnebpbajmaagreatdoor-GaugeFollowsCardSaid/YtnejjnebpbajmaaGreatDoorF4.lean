/-
  Contracts of the reference's Total and of the statements' within. Conditions: written at each.
  The loops of GaugeFollows over the filled record, out of the program's own text. Conditions: written at each.
-/
import Derived.Test.YtnejjnebpbajmaaGreatDoorProg
import Derived.Test.YtnejjnebpbajmaaGreatDoorF2
import Derived.BigQuiet
import Derived.Test.YtnejjnebpbajmaaGreatDoorH2
import Derived.Deep.RegionHeld3

namespace Go.Proofs.YtnejjnebpbajmaaGreatDoor
open Go.RowKit
attribute [local go_sem] Oper.semAt_some

set_option maxRecDepth 1000000 in
set_option maxHeartbeats 4000000 in
theorem refTotal_any (sl : Value) (l : List (Int × Int)) (w : World) (h : Rd w w.heap.size sl l.length (spc l)) (hb : ∀ s ∈ l, 0 ≤ s.1 ∧ s.1 < s.2 ∧ s.2 ≤ 100000) (hn : l.length ≤ 2048) :
    Calls Tryz.prog 7 #[sl] w fun e w' => e = .returned (.int .i64 (totK l l.length)) ∧ Below w.heap.size w w' := by
  obtain ⟨A, c, rfl, hc1, hc2, hc⟩ := h
  unfold maxLen at hc2
  have HC := hd hc
  have HBD := hd hb
  clear hc hb
  go_enter Tryz.func7, Tryz.ntmps7
  go_wp2
  go_loopw [3, 4] (fun t i wr => ∃ k : Nat, k ≤ l.length ∧ t = .int .i64 (totK l k) ∧ i = .int .i64 k ∧ Below w.heap.size w wr) (fun _ i _ => l.length - (intOf i).toNat)
  case atStart => exact ⟨0, Nat.zero_le _, rfl, rfl, Below.refl _ _⟩
  case round =>
    obtain ⟨k, hk, rfl, rfl, hb⟩ := hrel
    have HB := hd hb
    clear hb
    by_cases hlt : k < l.length
    · obtain ⟨b, off, rfl, hbb, hcell⟩ := HC.out (by omega)
      obtain ⟨g1, g2⟩ := spc_at l k hlt
      have hs0 : wr.cell? ⟨b, off + k * 2, none⟩ = some (.int .i64 (l[k]).1) := (HB.out.cell (p := ⟨b, _, none⟩) hbb).trans ((hcell (k * 2) (by rw [spc_len]; omega)).trans g1)
      have hs1 : wr.cell? ⟨b, off + k * 2 + 1, none⟩ = some (.int .i64 (l[k]).2) := (HB.out.cell (p := ⟨b, _, none⟩) hbb).trans ((hcell (k * 2 + 1) (by rw [spc_len]; omega)).trans g2)
      obtain ⟨b0, b1, b2⟩ := HBD.out _ (List.getElem_mem hlt)
      obtain ⟨t0, t1⟩ := tot_in l HBD.out k hk
      have HT := hd (show totK l (k + 1) = totK l k + (l[k]).2 - (l[k]).1 from by
        simp only [totK]
        rw [show l.getD k (0, 0) = l[k] by simp [hlt]])
      clear hcell g1 g2
      generalize l[k] = f at *
      obtain ⟨f1, f2⟩ := f
      simp only at b0 b1 b2 hs0 hs1 HT
      have e1 : IntKind.i64.wrap (totK l k + f2) = totK l k + f2 := IntWalk.i64_in _ (by omega)
      have e2 : IntKind.i64.wrap (totK l k + f2 - f1) = totK l k + f2 - f1 := IntWalk.i64_in _ (by omega)
      go_wp2_with fail
      go_quiet (fail)
      go_wp2_with fail
      go_roundw
      case rel => exact ⟨k + 1, by omega, by rw [HT.out], by go_num, below_dr HB.out _⟩
      case measure => simp [intOf]; omega
    · have hke : k = l.length := by omega
      subst hke
      go_wp2_with fail
      go_returns
      exact ⟨rfl, HB.out⟩

set_option maxRecDepth 1000000 in
set_option maxHeartbeats 4000000 in
theorem within_any (f t : Nat) (w : World) :
    Calls Tryz.prog 13 #[.int .i64 (f : Int), .int .i64 (t : Int)] w (OwnsSp w.heap.size (wthn f t) w) := by
  by_cases h : f < t
  · have h1 : ¬ (t : Int) ≤ (f : Int) := by omega
    have HW := hd (show wthn f t = [((f : Int), (t : Int))] from if_pos h)
    clear h
    go_enter Tryz.func13, Tryz.ntmps13
    go_wp2_with fail
    go_returns
    rw [HW.out]
    exact ⟨_, rfl, World.ownsRow_lit w #[.int .i64 (f : Int), .int .i64 (t : Int)] 1 (Nat.le_refl _) (by decide) rfl, (Below.refl _ w).alloc (Nat.le_refl _) _⟩
  · have h1 : (t : Int) ≤ (f : Int) := by omega
    have HW := hd (show wthn f t = [] from if_neg h)
    clear h
    go_enter Tryz.func13, Tryz.ntmps13
    go_wp2_with fail
    go_returns
    rw [HW.out]
    exact ⟨_, rfl, ⟨rfl, .inl ⟨rfl, rfl⟩⟩, Below.refl _ w⟩
end Go.Proofs.YtnejjnebpbajmaaGreatDoor

namespace Go.Proofs.YtnejjnebpbajmaaGreatDoor
open Go.RowKit
attribute [local go_sem] Oper.semAt_some

/-- A region of a text, by its number. -/
def regionOf (k : Nat) : Code → List Code
  | .region i os d => if i = k then [.region i os d] else []
  | .seq a b => regionOf k a ++ regionOf k b
  | .block _ c => regionOf k c
  | .scope c => regionOf k c
  | .cond _ a b => regionOf k a ++ regionOf k b
  | .loop c => regionOf k c
  | _ => []
set_option maxRecDepth 1000000 in
noncomputable def fR31 : Code := ((Tryz.f3.body.map (regionOf 31)).getD []).getD 0 .skip
theorem neF : ((12 : Int) != 0) = true ∧ ((12 : Int) == 0) = false := by decide
/-- The outermost loops' rounds, in their order. -/
def loopsOf : Code → List Code
  | .loop c => [c]
  | .seq a b => loopsOf a ++ loopsOf b
  | .block _ c => loopsOf c
  | .scope c => loopsOf c
  | .cond _ a b => loopsOf a ++ loopsOf b
  | _ => []
set_option maxRecDepth 1000000 in
noncomputable def fL1 : Code := ((Tryz.f3.body.map loopsOf).getD []).getD 0 .skip
set_option maxRecDepth 1000000 in
noncomputable def fL2 : Code := ((Tryz.f3.body.map loopsOf).getD []).getD 1 .skip
set_option maxRecDepth 1000000 in
noncomputable def fL3 : Code := ((Tryz.f3.body.map loopsOf).getD []).getD 2 .skip
set_option maxRecDepth 1000000 in
noncomputable def fL4 : Code := ((Tryz.f3.body.map loopsOf).getD []).getD 3 .skip
set_option maxRecDepth 1000000 in
noncomputable def fL5 : Code := ((Tryz.f3.body.map loopsOf).getD []).getD 4 .skip
noncomputable def fL6 : Code := (loopsOf fL5).getD 0 .skip
theorem rdLf {W V : World} {A : Option Addr} {n c : Nat} {l : List Nat} (h : Rd W W.heap.size (.slice A n c) n (flc l)) (hl : l.length = n) (hb : Below W.heap.size W V) {k : Nat} (hk : k < n) : ∃ b o, A = some ⟨b, o, none⟩ ∧ (∀ j, j < n → V.cell? ⟨b, o + j, none⟩ = some (.float .f32 (l.getD j 0))) := by
  obtain ⟨A', c', e', -, -, hx⟩ := h
  cases e'
  obtain ⟨b, o, rfl, hbb, hc⟩ := hx (by omega)
  exact ⟨b, o, rfl, fun j hj => (hb.cell (p := ⟨b, _, none⟩) hbb).trans ((hc j (by simpa [flc, hl] using hj)).trans (flc_at l j (by omega)))⟩
theorem rdSf {W V : World} {A : Option Addr} {c : Nat} {l : List (Int × Int)} (h : Rd W W.heap.size (.slice A l.length c) l.length (spc l)) (hb : Below W.heap.size W V) {k : Nat} (hk : k < l.length) : ∃ b o, A = some ⟨b, o, none⟩ ∧ V.cell? ⟨b, o + k * 2, none⟩ = some (.int .i64 (l.getD k (0, 0)).1) ∧ V.cell? ⟨b, o + k * 2 + 1, none⟩ = some (.int .i64 (l.getD k (0, 0)).2) := by
  obtain ⟨A', c', e', -, -, hx⟩ := h
  cases e'
  obtain ⟨b, o, rfl, hbb, hc⟩ := hx (by omega)
  obtain ⟨g1, g2⟩ := spc_getD l k hk
  exact ⟨b, o, rfl, (hb.cell (p := ⟨b, _, none⟩) hbb).trans ((hc (k * 2) (by rw [spc_len]; omega)).trans g1), (hb.cell (p := ⟨b, _, none⟩) hbb).trans ((hc (k * 2 + 1) (by rw [spc_len]; omega)).trans g2)⟩
theorem feq_neF {a b : Nat} (h : feqL a b = true) : (FloatKind.f32.format.order a b == some .eq) = true ∧ (FloatKind.f32.format.order a b != some .eq) = false := by
  unfold feqL at h
  exact ⟨h, by simpa using h⟩

set_option maxRecDepth 1000000 in
set_option maxHeartbeats 8000000 in
theorem follows_l1 (nm : ByteArray) (st : Int) (A A2 AL AG AF : Option Addr) (cA cG cL cX cF n B C : Nat) (bs FL : List Nat) (gs FG FF : List (Int × Int)) (W w : World) (Q0 : Exit → Act → World → Prop)
    (HQ : Hid (W.heap[B]? = some (.cells #[.string nm, .int .i64 st, .slice A n cA, .slice A2 gs.length cG] 25 (0, 0)))) (HC : Hid (W.heap[C]? = some (.cells #[.string nm, .int .i64 st, .slice AL n cL, .slice AG FG.length cX] 31 (0, 0))))
    (RL : Hid (Rd W W.heap.size (.slice A n cA) n (flc bs))) (RG : Hid (Rd W W.heap.size (.slice A2 gs.length cG) gs.length (spc gs)))
    (RC : Hid (Rd W W.heap.size (.slice AL n cL) n (flc FL))) (RD : Hid (Rd W W.heap.size (.slice AG FG.length cX) FG.length (spc FG))) (RF : Hid (Rd W W.heap.size (.slice AF FF.length cF) FF.length (spc FF)))
    (HN : Hid (n ≤ 100000 ∧ bs.length = n ∧ FL.length = n)) (HV : Hid (∀ j, j < n → chkLev (FL.getD j 0) = 0))
    (HP : Hid (∀ i : Nat, i < n → (hasL gs (i : Int) = false ∧ FL.getD i 0 = bs.getD i 0 ∧ hasL FG (i : Int) = false ∧ hasL FF (i : Int) = false) ∨ (hasL gs (i : Int) = true ∧ hasL FG (i : Int) = true ∧ hasL FF (i : Int) = false) ∨ (hasL gs (i : Int) = true ∧ hasL FG (i : Int) = false ∧ hasL FF (i : Int) = true ∧ FL.getD i 0 = FL.getD (i - 1) 0))) (HJ0 : Hid (Below W.heap.size W w))
    {c0 c1 c3 c4 c5 c6 c9 c10 c11 c12 c13 c14 c15 c16 c17 c18 c19 c20 c21 c22 c23 c24 c25 c26 c27 c28 c29 c30 c31 c32 c33 c34 c35 c36 c37 c38 c39 c40 c41 c42 c43 c44 c45 c46 c47 c48 c49 c50 c51 c52 c53 c54 c55 c56 c57 c58 c59 c60 c61 c62 c63 c64 c65 c66 c67 c68 c69 c70 c71 c72 c73 c74 c75 c76 c77 c78 c79 c80 c81 c82 c83 c84 c85 c86 c87 c88 c89 c90 c91 c92 c93 c94 c95 c96 c97 c98 c99 c100 c101 c102 c103 c104 c105 c106 c109 c110 c111 c112 c113 c114 c115 c116 c117 c118 c119 c120 c121 c122 c123 c124 c125 c126 c127 c128 c129 c130 c131 c132 c133 c134 c135 c136 c137 c138 c139 c140 c141 c142 c143 c144 c145 c146 c147 c148 c149 c150 c151 c152 c153 c154 c155 c156 c157 c158 c159 c160 c161 c162 c163 c164 c165 c166 c167 c168 c169 c170 c171 c172 c173 c174 c175 c176 c177 c178 c179 c180 c181 c182 c183 c184 c185 c186 c187 c188 c189 c190 c191 c192 c193 c194 c195 c196 c197 c198 c199 c200 c201 c202 c203 c204 c205 c206 c207 c208 c209 c210 c211 c212 c213 c214 c215 c216 c217 c218 c219 c220 c221 c222 c223 c224 c225 c226 c227 c228 c229 c230 c231 c232 c233 c234 c235 c236 c237 c238 c239 c240 c241 c242 c243 c244 c245 c246 c247 c248 c249 c250 c251 c252 c253 c254 c255 c256 c257 c258 c259 c260 c261 c262 c263 c264 c265 c266 c267 c268 c269 c270 c271 c272 c273 c274 c275 c276 c277 c278 c279 c280 c281 c282 c283 c284 c285 c286 c287 c288 c289 c290 c291 c292 c293 c294 c295 c296 c297 c298 c299 c300 c301 c302 c303 c304 c305 c306 c307 c308 c309 c310 c311 c312 c313 c314 c315 c316 c317 c318 c319 c320 c321 c322 c323 c324 c325 c326 c327 c328 c329 c330 c331 c332 c333 c334 c335 c336 c337 c338 c339 c340 c341 c342 c343 c344 c345 c346 c347 c348 c349 c350 c351 c352 c353 c354 c355 c356 c357 c358 c359 c360 c361 c362 c363 c364 c365 c366 c367 c368 c369 c370 c371 c372 c373 c374 c375 c376 c377 c378 c379 c380 c381 c382 c383 c384 c385 c386 c387 c388 c389 c390 c391 c392 c393 c394 c395 c396 c397 c398 c399 c400 c401 c402 c403 c404 c405 c406 c407 c408 c409 c410 c411 c412 c413 c414 c415 c416 c417 c418 c419 c420 c421 c422 c423 c424 c425 c426 c427 c428 c429 c430 c431 c432 c433 c434 c435 c436 c437 c438 c439 c440 c441 c442 c443 c444 c445 c446 c447 c448 c449 c450 c451 c452 c453 c454 c455 c456 c457 c458 c459 c460 c461 c462 c463 c464 c465 c466 c467 c468 c469 c470 c471 c472 c473 c474 c475 c476 c477 c478 c479 c480 c481 c482 c483 c484 c485 c486 c487 c488 c489 c490 c491 c492 c493 c494 c495 c496 c497 c498 c499 c500 c501 c502 c503 : Value}
    (hexit : ∀ (u4 u10 u108 u109 u110 u111 u112 u113 u114 u115 u116 u117 u118 u119 u120 u121 u122 u123 u124 u125 u126 u127 u128 u129 u130 u131 u132 u133 u134 u135 u136 u137 u138 u139 u140 u141 u142 u143 u144 u145 u146 u147 u148 u149 u150 u151 u152 u153 u154 u155 u156 u157 u158 u159 u160 u161 u162 u163 u164 u165 u166 u167 u168 u169 u170 u171 u172 u173 u174 u175 u176 : Value) (w' : World), Below W.heap.size W w' → Q0 (.exit 0) ⟨List.toArray (c0 :: c1 :: .pointer (some ⟨B, 0, none⟩) :: c3 :: u4 :: c5 :: c6 :: .pointer (some ⟨C, 0, none⟩) :: .slice AF FF.length cF :: c9 :: u10 :: c11 :: c12 :: c13 :: c14 :: c15 :: c16 :: c17 :: c18 :: c19 :: c20 :: c21 :: c22 :: c23 :: c24 :: c25 :: c26 :: c27 :: c28 :: c29 :: c30 :: c31 :: c32 :: c33 :: c34 :: c35 :: c36 :: c37 :: c38 :: c39 :: c40 :: c41 :: c42 :: c43 :: c44 :: c45 :: c46 :: c47 :: c48 :: c49 :: c50 :: c51 :: c52 :: c53 :: c54 :: c55 :: c56 :: c57 :: c58 :: c59 :: c60 :: c61 :: c62 :: c63 :: c64 :: c65 :: c66 :: c67 :: c68 :: c69 :: c70 :: c71 :: c72 :: c73 :: c74 :: c75 :: c76 :: c77 :: c78 :: c79 :: c80 :: c81 :: c82 :: c83 :: c84 :: c85 :: c86 :: c87 :: c88 :: c89 :: c90 :: c91 :: c92 :: c93 :: c94 :: c95 :: c96 :: c97 :: c98 :: c99 :: c100 :: c101 :: c102 :: c103 :: c104 :: c105 :: c106 :: .int .i64 n :: u108 :: u109 :: u110 :: u111 :: u112 :: u113 :: u114 :: u115 :: u116 :: u117 :: u118 :: u119 :: u120 :: u121 :: u122 :: u123 :: u124 :: u125 :: u126 :: u127 :: u128 :: u129 :: u130 :: u131 :: u132 :: u133 :: u134 :: u135 :: u136 :: u137 :: u138 :: u139 :: u140 :: u141 :: u142 :: u143 :: u144 :: u145 :: u146 :: u147 :: u148 :: u149 :: u150 :: u151 :: u152 :: u153 :: u154 :: u155 :: u156 :: u157 :: u158 :: u159 :: u160 :: u161 :: u162 :: u163 :: u164 :: u165 :: u166 :: u167 :: u168 :: u169 :: u170 :: u171 :: u172 :: u173 :: u174 :: u175 :: u176 :: c177 :: c178 :: c179 :: c180 :: c181 :: c182 :: c183 :: c184 :: c185 :: c186 :: c187 :: c188 :: c189 :: c190 :: c191 :: c192 :: c193 :: c194 :: c195 :: c196 :: c197 :: c198 :: c199 :: c200 :: c201 :: c202 :: c203 :: c204 :: c205 :: c206 :: c207 :: c208 :: c209 :: c210 :: c211 :: c212 :: c213 :: c214 :: c215 :: c216 :: c217 :: c218 :: c219 :: c220 :: c221 :: c222 :: c223 :: c224 :: c225 :: c226 :: c227 :: c228 :: c229 :: c230 :: c231 :: c232 :: c233 :: c234 :: c235 :: c236 :: c237 :: c238 :: c239 :: c240 :: c241 :: c242 :: c243 :: c244 :: c245 :: c246 :: c247 :: c248 :: c249 :: c250 :: c251 :: c252 :: c253 :: c254 :: c255 :: c256 :: c257 :: c258 :: c259 :: c260 :: c261 :: c262 :: c263 :: c264 :: c265 :: c266 :: c267 :: c268 :: c269 :: c270 :: c271 :: c272 :: c273 :: c274 :: c275 :: c276 :: c277 :: c278 :: c279 :: c280 :: c281 :: c282 :: c283 :: c284 :: c285 :: c286 :: c287 :: c288 :: c289 :: c290 :: c291 :: c292 :: c293 :: c294 :: c295 :: c296 :: c297 :: c298 :: c299 :: c300 :: c301 :: c302 :: c303 :: c304 :: c305 :: c306 :: c307 :: c308 :: c309 :: c310 :: c311 :: c312 :: c313 :: c314 :: c315 :: c316 :: c317 :: c318 :: c319 :: c320 :: c321 :: c322 :: c323 :: c324 :: c325 :: c326 :: c327 :: c328 :: c329 :: c330 :: c331 :: c332 :: c333 :: c334 :: c335 :: c336 :: c337 :: c338 :: c339 :: c340 :: c341 :: c342 :: c343 :: c344 :: c345 :: c346 :: c347 :: c348 :: c349 :: c350 :: c351 :: c352 :: c353 :: c354 :: c355 :: c356 :: c357 :: c358 :: c359 :: c360 :: c361 :: c362 :: c363 :: c364 :: c365 :: c366 :: c367 :: c368 :: c369 :: c370 :: c371 :: c372 :: c373 :: c374 :: c375 :: c376 :: c377 :: c378 :: c379 :: c380 :: c381 :: c382 :: c383 :: c384 :: c385 :: c386 :: c387 :: c388 :: c389 :: c390 :: c391 :: c392 :: c393 :: c394 :: c395 :: c396 :: c397 :: c398 :: c399 :: c400 :: c401 :: c402 :: c403 :: c404 :: c405 :: c406 :: c407 :: c408 :: c409 :: c410 :: c411 :: c412 :: c413 :: c414 :: c415 :: c416 :: c417 :: c418 :: c419 :: c420 :: c421 :: c422 :: c423 :: c424 :: c425 :: c426 :: c427 :: c428 :: c429 :: c430 :: c431 :: c432 :: c433 :: c434 :: c435 :: c436 :: c437 :: c438 :: c439 :: c440 :: c441 :: c442 :: c443 :: c444 :: c445 :: c446 :: c447 :: c448 :: c449 :: c450 :: c451 :: c452 :: c453 :: c454 :: c455 :: c456 :: c457 :: c458 :: c459 :: c460 :: c461 :: c462 :: c463 :: c464 :: c465 :: c466 :: c467 :: c468 :: c469 :: c470 :: c471 :: c472 :: c473 :: c474 :: c475 :: c476 :: c477 :: c478 :: c479 :: c480 :: c481 :: c482 :: c483 :: c484 :: c485 :: c486 :: c487 :: c488 :: c489 :: c490 :: c491 :: c492 :: c493 :: c494 :: c495 :: c496 :: c497 :: c498 :: c499 :: c500 :: c501 :: c502 :: c503 :: []), []⟩ w') :
    Code.wp Tryz.prog (Code.loop fL1) Q0 ⟨List.toArray (c0 :: c1 :: .pointer (some ⟨B, 0, none⟩) :: c3 :: c4 :: c5 :: c6 :: .pointer (some ⟨C, 0, none⟩) :: .slice AF FF.length cF :: c9 :: c10 :: c11 :: c12 :: c13 :: c14 :: c15 :: c16 :: c17 :: c18 :: c19 :: c20 :: c21 :: c22 :: c23 :: c24 :: c25 :: c26 :: c27 :: c28 :: c29 :: c30 :: c31 :: c32 :: c33 :: c34 :: c35 :: c36 :: c37 :: c38 :: c39 :: c40 :: c41 :: c42 :: c43 :: c44 :: c45 :: c46 :: c47 :: c48 :: c49 :: c50 :: c51 :: c52 :: c53 :: c54 :: c55 :: c56 :: c57 :: c58 :: c59 :: c60 :: c61 :: c62 :: c63 :: c64 :: c65 :: c66 :: c67 :: c68 :: c69 :: c70 :: c71 :: c72 :: c73 :: c74 :: c75 :: c76 :: c77 :: c78 :: c79 :: c80 :: c81 :: c82 :: c83 :: c84 :: c85 :: c86 :: c87 :: c88 :: c89 :: c90 :: c91 :: c92 :: c93 :: c94 :: c95 :: c96 :: c97 :: c98 :: c99 :: c100 :: c101 :: c102 :: c103 :: c104 :: c105 :: c106 :: .int .i64 n :: .int .i64 0 :: c109 :: c110 :: c111 :: c112 :: c113 :: c114 :: c115 :: c116 :: c117 :: c118 :: c119 :: c120 :: c121 :: c122 :: c123 :: c124 :: c125 :: c126 :: c127 :: c128 :: c129 :: c130 :: c131 :: c132 :: c133 :: c134 :: c135 :: c136 :: c137 :: c138 :: c139 :: c140 :: c141 :: c142 :: c143 :: c144 :: c145 :: c146 :: c147 :: c148 :: c149 :: c150 :: c151 :: c152 :: c153 :: c154 :: c155 :: c156 :: c157 :: c158 :: c159 :: c160 :: c161 :: c162 :: c163 :: c164 :: c165 :: c166 :: c167 :: c168 :: c169 :: c170 :: c171 :: c172 :: c173 :: c174 :: c175 :: c176 :: c177 :: c178 :: c179 :: c180 :: c181 :: c182 :: c183 :: c184 :: c185 :: c186 :: c187 :: c188 :: c189 :: c190 :: c191 :: c192 :: c193 :: c194 :: c195 :: c196 :: c197 :: c198 :: c199 :: c200 :: c201 :: c202 :: c203 :: c204 :: c205 :: c206 :: c207 :: c208 :: c209 :: c210 :: c211 :: c212 :: c213 :: c214 :: c215 :: c216 :: c217 :: c218 :: c219 :: c220 :: c221 :: c222 :: c223 :: c224 :: c225 :: c226 :: c227 :: c228 :: c229 :: c230 :: c231 :: c232 :: c233 :: c234 :: c235 :: c236 :: c237 :: c238 :: c239 :: c240 :: c241 :: c242 :: c243 :: c244 :: c245 :: c246 :: c247 :: c248 :: c249 :: c250 :: c251 :: c252 :: c253 :: c254 :: c255 :: c256 :: c257 :: c258 :: c259 :: c260 :: c261 :: c262 :: c263 :: c264 :: c265 :: c266 :: c267 :: c268 :: c269 :: c270 :: c271 :: c272 :: c273 :: c274 :: c275 :: c276 :: c277 :: c278 :: c279 :: c280 :: c281 :: c282 :: c283 :: c284 :: c285 :: c286 :: c287 :: c288 :: c289 :: c290 :: c291 :: c292 :: c293 :: c294 :: c295 :: c296 :: c297 :: c298 :: c299 :: c300 :: c301 :: c302 :: c303 :: c304 :: c305 :: c306 :: c307 :: c308 :: c309 :: c310 :: c311 :: c312 :: c313 :: c314 :: c315 :: c316 :: c317 :: c318 :: c319 :: c320 :: c321 :: c322 :: c323 :: c324 :: c325 :: c326 :: c327 :: c328 :: c329 :: c330 :: c331 :: c332 :: c333 :: c334 :: c335 :: c336 :: c337 :: c338 :: c339 :: c340 :: c341 :: c342 :: c343 :: c344 :: c345 :: c346 :: c347 :: c348 :: c349 :: c350 :: c351 :: c352 :: c353 :: c354 :: c355 :: c356 :: c357 :: c358 :: c359 :: c360 :: c361 :: c362 :: c363 :: c364 :: c365 :: c366 :: c367 :: c368 :: c369 :: c370 :: c371 :: c372 :: c373 :: c374 :: c375 :: c376 :: c377 :: c378 :: c379 :: c380 :: c381 :: c382 :: c383 :: c384 :: c385 :: c386 :: c387 :: c388 :: c389 :: c390 :: c391 :: c392 :: c393 :: c394 :: c395 :: c396 :: c397 :: c398 :: c399 :: c400 :: c401 :: c402 :: c403 :: c404 :: c405 :: c406 :: c407 :: c408 :: c409 :: c410 :: c411 :: c412 :: c413 :: c414 :: c415 :: c416 :: c417 :: c418 :: c419 :: c420 :: c421 :: c422 :: c423 :: c424 :: c425 :: c426 :: c427 :: c428 :: c429 :: c430 :: c431 :: c432 :: c433 :: c434 :: c435 :: c436 :: c437 :: c438 :: c439 :: c440 :: c441 :: c442 :: c443 :: c444 :: c445 :: c446 :: c447 :: c448 :: c449 :: c450 :: c451 :: c452 :: c453 :: c454 :: c455 :: c456 :: c457 :: c458 :: c459 :: c460 :: c461 :: c462 :: c463 :: c464 :: c465 :: c466 :: c467 :: c468 :: c469 :: c470 :: c471 :: c472 :: c473 :: c474 :: c475 :: c476 :: c477 :: c478 :: c479 :: c480 :: c481 :: c482 :: c483 :: c484 :: c485 :: c486 :: c487 :: c488 :: c489 :: c490 :: c491 :: c492 :: c493 :: c494 :: c495 :: c496 :: c497 :: c498 :: c499 :: c500 :: c501 :: c502 :: c503 :: []), []⟩ w := by
  conv => arg 2; arg 1; whnf
  have HX := hd hexit
  clear hexit
  go_loopw [108] (fun kv wr => ∃ k : Nat, k ≤ n ∧ kv = .int .i64 k ∧ Hid (Below W.heap.size W wr)) (fun kv _ => n - (intOf kv).toNat)
  case atStart => exact ⟨0, Nat.zero_le _, rfl, HJ0⟩
  case round =>
    obtain ⟨k, hk, rfl, HJ⟩ := hrel
    by_cases hlt : k < n
    · have hki : (k : Int) < (n : Int) := by omega
      have HLT := hd (show k < n ∧ n ≤ 100000 from ⟨hlt, HN.out.1⟩)
      have hnn : n ≤ 100000 := HN.out.1
      have hq := (HJ.out.block _ (blk_lt HQ.out)).trans HQ.out
      have hc := (HJ.out.block _ (blk_lt HC.out)).trans HC.out
      obtain ⟨yb, yo, rfl, hy0⟩ := rdLf RC.out HN.out.2.2 HJ.out hlt
      obtain ⟨lb, lo, rfl, hl0⟩ := rdLf RL.out HN.out.2.1 HJ.out hlt
      have HY0 := hd hy0
      have HL0 := hd hl0
      clear hy0 hl0
      have H1 := fun p : Bw wr => has_any (.slice A2 gs.length cG) gs (k : Int) p.out ((RG.out.below (HJ.out.trans (p.below.mono HJ.out.size)) (Nat.le_refl _)).mono (HJ.out.trans (p.below.mono HJ.out.size)).size)
      have H2 := fun p : Bw wr => has_any (.slice AG FG.length cX) FG (k : Int) p.out ((RD.out.below (HJ.out.trans (p.below.mono HJ.out.size)) (Nat.le_refl _)).mono (HJ.out.trans (p.below.mono HJ.out.size)).size)
      have H3 := fun p : Bw wr => has_any (.slice AF FF.length cF) FF (k : Int) p.out ((RF.out.below (HJ.out.trans (p.below.mono HJ.out.size)) (Nat.le_refl _)).mono (HJ.out.trans (p.below.mono HJ.out.size)).size)
      rcases HP.out k hlt with ⟨e1, e2, e3, e4⟩ | ⟨e1, e2, e3⟩ | ⟨e1, e2, e3, e4⟩
      · rw [e1] at H1; rw [e3] at H2; rw [e4] at H3
        replace H1 := hd H1; replace H2 := hd H2; replace H3 := hd H3
        have hy0 := HY0.out k hlt; have hl0 := HL0.out k hlt
        rw [e2] at hy0
        obtain ⟨q1, q2⟩ := feq_neF (feq_self (show chkLev (bs.getD k 0) = 0 by rw [← e2]; exact HV.out k hlt))
        clear e1 e2 e3 e4
        generalize bs.getD k 0 = x at *
        have FB2 : ∀ p : Bw wr, p.out.cell? ⟨B, 2, none⟩ = some (.slice (some ⟨lb, lo, none⟩) n cA) := fun p => p.cell (blk_lt hq) (blk_cell hq 2)
        have FB3 : ∀ p : Bw wr, p.out.cell? ⟨B, 3, none⟩ = some (.slice A2 gs.length cG) := fun p => p.cell (blk_lt hq) (blk_cell hq 3)
        have FC2 : ∀ p : Bw wr, p.out.cell? ⟨C, 2, none⟩ = some (.slice (some ⟨yb, yo, none⟩) n cL) := fun p => p.cell (blk_lt hc) (blk_cell hc 2)
        have FC3 : ∀ p : Bw wr, p.out.cell? ⟨C, 3, none⟩ = some (.slice AG FG.length cX) := fun p => p.cell (blk_lt hc) (blk_cell hc 3)
        clear hq hc
        have FY : ∀ p : Bw wr, p.out.cell? ⟨yb, yo + k, none⟩ = some (.float .f32 x) := fun p => p.cell (World.block_lt_of_cell? _ _ hy0) hy0
        have FX : ∀ p : Bw wr, p.out.cell? ⟨lb, lo + k, none⟩ = some (.float .f32 x) := fun p => p.cell (World.block_lt_of_cell? _ _ hl0) hl0
        clear hy0 hl0
        go_wp2_with fail
        dsimp only [List.append]
        refine wp_region_bw (by kernel_rfl) (by kernel_rfl) ?_
        repeat (first | go_big_quiet_step (fail))
        go_big_quiet_step (first | (go_at_call 11; exact Bw.pure _ (H1.out _)))
        repeat (first | go_big_quiet_step (fail))
        go_big_quiet_step (first | (go_at_call 11; exact Bw.pure _ (H2.out _)))
        repeat (first | go_big_quiet_step (fail))
        go_big_quiet_step (first | (go_at_call 11; exact Bw.pure _ (H3.out _)))
        repeat (first | go_big_quiet_step (fail))
        go_big_quiet_step (first | (go_at_call 11; exact Bw.pure _ (H1.out _)))
        repeat (first | go_big_quiet_step (fail))
        go_big_quiet_step (first | (go_at_call 11; exact Bw.pure _ (H3.out _)))
        repeat (first | go_big_quiet_step (fail))
        refine wpQuiet_nil ?_
        rintro ⟨w2, hb⟩
        change Exit.then _ _ _ _ w2
        have HJ2 := hd (HJ.out.trans (hb.mono HJ.out.size))
        go_wp2
        go_roundw
        case rel => exact ⟨k + 1, by have := HLT.out; omega, by have := HLT.out; go_num, HJ2⟩
        case measure => have := HLT.out; simp [intOf]; omega
      · rw [e1] at H1; rw [e2] at H2; rw [e3] at H3
        replace H1 := hd H1; replace H2 := hd H2; replace H3 := hd H3
        clear e1 e2 e3
        have FB2 : ∀ p : Bw wr, p.out.cell? ⟨B, 2, none⟩ = some (.slice (some ⟨lb, lo, none⟩) n cA) := fun p => p.cell (blk_lt hq) (blk_cell hq 2)
        have FB3 : ∀ p : Bw wr, p.out.cell? ⟨B, 3, none⟩ = some (.slice A2 gs.length cG) := fun p => p.cell (blk_lt hq) (blk_cell hq 3)
        have FC2 : ∀ p : Bw wr, p.out.cell? ⟨C, 2, none⟩ = some (.slice (some ⟨yb, yo, none⟩) n cL) := fun p => p.cell (blk_lt hc) (blk_cell hc 2)
        have FC3 : ∀ p : Bw wr, p.out.cell? ⟨C, 3, none⟩ = some (.slice AG FG.length cX) := fun p => p.cell (blk_lt hc) (blk_cell hc 3)
        clear hq hc
        go_wp2_with fail
        dsimp only [List.append]
        refine wp_region_bw (by kernel_rfl) (by kernel_rfl) ?_
        repeat (first | go_big_quiet_step (fail))
        go_big_quiet_step (first | (go_at_call 11; exact Bw.pure _ (H1.out _)))
        repeat (first | go_big_quiet_step (fail))
        go_big_quiet_step (first | (go_at_call 11; exact Bw.pure _ (H1.out _)))
        repeat (first | go_big_quiet_step (fail))
        go_big_quiet_step (first | (go_at_call 11; exact Bw.pure _ (H2.out _)))
        repeat (first | go_big_quiet_step (fail))
        go_big_quiet_step (first | (go_at_call 11; exact Bw.pure _ (H3.out _)))
        repeat (first | go_big_quiet_step (fail))
        go_big_quiet_step (first | (go_at_call 11; exact Bw.pure _ (H3.out _)))
        repeat (first | go_big_quiet_step (fail))
        refine wpQuiet_nil ?_
        rintro ⟨w2, hb⟩
        change Exit.then _ _ _ _ w2
        have HJ2 := hd (HJ.out.trans (hb.mono HJ.out.size))
        go_wp2
        go_roundw
        case rel => exact ⟨k + 1, by have := HLT.out; omega, by have := HLT.out; go_num, HJ2⟩
        case measure => have := HLT.out; simp [intOf]; omega
      · rw [e1] at H1; rw [e2] at H2; rw [e3] at H3
        replace H1 := hd H1; replace H2 := hd H2; replace H3 := hd H3
        have hy0 := HY0.out k hlt; have hz0 := HY0.out (k - 1) (by omega)
        rw [← e4] at hz0
        obtain ⟨q1, q2⟩ := feq_neF (feq_self (HV.out k hlt))
        clear e1 e2 e3 e4
        generalize FL.getD k 0 = x at *
        have FB2 : ∀ p : Bw wr, p.out.cell? ⟨B, 2, none⟩ = some (.slice (some ⟨lb, lo, none⟩) n cA) := fun p => p.cell (blk_lt hq) (blk_cell hq 2)
        have FB3 : ∀ p : Bw wr, p.out.cell? ⟨B, 3, none⟩ = some (.slice A2 gs.length cG) := fun p => p.cell (blk_lt hq) (blk_cell hq 3)
        have FC2 : ∀ p : Bw wr, p.out.cell? ⟨C, 2, none⟩ = some (.slice (some ⟨yb, yo, none⟩) n cL) := fun p => p.cell (blk_lt hc) (blk_cell hc 2)
        have FC3 : ∀ p : Bw wr, p.out.cell? ⟨C, 3, none⟩ = some (.slice AG FG.length cX) := fun p => p.cell (blk_lt hc) (blk_cell hc 3)
        clear hq hc
        have FY : ∀ p : Bw wr, p.out.cell? ⟨yb, yo + k, none⟩ = some (.float .f32 x) := fun p => p.cell (World.block_lt_of_cell? _ _ hy0) hy0
        have FZ : ∀ p : Bw wr, p.out.cell? ⟨yb, yo + (k - 1), none⟩ = some (.float .f32 x) := fun p => p.cell (World.block_lt_of_cell? _ _ hz0) hz0
        have hmx : max (0 : Int) ((k : Int) - 1) = ((k - 1 : Nat) : Int) := by omega
        have hk1 : k - 1 < n := by omega
        have hk2 : ((k - 1 : Nat) : Int) < (n : Int) := by omega
        clear hy0 hz0
        go_wp2_with fail
        dsimp only [List.append]
        refine wp_region_bw (by kernel_rfl) (by kernel_rfl) ?_
        repeat (first | go_big_quiet_step (fail))
        go_big_quiet_step (first | (go_at_call 11; exact Bw.pure _ (H1.out _)))
        repeat (first | go_big_quiet_step (fail))
        go_big_quiet_step (first | (go_at_call 11; exact Bw.pure _ (H1.out _)))
        repeat (first | go_big_quiet_step (fail))
        go_big_quiet_step (first | (go_at_call 11; exact Bw.pure _ (H2.out _)))
        repeat (first | go_big_quiet_step (fail))
        go_big_quiet_step (first | (go_at_call 11; exact Bw.pure _ (H3.out _)))
        repeat (first | go_big_quiet_step (fail))
        go_big_quiet_step (first | (go_at_call 11; exact Bw.pure _ (H3.out _)))
        repeat (first | go_big_quiet_step (fail))
        refine wpQuiet_nil ?_
        rintro ⟨w2, hb⟩
        change Exit.then _ _ _ _ w2
        have HJ2 := hd (HJ.out.trans (hb.mono HJ.out.size))
        go_wp2
        go_roundw
        case rel => exact ⟨k + 1, by have := HLT.out; omega, by have := HLT.out; go_num, HJ2⟩
        case measure => have := HLT.out; simp [intOf]; omega
    · have hki : ¬ (k : Int) < (n : Int) := by omega
      go_wp2_with fail
      exact HX.out _ _ _ _ _ _ _ _ _ _ _ _ _ _ _ _ _ _ _ _ _ _ _ _ _ _ _ _ _ _ _ _ _ _ _ _ _ _ _ _ _ _ _ _ _ _ _ _ _ _ _ _ _ _ _ _ _ _ _ _ _ _ _ _ _ _ _ _ _ _ _ _ HJ.out
end Go.Proofs.YtnejjnebpbajmaaGreatDoor
