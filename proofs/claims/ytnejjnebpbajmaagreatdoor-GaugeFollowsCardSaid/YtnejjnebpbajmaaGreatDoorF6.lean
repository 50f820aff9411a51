/-
  A record that is copied, with rows of its own; the loop of GaugeFollows that turns its levels upside down. Conditions: written at the theorems.
-/
import Derived.Test.YtnejjnebpbajmaaGreatDoorF4
import Derived.Test.YtnejjnebpbajmaaGreatDoorQ5
namespace Go.Proofs.YtnejjnebpbajmaaGreatDoor
open Go.RowKit
attribute [local go_sem] Oper.semAt_some

/-- A record that was copied into rows of its own. -/
def RecO (nm : ByteArray) (st : Int) (bs : List Nat) (gs : List (Int × Int)) (w : World) (e : Ending) (w' : World) : Prop :=
  ∃ lv gv, e = .returned (.agg #[.string nm, .int .i64 st, lv, gv]) ∧ w'.ownsRow w.heap.size 38 1 lv bs.length (flc bs) ∧ w'.ownsRow w.heap.size 40 2 gv gs.length (spc gs) ∧ Below w.heap.size w w'

set_option maxRecDepth 1000000 in
set_option maxHeartbeats 4000000 in
theorem lawRecord_own (nm : ByteArray) (st : Int) (lv gv : Value) (bs : List Nat) (gs : List (Int × Int)) (w : World) (hl : Rd w w.heap.size lv bs.length (flc bs)) (hg : Rd w w.heap.size gv gs.length (spc gs)) (fl : Full lv) (fg : Full gv) (hn : bs.length ≤ 100000) (hm : gs.length ≤ 100000) :
    Calls Tryz.prog 9 #[.agg #[.string nm, .int .i64 st, lv, gv]] w (RecO nm st bs gs w) := by
  have HLr := hd hl
  have HGr := hd hg
  have FL := hd fl
  have FG := hd fg
  have HN := hd (And.intro hn hm)
  obtain ⟨A, c, rfl, -⟩ := hl
  obtain ⟨A2, c2, rfl, -⟩ := hg
  clear fl fg hn hm
  go_enter Tryz.func9, Tryz.ntmps9
  go_wp2_with fail
  obtain ⟨W2, hW2⟩ : ∃ W2, W2 = (w.alloc (.cells #[.string nm, .int .i64 st, .slice A bs.length c, .slice A2 gs.length c2] 25)).alloc (.cells #[.string ⟨#[]⟩, .int .i64 0, .slice none 0 0, .slice none 0 0] 31) := ⟨_, rfl⟩
  have hs2 : W2.heap.size = w.heap.size + 2 := by rw [hW2]; simp
  have hb0 : Below w.heap.size w W2 := by rw [hW2]; exact ((Below.refl _ w).alloc (Nat.le_refl _) _).alloc (by simp) _
  have HRA := hd (show W2.heap[w.heap.size]? = some (.cells #[.string nm, .int .i64 st, .slice A bs.length c, .slice A2 gs.length c2] 25 (0, 0)) by rw [hW2, Below.heap_alloc _ _ _ (by simp)]; exact blk_new _ _ _)
  have HRB := hd (show W2.heap[w.heap.size + 1]? = some (.cells #[.string ⟨#[]⟩, .int .i64 0, .slice none 0 0, .slice none 0 0] 31 (0, 0)) by
    have h1 := blk_new (w.alloc (.cells #[.string nm, .int .i64 st, .slice A bs.length c, .slice A2 gs.length c2] 25)) #[.string ⟨#[]⟩, .int .i64 0, .slice none 0 0, .slice none 0 0] 31
    simp only [World.size_alloc] at h1
    rw [hW2]; exact h1)
  rw [← hW2]
  clear hW2
  have n0 := blk_cell HRA.out 0
  have n1 := blk_cell HRA.out 1
  have n2 := blk_cell HRA.out 2
  have n3 := blk_cell HRA.out 3
  simp at n0 n1 n2 n3
  have HCL := hd (fun (W : World) (hb : Below W2.heap.size W2 W) => lawLevels_any (.slice A bs.length c) bs W ((HLr.out.below (hb0.trans (hb.mono hb0.size)) (Nat.le_refl _)).mono (hb0.trans (hb.mono hb0.size)).size) FL.out HN.out.1)
  have HCS := hd (fun (W : World) (hb : Below W2.heap.size W2 W) => lawSpans_any (.slice A2 gs.length c2) gs W ((HGr.out.below (hb0.trans (hb.mono hb0.size)) (Nat.le_refl _)).mono (hb0.trans (hb.mono hb0.size)).size) FG.out HN.out.2)
  have HB0 := hd hb0
  have hwW : w.heap.size < W2.heap.size := by omega
  have hwW2 : w.heap.size + 1 < W2.heap.size := by omega
  clear hb0
  go_region_held3 (fun x => x.cell? ⟨w.heap.size, 0, none⟩ = some (.string nm) ∧ x.cell? ⟨w.heap.size, 1, none⟩ = some (.int .i64 st) ∧ x.cell? ⟨w.heap.size, 2, none⟩ = some (.slice A bs.length c) ∧ x.cell? ⟨w.heap.size, 3, none⟩ = some (.slice A2 gs.length c2)) (go_keep)
        (first
          | (go_at_call 42; refine (HCL.out _ ((Below.refl _ W2).drew)).mono ?_; rintro e w4 ⟨v4, rfl, hown4, hb4⟩; obtain ⟨A4, c4, hv4, -⟩ := own_form hown4; subst hv4; have hW4 : Below W2.heap.size W2 w4 := ((Below.refl _ W2).drew).trans hb4; have hr4 := (hW4.block _ hwW).trans HRA.out; have N0 := blk_cell hr4 0; have N1 := blk_cell hr4 1; have N2 := blk_cell hr4 2; have N3 := blk_cell hr4 3; simp at N0 N1 N2 N3; have HW4 := hd hW4; have HO4 := hd (show w4.ownsRow W2.heap.size 38 1 (.slice A4 bs.length c4) bs.length (flc bs) from hown4); clear n0 n1 n2 n3 hr4 hW4 hown4 hb4)
          | (go_at_call 43; refine (HCS.out _ HW4.out).mono ?_; rintro e w5 ⟨v5, rfl, hown5, hb5⟩; obtain ⟨A5, c5, hv5, -⟩ := own_form hown5; subst hv5; have hW5 : Below W2.heap.size W2 w5 := HW4.out.trans (hb5.mono HW4.out.size); have hr5 := (hW5.block _ hwW).trans HRA.out; have M0 := blk_cell hr5 0; have M1 := blk_cell hr5 1; have M2 := blk_cell hr5 2; have M3 := blk_cell hr5 3; simp at M0 M1 M2 M3; have hq5 := (hW5.block _ hwW2).trans HRB.out; have p0 := blk_cell hq5 0; have p1 := blk_cell hq5 1; have p2 := blk_cell hq5 2; have p3 := blk_cell hq5 3; simp at p0 p1 p2 p3; have f0 := blk_frozen hq5 0; have f1 := blk_frozen hq5 1; have f2 := blk_frozen hq5 2; have f3 := blk_frozen hq5 3; have HO5 := hd (And.intro (own_bel HO4.out hb5) hown5); have HW5 := hd (And.intro hW5 hq5); clear N0 N1 N2 N3 hr5 hW5 hown5 hb5 hq5))
  have hq := set4_blk HW5.out.2 (.string nm) (.int .i64 st) (.slice A4 bs.length c4) (.slice A5 gs.length c5)
  have z0 := blk_cell hq 0
  have z1 := blk_cell hq 1
  have z2 := blk_cell hq 2
  have z3 := blk_cell hq 3
  simp at z0 z1 z2 z3
  have HL5 := hd (own_base (own_set4 (R := w.heap.size + 1) (a := .string nm) (b := .int .i64 st) (c := .slice A4 bs.length c4) (d := .slice A5 gs.length c5) HO5.out.1 (by omega)) (show w.heap.size ≤ W2.heap.size by omega))
  have HG5 := hd (own_base (own_set4 (R := w.heap.size + 1) (a := .string nm) (b := .int .i64 st) (c := .slice A4 bs.length c4) (d := .slice A5 gs.length c5) HO5.out.2 (by have := HW4.out.size; omega)) (show w.heap.size ≤ w4.heap.size by have := HW4.out.size; omega))
  have HB5 := hd (set4_below (HB0.out.trans (HW5.out.1.mono HB0.out.size)) (R := w.heap.size + 1) (by omega) (.string nm) (.int .i64 st) (.slice A4 bs.length c4) (.slice A5 gs.length c5))
  change Exit.then _ _ _ _ (set4 w5 (w.heap.size + 1) (.string nm) (.int .i64 st) (.slice A4 bs.length c4) (.slice A5 gs.length c5))
  clear HO5 HW5 HW4 HO4 f0 f1 f2 f3 p0 p1 p2 p3 M0 M1 M2 M3 hq
  generalize set4 w5 (w.heap.size + 1) (.string nm) (.int .i64 st) (.slice A4 bs.length c4) (.slice A5 gs.length c5) = W6 at *
  go_wp2
  exact bodyPost_ret (v := .agg #[.string nm, .int .i64 st, .slice A4 bs.length c4, .slice A5 gs.length c5]) (by simp [results, Tryz.results9, go_sem, z0, z1, z2, z3]) rfl ⟨_, _, rfl, HL5.out, HG5.out, HB5.out⟩

/-- Levels of which the first ones are upside down. -/
def negK (bs : List Nat) (k : Nat) : List Nat := (List.range bs.length).map fun i => if i < k then Op.negFloat .f32 (bs.getD i 0) else bs.getD i 0
theorem negK_len (bs : List Nat) (k : Nat) : (negK bs k).length = bs.length := by simp [negK]
theorem negK_at (bs : List Nat) (k i : Nat) (h : i < bs.length) : (negK bs k).getD i 0 = if i < k then Op.negFloat .f32 (bs.getD i 0) else bs.getD i 0 := by simp [negK, h]
theorem negK_zero (bs : List Nat) : negK bs 0 = bs := by
  apply List.ext_getElem (by simp [negK])
  intro i h1 h2
  simp [negK, h2]
theorem negK_all (bs : List Nat) : negK bs bs.length = bs.map (Op.negFloat .f32) := by
  apply List.ext_getElem (by simp [negK])
  intro i h1 h2
  have h3 : i < bs.length := by simpa using h2
  simp [negK, h3]
theorem negK_step (bs : List Nat) (k : Nat) (h : k < bs.length) : (flc (negK bs k)).set k (.float .f32 (Op.negFloat .f32 (bs.getD k 0))) = flc (negK bs (k + 1)) := by
  apply List.ext_getElem (by simp [flc, negK])
  intro i h1 h2
  have h3 : i < bs.length := by simpa [flc, negK] using h2
  rw [List.getElem_set]
  by_cases hik : k = i
  · subst hik
    rw [if_pos rfl]
    simp [flc, negK, h]
  · rw [if_neg hik]
    by_cases c : i < k
    · have c2 : i < k + 1 := by omega
      simp [flc, negK, c, c2]
    · have c2 : ¬ i < k + 1 := by omega
      simp [flc, negK, c, c2]
/-- What holds while levels are turned. -/
structure NJ (B0 gb n cL : Nat) (W : World) (xs : List Value) (V : World) : Prop where
  own : V.ownsRow B0 38 1 (.slice (some ⟨gb, 0, none⟩) n cL) n xs
  oth : ∀ b, b ≠ gb → V.heap[b]? = W.heap[b]?
  bel : Below gb W V
theorem NJ.drew {B0 gb n cL : Nat} {W V : World} {xs : List Value} (h : NJ B0 gb n cL W xs V) : NJ B0 gb n cL W xs V.drew := ⟨h.own, h.oth, h.bel.drew⟩
theorem NJ.put {B0 gb n cL : Nat} {W V : World} {xs : List Value} (h : NJ B0 gb n cL W xs V) (i v : Nat) {ys : List Value} (e : xs.set i (.float .f32 v) = ys) : NJ B0 gb n cL W ys (V.setCell ⟨gb, i, none⟩ (.float .f32 v)) :=
  ⟨by rw [← e]; exact (h.own.stored i (.float .f32 v)).1, fun b hb => (Below.heap_setCell V ⟨gb, i, none⟩ _ _ hb).trans (h.oth b hb), h.bel.setCell (p := ⟨gb, i, none⟩) (Nat.le_refl _) _⟩

set_option maxRecDepth 1000000 in
set_option maxHeartbeats 8000000 in
theorem follows_l4 (nm : ByteArray) (st : Int) (GV : Value) (cL n U B0 gb : Nat) (bs : List Nat) (W : World) (Q0 : Exit → Act → World → Prop)
    (HU : Hid (W.heap[U]? = some (.cells #[.string nm, .int .i64 st, .slice (some ⟨gb, 0, none⟩) n cL, GV] 31 (0, 0)))) (HUG : Hid (U ≠ gb))
    (RO : Hid (W.ownsRow B0 38 1 (.slice (some ⟨gb, 0, none⟩) n cL) n (flc bs))) (HN : Hid (n ≤ 100000 ∧ bs.length = n ∧ n ≤ cL ∧ cL ≤ maxLen))
    {c0 c1 c2 c3 c4 c5 c6 c7 c8 c9 c10 c11 c12 c13 c14 c15 c16 c17 c18 c19 c20 c21 c22 c23 c24 c25 c26 c27 c29 c30 c31 c32 c33 c34 c35 c36 c37 c38 c39 c40 c41 c42 c43 c44 c45 c46 c47 c48 c49 c50 c51 c52 c53 c54 c55 c56 c57 c58 c59 c60 c61 c62 c63 c64 c65 c66 c67 c68 c69 c70 c71 c72 c73 c74 c75 c76 c77 c78 c79 c80 c81 c82 c83 c84 c85 c86 c87 c88 c89 c90 c91 c92 c93 c94 c95 c96 c97 c98 c99 c100 c101 c102 c103 c104 c105 c106 c107 c108 c109 c110 c111 c112 c113 c114 c115 c116 c117 c118 c119 c120 c121 c122 c123 c124 c125 c126 c127 c128 c129 c130 c131 c132 c133 c134 c135 c136 c137 c138 c139 c140 c141 c142 c143 c144 c145 c146 c147 c148 c149 c150 c151 c152 c153 c154 c155 c156 c157 c158 c159 c160 c161 c162 c163 c164 c165 c166 c167 c168 c169 c170 c171 c172 c173 c174 c175 c176 c177 c178 c179 c180 c181 c182 c183 c184 c185 c186 c187 c188 c189 c190 c191 c192 c193 c194 c195 c196 c197 c198 c199 c200 c201 c202 c203 c204 c205 c206 c207 c208 c209 c210 c211 c212 c213 c214 c215 c216 c217 c218 c219 c220 c221 c222 c223 c224 c225 c226 c227 c228 c229 c230 c231 c232 c233 c234 c235 c236 c237 c238 c239 c240 c241 c242 c243 c244 c245 c246 c247 c248 c249 c250 c251 c252 c253 c254 c255 c256 c257 c258 c259 c260 c261 c262 c263 c264 c265 c266 c267 c268 c269 c270 c271 c272 c273 c274 c275 c276 c277 c278 c279 c280 c281 c282 c283 c284 c285 c286 c287 c288 c289 c290 c291 c292 c293 c294 c295 c296 c297 c298 c299 c300 c301 c302 c303 c304 c305 c306 c307 c308 c309 c310 c311 c312 c313 c314 c315 c316 c317 c318 c319 c320 c321 c322 c323 c324 c325 c326 c327 c328 c329 c330 c331 c332 c333 c334 c335 c336 c337 c338 c339 c340 c341 c342 c343 c344 c345 c346 c347 c348 c349 c350 c351 c352 c353 c354 c355 c356 c357 c358 c359 c360 c361 c362 c363 c364 c365 c366 c367 c368 c369 c370 c371 c372 c373 c374 c375 c376 c377 c378 c379 c380 c381 c382 c383 c384 c385 c388 c389 c390 c391 c392 c393 c394 c395 c396 c397 c398 c399 c400 c401 c402 c403 c404 c405 c406 c407 c408 c409 c410 c411 c412 c413 c414 c415 c416 c417 c418 c419 c420 c421 c422 c423 c424 c425 c426 c427 c428 c429 c430 c431 c432 c433 c434 c435 c436 c437 c438 c439 c440 c441 c442 c443 c444 c445 c446 c447 c448 c449 c450 c451 c452 c453 c454 c455 c456 c457 c458 c459 c460 c461 c462 c463 c464 c465 c466 c467 c468 c469 c470 c471 c472 c473 c474 c475 c476 c477 c478 c479 c480 c481 c482 c483 c484 c485 c486 c487 c488 c489 c490 c491 c492 c493 c494 c495 c496 c497 c498 c499 c500 c501 c502 c503 : Value}
    (hexit : ∀ (u29 u387 u388 u389 u390 u391 u392 u393 u394 u395 u396 u397 u398 u399 u400 : Value) (w' : World), NJ B0 gb n cL W (flc (bs.map (Op.negFloat .f32))) w' → Q0 (.exit 6) ⟨List.toArray (c0 :: c1 :: c2 :: c3 :: c4 :: c5 :: c6 :: c7 :: c8 :: c9 :: c10 :: c11 :: c12 :: c13 :: c14 :: c15 :: c16 :: c17 :: c18 :: c19 :: c20 :: c21 :: c22 :: c23 :: c24 :: c25 :: c26 :: c27 :: .pointer (some ⟨U, 0, none⟩) :: u29 :: c30 :: c31 :: c32 :: c33 :: c34 :: c35 :: c36 :: c37 :: c38 :: c39 :: c40 :: c41 :: c42 :: c43 :: c44 :: c45 :: c46 :: c47 :: c48 :: c49 :: c50 :: c51 :: c52 :: c53 :: c54 :: c55 :: c56 :: c57 :: c58 :: c59 :: c60 :: c61 :: c62 :: c63 :: c64 :: c65 :: c66 :: c67 :: c68 :: c69 :: c70 :: c71 :: c72 :: c73 :: c74 :: c75 :: c76 :: c77 :: c78 :: c79 :: c80 :: c81 :: c82 :: c83 :: c84 :: c85 :: c86 :: c87 :: c88 :: c89 :: c90 :: c91 :: c92 :: c93 :: c94 :: c95 :: c96 :: c97 :: c98 :: c99 :: c100 :: c101 :: c102 :: c103 :: c104 :: c105 :: c106 :: c107 :: c108 :: c109 :: c110 :: c111 :: c112 :: c113 :: c114 :: c115 :: c116 :: c117 :: c118 :: c119 :: c120 :: c121 :: c122 :: c123 :: c124 :: c125 :: c126 :: c127 :: c128 :: c129 :: c130 :: c131 :: c132 :: c133 :: c134 :: c135 :: c136 :: c137 :: c138 :: c139 :: c140 :: c141 :: c142 :: c143 :: c144 :: c145 :: c146 :: c147 :: c148 :: c149 :: c150 :: c151 :: c152 :: c153 :: c154 :: c155 :: c156 :: c157 :: c158 :: c159 :: c160 :: c161 :: c162 :: c163 :: c164 :: c165 :: c166 :: c167 :: c168 :: c169 :: c170 :: c171 :: c172 :: c173 :: c174 :: c175 :: c176 :: c177 :: c178 :: c179 :: c180 :: c181 :: c182 :: c183 :: c184 :: c185 :: c186 :: c187 :: c188 :: c189 :: c190 :: c191 :: c192 :: c193 :: c194 :: c195 :: c196 :: c197 :: c198 :: c199 :: c200 :: c201 :: c202 :: c203 :: c204 :: c205 :: c206 :: c207 :: c208 :: c209 :: c210 :: c211 :: c212 :: c213 :: c214 :: c215 :: c216 :: c217 :: c218 :: c219 :: c220 :: c221 :: c222 :: c223 :: c224 :: c225 :: c226 :: c227 :: c228 :: c229 :: c230 :: c231 :: c232 :: c233 :: c234 :: c235 :: c236 :: c237 :: c238 :: c239 :: c240 :: c241 :: c242 :: c243 :: c244 :: c245 :: c246 :: c247 :: c248 :: c249 :: c250 :: c251 :: c252 :: c253 :: c254 :: c255 :: c256 :: c257 :: c258 :: c259 :: c260 :: c261 :: c262 :: c263 :: c264 :: c265 :: c266 :: c267 :: c268 :: c269 :: c270 :: c271 :: c272 :: c273 :: c274 :: c275 :: c276 :: c277 :: c278 :: c279 :: c280 :: c281 :: c282 :: c283 :: c284 :: c285 :: c286 :: c287 :: c288 :: c289 :: c290 :: c291 :: c292 :: c293 :: c294 :: c295 :: c296 :: c297 :: c298 :: c299 :: c300 :: c301 :: c302 :: c303 :: c304 :: c305 :: c306 :: c307 :: c308 :: c309 :: c310 :: c311 :: c312 :: c313 :: c314 :: c315 :: c316 :: c317 :: c318 :: c319 :: c320 :: c321 :: c322 :: c323 :: c324 :: c325 :: c326 :: c327 :: c328 :: c329 :: c330 :: c331 :: c332 :: c333 :: c334 :: c335 :: c336 :: c337 :: c338 :: c339 :: c340 :: c341 :: c342 :: c343 :: c344 :: c345 :: c346 :: c347 :: c348 :: c349 :: c350 :: c351 :: c352 :: c353 :: c354 :: c355 :: c356 :: c357 :: c358 :: c359 :: c360 :: c361 :: c362 :: c363 :: c364 :: c365 :: c366 :: c367 :: c368 :: c369 :: c370 :: c371 :: c372 :: c373 :: c374 :: c375 :: c376 :: c377 :: c378 :: c379 :: c380 :: c381 :: c382 :: c383 :: c384 :: c385 :: .int .i64 n :: u387 :: u388 :: u389 :: u390 :: u391 :: u392 :: u393 :: u394 :: u395 :: u396 :: u397 :: u398 :: u399 :: u400 :: c401 :: c402 :: c403 :: c404 :: c405 :: c406 :: c407 :: c408 :: c409 :: c410 :: c411 :: c412 :: c413 :: c414 :: c415 :: c416 :: c417 :: c418 :: c419 :: c420 :: c421 :: c422 :: c423 :: c424 :: c425 :: c426 :: c427 :: c428 :: c429 :: c430 :: c431 :: c432 :: c433 :: c434 :: c435 :: c436 :: c437 :: c438 :: c439 :: c440 :: c441 :: c442 :: c443 :: c444 :: c445 :: c446 :: c447 :: c448 :: c449 :: c450 :: c451 :: c452 :: c453 :: c454 :: c455 :: c456 :: c457 :: c458 :: c459 :: c460 :: c461 :: c462 :: c463 :: c464 :: c465 :: c466 :: c467 :: c468 :: c469 :: c470 :: c471 :: c472 :: c473 :: c474 :: c475 :: c476 :: c477 :: c478 :: c479 :: c480 :: c481 :: c482 :: c483 :: c484 :: c485 :: c486 :: c487 :: c488 :: c489 :: c490 :: c491 :: c492 :: c493 :: c494 :: c495 :: c496 :: c497 :: c498 :: c499 :: c500 :: c501 :: c502 :: c503 :: []), []⟩ w') :
    Code.wp Tryz.prog (Code.loop fL4) Q0 ⟨List.toArray (c0 :: c1 :: c2 :: c3 :: c4 :: c5 :: c6 :: c7 :: c8 :: c9 :: c10 :: c11 :: c12 :: c13 :: c14 :: c15 :: c16 :: c17 :: c18 :: c19 :: c20 :: c21 :: c22 :: c23 :: c24 :: c25 :: c26 :: c27 :: .pointer (some ⟨U, 0, none⟩) :: c29 :: c30 :: c31 :: c32 :: c33 :: c34 :: c35 :: c36 :: c37 :: c38 :: c39 :: c40 :: c41 :: c42 :: c43 :: c44 :: c45 :: c46 :: c47 :: c48 :: c49 :: c50 :: c51 :: c52 :: c53 :: c54 :: c55 :: c56 :: c57 :: c58 :: c59 :: c60 :: c61 :: c62 :: c63 :: c64 :: c65 :: c66 :: c67 :: c68 :: c69 :: c70 :: c71 :: c72 :: c73 :: c74 :: c75 :: c76 :: c77 :: c78 :: c79 :: c80 :: c81 :: c82 :: c83 :: c84 :: c85 :: c86 :: c87 :: c88 :: c89 :: c90 :: c91 :: c92 :: c93 :: c94 :: c95 :: c96 :: c97 :: c98 :: c99 :: c100 :: c101 :: c102 :: c103 :: c104 :: c105 :: c106 :: c107 :: c108 :: c109 :: c110 :: c111 :: c112 :: c113 :: c114 :: c115 :: c116 :: c117 :: c118 :: c119 :: c120 :: c121 :: c122 :: c123 :: c124 :: c125 :: c126 :: c127 :: c128 :: c129 :: c130 :: c131 :: c132 :: c133 :: c134 :: c135 :: c136 :: c137 :: c138 :: c139 :: c140 :: c141 :: c142 :: c143 :: c144 :: c145 :: c146 :: c147 :: c148 :: c149 :: c150 :: c151 :: c152 :: c153 :: c154 :: c155 :: c156 :: c157 :: c158 :: c159 :: c160 :: c161 :: c162 :: c163 :: c164 :: c165 :: c166 :: c167 :: c168 :: c169 :: c170 :: c171 :: c172 :: c173 :: c174 :: c175 :: c176 :: c177 :: c178 :: c179 :: c180 :: c181 :: c182 :: c183 :: c184 :: c185 :: c186 :: c187 :: c188 :: c189 :: c190 :: c191 :: c192 :: c193 :: c194 :: c195 :: c196 :: c197 :: c198 :: c199 :: c200 :: c201 :: c202 :: c203 :: c204 :: c205 :: c206 :: c207 :: c208 :: c209 :: c210 :: c211 :: c212 :: c213 :: c214 :: c215 :: c216 :: c217 :: c218 :: c219 :: c220 :: c221 :: c222 :: c223 :: c224 :: c225 :: c226 :: c227 :: c228 :: c229 :: c230 :: c231 :: c232 :: c233 :: c234 :: c235 :: c236 :: c237 :: c238 :: c239 :: c240 :: c241 :: c242 :: c243 :: c244 :: c245 :: c246 :: c247 :: c248 :: c249 :: c250 :: c251 :: c252 :: c253 :: c254 :: c255 :: c256 :: c257 :: c258 :: c259 :: c260 :: c261 :: c262 :: c263 :: c264 :: c265 :: c266 :: c267 :: c268 :: c269 :: c270 :: c271 :: c272 :: c273 :: c274 :: c275 :: c276 :: c277 :: c278 :: c279 :: c280 :: c281 :: c282 :: c283 :: c284 :: c285 :: c286 :: c287 :: c288 :: c289 :: c290 :: c291 :: c292 :: c293 :: c294 :: c295 :: c296 :: c297 :: c298 :: c299 :: c300 :: c301 :: c302 :: c303 :: c304 :: c305 :: c306 :: c307 :: c308 :: c309 :: c310 :: c311 :: c312 :: c313 :: c314 :: c315 :: c316 :: c317 :: c318 :: c319 :: c320 :: c321 :: c322 :: c323 :: c324 :: c325 :: c326 :: c327 :: c328 :: c329 :: c330 :: c331 :: c332 :: c333 :: c334 :: c335 :: c336 :: c337 :: c338 :: c339 :: c340 :: c341 :: c342 :: c343 :: c344 :: c345 :: c346 :: c347 :: c348 :: c349 :: c350 :: c351 :: c352 :: c353 :: c354 :: c355 :: c356 :: c357 :: c358 :: c359 :: c360 :: c361 :: c362 :: c363 :: c364 :: c365 :: c366 :: c367 :: c368 :: c369 :: c370 :: c371 :: c372 :: c373 :: c374 :: c375 :: c376 :: c377 :: c378 :: c379 :: c380 :: c381 :: c382 :: c383 :: c384 :: c385 :: .int .i64 n :: .int .i64 0 :: c388 :: c389 :: c390 :: c391 :: c392 :: c393 :: c394 :: c395 :: c396 :: c397 :: c398 :: c399 :: c400 :: c401 :: c402 :: c403 :: c404 :: c405 :: c406 :: c407 :: c408 :: c409 :: c410 :: c411 :: c412 :: c413 :: c414 :: c415 :: c416 :: c417 :: c418 :: c419 :: c420 :: c421 :: c422 :: c423 :: c424 :: c425 :: c426 :: c427 :: c428 :: c429 :: c430 :: c431 :: c432 :: c433 :: c434 :: c435 :: c436 :: c437 :: c438 :: c439 :: c440 :: c441 :: c442 :: c443 :: c444 :: c445 :: c446 :: c447 :: c448 :: c449 :: c450 :: c451 :: c452 :: c453 :: c454 :: c455 :: c456 :: c457 :: c458 :: c459 :: c460 :: c461 :: c462 :: c463 :: c464 :: c465 :: c466 :: c467 :: c468 :: c469 :: c470 :: c471 :: c472 :: c473 :: c474 :: c475 :: c476 :: c477 :: c478 :: c479 :: c480 :: c481 :: c482 :: c483 :: c484 :: c485 :: c486 :: c487 :: c488 :: c489 :: c490 :: c491 :: c492 :: c493 :: c494 :: c495 :: c496 :: c497 :: c498 :: c499 :: c500 :: c501 :: c502 :: c503 :: []), []⟩ W := by
  conv => arg 2; arg 1; whnf
  have HX := hd hexit
  clear hexit
  go_loopw [387] (fun kv wr => ∃ k : Nat, k ≤ n ∧ kv = .int .i64 k ∧ Hid (NJ B0 gb n cL W (flc (negK bs k)) wr)) (fun kv _ => n - (intOf kv).toNat)
  case atStart => exact ⟨0, Nat.zero_le _, rfl, hd ⟨by rw [negK_zero]; exact RO.out, fun _ _ => rfl, Below.refl _ _⟩⟩
  case round =>
    obtain ⟨k, hk, rfl, HJ⟩ := hrel
    by_cases hlt : k < n
    · have hki : (k : Int) < (n : Int) := by omega
      obtain ⟨hnn, hbn, hcc, hcm⟩ := HN.out
      have HLT := hd (show k < n ∧ n ≤ 100000 from ⟨hlt, hnn⟩)
      have l0 := HJ.out.own.cellAt k (by omega)
      have l1 := HJ.out.own.frozenAt k
      rw [flc_at _ k (by rw [negK_len]; omega), negK_at bs k k (by omega), if_neg (Nat.lt_irrefl k)] at l0
      have hu := (HJ.out.oth U HUG.out).trans HU.out
      have k2 := blk_cell hu 2
      simp at k2
      have HST := hd (negK_step bs k (by omega))
      generalize bs.getD k 0 = x at l0 HST
      obtain ⟨nf, hnf⟩ : ∃ nf, Op.negFloat .f32 x = nf := ⟨_, rfl⟩
      have hun : ∀ w : World, (Op.unary UnOp.neg (Value.float .f32 x)).run Tryz.prog w = .ok (.float .f32 nf) w := fun w => by rw [← hnf]; rfl
      rw [hnf] at HST
      have HPUT := hd (HJ.out.put k nf HST.out)
      clear hu hbn hcm hnf HST
      go_wp2_with fail
      go_big_region
      go_wp2
      go_roundw
      case rel => exact ⟨k + 1, by have := HLT.out; omega, by have := HLT.out; go_num, hd HPUT.out.drew⟩
      case measure => have := HLT.out; simp [intOf]; omega
    · have hki : ¬ (k : Int) < (n : Int) := by omega
      have hke : k = n := by omega
      have HJ2 := HJ.out
      rw [hke, ← HN.out.2.1, negK_all, HN.out.2.1] at HJ2
      replace HJ2 := hd HJ2
      clear hke
      go_wp2_with fail
      exact HX.out _ _ _ _ _ _ _ _ _ _ _ _ _ _ _ _ HJ2.out
end Go.Proofs.YtnejjnebpbajmaaGreatDoor
