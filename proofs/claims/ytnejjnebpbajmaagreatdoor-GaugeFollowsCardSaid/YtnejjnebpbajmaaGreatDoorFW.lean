/-
  The walk of GaugeFollows. Conditions: written at it.
-/
import Derived.Test.YtnejjnebpbajmaaGreatDoorF5
import Derived.Test.YtnejjnebpbajmaaGreatDoorF6
import Derived.Test.YtnejjnebpbajmaaGreatDoorF7
import Derived.Test.YtnejjnebpbajmaaGreatDoorF8
import Derived.Test.YtnejjnebpbajmaaGreatDoorF9
import Derived.Test.YtnejjnebpbajmaaGreatDoorFQ
import Derived.Test.YtnejjnebpbajmaaGreatDoorFR
import Derived.Test.YtnejjnebpbajmaaGreatDoorQS
namespace Go.Proofs.YtnejjnebpbajmaaGreatDoor
open Go.RowKit
attribute [local go_sem] Oper.semAt_some

set_option maxRecDepth 1000000 in
set_option maxHeartbeats 16000000 in
theorem follows_r31 (nm : ByteArray) (st ca sa ea cb sb eb : Int) (A A2 AW AY : Option Addr) (cA cG cW cY n B P X XA XB lx hx la ha lb hb : Nat) (bs : List Nat) (gs : List (Int × Int)) (V : World) (Q0 : Exit → Act → World → Prop)
    (HQ : Hid (V.heap[B]? = some (.cells #[.string nm, .int .i64 st, .slice A n cA, .slice A2 gs.length cG] 25 (0, 0)))) (HW : Hid (V.heap[P]? = some (.cells #[.string nm, .int .i64 st, .slice AW n cW, .slice AY gs.length cY] 31 (0, 0))))
    (HSX : Hid (V.heap[X]? = some (.cells #[.int .i64 (ca + cb), .int .i64 (sa + sb), .float .f32 lx, .float .f32 hx] 46 (0, 0)))) (HSA : Hid (V.heap[XA]? = some (.cells #[.int .i64 ca, .int .i64 sa, .float .f32 la, .float .f32 ha] 46 (0, 0)))) (HSB : Hid (V.heap[XB]? = some (.cells #[.int .i64 cb, .int .i64 sb, .float .f32 lb, .float .f32 hb] 46 (0, 0))))
    (RL : Hid (Rd V V.heap.size (.slice A n cA) n (flc bs))) (RG : Hid (Rd V V.heap.size (.slice A2 gs.length cG) gs.length (spc gs))) (RW : Hid (Rd V V.heap.size (.slice AW n cW) n (flc bs))) (RY : Hid (Rd V V.heap.size (.slice AY gs.length cY) gs.length (spc gs)))
    (HN : Hid (bs.length = n ∧ 0 ≤ ca ∧ ca ≤ 100000 ∧ 0 ≤ cb ∧ cb ≤ 100000 ∧ -1000000000 ≤ sa ∧ sa ≤ 1000000000 ∧ -1000000000 ≤ sb ∧ sb ≤ 1000000000)) (HSL : Hid (sameF feqL 0 bs bs = true))
    (HEA : Hid (ea = 12 ∨ ea = 0 ∧ flt la lx = false ∧ fgt ha hx = false)) (HEB : Hid (eb = 12 ∨ eb = 0 ∧ flt lb lx = false ∧ fgt hb hx = false))
    {s0 s1 s3 s4 s5 s6 s7 s8 s9 s10 s11 s12 s13 s14 s15 s16 s17 s26 s27 s28 s29 s30 s31 s32 s33 s34 s35 s36 s37 s38 s39 s40 s41 s42 s43 s44 s45 s46 s47 s48 s49 s50 s51 s52 s53 s54 s55 s56 s57 s58 s59 s60 s61 s62 s63 s64 s65 s66 s67 s68 s69 s70 s71 s72 s73 s74 s75 s76 s77 s78 s79 s80 s81 s82 s83 s84 s85 s86 s87 s88 s89 s90 s91 s92 s93 s94 s95 s96 s97 s98 s99 s100 s101 s102 s103 s104 s105 s106 s107 s108 s109 s110 s111 s112 s113 s114 s115 s116 s117 s118 s119 s120 s121 s122 s123 s124 s125 s126 s127 s128 s129 s130 s131 s132 s133 s134 s135 s136 s137 s138 s139 s140 s141 s142 s143 s144 s145 s146 s147 s148 s149 s150 s151 s152 s153 s154 s155 s156 s157 s158 s159 s160 s161 s162 s163 s164 s165 s166 s167 s168 s169 s170 s171 s172 s173 s174 s175 s176 s177 s178 s179 s180 s181 s182 s183 s184 s185 s186 s187 s188 s189 s190 s191 s192 s193 s194 s195 s196 s197 s198 s199 s200 s201 s202 s203 s204 s205 s206 s207 s208 s209 s210 s211 s212 s213 s214 s215 s216 s217 s218 s219 s220 s221 s222 s223 s224 s225 s226 s227 s228 s229 s230 s231 s232 s233 s234 s235 s236 s237 s238 s239 s240 s241 s242 s243 s244 s245 s246 s247 s248 s249 s250 s251 s252 s253 s254 s255 s256 s257 s258 s259 s260 s261 s262 s263 s264 s265 s266 s267 s268 s269 s270 s271 s272 s273 s274 s275 s276 s277 s278 s279 s280 s281 s282 s283 s284 s285 s286 s287 s288 s289 s290 s291 s292 s293 s294 s295 s296 s297 s298 s299 s300 s301 s302 s303 s304 s305 s306 s307 s308 s309 s310 s311 s312 s313 s314 s315 s316 s317 s318 s319 s320 s321 s322 s323 s324 s325 s326 s327 s328 s329 s330 s331 s332 s333 s334 s335 s336 s337 s338 s339 s340 s341 s342 s343 s344 s345 s346 s347 s348 s349 s350 s351 s352 s353 s354 s355 s356 s357 s358 s359 s360 s361 s362 s363 s364 s365 s366 s367 s368 s369 s370 s371 s372 s373 s374 s375 s376 s377 s378 s379 s380 s381 s382 s383 s384 s385 s386 s387 s388 s389 s390 s391 s392 s393 s394 s395 s396 s397 s398 s399 s400 s401 s402 s403 s404 s405 s406 s407 s408 s409 s410 s411 s412 s413 s414 s415 s416 s417 s418 s419 s420 s421 s422 s423 s424 s425 s426 s427 s428 s429 s430 s431 s432 s433 s434 s435 s436 s437 s438 s439 s440 s441 s442 s443 s444 s445 s446 s447 s448 s449 s450 s451 s452 s453 s454 s455 s456 s457 s458 s459 s460 s461 s462 s463 s464 s465 s466 s467 s468 s469 s470 s471 s472 s473 s474 s475 s476 s477 s478 s479 s480 s481 s482 s483 s484 s485 s486 s487 s488 s489 s490 s491 s492 s493 s494 s495 s496 s497 s498 s499 s500 s501 s502 s503 : Value}
    (hexit : ∀ (u290 u291 u292 u293 u294 u295 u296 u297 u298 u299 u300 u301 u302 u303 u304 u305 u306 u307 u308 u309 u310 u311 u312 u313 u314 u315 u316 u317 u318 u319 u320 u321 u322 u323 u324 u325 u326 u327 u328 u329 u330 u331 u332 u333 u334 u335 u336 u337 u338 u339 u340 u341 u342 u343 u344 u345 u346 u347 u348 u349 u350 u351 u352 u353 u354 u355 u356 u357 u358 u359 u360 u361 u362 u363 u364 u365 u366 u367 u368 u369 u370 u371 u372 u373 : Value) (w' : World), Below V.heap.size V w' → Q0 .normal ⟨List.toArray (s0 :: s1 :: .pointer (some ⟨B, 0, none⟩) :: s3 :: s4 :: s5 :: s6 :: s7 :: s8 :: s9 :: s10 :: s11 :: s12 :: s13 :: s14 :: s15 :: s16 :: s17 :: .pointer (some ⟨P, 0, none⟩) :: .int .i64 0 :: .pointer (some ⟨X, 0, none⟩) :: .int .i64 0 :: .pointer (some ⟨XA, 0, none⟩) :: .int .i64 ea :: .pointer (some ⟨XB, 0, none⟩) :: .int .i64 eb :: s26 :: s27 :: s28 :: s29 :: s30 :: s31 :: s32 :: s33 :: s34 :: s35 :: s36 :: s37 :: s38 :: s39 :: s40 :: s41 :: s42 :: s43 :: s44 :: s45 :: s46 :: s47 :: s48 :: s49 :: s50 :: s51 :: s52 :: s53 :: s54 :: s55 :: s56 :: s57 :: s58 :: s59 :: s60 :: s61 :: s62 :: s63 :: s64 :: s65 :: s66 :: s67 :: s68 :: s69 :: s70 :: s71 :: s72 :: s73 :: s74 :: s75 :: s76 :: s77 :: s78 :: s79 :: s80 :: s81 :: s82 :: s83 :: s84 :: s85 :: s86 :: s87 :: s88 :: s89 :: s90 :: s91 :: s92 :: s93 :: s94 :: s95 :: s96 :: s97 :: s98 :: s99 :: s100 :: s101 :: s102 :: s103 :: s104 :: s105 :: s106 :: s107 :: s108 :: s109 :: s110 :: s111 :: s112 :: s113 :: s114 :: s115 :: s116 :: s117 :: s118 :: s119 :: s120 :: s121 :: s122 :: s123 :: s124 :: s125 :: s126 :: s127 :: s128 :: s129 :: s130 :: s131 :: s132 :: s133 :: s134 :: s135 :: s136 :: s137 :: s138 :: s139 :: s140 :: s141 :: s142 :: s143 :: s144 :: s145 :: s146 :: s147 :: s148 :: s149 :: s150 :: s151 :: s152 :: s153 :: s154 :: s155 :: s156 :: s157 :: s158 :: s159 :: s160 :: s161 :: s162 :: s163 :: s164 :: s165 :: s166 :: s167 :: s168 :: s169 :: s170 :: s171 :: s172 :: s173 :: s174 :: s175 :: s176 :: s177 :: s178 :: s179 :: s180 :: s181 :: s182 :: s183 :: s184 :: s185 :: s186 :: s187 :: s188 :: s189 :: s190 :: s191 :: s192 :: s193 :: s194 :: s195 :: s196 :: s197 :: s198 :: s199 :: s200 :: s201 :: s202 :: s203 :: s204 :: s205 :: s206 :: s207 :: s208 :: s209 :: s210 :: s211 :: s212 :: s213 :: s214 :: s215 :: s216 :: s217 :: s218 :: s219 :: s220 :: s221 :: s222 :: s223 :: s224 :: s225 :: s226 :: s227 :: s228 :: s229 :: s230 :: s231 :: s232 :: s233 :: s234 :: s235 :: s236 :: s237 :: s238 :: s239 :: s240 :: s241 :: s242 :: s243 :: s244 :: s245 :: s246 :: s247 :: s248 :: s249 :: s250 :: s251 :: s252 :: s253 :: s254 :: s255 :: s256 :: s257 :: s258 :: s259 :: s260 :: s261 :: s262 :: s263 :: s264 :: s265 :: s266 :: s267 :: s268 :: s269 :: s270 :: s271 :: s272 :: s273 :: s274 :: s275 :: s276 :: s277 :: s278 :: s279 :: s280 :: s281 :: s282 :: s283 :: s284 :: s285 :: s286 :: s287 :: s288 :: s289 :: u290 :: u291 :: u292 :: u293 :: u294 :: u295 :: u296 :: u297 :: u298 :: u299 :: u300 :: u301 :: u302 :: u303 :: u304 :: u305 :: u306 :: u307 :: u308 :: u309 :: u310 :: u311 :: u312 :: u313 :: u314 :: u315 :: u316 :: u317 :: u318 :: u319 :: u320 :: u321 :: u322 :: u323 :: u324 :: u325 :: u326 :: u327 :: u328 :: u329 :: u330 :: u331 :: u332 :: u333 :: u334 :: u335 :: u336 :: u337 :: u338 :: u339 :: u340 :: u341 :: u342 :: u343 :: u344 :: u345 :: u346 :: u347 :: u348 :: u349 :: u350 :: u351 :: u352 :: u353 :: u354 :: u355 :: u356 :: u357 :: u358 :: u359 :: u360 :: u361 :: u362 :: u363 :: u364 :: u365 :: u366 :: u367 :: u368 :: u369 :: u370 :: u371 :: u372 :: u373 :: .bool false :: s375 :: s376 :: s377 :: s378 :: s379 :: s380 :: s381 :: s382 :: s383 :: s384 :: s385 :: s386 :: s387 :: s388 :: s389 :: s390 :: s391 :: s392 :: s393 :: s394 :: s395 :: s396 :: s397 :: s398 :: s399 :: s400 :: s401 :: s402 :: s403 :: s404 :: s405 :: s406 :: s407 :: s408 :: s409 :: s410 :: s411 :: s412 :: s413 :: s414 :: s415 :: s416 :: s417 :: s418 :: s419 :: s420 :: s421 :: s422 :: s423 :: s424 :: s425 :: s426 :: s427 :: s428 :: s429 :: s430 :: s431 :: s432 :: s433 :: s434 :: s435 :: s436 :: s437 :: s438 :: s439 :: s440 :: s441 :: s442 :: s443 :: s444 :: s445 :: s446 :: s447 :: s448 :: s449 :: s450 :: s451 :: s452 :: s453 :: s454 :: s455 :: s456 :: s457 :: s458 :: s459 :: s460 :: s461 :: s462 :: s463 :: s464 :: s465 :: s466 :: s467 :: s468 :: s469 :: s470 :: s471 :: s472 :: s473 :: s474 :: s475 :: s476 :: s477 :: s478 :: s479 :: s480 :: s481 :: s482 :: s483 :: s484 :: s485 :: s486 :: s487 :: s488 :: s489 :: s490 :: s491 :: s492 :: s493 :: s494 :: s495 :: s496 :: s497 :: s498 :: s499 :: s500 :: s501 :: s502 :: s503 :: []), []⟩ w') :
    Code.wp Tryz.prog fR31 Q0 ⟨List.toArray (s0 :: s1 :: .pointer (some ⟨B, 0, none⟩) :: s3 :: s4 :: s5 :: s6 :: s7 :: s8 :: s9 :: s10 :: s11 :: s12 :: s13 :: s14 :: s15 :: s16 :: s17 :: .pointer (some ⟨P, 0, none⟩) :: .int .i64 0 :: .pointer (some ⟨X, 0, none⟩) :: .int .i64 0 :: .pointer (some ⟨XA, 0, none⟩) :: .int .i64 ea :: .pointer (some ⟨XB, 0, none⟩) :: .int .i64 eb :: s26 :: s27 :: s28 :: s29 :: s30 :: s31 :: s32 :: s33 :: s34 :: s35 :: s36 :: s37 :: s38 :: s39 :: s40 :: s41 :: s42 :: s43 :: s44 :: s45 :: s46 :: s47 :: s48 :: s49 :: s50 :: s51 :: s52 :: s53 :: s54 :: s55 :: s56 :: s57 :: s58 :: s59 :: s60 :: s61 :: s62 :: s63 :: s64 :: s65 :: s66 :: s67 :: s68 :: s69 :: s70 :: s71 :: s72 :: s73 :: s74 :: s75 :: s76 :: s77 :: s78 :: s79 :: s80 :: s81 :: s82 :: s83 :: s84 :: s85 :: s86 :: s87 :: s88 :: s89 :: s90 :: s91 :: s92 :: s93 :: s94 :: s95 :: s96 :: s97 :: s98 :: s99 :: s100 :: s101 :: s102 :: s103 :: s104 :: s105 :: s106 :: s107 :: s108 :: s109 :: s110 :: s111 :: s112 :: s113 :: s114 :: s115 :: s116 :: s117 :: s118 :: s119 :: s120 :: s121 :: s122 :: s123 :: s124 :: s125 :: s126 :: s127 :: s128 :: s129 :: s130 :: s131 :: s132 :: s133 :: s134 :: s135 :: s136 :: s137 :: s138 :: s139 :: s140 :: s141 :: s142 :: s143 :: s144 :: s145 :: s146 :: s147 :: s148 :: s149 :: s150 :: s151 :: s152 :: s153 :: s154 :: s155 :: s156 :: s157 :: s158 :: s159 :: s160 :: s161 :: s162 :: s163 :: s164 :: s165 :: s166 :: s167 :: s168 :: s169 :: s170 :: s171 :: s172 :: s173 :: s174 :: s175 :: s176 :: s177 :: s178 :: s179 :: s180 :: s181 :: s182 :: s183 :: s184 :: s185 :: s186 :: s187 :: s188 :: s189 :: s190 :: s191 :: s192 :: s193 :: s194 :: s195 :: s196 :: s197 :: s198 :: s199 :: s200 :: s201 :: s202 :: s203 :: s204 :: s205 :: s206 :: s207 :: s208 :: s209 :: s210 :: s211 :: s212 :: s213 :: s214 :: s215 :: s216 :: s217 :: s218 :: s219 :: s220 :: s221 :: s222 :: s223 :: s224 :: s225 :: s226 :: s227 :: s228 :: s229 :: s230 :: s231 :: s232 :: s233 :: s234 :: s235 :: s236 :: s237 :: s238 :: s239 :: s240 :: s241 :: s242 :: s243 :: s244 :: s245 :: s246 :: s247 :: s248 :: s249 :: s250 :: s251 :: s252 :: s253 :: s254 :: s255 :: s256 :: s257 :: s258 :: s259 :: s260 :: s261 :: s262 :: s263 :: s264 :: s265 :: s266 :: s267 :: s268 :: s269 :: s270 :: s271 :: s272 :: s273 :: s274 :: s275 :: s276 :: s277 :: s278 :: s279 :: s280 :: s281 :: s282 :: s283 :: s284 :: s285 :: s286 :: s287 :: s288 :: s289 :: s290 :: s291 :: s292 :: s293 :: s294 :: s295 :: s296 :: s297 :: s298 :: s299 :: s300 :: s301 :: s302 :: s303 :: s304 :: s305 :: s306 :: s307 :: s308 :: s309 :: s310 :: s311 :: s312 :: s313 :: s314 :: s315 :: s316 :: s317 :: s318 :: s319 :: s320 :: s321 :: s322 :: s323 :: s324 :: s325 :: s326 :: s327 :: s328 :: s329 :: s330 :: s331 :: s332 :: s333 :: s334 :: s335 :: s336 :: s337 :: s338 :: s339 :: s340 :: s341 :: s342 :: s343 :: s344 :: s345 :: s346 :: s347 :: s348 :: s349 :: s350 :: s351 :: s352 :: s353 :: s354 :: s355 :: s356 :: s357 :: s358 :: s359 :: s360 :: s361 :: s362 :: s363 :: s364 :: s365 :: s366 :: s367 :: s368 :: s369 :: s370 :: s371 :: s372 :: s373 :: s374 :: s375 :: s376 :: s377 :: s378 :: s379 :: s380 :: s381 :: s382 :: s383 :: s384 :: s385 :: s386 :: s387 :: s388 :: s389 :: s390 :: s391 :: s392 :: s393 :: s394 :: s395 :: s396 :: s397 :: s398 :: s399 :: s400 :: s401 :: s402 :: s403 :: s404 :: s405 :: s406 :: s407 :: s408 :: s409 :: s410 :: s411 :: s412 :: s413 :: s414 :: s415 :: s416 :: s417 :: s418 :: s419 :: s420 :: s421 :: s422 :: s423 :: s424 :: s425 :: s426 :: s427 :: s428 :: s429 :: s430 :: s431 :: s432 :: s433 :: s434 :: s435 :: s436 :: s437 :: s438 :: s439 :: s440 :: s441 :: s442 :: s443 :: s444 :: s445 :: s446 :: s447 :: s448 :: s449 :: s450 :: s451 :: s452 :: s453 :: s454 :: s455 :: s456 :: s457 :: s458 :: s459 :: s460 :: s461 :: s462 :: s463 :: s464 :: s465 :: s466 :: s467 :: s468 :: s469 :: s470 :: s471 :: s472 :: s473 :: s474 :: s475 :: s476 :: s477 :: s478 :: s479 :: s480 :: s481 :: s482 :: s483 :: s484 :: s485 :: s486 :: s487 :: s488 :: s489 :: s490 :: s491 :: s492 :: s493 :: s494 :: s495 :: s496 :: s497 :: s498 :: s499 :: s500 :: s501 :: s502 :: s503 :: []), []⟩ V := by
  rcases HEA.out with rfl | ⟨rfl, ha1⟩
  · rcases HEB.out with rfl | ⟨rfl, hb1⟩
    · exact follows_r31aa nm st ca sa cb sb A A2 AW AY cA cG cW cY n B P X XA XB lx hx la ha lb hb bs gs V Q0 HQ HW HSX HSA HSB RL RG RW RY HN HSL hexit
    · exact follows_r31ab nm st ca sa cb sb A A2 AW AY cA cG cW cY n B P X XA XB lx hx la ha lb hb bs gs V Q0 HQ HW HSX HSA HSB RL RG RW RY HN HSL (hd hb1) hexit
  · rcases HEB.out with rfl | ⟨rfl, hb1⟩
    · exact follows_r31ba nm st ca sa cb sb A A2 AW AY cA cG cW cY n B P X XA XB lx hx la ha lb hb bs gs V Q0 HQ HW HSX HSA HSB RL RG RW RY HN HSL (hd ha1) hexit
    · exact follows_r31bb nm st ca sa cb sb A A2 AW AY cA cG cW cY n B P X XA XB lx hx la ha lb hb bs gs V Q0 HQ HW HSX HSA HSB RL RG RW RY HN HSL (hd ha1) (hd hb1) hexit

theorem rd_take {W : World} {B n c k : Nat} {A : Option Addr} {bs : List Nat} (h : Rd W B (.slice A n c) n (flc bs)) (hl : bs.length = n) (hk : k ≤ n) : Rd W B (.slice A k c) (bs.take k).length (flc (bs.take k)) := by
  have hlen : (bs.take k).length = k := by rw [List.length_take]; omega
  obtain ⟨A', c', e, h1, h2, hx⟩ := h
  cases e
  rw [hlen]
  refine ⟨A, c, rfl, by omega, h2, fun h0 => ?_⟩
  obtain ⟨b, o, rfl, hb, hc⟩ := hx (by omega)
  refine ⟨b, o, rfl, hb, fun j hj => ?_⟩
  have hj' : j < k := by simp [flc] at hj; omega
  rw [hc j (by simp [flc, hl]; omega)]
  simp [flc, hj']
theorem rd_drop {W : World} {B n c k lb lo lq : Nat} {bs : List Nat} (h : Rd W B (.slice (some ⟨lb, lo, none⟩) n c) n (flc bs)) (hl : bs.length = n) (hk : k ≤ n) (hq : k < n → lq = lo + k) : Rd W B (.slice (some ⟨lb, lq, none⟩) (n - k) (c - k)) (bs.drop k).length (flc (bs.drop k)) := by
  have hlen : (bs.drop k).length = n - k := by rw [List.length_drop]; omega
  obtain ⟨A', c', e, h1, h2, hx⟩ := h
  cases e
  rw [hlen]
  refine ⟨_, _, rfl, by omega, by omega, fun h0 => ?_⟩
  obtain ⟨b, o, e, hb, hc⟩ := hx (by omega)
  cases e
  refine ⟨lb, lq, rfl, hb, fun j hj => ?_⟩
  have hj' : j < n - k := by simp [flc] at hj; omega
  rw [hq (by omega), Nat.add_assoc, hc (k + j) (by simp [flc, hl]; omega)]
  simp [flc, List.getElem?_drop]
theorem own_othF {W V : World} {B gb m c : Nat} {A : Option Addr} {cs : Array Value} {xs : List Value} (h : W.ownsRow B 40 2 (.slice A m c) m xs) (hg : W.heap[gb]? = some (.cells cs 38 (0, 0))) (ho : ∀ b, b ≠ gb → V.heap[b]? = W.heap[b]?) : V.ownsRow B 40 2 (.slice A m c) m xs := by
  refine ⟨h.1, ?_⟩
  rcases h.2 with h2 | ⟨g, cap, cur, e, hB, hh, h3⟩
  · exact .inl h2
  · refine .inr ⟨g, cap, cur, e, hB, (ho g fun e2 => ?_).trans hh, h3⟩
    rw [e2, hg] at hh
    injection hh with hh
    injection hh with _ h5
    exact absurd h5 (by decide)
theorem ints_selfF (l : List Int) : sameF (fun x y : Int => x == y) 0 l l = true := sameF_yes _ _ _ _ rfl (fun j _ => by simp)
/-- A filled record. -/
def GotFF (nm : ByteArray) (st : Int) (n : Nat) (FL : List Nat) (FG FF : List (Int × Int)) (w : World) (e : Ending) (w' : World) : Prop :=
  ∃ A c A2 c2 A3 c3, e = .returned (.tuple #[.agg #[.string nm, .int .i64 st, .slice A n c, .slice A2 FG.length c2], .slice A3 FF.length c3, .int .i64 0]) ∧ Rd w' w'.heap.size (.slice A n c) n (flc FL) ∧ Rd w' w'.heap.size (.slice A2 FG.length c2) FG.length (spc FG) ∧ Rd w' w'.heap.size (.slice A3 FF.length c3) FF.length (spc FF) ∧ Below w.heap.size w w'
/-- Integers and no error. -/
def GotIF (H : List Int) (w : World) (e : Ending) (w' : World) : Prop :=
  ∃ A c, e = .returned (.tuple #[.slice A H.length c, .int .i64 0]) ∧ Rd w' w'.heap.size (.slice A H.length c) H.length (H.map (Value.int .i64)) ∧ Below w.heap.size w w'
/-- Statistics and an error. -/
def GotSF (c s e0 : Int) (lo hi : Nat) (w : World) (e : Ending) (w' : World) : Prop :=
  e = .returned (.tuple #[.agg #[.int .i64 c, .int .i64 s, .float .f32 lo, .float .f32 hi], .int .i64 e0]) ∧ Below w.heap.size w w'

set_option maxRecDepth 1000000 in
set_option maxHeartbeats 16000000 in
theorem follows_walk (HA : Hid Awake) (nm : ByteArray) (st x0 x1 tt ca sa ea cb sb eb : Int) (A2 : Option Addr) (lb lo cA cG n mo wd k lx hx la ha lB hB : Nat) (bs FL : List Nat) (gs FG FF WH WT PH GM PT : List (Int × Int)) (H : List Int) (w : World)
    (HL : Hid (Rd w w.heap.size (.slice (some ⟨lb, lo, none⟩) n cA) n (flc bs))) (HG : Hid (Rd w w.heap.size (.slice A2 gs.length cG) gs.length (spc gs))) (FG0 : Hid (Full (.slice A2 gs.length cG)))
    (S1 : Hid (shortR nm.size n gs.length = true)) (HN : Hid (0 < n ∧ n ≤ 4096 ∧ bs.length = n ∧ gs.length ≤ 2048 ∧ n ≤ cA ∧ cA ≤ maxLen ∧ k ≤ n ∧ mo ≤ 9 ∧ 1 ≤ wd ∧ wd ≤ 10 ∧ FL.length = n ∧ GM.length ≤ 100000 ∧ PH.length ≤ 100000 ∧ H.length ≤ 100000))
    (HX0 : Hid (0 ≤ x0 ∧ x0 ≤ 255)) (HX1 : Hid (0 ≤ x1 ∧ x1 ≤ 255)) (HMO : Hid (x0 % 10 = (mo : Int))) (HWD : Hid (1 + x1 % 10 = (wd : Int))) (HK : Hid (x0 % ((n : Int) + 1) = (k : Int))) (HST : Hid (0 ≤ st ∧ st ≤ 99900)) (HTT : Hid ((tt == (n : Int)) = false))
    (CR : Hid (∀ (W : World) (lv gv : Value), Rd W W.heap.size lv n (flc bs) → Rd W W.heap.size gv gs.length (spc gs) → Calls Tryz.prog 6 #[.agg #[.string nm, .int .i64 st, lv, gv]] W fun e w' => e = .returned (.int .i64 0) ∧ Below W.heap.size W w'))
    (CT : Hid (∀ (W : World) (gv : Value), Rd W W.heap.size gv gs.length (spc gs) → Calls Tryz.prog 7 #[gv] W fun e w' => e = .returned (.int .i64 tt) ∧ Below W.heap.size W w'))
    (GF : Hid (∀ (W : World) (lv gv : Value), Rd W W.heap.size lv bs.length (flc bs) → Rd W W.heap.size gv gs.length (spc gs) → Calls Tryz.prog 8 #[.agg #[.string nm, .int .i64 st, lv, gv], .int .i64 mo] W (GotFF nm st n FL FG FF W)))
    (CF : Hid (∀ (W : World) (lv gv : Value), Rd W W.heap.size lv n (flc FL) → Rd W W.heap.size gv FG.length (spc FG) → Calls Tryz.prog 6 #[.agg #[.string nm, .int .i64 st, lv, gv]] W fun e w' => e = .returned (.int .i64 0) ∧ Below W.heap.size W w'))
    (HV1 : Hid (∀ j, j < n → chkLev (FL.getD j 0) = 0)) (HP1 : Hid (∀ i : Nat, i < n → (hasL gs (i : Int) = false ∧ FL.getD i 0 = bs.getD i 0 ∧ hasL FG (i : Int) = false ∧ hasL FF (i : Int) = false) ∨ (hasL gs (i : Int) = true ∧ hasL FG (i : Int) = true ∧ hasL FF (i : Int) = false) ∨ (hasL gs (i : Int) = true ∧ hasL FG (i : Int) = false ∧ hasL FF (i : Int) = true ∧ FL.getD i 0 = FL.getD (i - 1) 0)))
    (HB0 : Hid (∀ s ∈ gs, 0 ≤ s.1 ∧ s.1 < s.2 ∧ s.2 ≤ 100000)) (HP2 : Hid (∀ j : Nat, j < gs.length → hasL FG (gs.getD j (0, 0)).1 = kpG (mo : Int) (gs.getD j (0, 0))))
    (WI0 : Hid (∀ X : World, Calls Tryz.prog 13 #[.int .i64 0, .int .i64 (k : Int)] X (OwnsSp X.heap.size WH X))) (WI1 : Hid (∀ X : World, Calls Tryz.prog 13 #[.int .i64 (k : Int), .int .i64 (n : Int)] X (OwnsSp X.heap.size WT X)))
    (ME0 : Hid (∀ (X : World) (sa sb : Value), Rd X X.heap.size sa gs.length (spc gs) → Rd X X.heap.size sb WH.length (spc WH) → Calls Tryz.prog 12 #[sa, sb] X (OwnsSp X.heap.size PH X))) (ME1 : Hid (∀ (X : World) (sa sb : Value), Rd X X.heap.size sa gs.length (spc gs) → Rd X X.heap.size sb WT.length (spc WT) → Calls Tryz.prog 12 #[sa, sb] X (OwnsSp X.heap.size GM X)))
    (HBD : Hid (∀ s ∈ GM, (k : Int) ≤ s.1 ∧ s.1 < s.2 ∧ s.2 ≤ 100000)) (HPT : Hid (PT = shl k GM ∧ PT.length = GM.length))
    (HAP : Hid (∀ (X : World) (u1 u2 u3 u4 : Value), Rd X X.heap.size u1 (bs.take k).length (flc (bs.take k)) → Rd X X.heap.size u2 PH.length (spc PH) → Rd X X.heap.size u3 (bs.drop k).length (flc (bs.drop k)) → Rd X X.heap.size u4 PT.length (spc PT) → Full u1 → Full u3 → Calls Tryz.prog 14 #[.agg #[.string nm, .int .i64 st, u1, u2], .agg #[.string nm, .int .i64 (st + (k : Int)), u3, u4]] X (GotAF nm st bs gs X)))
    (SU : Hid (∀ (W : World) (lv gv : Value), Rd W W.heap.size lv bs.length (flc bs) → Rd W W.heap.size gv gs.length (spc gs) → Calls Tryz.prog 15 #[.agg #[.string nm, .int .i64 st, lv, gv]] W (GotSF (ca + cb) (sa + sb) 0 lx hx W)))
    (SU0 : Hid (∀ (W : World) (lv gv : Value), Rd W W.heap.size lv (bs.take k).length (flc (bs.take k)) → Rd W W.heap.size gv PH.length (spc PH) → Calls Tryz.prog 15 #[.agg #[.string nm, .int .i64 st, lv, gv]] W (GotSF ca sa ea la ha W)))
    (SU1 : Hid (∀ (W : World) (lv gv : Value), Rd W W.heap.size lv (bs.drop k).length (flc (bs.drop k)) → Rd W W.heap.size gv PT.length (spc PT) → Calls Tryz.prog 15 #[.agg #[.string nm, .int .i64 (st + (k : Int)), lv, gv]] W (GotSF cb sb eb lB hB W)))
    (HSN : Hid (0 ≤ ca ∧ ca ≤ 100000 ∧ 0 ≤ cb ∧ cb ≤ 100000 ∧ -1000000000 ≤ sa ∧ sa ≤ 1000000000 ∧ -1000000000 ≤ sb ∧ sb ≤ 1000000000)) (HSL : Hid (sameF feqL 0 bs bs = true))
    (HEA : Hid (ea = 12 ∨ ea = 0 ∧ flt la lx = false ∧ fgt ha hx = false)) (HEB : Hid (eb = 12 ∨ eb = 0 ∧ flt lB lx = false ∧ fgt hB hx = false))
    (GHi : Hid (∀ (W : World) (lv gv : Value), Rd W W.heap.size lv bs.length (flc bs) → Rd W W.heap.size gv gs.length (spc gs) → Calls Tryz.prog 17 #[.agg #[.string nm, .int .i64 st, lv, gv], .int .i64 wd] W (GotIF H W)))
    (GLo : Hid (∀ (W : World) (lv gv : Value), Rd W W.heap.size lv n (flc (bs.map (Op.negFloat .f32))) → Rd W W.heap.size gv gs.length (spc gs) → Calls Tryz.prog 18 #[.agg #[.string nm, .int .i64 st, lv, gv], .int .i64 wd] W (GotIF H W)))
    (HAB : Hid (∀ (X : World) (lv gv : Value), Rd X X.heap.size lv bs.length (flc bs) → Rd X X.heap.size gv gs.length (spc gs) → Calls Tryz.prog 19 #[.agg #[.string nm, .int .i64 st, lv, gv], .float .f32 hx] X (fun e w' => ∃ A c, e = .returned (.tuple #[.slice A 0 c, .int .i64 0]) ∧ Below X.heap.size X w')))
    (HP5 : Hid (∀ j, j < H.length → ∃ m : Nat, H.getD j 0 = (m : Int) ∧ m < n ∧ hasL gs (m : Int) = false ∧ ∀ q : Nat, q < n → hasL gs (q : Int) = false → m ≤ q + wd → q ≤ m + wd → fgt (bs.getD q 0) (bs.getD m 0) = false)) (HTOP : Hid (topB bs H hx H.length = true)) :
    Calls Tryz.prog 3 #[.agg #[.string nm, .int .i64 st, .slice (some ⟨lb, lo, none⟩) n cA, .slice A2 gs.length cG], .agg #[.int .u8 x0, .int .u8 x1]] w fun e w' => e = .returned (.bool true) ∧ Below w.heap.size w w' := by
  obtain ⟨hn0, hn1, hbn, hgn, hnc, hcm, hkn, hmo, hw1, hw2, hfl, hgm, hph, hhn⟩ := HN.out
  unfold maxLen at hcm
  obtain ⟨W1, hW1⟩ : ∃ W1, W1 = ((w.alloc (Obj.cells #[.string nm, .int .i64 st, .slice (some ⟨lb, lo, none⟩) n cA, .slice A2 gs.length cG] 25)).alloc (Obj.cells #[.int .u8 x0, .int .u8 x1] 26)) := ⟨_, rfl⟩
  have hb1 : Below w.heap.size w W1 := by rw [hW1]; exact ((Below.refl _ w).alloc (Nat.le_refl _) _).alloc (by simp) _
  have HQ := hd (show W1.heap[w.heap.size]? = some (.cells #[.string nm, .int .i64 st, .slice (some ⟨lb, lo, none⟩) n cA, .slice A2 gs.length cG] 25 (0, 0)) by rw [hW1]; exact (Below.heap_alloc _ _ _ (by simp)).trans (blk_new _ _ _))
  have HQN := hd (show W1.heap[w.heap.size + 1]? = some (.cells #[.int .u8 x0, .int .u8 x1] 26 (0, 0)) by
    have h := blk_new (w.alloc (Obj.cells #[.string nm, .int .i64 st, .slice (some ⟨lb, lo, none⟩) n cA, .slice A2 gs.length cG] 25)) #[.int .u8 x0, .int .u8 x1] 26
    rw [World.size_alloc] at h
    rw [hW1]; exact h)
  have HB := hd hb1
  have RL := hd ((HL.out.below hb1 (Nat.le_refl _)).mono hb1.size)
  have RG := hd ((HG.out.below hb1 (Nat.le_refl _)).mono hb1.size)
  clear hb1
  go_enter Tryz.func3, Tryz.ntmps3
  go_wp2_with fail
  rw [← hW1]
  clear hW1
  have FB0 : ∀ p : Bw W1, p.out.cell? ⟨w.heap.size, 0, none⟩ = some (.string nm) := fun p => p.cell (blk_lt HQ.out) (blk_cell HQ.out 0)
  have FB1 : ∀ p : Bw W1, p.out.cell? ⟨w.heap.size, 1, none⟩ = some (.int .i64 st) := fun p => p.cell (blk_lt HQ.out) (blk_cell HQ.out 1)
  have FB2 : ∀ p : Bw W1, p.out.cell? ⟨w.heap.size, 2, none⟩ = some (.slice (some ⟨lb, lo, none⟩) n cA) := fun p => p.cell (blk_lt HQ.out) (blk_cell HQ.out 2)
  have FB3 : ∀ p : Bw W1, p.out.cell? ⟨w.heap.size, 3, none⟩ = some (.slice A2 gs.length cG) := fun p => p.cell (blk_lt HQ.out) (blk_cell HQ.out 3)
  have C1 := hd (fun p : Bw W1 => HA.out p.out)
  have C2 := hd (fun p : Bw W1 => show Calls Tryz.prog 5 #[.agg #[.string nm, .int .i64 st, .slice (some ⟨lb, lo, none⟩) n cA, .slice A2 gs.length cG]] p.out (fun e w' => e = .returned (.bool true) ∧ Below p.out.heap.size p.out w') from by have h := short_any nm st (some ⟨lb, lo, none⟩) A2 n cA gs.length cG p.out; rw [S1.out] at h; exact h)
  have C3 := hd (fun p : Bw W1 => CR.out p.out _ _ ((RL.out.below p.below (Nat.le_refl _)).mono p.below.size) ((RG.out.below p.below (Nat.le_refl _)).mono p.below.size))
  have C4 := hd (fun p : Bw W1 => CT.out p.out _ ((RG.out.below p.below (Nat.le_refl _)).mono p.below.size))
  have t1 : ((n : Int) == 0) = false := by simp; omega
  have t2 := HTT.out
  have t3 : decide ((99900 : Int) < st) = false := by have := HST.out; simp; omega
  have t4 : decide (st > (99900 : Int)) = false := by have := HST.out; simp; omega
  have t5 : ¬ (99900 : Int) < st := by have := HST.out; omega
  have t6 : ¬ n = 0 := by omega
  refine wp_region_bw (by kernel_rfl) (by kernel_rfl) ?_
  repeat (first | go_big_quiet_step (fail))
  go_big_quiet_step (first | (go_at_call 4; exact Bw.call _ (C1.out _)))
  repeat (first | go_big_quiet_step (fail))
  go_big_quiet_step (first | (go_at_call 5; exact Bw.call _ (C2.out _)))
  repeat (first | go_big_quiet_step (fail))
  go_big_quiet_step (first | (go_at_call 6; exact Bw.call _ (C3.out _)))
  repeat (first | go_big_quiet_step (fail))
  go_big_quiet_step (first | (go_at_call 7; exact Bw.call _ (C4.out _)))
  repeat (first | go_big_quiet_step (fail))
  refine wpQuiet_nil ?_
  rintro ⟨z0, hb⟩
  change Exit.then _ _ _ _ z0
  clear FB0 FB1 FB2 FB3 C1 C2 C3 C4 t1 t2 t3 t4 t5 t6
  replace HQ := hd ((hb.block _ (blk_lt HQ.out)).trans HQ.out)
  replace HQN := hd ((hb.block _ (blk_lt HQN.out)).trans HQN.out)
  replace HB := hd (HB.out.trans (hb.mono HB.out.size))
  replace RL := hd ((RL.out.below hb (Nat.le_refl _)).mono hb.size)
  replace RG := hd ((RG.out.below hb (Nat.le_refl _)).mono hb.size)
  clear hb
  have FZ0 : ∀ p : Bw z0, p.out.cell? ⟨w.heap.size + 1, 0, none⟩ = some (.int .u8 x0) := fun p => p.cell (blk_lt HQN.out) (blk_cell HQN.out 0)
  have FZ1 : ∀ p : Bw z0, p.out.cell? ⟨w.heap.size + 1, 1, none⟩ = some (.int .u8 x1) := fun p => p.cell (blk_lt HQN.out) (blk_cell HQN.out 1)
  obtain ⟨hx0a, hx0b⟩ := HX0.out
  obtain ⟨hx1a, hx1b⟩ := HX1.out
  go_wp2_with fail
  refine wp_region_bw (by kernel_rfl) (by kernel_rfl) ?_
  repeat (first | go_big_quiet_step (fail))
  refine wpQuiet_nil ?_
  rintro ⟨z1, hb⟩
  change Exit.then _ _ _ _ z1
  clear FZ0 FZ1
  replace HQ := hd ((hb.block _ (blk_lt HQ.out)).trans HQ.out)
  replace HQN := hd ((hb.block _ (blk_lt HQN.out)).trans HQN.out)
  replace HB := hd (HB.out.trans (hb.mono HB.out.size))
  replace RL := hd ((RL.out.below hb (Nat.le_refl _)).mono hb.size)
  replace RG := hd ((RG.out.below hb (Nat.le_refl _)).mono hb.size)
  clear hb
  rw [HMO.out, HWD.out]
  have hZ := box4F HQ.out
  obtain ⟨k0, k1, k2, k3, -, -, -, -⟩ := hZ
  go_wp2_with fail
  refine (lawRecord_any nm st _ _ bs gs _ (by rw [hbn]; exact RL.out) RG.out (.inr ⟨_, _, _, rfl⟩) FG0.out (by omega) (by omega)).mono ?_
  rintro e z2 ⟨v1, v2, rfl, hv1, hv2, -, -, hb⟩
  have U1 := hd hv1
  have U2 := hd hv2
  clear hv1 hv2
  clear k0 k1 k2 k3
  replace HQ := hd ((hb.block _ (blk_lt HQ.out)).trans HQ.out)
  replace HQN := hd ((hb.block _ (blk_lt HQN.out)).trans HQN.out)
  replace HB := hd (HB.out.trans (hb.mono HB.out.size))
  replace RL := hd ((RL.out.below hb (Nat.le_refl _)).mono hb.size)
  replace RG := hd ((RG.out.below hb (Nat.le_refl _)).mono hb.size)
  clear hb
  go_wp2_with fail
  refine (GF.out _ _ _ U1.out U2.out).mono ?_
  rintro e z3 ⟨AF, cF, AX, cX, AS, cS, rfl, hv1, hv2, hv3, hb⟩
  have RF1 := hd hv1
  have RF2 := hd hv2
  have RF3 := hd hv3
  clear hv1 hv2 hv3 U1 U2
  replace HQ := hd ((hb.block _ (blk_lt HQ.out)).trans HQ.out)
  replace HQN := hd ((hb.block _ (blk_lt HQN.out)).trans HQN.out)
  replace HB := hd (HB.out.trans (hb.mono HB.out.size))
  replace RL := hd ((RL.out.below hb (Nat.le_refl _)).mono hb.size)
  replace RG := hd ((RG.out.below hb (Nat.le_refl _)).mono hb.size)
  clear hb
  have hb := (Below.refl z3.heap.size z3).alloc (Nat.le_refl _) (Obj.cells #[.string nm, .int .i64 st, .slice AF n cF, .slice AX FG.length cX] 31)
  have HC := hd (blk_new z3 #[.string nm, .int .i64 st, .slice AF n cF, .slice AX FG.length cX] 31)
  replace HQ := hd ((hb.block _ (blk_lt HQ.out)).trans HQ.out)
  replace HQN := hd ((hb.block _ (blk_lt HQN.out)).trans HQN.out)
  replace HB := hd (HB.out.trans (hb.mono HB.out.size))
  replace RL := hd ((RL.out.below hb (Nat.le_refl _)).mono hb.size)
  replace RG := hd ((RG.out.below hb (Nat.le_refl _)).mono hb.size)
  replace RF1 := hd ((RF1.out.below hb (Nat.le_refl _)).mono hb.size)
  replace RF2 := hd ((RF2.out.below hb (Nat.le_refl _)).mono hb.size)
  replace RF3 := hd ((RF3.out.below hb (Nat.le_refl _)).mono hb.size)
  clear hb
  have hZ := box4F HQ.out
  obtain ⟨k0, k1, k2, k3, -, -, -, -⟩ := hZ
  have hZ := box4F HC.out
  obtain ⟨d0, d1, d2, d3, -, -, -, -⟩ := hZ
  go_wp2_with fail
  generalize z3.alloc (Obj.cells #[.string nm, .int .i64 st, .slice AF n cF, .slice AX FG.length cX] 31) = z4 at *
  generalize z3.heap.size = C at *
  clear k0 k1 k2 k3
  clear d0 d1 d2 d3
  refine (own_rec nm st AF AX n cF FG.length cX _).mono ?_
  rintro e z5 ⟨rfl, hb⟩
  replace HQ := hd ((hb.block _ (blk_lt HQ.out)).trans HQ.out)
  replace HQN := hd ((hb.block _ (blk_lt HQN.out)).trans HQN.out)
  replace HC := hd ((hb.block _ (blk_lt HC.out)).trans HC.out)
  replace HB := hd (HB.out.trans (hb.mono HB.out.size))
  replace RL := hd ((RL.out.below hb (Nat.le_refl _)).mono hb.size)
  replace RG := hd ((RG.out.below hb (Nat.le_refl _)).mono hb.size)
  replace RF1 := hd ((RF1.out.below hb (Nat.le_refl _)).mono hb.size)
  replace RF2 := hd ((RF2.out.below hb (Nat.le_refl _)).mono hb.size)
  replace RF3 := hd ((RF3.out.below hb (Nat.le_refl _)).mono hb.size)
  clear hb
  go_wp2_with fail
  refine (CF.out _ _ _ RF1.out RF2.out).mono ?_
  rintro e z6 ⟨rfl, hb⟩
  replace HQ := hd ((hb.block _ (blk_lt HQ.out)).trans HQ.out)
  replace HQN := hd ((hb.block _ (blk_lt HQN.out)).trans HQN.out)
  replace HC := hd ((hb.block _ (blk_lt HC.out)).trans HC.out)
  replace HB := hd (HB.out.trans (hb.mono HB.out.size))
  replace RL := hd ((RL.out.below hb (Nat.le_refl _)).mono hb.size)
  replace RG := hd ((RG.out.below hb (Nat.le_refl _)).mono hb.size)
  replace RF1 := hd ((RF1.out.below hb (Nat.le_refl _)).mono hb.size)
  replace RF2 := hd ((RF2.out.below hb (Nat.le_refl _)).mono hb.size)
  replace RF3 := hd ((RF3.out.below hb (Nat.le_refl _)).mono hb.size)
  clear hb
  have hZ := box4F HQ.out
  obtain ⟨k0, k1, k2, k3, -, -, -, -⟩ := hZ
  go_wp2_with fail
  clear k0 k1 k2 k3
  refine follows_l1 nm st (some ⟨lb, lo, none⟩) A2 AF AX AS cA cG cF cX cS n w.heap.size C bs FL gs FG FF z6 _ _ HQ HC RL RG RF1 RF2 RF3 (hd ⟨by omega, hbn, hfl⟩) HV1 HP1 (hd (Below.refl _ _)) ?_
  intro u4 u10 u108 u109 u110 u111 u112 u113 u114 u115 u116 u117 u118 u119 u120 u121 u122 u123 u124 u125 u126 u127 u128 u129 u130 u131 u132 u133 u134 u135 u136 u137 u138 u139 u140 u141 u142 u143 u144 u145 u146 u147 u148 u149 u150 u151 u152 u153 u154 u155 u156 u157 u158 u159 u160 u161 u162 u163 u164 u165 u166 u167 u168 u169 u170 u171 u172 u173 u174 u175 u176 z7 hb
  replace HQ := hd ((hb.block _ (blk_lt HQ.out)).trans HQ.out)
  replace HQN := hd ((hb.block _ (blk_lt HQN.out)).trans HQN.out)
  replace HC := hd ((hb.block _ (blk_lt HC.out)).trans HC.out)
  replace HB := hd (HB.out.trans (hb.mono HB.out.size))
  replace RL := hd ((RL.out.below hb (Nat.le_refl _)).mono hb.size)
  replace RG := hd ((RG.out.below hb (Nat.le_refl _)).mono hb.size)
  replace RF1 := hd ((RF1.out.below hb (Nat.le_refl _)).mono hb.size)
  replace RF2 := hd ((RF2.out.below hb (Nat.le_refl _)).mono hb.size)
  replace RF3 := hd ((RF3.out.below hb (Nat.le_refl _)).mono hb.size)
  clear hb
  have hZ := box4F HQ.out
  obtain ⟨k0, k1, k2, k3, -, -, -, -⟩ := hZ
  go_wp2_with fail
  clear k0 k1 k2 k3
  refine follows_l2 nm st (mo : Int) A2 AF AX cG cF cX n C gs FG z7 _ _ HC RG RF2 (hd (by omega)) HB0 HP2 (hd (Below.refl _ _)) ?_
  intro u4 u12 u180 u181 u182 u183 u184 u185 u186 u187 u188 u189 u190 u191 u192 u193 u194 u195 u196 u197 u198 u199 u200 u201 u202 z8 hb
  replace HQ := hd ((hb.block _ (blk_lt HQ.out)).trans HQ.out)
  replace HQN := hd ((hb.block _ (blk_lt HQN.out)).trans HQN.out)
  replace HC := hd ((hb.block _ (blk_lt HC.out)).trans HC.out)
  replace HB := hd (HB.out.trans (hb.mono HB.out.size))
  replace RL := hd ((RL.out.below hb (Nat.le_refl _)).mono hb.size)
  replace RG := hd ((RG.out.below hb (Nat.le_refl _)).mono hb.size)
  replace RF1 := hd ((RF1.out.below hb (Nat.le_refl _)).mono hb.size)
  replace RF2 := hd ((RF2.out.below hb (Nat.le_refl _)).mono hb.size)
  replace RF3 := hd ((RF3.out.below hb (Nat.le_refl _)).mono hb.size)
  clear hb
  clear HC RF1 RF2 RF3
  have hZ := box4F HQ.out
  obtain ⟨k0, k1, k2, k3, -, -, -, -⟩ := hZ
  have q0 := blk_cell HQN.out 0
  have q1 := blk_cell HQN.out 1
  simp at q0 q1
  have hdn : ¬ (n : Int) + 1 = 0 := by omega
  have hdb : ((n : Int) + 1 == 0) = false := by simp; omega
  go_wp2_with fail
  clear q0 q1 hdn hdb HQN
  clear k0 k1 k2 k3
  rw [HK.out]
  have hk1 : (k : Int) ≤ (n : Int) := by omega
  refine follows_r20 nm st A2 lb lo cA cG n k w.heap.size gs WH PH hk1 hnc z8 _ HQ WI0 (hd (fun X sb hbx h => ME0.out X _ sb ((RG.out.below hbx (Nat.le_refl _)).mono hbx.size) h)) ?_
  intro u211 u212 u213 u214 u215 u216 u217 u218 u219 u220 u221 u222 u223 u224 z9 D hfact
  obtain ⟨hb, hDP, AH, cH, hbox, hown⟩ := hfact
  have HH := hd hbox
  have RPH := hd (rd_of_own hown)
  have FPH := hd (full_own hown)
  clear hbox hown hDP
  replace HQ := hd ((hb.block _ (blk_lt HQ.out)).trans HQ.out)
  replace HB := hd (HB.out.trans (hb.mono HB.out.size))
  replace RL := hd ((RL.out.below hb (Nat.le_refl _)).mono hb.size)
  replace RG := hd ((RG.out.below hb (Nat.le_refl _)).mono hb.size)
  clear hb
  have RP0 := RPH
  have HB20 := hd (Below.refl z9.heap.size z9)
  go_wp2_with fail
  refine follows_r21 nm st A2 lb lo cA cG n k w.heap.size gs hkn hnc (by omega) (by have := HST.out; omega) z9 _ HQ ?_
  intro u225 u226 u227 u228 u229 u230 u231 u232 u233 u234 u235 z10 T lq hfact
  obtain ⟨hb, hTP, hlq, hbox⟩ := hfact
  have HT := hd hbox
  have HLQ := hd hlq
  have HTL := hd (And.intro (Nat.le_trans HB.out.size hTP) (And.intro (Nat.lt_of_lt_of_le (blk_lt HH.out) hTP) (And.intro (Nat.lt_of_lt_of_le (blk_lt HQ.out) hTP) (Nat.le_trans HB20.out.size hTP))))
  clear hbox hlq hTP
  replace HQ := hd ((hb.block _ (blk_lt HQ.out)).trans HQ.out)
  replace HH := hd ((hb.block _ (blk_lt HH.out)).trans HH.out)
  replace HB := hd (HB.out.trans (hb.mono HB.out.size))
  replace HB20 := hd (HB20.out.trans (hb.mono HB20.out.size))
  replace RL := hd ((RL.out.below hb (Nat.le_refl _)).mono hb.size)
  replace RG := hd ((RG.out.below hb (Nat.le_refl _)).mono hb.size)
  replace RPH := hd ((RPH.out.below hb (Nat.le_refl _)).mono hb.size)
  clear hb
  go_wp2_with fail
  refine follows_r22 nm st (some ⟨lb, lo, none⟩) A2 cA cG n k w.heap.size gs WT GM z10 _ HQ WI1 (hd (fun X sb hbx h => ME1.out X _ sb ((RG.out.below hbx (Nat.le_refl _)).mono hbx.size) h)) ?_
  intro u236 u237 u238 u239 u240 u241 u242 z11 DM eM hfact
  obtain ⟨hb, hrd, hDM⟩ := hfact
  have RM := hd hrd
  have HMT := hd (show ∀ b o : Nat, DM = some ⟨b, o, none⟩ → b ≠ T from fun b o h => by have h1 := hDM b o h; have h2 := blk_lt HT.out; omega)
  clear hrd hDM
  replace HQ := hd ((hb.block _ (blk_lt HQ.out)).trans HQ.out)
  replace HH := hd ((hb.block _ (blk_lt HH.out)).trans HH.out)
  replace HT := hd ((hb.block _ (blk_lt HT.out)).trans HT.out)
  replace HB := hd (HB.out.trans (hb.mono HB.out.size))
  replace HB20 := hd (HB20.out.trans (hb.mono HB20.out.size))
  replace RL := hd ((RL.out.below hb (Nat.le_refl _)).mono hb.size)
  replace RG := hd ((RG.out.below hb (Nat.le_refl _)).mono hb.size)
  replace RPH := hd ((RPH.out.below hb (Nat.le_refl _)).mono hb.size)
  clear hb
  go_wp2_with fail
  refine follows_l3 nm (st + (k : Int)) (.slice (some ⟨lb, lq, none⟩) (n - k) (cA - k)) DM eM T k GM z11 _ (hd ⟨⟨none, 0, HT.out, World.ownsRow_nil _ _ _ _⟩, Below.refl _ _, fun _ _ _ => rfl, Nat.le_refl _⟩) (hd (blk_lt HT.out)) RM HMT (hd ⟨hgm, by omega⟩) HBD ?_
  intro u17 u245 u246 u247 u248 u249 u250 u251 u252 u253 u254 u255 u256 u257 u258 u259 u260 u261 u262 u263 z12 hj
  obtain ⟨AT, cT, hbox, hown⟩ := hj.box
  rw [List.take_length, ← HPT.out.1] at hown
  rw [← HPT.out.2] at hown hbox
  replace HT := hd hbox
  have RPT := hd (rd_of_own hown)
  have FPT := hd (full_own hown)
  replace HB := hd (HB.out.trans (hj.bel.mono HTL.out.1))
  replace HH := hd ((hj.bel.block _ HTL.out.2.1).trans HH.out)
  replace HQ := hd ((hj.bel.block _ HTL.out.2.2.1).trans HQ.out)
  replace HB20 := hd (HB20.out.trans (hj.bel.mono HTL.out.2.2.2))
  replace RPH := hd ((RP0.out.below HB20.out (Nat.le_refl _)).mono HB20.out.size)
  replace RL := hd ((HL.out.below HB.out (Nat.le_refl _)).mono HB.out.size)
  replace RG := hd ((HG.out.below HB.out (Nat.le_refl _)).mono HB.out.size)
  clear hbox hown hj RM HMT HTL HB20 RP0
  go_wp2_with fail
  have hkl : (bs.take k).length ≤ 100000 := by rw [List.length_take]; omega
  have hdl : (bs.drop k).length ≤ 100000 := by rw [List.length_drop]; omega
  refine follows_r27 nm st (some ⟨lb, lo, none⟩) (some ⟨lb, lq, none⟩) AH AT cA (cA - k) cH cT k (n - k) D T bs (bs.take k) (bs.drop k) gs PH PT z12 _ HH HT (hd (fun X hbx => lawRecord_any nm st _ _ (bs.take k) PH X (rd_take ((RL.out.below hbx (Nat.le_refl _)).mono hbx.size) hbn hkn) ((RPH.out.below hbx (Nat.le_refl _)).mono hbx.size) (.inr ⟨_, _, _, rfl⟩) FPH.out hkl hph)) (hd (fun X hbx => lawRecord_any nm (st + (k : Int)) _ _ (bs.drop k) PT X (rd_drop ((RL.out.below hbx (Nat.le_refl _)).mono hbx.size) hbn hkn HLQ.out) ((RPT.out.below hbx (Nat.le_refl _)).mono hbx.size) (.inr ⟨_, _, _, rfl⟩) FPT.out hdl (by rw [HPT.out.2]; exact hgm))) HAP ?_
  intro u264 u265 u266 u267 u268 u269 u270 u271 z13 Wb hfact
  obtain ⟨hb, -, AW, cW, AY, cY, hbox, hr1, hr2⟩ := hfact
  rw [hbn] at hbox hr1
  have HW := hd hbox
  have RW := hd hr1
  have RY := hd hr2
  clear hbox hr1 hr2
  replace HQ := hd ((hb.block _ (blk_lt HQ.out)).trans HQ.out)
  replace HH := hd ((hb.block _ (blk_lt HH.out)).trans HH.out)
  replace HT := hd ((hb.block _ (blk_lt HT.out)).trans HT.out)
  replace HB := hd (HB.out.trans (hb.mono HB.out.size))
  replace RL := hd ((RL.out.below hb (Nat.le_refl _)).mono hb.size)
  replace RG := hd ((RG.out.below hb (Nat.le_refl _)).mono hb.size)
  replace RPH := hd ((RPH.out.below hb (Nat.le_refl _)).mono hb.size)
  replace RPT := hd ((RPT.out.below hb (Nat.le_refl _)).mono hb.size)
  clear hb
  have hZ := box4F HQ.out
  obtain ⟨k0, k1, k2, k3, -, -, -, -⟩ := hZ
  go_wp2_with fail
  refine (lawRecord_any nm st _ _ bs gs _ (by rw [hbn]; exact RL.out) RG.out (.inr ⟨_, _, _, rfl⟩) FG0.out (by omega) (by omega)).mono ?_
  rintro e z14 ⟨v1, v2, rfl, hv1, hv2, -, -, hb⟩
  have U1 := hd hv1
  have U2 := hd hv2
  clear hv1 hv2
  clear k0 k1 k2 k3
  replace HQ := hd ((hb.block _ (blk_lt HQ.out)).trans HQ.out)
  replace HH := hd ((hb.block _ (blk_lt HH.out)).trans HH.out)
  replace HT := hd ((hb.block _ (blk_lt HT.out)).trans HT.out)
  replace HW := hd ((hb.block _ (blk_lt HW.out)).trans HW.out)
  replace HB := hd (HB.out.trans (hb.mono HB.out.size))
  replace RL := hd ((RL.out.below hb (Nat.le_refl _)).mono hb.size)
  replace RG := hd ((RG.out.below hb (Nat.le_refl _)).mono hb.size)
  replace RPH := hd ((RPH.out.below hb (Nat.le_refl _)).mono hb.size)
  replace RPT := hd ((RPT.out.below hb (Nat.le_refl _)).mono hb.size)
  replace RW := hd ((RW.out.below hb (Nat.le_refl _)).mono hb.size)
  replace RY := hd ((RY.out.below hb (Nat.le_refl _)).mono hb.size)
  clear hb
  go_wp2_with fail
  refine (SU.out _ _ _ U1.out U2.out).mono ?_
  rintro e z15 ⟨rfl, hb⟩
  clear U1 U2
  replace HQ := hd ((hb.block _ (blk_lt HQ.out)).trans HQ.out)
  replace HH := hd ((hb.block _ (blk_lt HH.out)).trans HH.out)
  replace HT := hd ((hb.block _ (blk_lt HT.out)).trans HT.out)
  replace HW := hd ((hb.block _ (blk_lt HW.out)).trans HW.out)
  replace HB := hd (HB.out.trans (hb.mono HB.out.size))
  replace RL := hd ((RL.out.below hb (Nat.le_refl _)).mono hb.size)
  replace RG := hd ((RG.out.below hb (Nat.le_refl _)).mono hb.size)
  replace RPH := hd ((RPH.out.below hb (Nat.le_refl _)).mono hb.size)
  replace RPT := hd ((RPT.out.below hb (Nat.le_refl _)).mono hb.size)
  replace RW := hd ((RW.out.below hb (Nat.le_refl _)).mono hb.size)
  replace RY := hd ((RY.out.below hb (Nat.le_refl _)).mono hb.size)
  clear hb
  have hb := (Below.refl z15.heap.size z15).alloc (Nat.le_refl _) (Obj.cells #[.int .i64 (ca + cb), .int .i64 (sa + sb), .float .f32 lx, .float .f32 hx] 46)
  have HSX := hd (blk_new z15 #[.int .i64 (ca + cb), .int .i64 (sa + sb), .float .f32 lx, .float .f32 hx] 46)
  replace HQ := hd ((hb.block _ (blk_lt HQ.out)).trans HQ.out)
  replace HH := hd ((hb.block _ (blk_lt HH.out)).trans HH.out)
  replace HT := hd ((hb.block _ (blk_lt HT.out)).trans HT.out)
  replace HW := hd ((hb.block _ (blk_lt HW.out)).trans HW.out)
  replace HB := hd (HB.out.trans (hb.mono HB.out.size))
  replace RL := hd ((RL.out.below hb (Nat.le_refl _)).mono hb.size)
  replace RG := hd ((RG.out.below hb (Nat.le_refl _)).mono hb.size)
  replace RPH := hd ((RPH.out.below hb (Nat.le_refl _)).mono hb.size)
  replace RPT := hd ((RPT.out.below hb (Nat.le_refl _)).mono hb.size)
  replace RW := hd ((RW.out.below hb (Nat.le_refl _)).mono hb.size)
  replace RY := hd ((RY.out.below hb (Nat.le_refl _)).mono hb.size)
  clear hb
  have hZ := box4F HH.out
  obtain ⟨d0, d1, d2, d3, -, -, -, -⟩ := hZ
  go_wp2_with fail
  generalize z15.alloc (Obj.cells #[.int .i64 (ca + cb), .int .i64 (sa + sb), .float .f32 lx, .float .f32 hx] 46) = z16 at *
  generalize z15.heap.size = X at *
  refine (lawRecord_any nm st _ _ (bs.take k) PH _ (rd_take RL.out hbn hkn) RPH.out (.inr ⟨_, _, _, rfl⟩) FPH.out hkl hph).mono ?_
  rintro e z17 ⟨v1, v2, rfl, hv1, hv2, -, -, hb⟩
  have U1 := hd hv1
  have U2 := hd hv2
  clear hv1 hv2
  clear d0 d1 d2 d3
  replace HQ := hd ((hb.block _ (blk_lt HQ.out)).trans HQ.out)
  replace HH := hd ((hb.block _ (blk_lt HH.out)).trans HH.out)
  replace HT := hd ((hb.block _ (blk_lt HT.out)).trans HT.out)
  replace HW := hd ((hb.block _ (blk_lt HW.out)).trans HW.out)
  replace HSX := hd ((hb.block _ (blk_lt HSX.out)).trans HSX.out)
  replace HB := hd (HB.out.trans (hb.mono HB.out.size))
  replace RL := hd ((RL.out.below hb (Nat.le_refl _)).mono hb.size)
  replace RG := hd ((RG.out.below hb (Nat.le_refl _)).mono hb.size)
  replace RPH := hd ((RPH.out.below hb (Nat.le_refl _)).mono hb.size)
  replace RPT := hd ((RPT.out.below hb (Nat.le_refl _)).mono hb.size)
  replace RW := hd ((RW.out.below hb (Nat.le_refl _)).mono hb.size)
  replace RY := hd ((RY.out.below hb (Nat.le_refl _)).mono hb.size)
  clear hb
  go_wp2_with fail
  refine (SU0.out _ _ _ U1.out U2.out).mono ?_
  rintro e z18 ⟨rfl, hb⟩
  clear U1 U2
  replace HQ := hd ((hb.block _ (blk_lt HQ.out)).trans HQ.out)
  replace HH := hd ((hb.block _ (blk_lt HH.out)).trans HH.out)
  replace HT := hd ((hb.block _ (blk_lt HT.out)).trans HT.out)
  replace HW := hd ((hb.block _ (blk_lt HW.out)).trans HW.out)
  replace HSX := hd ((hb.block _ (blk_lt HSX.out)).trans HSX.out)
  replace HB := hd (HB.out.trans (hb.mono HB.out.size))
  replace RL := hd ((RL.out.below hb (Nat.le_refl _)).mono hb.size)
  replace RG := hd ((RG.out.below hb (Nat.le_refl _)).mono hb.size)
  replace RPH := hd ((RPH.out.below hb (Nat.le_refl _)).mono hb.size)
  replace RPT := hd ((RPT.out.below hb (Nat.le_refl _)).mono hb.size)
  replace RW := hd ((RW.out.below hb (Nat.le_refl _)).mono hb.size)
  replace RY := hd ((RY.out.below hb (Nat.le_refl _)).mono hb.size)
  clear hb
  have hb := (Below.refl z18.heap.size z18).alloc (Nat.le_refl _) (Obj.cells #[.int .i64 ca, .int .i64 sa, .float .f32 la, .float .f32 ha] 46)
  have HSA := hd (blk_new z18 #[.int .i64 ca, .int .i64 sa, .float .f32 la, .float .f32 ha] 46)
  replace HQ := hd ((hb.block _ (blk_lt HQ.out)).trans HQ.out)
  replace HH := hd ((hb.block _ (blk_lt HH.out)).trans HH.out)
  replace HT := hd ((hb.block _ (blk_lt HT.out)).trans HT.out)
  replace HW := hd ((hb.block _ (blk_lt HW.out)).trans HW.out)
  replace HSX := hd ((hb.block _ (blk_lt HSX.out)).trans HSX.out)
  replace HB := hd (HB.out.trans (hb.mono HB.out.size))
  replace RL := hd ((RL.out.below hb (Nat.le_refl _)).mono hb.size)
  replace RG := hd ((RG.out.below hb (Nat.le_refl _)).mono hb.size)
  replace RPH := hd ((RPH.out.below hb (Nat.le_refl _)).mono hb.size)
  replace RPT := hd ((RPT.out.below hb (Nat.le_refl _)).mono hb.size)
  replace RW := hd ((RW.out.below hb (Nat.le_refl _)).mono hb.size)
  replace RY := hd ((RY.out.below hb (Nat.le_refl _)).mono hb.size)
  clear hb
  have hZ := box4F HT.out
  obtain ⟨d0, d1, d2, d3, -, -, -, -⟩ := hZ
  go_wp2_with fail
  generalize z18.alloc (Obj.cells #[.int .i64 ca, .int .i64 sa, .float .f32 la, .float .f32 ha] 46) = z19 at *
  generalize z18.heap.size = XA at *
  refine (lawRecord_any nm (st + (k : Int)) _ _ (bs.drop k) PT _ (rd_drop RL.out hbn hkn HLQ.out) RPT.out (.inr ⟨_, _, _, rfl⟩) FPT.out hdl (by rw [HPT.out.2]; exact hgm)).mono ?_
  rintro e z20 ⟨v1, v2, rfl, hv1, hv2, -, -, hb⟩
  have U1 := hd hv1
  have U2 := hd hv2
  clear hv1 hv2
  clear d0 d1 d2 d3
  replace HQ := hd ((hb.block _ (blk_lt HQ.out)).trans HQ.out)
  replace HH := hd ((hb.block _ (blk_lt HH.out)).trans HH.out)
  replace HT := hd ((hb.block _ (blk_lt HT.out)).trans HT.out)
  replace HW := hd ((hb.block _ (blk_lt HW.out)).trans HW.out)
  replace HSX := hd ((hb.block _ (blk_lt HSX.out)).trans HSX.out)
  replace HSA := hd ((hb.block _ (blk_lt HSA.out)).trans HSA.out)
  replace HB := hd (HB.out.trans (hb.mono HB.out.size))
  replace RL := hd ((RL.out.below hb (Nat.le_refl _)).mono hb.size)
  replace RG := hd ((RG.out.below hb (Nat.le_refl _)).mono hb.size)
  replace RPH := hd ((RPH.out.below hb (Nat.le_refl _)).mono hb.size)
  replace RPT := hd ((RPT.out.below hb (Nat.le_refl _)).mono hb.size)
  replace RW := hd ((RW.out.below hb (Nat.le_refl _)).mono hb.size)
  replace RY := hd ((RY.out.below hb (Nat.le_refl _)).mono hb.size)
  clear hb
  go_wp2_with fail
  refine (SU1.out _ _ _ U1.out U2.out).mono ?_
  rintro e z21 ⟨rfl, hb⟩
  clear U1 U2
  replace HQ := hd ((hb.block _ (blk_lt HQ.out)).trans HQ.out)
  replace HH := hd ((hb.block _ (blk_lt HH.out)).trans HH.out)
  replace HT := hd ((hb.block _ (blk_lt HT.out)).trans HT.out)
  replace HW := hd ((hb.block _ (blk_lt HW.out)).trans HW.out)
  replace HSX := hd ((hb.block _ (blk_lt HSX.out)).trans HSX.out)
  replace HSA := hd ((hb.block _ (blk_lt HSA.out)).trans HSA.out)
  replace HB := hd (HB.out.trans (hb.mono HB.out.size))
  replace RL := hd ((RL.out.below hb (Nat.le_refl _)).mono hb.size)
  replace RG := hd ((RG.out.below hb (Nat.le_refl _)).mono hb.size)
  replace RPH := hd ((RPH.out.below hb (Nat.le_refl _)).mono hb.size)
  replace RPT := hd ((RPT.out.below hb (Nat.le_refl _)).mono hb.size)
  replace RW := hd ((RW.out.below hb (Nat.le_refl _)).mono hb.size)
  replace RY := hd ((RY.out.below hb (Nat.le_refl _)).mono hb.size)
  clear hb
  have hb := (Below.refl z21.heap.size z21).alloc (Nat.le_refl _) (Obj.cells #[.int .i64 cb, .int .i64 sb, .float .f32 lB, .float .f32 hB] 46)
  have HSB := hd (blk_new z21 #[.int .i64 cb, .int .i64 sb, .float .f32 lB, .float .f32 hB] 46)
  replace HQ := hd ((hb.block _ (blk_lt HQ.out)).trans HQ.out)
  replace HH := hd ((hb.block _ (blk_lt HH.out)).trans HH.out)
  replace HT := hd ((hb.block _ (blk_lt HT.out)).trans HT.out)
  replace HW := hd ((hb.block _ (blk_lt HW.out)).trans HW.out)
  replace HSX := hd ((hb.block _ (blk_lt HSX.out)).trans HSX.out)
  replace HSA := hd ((hb.block _ (blk_lt HSA.out)).trans HSA.out)
  replace HB := hd (HB.out.trans (hb.mono HB.out.size))
  replace RL := hd ((RL.out.below hb (Nat.le_refl _)).mono hb.size)
  replace RG := hd ((RG.out.below hb (Nat.le_refl _)).mono hb.size)
  replace RPH := hd ((RPH.out.below hb (Nat.le_refl _)).mono hb.size)
  replace RPT := hd ((RPT.out.below hb (Nat.le_refl _)).mono hb.size)
  replace RW := hd ((RW.out.below hb (Nat.le_refl _)).mono hb.size)
  replace RY := hd ((RY.out.below hb (Nat.le_refl _)).mono hb.size)
  clear hb
  go_wp2_with fail
  generalize z21.alloc (Obj.cells #[.int .i64 cb, .int .i64 sb, .float .f32 lB, .float .f32 hB] 46) = z22 at *
  generalize z21.heap.size = XB at *
  refine follows_r31 nm st ca sa ea cb sb eb (some ⟨lb, lo, none⟩) A2 AW AY cA cG cW cY n w.heap.size Wb X XA XB lx hx la ha lB hB bs gs z22 _ HQ HW HSX HSA HSB RL RG RW RY (hd ⟨hbn, HSN.out⟩) HSL HEA HEB ?_
  intro u290 u291 u292 u293 u294 u295 u296 u297 u298 u299 u300 u301 u302 u303 u304 u305 u306 u307 u308 u309 u310 u311 u312 u313 u314 u315 u316 u317 u318 u319 u320 u321 u322 u323 u324 u325 u326 u327 u328 u329 u330 u331 u332 u333 u334 u335 u336 u337 u338 u339 u340 u341 u342 u343 u344 u345 u346 u347 u348 u349 u350 u351 u352 u353 u354 u355 u356 u357 u358 u359 u360 u361 u362 u363 u364 u365 u366 u367 u368 u369 u370 u371 u372 u373 z23 hb
  replace HQ := hd ((hb.block _ (blk_lt HQ.out)).trans HQ.out)
  replace HH := hd ((hb.block _ (blk_lt HH.out)).trans HH.out)
  replace HT := hd ((hb.block _ (blk_lt HT.out)).trans HT.out)
  replace HW := hd ((hb.block _ (blk_lt HW.out)).trans HW.out)
  replace HSX := hd ((hb.block _ (blk_lt HSX.out)).trans HSX.out)
  replace HSA := hd ((hb.block _ (blk_lt HSA.out)).trans HSA.out)
  replace HSB := hd ((hb.block _ (blk_lt HSB.out)).trans HSB.out)
  replace HB := hd (HB.out.trans (hb.mono HB.out.size))
  replace RL := hd ((RL.out.below hb (Nat.le_refl _)).mono hb.size)
  replace RG := hd ((RG.out.below hb (Nat.le_refl _)).mono hb.size)
  replace RPH := hd ((RPH.out.below hb (Nat.le_refl _)).mono hb.size)
  replace RPT := hd ((RPT.out.below hb (Nat.le_refl _)).mono hb.size)
  replace RW := hd ((RW.out.below hb (Nat.le_refl _)).mono hb.size)
  replace RY := hd ((RY.out.below hb (Nat.le_refl _)).mono hb.size)
  clear hb
  clear HH HT HW HSA HSB RPH RPT RW RY FPH FPT
  have hZ := box4F HQ.out
  obtain ⟨k0, k1, k2, k3, -, -, -, -⟩ := hZ
  go_wp2_with fail
  refine (lawRecord_any nm st _ _ bs gs _ (by rw [hbn]; exact RL.out) RG.out (.inr ⟨_, _, _, rfl⟩) FG0.out (by omega) (by omega)).mono ?_
  rintro e z24 ⟨v1, v2, rfl, hv1, hv2, -, -, hb⟩
  have U1 := hd hv1
  have U2 := hd hv2
  clear hv1 hv2
  clear k0 k1 k2 k3
  replace HQ := hd ((hb.block _ (blk_lt HQ.out)).trans HQ.out)
  replace HSX := hd ((hb.block _ (blk_lt HSX.out)).trans HSX.out)
  replace HB := hd (HB.out.trans (hb.mono HB.out.size))
  replace RL := hd ((RL.out.below hb (Nat.le_refl _)).mono hb.size)
  replace RG := hd ((RG.out.below hb (Nat.le_refl _)).mono hb.size)
  clear hb
  go_wp2_with fail
  refine (GHi.out _ _ _ U1.out U2.out).mono ?_
  rintro e z25 ⟨A5, c5, rfl, hv1, hb⟩
  have RH := hd hv1
  clear hv1 U1 U2
  replace HQ := hd ((hb.block _ (blk_lt HQ.out)).trans HQ.out)
  replace HSX := hd ((hb.block _ (blk_lt HSX.out)).trans HSX.out)
  replace HB := hd (HB.out.trans (hb.mono HB.out.size))
  replace RL := hd ((RL.out.below hb (Nat.le_refl _)).mono hb.size)
  replace RG := hd ((RG.out.below hb (Nat.le_refl _)).mono hb.size)
  clear hb
  have hZ := box4F HQ.out
  obtain ⟨k0, k1, k2, k3, -, -, -, -⟩ := hZ
  go_wp2_with fail
  refine (lawRecord_own nm st _ _ bs gs _ (by rw [hbn]; exact RL.out) RG.out (.inr ⟨_, _, _, rfl⟩) FG0.out (by omega) (by omega)).mono ?_
  rintro e z26 ⟨v1, v2, rfl, hv1, hv2, hb34⟩
  clear k0 k1 k2 k3
  rw [hbn] at hv1
  obtain ⟨Au, cu, rfl, hAu⟩ := own_form hv1
  obtain ⟨gb, rfl⟩ := hAu hn0
  obtain ⟨Av, cv, rfl, -⟩ := own_form hv2
  have hgb := hv1.lt gb rfl
  have HB34 := hd (hb34.alloc hb34.size (Obj.cells #[.string nm, .int .i64 st, .slice (some ⟨gb, 0, none⟩) n cu, .slice Av gs.length cv] 31))
  have RO := hd (hv1.alloc (Obj.cells #[.string nm, .int .i64 st, .slice (some ⟨gb, 0, none⟩) n cu, .slice Av gs.length cv] 31))
  have RV := hd (hv2.alloc (Obj.cells #[.string nm, .int .i64 st, .slice (some ⟨gb, 0, none⟩) n cu, .slice Av gs.length cv] 31))
  have HU := hd (blk_new z26 #[.string nm, .int .i64 st, .slice (some ⟨gb, 0, none⟩) n cu, .slice Av gs.length cv] 31)
  have HUG := hd (show z26.heap.size ≠ gb by omega)
  have HGB := hd hgb.1
  clear hv1 hv2 hb34 hgb
  have hZ := box4F HU.out
  obtain ⟨d0, d1, d2, d3, -, -, -, -⟩ := hZ
  go_wp2_with fail
  generalize z26.alloc (Obj.cells #[.string nm, .int .i64 st, .slice (some ⟨gb, 0, none⟩) n cu, .slice Av gs.length cv] 31) = z27 at *
  generalize z26.heap.size = U at *
  clear d0 d1 d2 d3
  obtain ⟨csg, hcsg⟩ := own_blk RO.out
  have hcu := rd_of_own RO.out; obtain ⟨Aq, cq, eq, hq1, hq2, -⟩ := hcu; cases eq; refine follows_l4 nm st (.slice Av gs.length cv) cu n U z25.heap.size gb bs z27 _ HU HUG RO (hd ⟨by omega, hbn, hq1, hq2⟩) ?_
  intro u29 u387 u388 u389 u390 u391 u392 u393 u394 u395 u396 u397 u398 u399 u400 z28 hj
  have hb := HB34.out.trans (hj.bel.mono HGB.out)
  have RN1 := hd (rd_of_own hj.own)
  have RN2 := hd (rd_of_own (own_othF RV.out hcsg hj.oth))
  have HU2 := hd ((hj.oth U HUG.out).trans HU.out)
  clear hj RO RV HU HUG HGB HB34 hcsg hq1 hq2
  replace HQ := hd ((hb.block _ (blk_lt HQ.out)).trans HQ.out)
  replace HSX := hd ((hb.block _ (blk_lt HSX.out)).trans HSX.out)
  replace HB := hd (HB.out.trans (hb.mono HB.out.size))
  replace RL := hd ((RL.out.below hb (Nat.le_refl _)).mono hb.size)
  replace RG := hd ((RG.out.below hb (Nat.le_refl _)).mono hb.size)
  replace RH := hd ((RH.out.below hb (Nat.le_refl _)).mono hb.size)
  clear hb
  have hZ := box4F HU2.out
  obtain ⟨d0, d1, d2, d3, -, -, -, -⟩ := hZ
  go_wp2_with fail
  clear d0 d1 d2 d3
  refine (GLo.out _ _ _ RN1.out RN2.out).mono ?_
  rintro e z29 ⟨A6, c6, rfl, hv1, hb⟩
  have RI := hd hv1
  clear hv1
  replace HQ := hd ((hb.block _ (blk_lt HQ.out)).trans HQ.out)
  replace HSX := hd ((hb.block _ (blk_lt HSX.out)).trans HSX.out)
  replace HU2 := hd ((hb.block _ (blk_lt HU2.out)).trans HU2.out)
  replace HB := hd (HB.out.trans (hb.mono HB.out.size))
  replace RL := hd ((RL.out.below hb (Nat.le_refl _)).mono hb.size)
  replace RG := hd ((RG.out.below hb (Nat.le_refl _)).mono hb.size)
  replace RH := hd ((RH.out.below hb (Nat.le_refl _)).mono hb.size)
  replace RN1 := hd ((RN1.out.below hb (Nat.le_refl _)).mono hb.size)
  replace RN2 := hd ((RN2.out.below hb (Nat.le_refl _)).mono hb.size)
  clear hb
  clear RN1 RN2 HU2
  go_wp2_with fail
  refine follows_r41 nm st (ca + cb) (sa + sb) (some ⟨lb, lo, none⟩) A2 cA cG n w.heap.size X lx hx bs gs z29 _ HQ HSX (hd (fun Y hbx => lawRecord_any nm st _ _ bs gs Y (by rw [hbn]; exact ((RL.out.below hbx (Nat.le_refl _)).mono hbx.size)) ((RG.out.below hbx (Nat.le_refl _)).mono hbx.size) (.inr ⟨_, _, _, rfl⟩) FG0.out (by omega) (by omega))) HAB ?_
  intro u407 u408 u409 u410 u411 u412 u413 u414 z30 D9 e9 hb
  replace HQ := hd ((hb.block _ (blk_lt HQ.out)).trans HQ.out)
  replace HSX := hd ((hb.block _ (blk_lt HSX.out)).trans HSX.out)
  replace HB := hd (HB.out.trans (hb.mono HB.out.size))
  replace RL := hd ((RL.out.below hb (Nat.le_refl _)).mono hb.size)
  replace RG := hd ((RG.out.below hb (Nat.le_refl _)).mono hb.size)
  replace RH := hd ((RH.out.below hb (Nat.le_refl _)).mono hb.size)
  replace RI := hd ((RI.out.below hb (Nat.le_refl _)).mono hb.size)
  clear hb
  go_wp2_with fail
  refine (sameInts_any _ _ H H _ RH.out RI.out).mono ?_
  rw [ints_selfF]
  rintro e z31 ⟨rfl, hb⟩
  replace HQ := hd ((hb.block _ (blk_lt HQ.out)).trans HQ.out)
  replace HSX := hd ((hb.block _ (blk_lt HSX.out)).trans HSX.out)
  replace HB := hd (HB.out.trans (hb.mono HB.out.size))
  replace RL := hd ((RL.out.below hb (Nat.le_refl _)).mono hb.size)
  replace RG := hd ((RG.out.below hb (Nat.le_refl _)).mono hb.size)
  replace RH := hd ((RH.out.below hb (Nat.le_refl _)).mono hb.size)
  replace RI := hd ((RI.out.below hb (Nat.le_refl _)).mono hb.size)
  clear hb
  clear RI
  go_wp2_with fail
  refine follows_l5 nm st (ca + cb) (sa + sb) (some ⟨lb, lo, none⟩) A2 A5 cA cG c5 n w.heap.size X wd lx hx bs gs H z31 _ _ HQ HSX RL RG RH (hd ⟨by omega, hbn, by omega, hhn⟩) HP5 (hd (Below.refl _ _)) ?_
  intro u4 u36 u37 u438 u439 u440 u441 u442 u443 u444 u445 u446 u447 u448 u449 u450 u451 u452 u453 u454 u455 u456 u457 u458 u459 u460 u461 u462 u463 u464 u465 u466 u467 u468 u469 u470 u471 u472 u473 u474 u475 u476 u477 u478 u479 u480 u481 u482 u483 u484 u485 u486 u487 u488 u489 u490 u491 u492 u493 u494 u495 u496 u497 u498 u499 u500 u501 u502 z32 hb
  replace HQ := hd ((hb.block _ (blk_lt HQ.out)).trans HQ.out)
  replace HSX := hd ((hb.block _ (blk_lt HSX.out)).trans HSX.out)
  replace HB := hd (HB.out.trans (hb.mono HB.out.size))
  replace RL := hd ((RL.out.below hb (Nat.le_refl _)).mono hb.size)
  replace RG := hd ((RG.out.below hb (Nat.le_refl _)).mono hb.size)
  replace RH := hd ((RH.out.below hb (Nat.le_refl _)).mono hb.size)
  clear hb
  rw [HTOP.out]
  go_wp2_with fail
  go_returns
  exact ⟨rfl, HB.out⟩
end Go.Proofs.YtnejjnebpbajmaaGreatDoor
