/-
  The loop of GaugeMiddle over the vote's levels. Conditions: written at it.
-/
import Derived.Test.YtibhjdmndlelaaaGreatDoorB9
namespace Go.Proofs.YtibhjdmndlelaaaGreatDoor
open Go.RowKit
attribute [local go_sem] Oper.semAt_some

/-- Who deviates, as the law asks for it. -/
theorem dev_is (bs : Nat → List Nat) (gs : Nat → List (Int × Int)) (tol : Int) (i g x : Nat) (h : (rvI bs gs tol i).2 = true → s16 x = (rvI bs gs tol i).1) :
    rDev bs gs tol i g = ((rvI bs gs tol i).2 && (!hasL (gs g) (i : Int) && (decide (tol < s16 ((bs g).getD i 0) - s16 x) || decide (s16 ((bs g).getD i 0) - s16 x < -tol)))) := by
  unfold rDev
  cases hv : (rvI bs gs tol i).2
  · rfl
  · rw [h hv]
    congr 2
    rw [Bool.eq_iff_iff, Bool.or_eq_true, decide_eq_true_eq, decide_eq_true_eq, decide_eq_true_eq]
    omega

set_option maxRecDepth 1000000 in
set_option maxHeartbeats 16000000 in
theorem mid_l2 (nm0 nm1 nm2 nmv : ByteArray) (st tol : Int) (A0 B0 A1 B1 A2 B2 AV AW : Option Addr) (c0 d0 c1 d1 c2 d2 cV cW n BX BV BC : Nat) (bs0 bs1 bs2 XL : List Nat) (gs0 gs1 gs2 VG : List (Int × Int)) (W w : World) (Q0 : Exit → Act → World → Prop)
    (HL0 : Hid (Rd W W.heap.size (.slice A0 bs0.length c0) bs0.length (flc bs0))) (HG0 : Hid (Rd W W.heap.size (.slice B0 gs0.length d0) gs0.length (spc gs0))) (HL1 : Hid (Rd W W.heap.size (.slice A1 bs1.length c1) bs1.length (flc bs1))) (HG1 : Hid (Rd W W.heap.size (.slice B1 gs1.length d1) gs1.length (spc gs1))) (HL2 : Hid (Rd W W.heap.size (.slice A2 bs2.length c2) bs2.length (flc bs2))) (HG2 : Hid (Rd W W.heap.size (.slice B2 gs2.length d2) gs2.length (spc gs2)))
    (HQ : Hid (W.heap[BX]? = some (.cells #[.string nm0, .int .i64 st, .slice A0 bs0.length c0, .slice B0 gs0.length d0, .string nm1, .int .i64 st, .slice A1 bs1.length c1, .slice B1 gs1.length d1, .string nm2, .int .i64 st, .slice A2 bs2.length c2, .slice B2 gs2.length d2] 26 (0, 0)))) (HPV : Hid (W.heap[BV]? = some (.cells #[.string nmv, .int .i64 st, .slice AV n cV, .slice AW VG.length cW] 30 (0, 0)))) (RV : Hid (Rd W W.heap.size (.slice AV n cV) n (flc XL))) (RW : Hid (Rd W W.heap.size (.slice AW VG.length cW) VG.length (spc VG)))
    (HN : Hid (bs0.length = n ∧ bs1.length = n ∧ bs2.length = n ∧ n ≤ 100000 ∧ XL.length = n)) (HV : Hid (∀ i, i < n → chkLev (bs0.getD i 0) = 0 ∧ chkLev (bs1.getD i 0) = 0 ∧ chkLev (bs2.getD i 0) = 0)) (HT : Hid (0 ≤ tol ∧ tol ≤ 255))
    (HX1 : Hid (∀ i, i < n → chkLev (XL.getD i 0) = 0 ∧ ((rvI (f3 bs0 bs1 bs2) (f3 gs0 gs1 gs2) tol i).2 = true → s16 (XL.getD i 0) = (rvI (f3 bs0 bs1 bs2) (f3 gs0 gs1 gs2) tol i).1) ∧ hasL VG (i : Int) = !(rvI (f3 bs0 bs1 bs2) (f3 gs0 gs1 gs2) tol i).2))
    (HBC : Hid (W.heap.size ≤ BC)) (HC0 : Hid (w.heap[BC]? = some (.cells #[.int .i64 0, .int .i64 0, .int .i64 0] 31 (0, 0)))) (HJ0 : Hid (Below W.heap.size W w))
    {t0 t3 t4 t5 t6 t8 t9 t10 t11 t12 t13 t14 t15 t16 t17 t18 t20 t21 t22 t23 t24 t25 t26 t27 t28 t29 t30 t31 t32 t33 t34 t35 t36 t37 t38 t39 t40 t41 t42 t43 t44 t45 t46 t47 t48 t49 t50 t51 t52 t53 t54 t55 t56 t57 t58 t59 t60 t61 t62 t63 t64 t65 t66 t67 t68 t69 t70 t71 t72 t73 t74 t75 t76 t77 t78 t79 t80 t81 t82 t83 t84 t85 t86 t87 t88 t89 t90 t91 t92 t93 t94 t95 t96 t97 t98 t99 t100 t101 t102 t103 t104 t105 t106 t107 t108 t109 t110 t111 t112 t113 t114 t115 t116 t117 t118 t119 t120 t121 t122 t123 t124 t125 t126 t127 t128 t129 t130 t131 t132 t133 t134 t135 t136 t137 t138 t139 t140 t141 t142 t143 t144 t145 t146 t147 t148 t149 t150 t151 t152 t153 t154 t155 t156 t157 t158 t159 t160 t161 t162 t163 t164 t165 t166 t167 t168 t169 t170 t171 t172 t173 t174 t175 t176 t177 t178 t179 t180 t181 t182 t183 t184 t185 t186 t187 t188 t189 t190 t191 t192 t193 t194 t195 t196 t197 t198 t199 t200 t201 t202 t203 t204 t205 t206 t207 t208 t209 t210 t211 t212 t213 t214 t215 t216 t217 t218 t219 t220 t221 t222 t223 t224 t225 t226 t227 t228 t229 t230 t234 t235 t236 t237 t238 t239 t240 t241 t242 t243 t244 t245 t246 t247 t248 t249 t250 t251 t252 t253 t254 t255 t256 t257 t258 t259 t260 t261 t262 t263 t264 t265 t266 t267 t268 t269 t270 t271 t272 t273 t274 t275 t276 t277 t278 t279 t280 t281 t282 t283 t284 t285 t286 t287 t288 t289 t290 t291 t292 t293 t294 t295 t296 t297 t298 t299 t300 t301 t302 t303 t304 t305 t306 t307 t308 t309 t310 t311 t312 t313 t314 t315 t316 t317 t318 t319 t320 t321 t322 t323 t324 t325 t326 t327 t328 t329 t330 t331 t332 t333 t334 t335 t336 t337 t338 t339 t340 t341 t342 t343 t344 t345 t346 t347 t348 t349 t350 t351 t352 t353 t354 t355 t356 t357 t358 t359 t360 t361 t362 t363 t364 t365 t366 t367 t368 t369 t370 t371 t372 t373 t374 t375 t376 : Value}
    (hexit : ∀ (u4 u20 u21 u22 u23 u24 u25 u26 u27 u28 u29 u30 u31 u233 u234 u235 u236 u237 u238 u239 u240 u241 u242 u243 u244 u245 u246 u247 u248 u249 u250 u251 u252 u253 u254 u255 u256 u257 u258 u259 u260 u261 u262 u263 u264 u265 u266 u267 u268 u269 u270 u271 u272 u273 u274 u275 u276 u277 u278 u279 u280 u281 u282 u283 u284 u285 u286 u287 u288 u289 u290 u291 u292 u293 u294 u295 u296 u297 u298 u299 u300 u301 u302 u303 u304 u305 u306 u307 u308 u309 u310 u311 u312 u313 u314 u315 u316 u317 u318 u319 u320 u321 u322 u323 u324 u325 u326 u327 u328 u329 u330 u331 u332 u333 u334 u335 u336 u337 u338 u339 u340 u341 u342 u343 u344 u345 u346 u347 u348 u349 u350 u351 u352 u353 u354 u355 u356 u357 u358 u359 u360 u361 u362 u363 u364 u365 u366 u367 u368 u369 u370 u371 u372 u373 : Value) (w' : World), w'.heap[BC]? = some (.cells #[.int .i64 (rCnt (f3 bs0 bs1 bs2) (f3 gs0 gs1 gs2) tol 0 n), .int .i64 (rCnt (f3 bs0 bs1 bs2) (f3 gs0 gs1 gs2) tol 1 n), .int .i64 (rCnt (f3 bs0 bs1 bs2) (f3 gs0 gs1 gs2) tol 2 n)] 31 (0, 0)) → Below W.heap.size W w' → Q0 (.exit 2) ⟨List.toArray (t0 :: .int .u8 tol :: .pointer (some ⟨BX, 0, none⟩) :: t3 :: u4 :: t5 :: t6 :: .pointer (some ⟨BV, 0, none⟩) :: t8 :: t9 :: t10 :: t11 :: t12 :: t13 :: t14 :: t15 :: t16 :: t17 :: t18 :: .pointer (some ⟨BC, 0, none⟩) :: u20 :: u21 :: u22 :: u23 :: u24 :: u25 :: u26 :: u27 :: u28 :: u29 :: u30 :: u31 :: t32 :: t33 :: t34 :: t35 :: t36 :: t37 :: t38 :: t39 :: t40 :: t41 :: t42 :: t43 :: t44 :: t45 :: t46 :: t47 :: t48 :: t49 :: t50 :: t51 :: t52 :: t53 :: t54 :: t55 :: t56 :: t57 :: t58 :: t59 :: t60 :: t61 :: t62 :: t63 :: t64 :: t65 :: t66 :: t67 :: t68 :: t69 :: t70 :: t71 :: t72 :: t73 :: t74 :: t75 :: t76 :: t77 :: t78 :: t79 :: t80 :: t81 :: t82 :: t83 :: t84 :: t85 :: t86 :: t87 :: t88 :: t89 :: t90 :: t91 :: t92 :: t93 :: t94 :: t95 :: t96 :: t97 :: t98 :: t99 :: t100 :: t101 :: t102 :: t103 :: t104 :: t105 :: t106 :: t107 :: t108 :: t109 :: t110 :: t111 :: t112 :: t113 :: t114 :: t115 :: t116 :: t117 :: t118 :: t119 :: t120 :: t121 :: t122 :: t123 :: t124 :: t125 :: t126 :: t127 :: t128 :: t129 :: t130 :: t131 :: t132 :: t133 :: t134 :: t135 :: t136 :: t137 :: t138 :: t139 :: t140 :: t141 :: t142 :: t143 :: t144 :: t145 :: t146 :: t147 :: t148 :: t149 :: t150 :: t151 :: t152 :: t153 :: t154 :: t155 :: t156 :: t157 :: t158 :: t159 :: t160 :: t161 :: t162 :: t163 :: t164 :: t165 :: t166 :: t167 :: t168 :: t169 :: t170 :: t171 :: t172 :: t173 :: t174 :: t175 :: t176 :: t177 :: t178 :: t179 :: t180 :: t181 :: t182 :: t183 :: t184 :: t185 :: t186 :: t187 :: t188 :: t189 :: t190 :: t191 :: t192 :: t193 :: t194 :: t195 :: t196 :: t197 :: t198 :: t199 :: t200 :: t201 :: t202 :: t203 :: t204 :: t205 :: t206 :: t207 :: t208 :: t209 :: t210 :: t211 :: t212 :: t213 :: t214 :: t215 :: t216 :: t217 :: t218 :: t219 :: t220 :: t221 :: t222 :: t223 :: t224 :: t225 :: t226 :: t227 :: t228 :: t229 :: t230 :: .slice AV n cV :: .int .i64 n :: u233 :: u234 :: u235 :: u236 :: u237 :: u238 :: u239 :: u240 :: u241 :: u242 :: u243 :: u244 :: u245 :: u246 :: u247 :: u248 :: u249 :: u250 :: u251 :: u252 :: u253 :: u254 :: u255 :: u256 :: u257 :: u258 :: u259 :: u260 :: u261 :: u262 :: u263 :: u264 :: u265 :: u266 :: u267 :: u268 :: u269 :: u270 :: u271 :: u272 :: u273 :: u274 :: u275 :: u276 :: u277 :: u278 :: u279 :: u280 :: u281 :: u282 :: u283 :: u284 :: u285 :: u286 :: u287 :: u288 :: u289 :: u290 :: u291 :: u292 :: u293 :: u294 :: u295 :: u296 :: u297 :: u298 :: u299 :: u300 :: u301 :: u302 :: u303 :: u304 :: u305 :: u306 :: u307 :: u308 :: u309 :: u310 :: u311 :: u312 :: u313 :: u314 :: u315 :: u316 :: u317 :: u318 :: u319 :: u320 :: u321 :: u322 :: u323 :: u324 :: u325 :: u326 :: u327 :: u328 :: u329 :: u330 :: u331 :: u332 :: u333 :: u334 :: u335 :: u336 :: u337 :: u338 :: u339 :: u340 :: u341 :: u342 :: u343 :: u344 :: u345 :: u346 :: u347 :: u348 :: u349 :: u350 :: u351 :: u352 :: u353 :: u354 :: u355 :: u356 :: u357 :: u358 :: u359 :: u360 :: u361 :: u362 :: u363 :: u364 :: u365 :: u366 :: u367 :: u368 :: u369 :: u370 :: u371 :: u372 :: u373 :: t374 :: t375 :: t376 :: []), []⟩ w') :
    Code.wp Tryz.prog (Code.loop mL2) Q0 ⟨List.toArray (t0 :: .int .u8 tol :: .pointer (some ⟨BX, 0, none⟩) :: t3 :: t4 :: t5 :: t6 :: .pointer (some ⟨BV, 0, none⟩) :: t8 :: t9 :: t10 :: t11 :: t12 :: t13 :: t14 :: t15 :: t16 :: t17 :: t18 :: .pointer (some ⟨BC, 0, none⟩) :: t20 :: t21 :: t22 :: t23 :: t24 :: t25 :: t26 :: t27 :: t28 :: t29 :: t30 :: t31 :: t32 :: t33 :: t34 :: t35 :: t36 :: t37 :: t38 :: t39 :: t40 :: t41 :: t42 :: t43 :: t44 :: t45 :: t46 :: t47 :: t48 :: t49 :: t50 :: t51 :: t52 :: t53 :: t54 :: t55 :: t56 :: t57 :: t58 :: t59 :: t60 :: t61 :: t62 :: t63 :: t64 :: t65 :: t66 :: t67 :: t68 :: t69 :: t70 :: t71 :: t72 :: t73 :: t74 :: t75 :: t76 :: t77 :: t78 :: t79 :: t80 :: t81 :: t82 :: t83 :: t84 :: t85 :: t86 :: t87 :: t88 :: t89 :: t90 :: t91 :: t92 :: t93 :: t94 :: t95 :: t96 :: t97 :: t98 :: t99 :: t100 :: t101 :: t102 :: t103 :: t104 :: t105 :: t106 :: t107 :: t108 :: t109 :: t110 :: t111 :: t112 :: t113 :: t114 :: t115 :: t116 :: t117 :: t118 :: t119 :: t120 :: t121 :: t122 :: t123 :: t124 :: t125 :: t126 :: t127 :: t128 :: t129 :: t130 :: t131 :: t132 :: t133 :: t134 :: t135 :: t136 :: t137 :: t138 :: t139 :: t140 :: t141 :: t142 :: t143 :: t144 :: t145 :: t146 :: t147 :: t148 :: t149 :: t150 :: t151 :: t152 :: t153 :: t154 :: t155 :: t156 :: t157 :: t158 :: t159 :: t160 :: t161 :: t162 :: t163 :: t164 :: t165 :: t166 :: t167 :: t168 :: t169 :: t170 :: t171 :: t172 :: t173 :: t174 :: t175 :: t176 :: t177 :: t178 :: t179 :: t180 :: t181 :: t182 :: t183 :: t184 :: t185 :: t186 :: t187 :: t188 :: t189 :: t190 :: t191 :: t192 :: t193 :: t194 :: t195 :: t196 :: t197 :: t198 :: t199 :: t200 :: t201 :: t202 :: t203 :: t204 :: t205 :: t206 :: t207 :: t208 :: t209 :: t210 :: t211 :: t212 :: t213 :: t214 :: t215 :: t216 :: t217 :: t218 :: t219 :: t220 :: t221 :: t222 :: t223 :: t224 :: t225 :: t226 :: t227 :: t228 :: t229 :: t230 :: .slice AV n cV :: .int .i64 n :: .int .i64 0 :: t234 :: t235 :: t236 :: t237 :: t238 :: t239 :: t240 :: t241 :: t242 :: t243 :: t244 :: t245 :: t246 :: t247 :: t248 :: t249 :: t250 :: t251 :: t252 :: t253 :: t254 :: t255 :: t256 :: t257 :: t258 :: t259 :: t260 :: t261 :: t262 :: t263 :: t264 :: t265 :: t266 :: t267 :: t268 :: t269 :: t270 :: t271 :: t272 :: t273 :: t274 :: t275 :: t276 :: t277 :: t278 :: t279 :: t280 :: t281 :: t282 :: t283 :: t284 :: t285 :: t286 :: t287 :: t288 :: t289 :: t290 :: t291 :: t292 :: t293 :: t294 :: t295 :: t296 :: t297 :: t298 :: t299 :: t300 :: t301 :: t302 :: t303 :: t304 :: t305 :: t306 :: t307 :: t308 :: t309 :: t310 :: t311 :: t312 :: t313 :: t314 :: t315 :: t316 :: t317 :: t318 :: t319 :: t320 :: t321 :: t322 :: t323 :: t324 :: t325 :: t326 :: t327 :: t328 :: t329 :: t330 :: t331 :: t332 :: t333 :: t334 :: t335 :: t336 :: t337 :: t338 :: t339 :: t340 :: t341 :: t342 :: t343 :: t344 :: t345 :: t346 :: t347 :: t348 :: t349 :: t350 :: t351 :: t352 :: t353 :: t354 :: t355 :: t356 :: t357 :: t358 :: t359 :: t360 :: t361 :: t362 :: t363 :: t364 :: t365 :: t366 :: t367 :: t368 :: t369 :: t370 :: t371 :: t372 :: t373 :: t374 :: t375 :: t376 :: []), []⟩ w := by
  conv => arg 2; arg 1; whnf
  have HX := hd hexit
  clear hexit
  go_loopw [233] (fun s233 wr => ∃ i : Nat, i ≤ n ∧ s233 = .int .i64 i ∧ Hid (wr.heap[BC]? = some (.cells #[.int .i64 (rCnt (f3 bs0 bs1 bs2) (f3 gs0 gs1 gs2) tol 0 i), .int .i64 (rCnt (f3 bs0 bs1 bs2) (f3 gs0 gs1 gs2) tol 1 i), .int .i64 (rCnt (f3 bs0 bs1 bs2) (f3 gs0 gs1 gs2) tol 2 i)] 31 (0, 0))) ∧ Hid (Below W.heap.size W wr)) (fun s233 _ => n - (intOf s233).toNat)
  case atStart => exact ⟨0, Nat.zero_le _, rfl, HC0, HJ0⟩
  case round =>
    obtain ⟨i, hi, rfl, HCT, HJ⟩ := hrel
    by_cases hlt : i < n
    · have hin : (i : Int) < (n : Int) := by omega
      have HLT := hd (show i < n ∧ n ≤ 100000 from ⟨hlt, HN.out.2.2.2.1⟩)
      have hnn : n ≤ 100000 := HN.out.2.2.2.1
      obtain ⟨hx1, hx2, hx3⟩ := HX1.out i hlt
      obtain ⟨hv0, hv1, hv2⟩ := HV.out i hlt
      obtain ⟨vb, vo, rfl, hx0⟩ := rdLm RV.out HN.out.2.2.2.2 HJ.out hlt
      obtain ⟨x, hx⟩ : ∃ x, x = XL.getD i 0 := ⟨_, rfl⟩
      rw [← hx] at hx0 hx1 hx2
      clear hx
      have HDV := hd (fun g => dev_is (f3 bs0 bs1 bs2) (f3 gs0 gs1 gs2) tol i g x hx2)
      have HTK := hd (mid_tick bs0 bs1 bs2 gs0 gs1 gs2 tol i)
      obtain ⟨is, his⟩ : ∃ b, b = (rvI (f3 bs0 bs1 bs2) (f3 gs0 gs1 gs2) tol i).2 := ⟨_, rfl⟩
      rw [← his] at hx2 hx3 HDV HTK
      have HIS := hd his
      have HX2 := hd (And.intro hx1 hx2)
      have HX3 := hd hx3
      have HVI := hd (And.intro hv0 (And.intro hv1 hv2))
      clear his hx1 hx2 hx3 hv0 hv1 hv2
      have hZ := cells12 ((HJ.out.block _ (blk_lt HQ.out)).trans HQ.out)
      obtain ⟨k0, k1, k2, k3, k4, k5, k6, k7, k8, k9, k10, k11⟩ := hZ
      go_wp2_with fail
      clear k0 k1 k2 k3 k4 k5 k6 k7 k8 k9 k10 k11
      refine mid_l3 nm0 nm1 nm2 st A0 B0 A1 B1 A2 B2 c0 d0 c1 d1 c2 d2 n i bs0 bs1 bs2 gs0 gs1 gs2 wr _ _ (hd ((HL0.out.below HJ.out (Nat.le_refl _)).mono HJ.out.size)) (hd ((HG0.out.below HJ.out (Nat.le_refl _)).mono HJ.out.size)) (hd ((HL1.out.below HJ.out (Nat.le_refl _)).mono HJ.out.size)) (hd ((HG1.out.below HJ.out (Nat.le_refl _)).mono HJ.out.size)) (hd ((HL2.out.below HJ.out (Nat.le_refl _)).mono HJ.out.size)) (hd ((HG2.out.below HJ.out (Nat.le_refl _)).mono HJ.out.size)) (hd ⟨HN.out.1, HN.out.2.1, HN.out.2.2.1, HN.out.2.2.2.1, HLT.out.1⟩) HVI (hd (Below.refl _ _)) ?_
      intro u26 u239 u240 u241 u242 u243 u244 u245 u246 u247 u248 u249 u250 u251 u252 u253 u254 u255 u256 u257 u258 u259 u260 u261 u262 u263 u264 u265 u266 u267 u268 u269 u270 u271 u272 u273 u274 u275 u276 u277 u278 u279 u280 lo hi w2 hbn hb
      have HJ2 := hd (HJ.out.trans (hb.mono HJ.out.size))
      have HCT2 := hd ((hb.block _ (blk_lt HCT.out)).trans HCT.out)
      clear hb hx0
      obtain ⟨l1, l2, l3⟩ := hbn
      obtain ⟨q, hq⟩ : ∃ q, q = (rSk (f3 bs0 bs1 bs2) (f3 gs0 gs1 gs2) i 3).length := ⟨_, rfl⟩
      have hq3 := rSk_len (f3 bs0 bs1 bs2) (f3 gs0 gs1 gs2) i 3
      rw [← hq] at l3 hq3 ⊢
      have htk := HTK.out
      rw [← hq] at htk
      have HTQ := hd htk
      clear htk hq
      obtain ⟨f1, f2, f3', f4, v1, v2, v3, v4, hord⟩ := diff16 l2 l1
      obtain ⟨ht0, ht1⟩ := HT.out
      obtain ⟨o1, -⟩ := hord tol (by omega)
      have hc1 := fun w => run_convert_float_float (P := Tryz.prog) w 41 43 .f32 .f64 hi f1 (by kernel_rfl) Tryz.underlying43 v1
      have hc2 := fun w => run_convert_float_float (P := Tryz.prog) w 41 43 .f32 .f64 lo f2 (by kernel_rfl) Tryz.underlying43 v2
      have hc3 := fun w => run_float_arith (P := Tryz.prog) w .sub 43 .f64 f1 f2 f3' v3
      have hc4 := fun w => run_float_arith (P := Tryz.prog) w .mul 43 .f64 4625196817309499392 f3' f4 v4
      have g1 : (FloatKind.f64.format.order f4 (floatOfInt .f64 tol) == some .lt) = decide (s16 hi - s16 lo < tol) := by rw [o1, cmp_lt]
      have g2 : (FloatKind.f64.format.order f4 (floatOfInt .f64 tol) == some .eq) = decide (s16 hi - s16 lo = tol) := by rw [o1, cmp_eq]
      clear v1 v2 v3 v4 o1 hord
      have HFL := hd (show flt x lo = decide (s16 x < s16 lo) from by rw [flt_num (fin_lev HX2.out.1) (fin_lev l1), decide_eq_decide]; exact num_lt HX2.out.1 l1)
      have HFG := hd (show fgt x hi = decide (s16 hi < s16 x) from by rw [fgt_num (fin_lev HX2.out.1) (fin_lev l2), decide_eq_decide]; exact num_lt l2 HX2.out.1)
      have HFE := hd (feq16 HX2.out.1 l2)
      have HL3 := hd l3
      clear l1 l2 l3
      have hpv := (HJ2.out.block _ (blk_lt HPV.out)).trans HPV.out
      have r3 := blk_cell hpv 3
      simp at r3
      clear hpv
      have hZ := cells12 ((HJ2.out.block _ (blk_lt HQ.out)).trans HQ.out)
      obtain ⟨k0, k1, k2, k3, k4, k5, k6, k7, k8, k9, k10, k11⟩ := hZ
      go_wp2_with fail
      refine (has_any (.slice AW VG.length cW) VG (i : Int) _ ((RW.out.below HJ2.out (Nat.le_refl _)).mono HJ2.out.size)).mono ?_
      rw [HX3.out]
      rintro e w3 ⟨rfl, rfl⟩
      obtain ⟨d, hd0⟩ : ∃ d, d = s16 hi - s16 lo := ⟨_, rfl⟩
      rw [← hd0] at g1 g2
      have HD0 := hd hd0
      clear hd0 r3
      have HQ3 := hd hq3
      rcases (show q = 0 ∨ q = 1 ∨ q = 2 ∨ q = 3 by omega) with rfl | rfl | rfl | rfl
      · clear hq3
        rcases Int.lt_trichotomy d tol with hdt | hdt | hdt
        · rw [decide_eq_true hdt] at g1
          rw [decide_eq_false (by omega)] at g2
          have HDT := hd hdt
          clear hdt
          obtain rfl : is = false := by
            have h := HTQ.out.1
            rw [h]; simp
          go_wp2_with fail
          clear k0 k1 k2 k3 k4 k5 k6 k7 k8 k9 k10 k11
          have hcb := fun g => rCnt_le (f3 bs0 bs1 bs2) (f3 gs0 gs1 gs2) tol g i
          refine mid_l4 nm0 nm1 nm2 st tol A0 B0 A1 B1 A2 B2 c0 d0 c1 d1 c2 d2 n i x BC false (rDev (f3 bs0 bs1 bs2) (f3 gs0 gs1 gs2) tol i 0) (rDev (f3 bs0 bs1 bs2) (f3 gs0 gs1 gs2) tol i 1) (rDev (f3 bs0 bs1 bs2) (f3 gs0 gs1 gs2) tol i 2) (rCnt (f3 bs0 bs1 bs2) (f3 gs0 gs1 gs2) tol 0 i) (rCnt (f3 bs0 bs1 bs2) (f3 gs0 gs1 gs2) tol 1 i) (rCnt (f3 bs0 bs1 bs2) (f3 gs0 gs1 gs2) tol 2 i) bs0 bs1 bs2 gs0 gs1 gs2 W _ _ HL0 HG0 HL1 HG1 HL2 HG2 (hd ⟨HN.out.1, HN.out.2.1, HN.out.2.2.1, HN.out.2.2.2.1, HLT.out.1⟩) HVI (hd HX2.out.1) HT (hd ⟨⟨(hcb 0).1, by have := (hcb 0).2; have := HLT.out; omega⟩, ⟨(hcb 1).1, by have := (hcb 1).2; have := HLT.out; omega⟩, ⟨(hcb 2).1, by have := (hcb 2).2; have := HLT.out; omega⟩⟩) (hd (HDV.out 0)) (hd (HDV.out 1)) (hd (HDV.out 2)) HBC HCT2 HJ2 ?_
          intro u29 u30 u31 u332 u333 u334 u335 u336 u337 u338 u339 u340 u341 u342 u343 u344 u345 u346 u347 u348 u349 u350 u351 u352 u353 u354 u355 u356 u357 u358 u359 u360 u361 u362 u363 u364 u365 u366 u367 u368 u369 u370 u371 u372 w5 hct hb5
          have HCT5 := hd hct
          have HJ5 := hd hb5
          clear hct hb5 hcb
          go_wp2
          go_roundw
          case rel => exact ⟨i + 1, by have := HLT.out; omega, by have := HLT.out; go_num, HCT5, HJ5⟩
          case measure => have := HLT.out; simp [intOf]; omega
        · rw [decide_eq_false (by omega)] at g1
          rw [decide_eq_true hdt] at g2
          have HDT := hd hdt
          clear hdt
          obtain rfl : is = false := by
            have h := HTQ.out.1
            rw [h]; simp
          go_wp2_with fail
          clear k0 k1 k2 k3 k4 k5 k6 k7 k8 k9 k10 k11
          have hcb := fun g => rCnt_le (f3 bs0 bs1 bs2) (f3 gs0 gs1 gs2) tol g i
          refine mid_l4 nm0 nm1 nm2 st tol A0 B0 A1 B1 A2 B2 c0 d0 c1 d1 c2 d2 n i x BC false (rDev (f3 bs0 bs1 bs2) (f3 gs0 gs1 gs2) tol i 0) (rDev (f3 bs0 bs1 bs2) (f3 gs0 gs1 gs2) tol i 1) (rDev (f3 bs0 bs1 bs2) (f3 gs0 gs1 gs2) tol i 2) (rCnt (f3 bs0 bs1 bs2) (f3 gs0 gs1 gs2) tol 0 i) (rCnt (f3 bs0 bs1 bs2) (f3 gs0 gs1 gs2) tol 1 i) (rCnt (f3 bs0 bs1 bs2) (f3 gs0 gs1 gs2) tol 2 i) bs0 bs1 bs2 gs0 gs1 gs2 W _ _ HL0 HG0 HL1 HG1 HL2 HG2 (hd ⟨HN.out.1, HN.out.2.1, HN.out.2.2.1, HN.out.2.2.2.1, HLT.out.1⟩) HVI (hd HX2.out.1) HT (hd ⟨⟨(hcb 0).1, by have := (hcb 0).2; have := HLT.out; omega⟩, ⟨(hcb 1).1, by have := (hcb 1).2; have := HLT.out; omega⟩, ⟨(hcb 2).1, by have := (hcb 2).2; have := HLT.out; omega⟩⟩) (hd (HDV.out 0)) (hd (HDV.out 1)) (hd (HDV.out 2)) HBC HCT2 HJ2 ?_
          intro u29 u30 u31 u332 u333 u334 u335 u336 u337 u338 u339 u340 u341 u342 u343 u344 u345 u346 u347 u348 u349 u350 u351 u352 u353 u354 u355 u356 u357 u358 u359 u360 u361 u362 u363 u364 u365 u366 u367 u368 u369 u370 u371 u372 w5 hct hb5
          have HCT5 := hd hct
          have HJ5 := hd hb5
          clear hct hb5 hcb
          go_wp2
          go_roundw
          case rel => exact ⟨i + 1, by have := HLT.out; omega, by have := HLT.out; go_num, HCT5, HJ5⟩
          case measure => have := HLT.out; simp [intOf]; omega
        · rw [decide_eq_false (by omega)] at g1
          rw [decide_eq_false (by omega)] at g2
          have HDT := hd hdt
          clear hdt
          obtain rfl : is = false := by
            have h := HTQ.out.1
            rw [h]; simp
          go_wp2_with fail
          clear k0 k1 k2 k3 k4 k5 k6 k7 k8 k9 k10 k11
          have hcb := fun g => rCnt_le (f3 bs0 bs1 bs2) (f3 gs0 gs1 gs2) tol g i
          refine mid_l4 nm0 nm1 nm2 st tol A0 B0 A1 B1 A2 B2 c0 d0 c1 d1 c2 d2 n i x BC false (rDev (f3 bs0 bs1 bs2) (f3 gs0 gs1 gs2) tol i 0) (rDev (f3 bs0 bs1 bs2) (f3 gs0 gs1 gs2) tol i 1) (rDev (f3 bs0 bs1 bs2) (f3 gs0 gs1 gs2) tol i 2) (rCnt (f3 bs0 bs1 bs2) (f3 gs0 gs1 gs2) tol 0 i) (rCnt (f3 bs0 bs1 bs2) (f3 gs0 gs1 gs2) tol 1 i) (rCnt (f3 bs0 bs1 bs2) (f3 gs0 gs1 gs2) tol 2 i) bs0 bs1 bs2 gs0 gs1 gs2 W _ _ HL0 HG0 HL1 HG1 HL2 HG2 (hd ⟨HN.out.1, HN.out.2.1, HN.out.2.2.1, HN.out.2.2.2.1, HLT.out.1⟩) HVI (hd HX2.out.1) HT (hd ⟨⟨(hcb 0).1, by have := (hcb 0).2; have := HLT.out; omega⟩, ⟨(hcb 1).1, by have := (hcb 1).2; have := HLT.out; omega⟩, ⟨(hcb 2).1, by have := (hcb 2).2; have := HLT.out; omega⟩⟩) (hd (HDV.out 0)) (hd (HDV.out 1)) (hd (HDV.out 2)) HBC HCT2 HJ2 ?_
          intro u29 u30 u31 u332 u333 u334 u335 u336 u337 u338 u339 u340 u341 u342 u343 u344 u345 u346 u347 u348 u349 u350 u351 u352 u353 u354 u355 u356 u357 u358 u359 u360 u361 u362 u363 u364 u365 u366 u367 u368 u369 u370 u371 u372 w5 hct hb5
          have HCT5 := hd hct
          have HJ5 := hd hb5
          clear hct hb5 hcb
          go_wp2
          go_roundw
          case rel => exact ⟨i + 1, by have := HLT.out; omega, by have := HLT.out; go_num, HCT5, HJ5⟩
          case measure => have := HLT.out; simp [intOf]; omega
      · clear hq3
        rcases Int.lt_trichotomy d tol with hdt | hdt | hdt
        · rw [decide_eq_true hdt] at g1
          rw [decide_eq_false (by omega)] at g2
          have HDT := hd hdt
          clear hdt
          obtain rfl : is = false := by
            have h := HTQ.out.1
            rw [h]; simp
          go_wp2_with fail
          clear k0 k1 k2 k3 k4 k5 k6 k7 k8 k9 k10 k11
          have hcb := fun g => rCnt_le (f3 bs0 bs1 bs2) (f3 gs0 gs1 gs2) tol g i
          refine mid_l4 nm0 nm1 nm2 st tol A0 B0 A1 B1 A2 B2 c0 d0 c1 d1 c2 d2 n i x BC false (rDev (f3 bs0 bs1 bs2) (f3 gs0 gs1 gs2) tol i 0) (rDev (f3 bs0 bs1 bs2) (f3 gs0 gs1 gs2) tol i 1) (rDev (f3 bs0 bs1 bs2) (f3 gs0 gs1 gs2) tol i 2) (rCnt (f3 bs0 bs1 bs2) (f3 gs0 gs1 gs2) tol 0 i) (rCnt (f3 bs0 bs1 bs2) (f3 gs0 gs1 gs2) tol 1 i) (rCnt (f3 bs0 bs1 bs2) (f3 gs0 gs1 gs2) tol 2 i) bs0 bs1 bs2 gs0 gs1 gs2 W _ _ HL0 HG0 HL1 HG1 HL2 HG2 (hd ⟨HN.out.1, HN.out.2.1, HN.out.2.2.1, HN.out.2.2.2.1, HLT.out.1⟩) HVI (hd HX2.out.1) HT (hd ⟨⟨(hcb 0).1, by have := (hcb 0).2; have := HLT.out; omega⟩, ⟨(hcb 1).1, by have := (hcb 1).2; have := HLT.out; omega⟩, ⟨(hcb 2).1, by have := (hcb 2).2; have := HLT.out; omega⟩⟩) (hd (HDV.out 0)) (hd (HDV.out 1)) (hd (HDV.out 2)) HBC HCT2 HJ2 ?_
          intro u29 u30 u31 u332 u333 u334 u335 u336 u337 u338 u339 u340 u341 u342 u343 u344 u345 u346 u347 u348 u349 u350 u351 u352 u353 u354 u355 u356 u357 u358 u359 u360 u361 u362 u363 u364 u365 u366 u367 u368 u369 u370 u371 u372 w5 hct hb5
          have HCT5 := hd hct
          have HJ5 := hd hb5
          clear hct hb5 hcb
          go_wp2
          go_roundw
          case rel => exact ⟨i + 1, by have := HLT.out; omega, by have := HLT.out; go_num, HCT5, HJ5⟩
          case measure => have := HLT.out; simp [intOf]; omega
        · rw [decide_eq_false (by omega)] at g1
          rw [decide_eq_true hdt] at g2
          have HDT := hd hdt
          clear hdt
          obtain rfl : is = false := by
            have h := HTQ.out.1
            rw [h]; simp
          go_wp2_with fail
          clear k0 k1 k2 k3 k4 k5 k6 k7 k8 k9 k10 k11
          have hcb := fun g => rCnt_le (f3 bs0 bs1 bs2) (f3 gs0 gs1 gs2) tol g i
          refine mid_l4 nm0 nm1 nm2 st tol A0 B0 A1 B1 A2 B2 c0 d0 c1 d1 c2 d2 n i x BC false (rDev (f3 bs0 bs1 bs2) (f3 gs0 gs1 gs2) tol i 0) (rDev (f3 bs0 bs1 bs2) (f3 gs0 gs1 gs2) tol i 1) (rDev (f3 bs0 bs1 bs2) (f3 gs0 gs1 gs2) tol i 2) (rCnt (f3 bs0 bs1 bs2) (f3 gs0 gs1 gs2) tol 0 i) (rCnt (f3 bs0 bs1 bs2) (f3 gs0 gs1 gs2) tol 1 i) (rCnt (f3 bs0 bs1 bs2) (f3 gs0 gs1 gs2) tol 2 i) bs0 bs1 bs2 gs0 gs1 gs2 W _ _ HL0 HG0 HL1 HG1 HL2 HG2 (hd ⟨HN.out.1, HN.out.2.1, HN.out.2.2.1, HN.out.2.2.2.1, HLT.out.1⟩) HVI (hd HX2.out.1) HT (hd ⟨⟨(hcb 0).1, by have := (hcb 0).2; have := HLT.out; omega⟩, ⟨(hcb 1).1, by have := (hcb 1).2; have := HLT.out; omega⟩, ⟨(hcb 2).1, by have := (hcb 2).2; have := HLT.out; omega⟩⟩) (hd (HDV.out 0)) (hd (HDV.out 1)) (hd (HDV.out 2)) HBC HCT2 HJ2 ?_
          intro u29 u30 u31 u332 u333 u334 u335 u336 u337 u338 u339 u340 u341 u342 u343 u344 u345 u346 u347 u348 u349 u350 u351 u352 u353 u354 u355 u356 u357 u358 u359 u360 u361 u362 u363 u364 u365 u366 u367 u368 u369 u370 u371 u372 w5 hct hb5
          have HCT5 := hd hct
          have HJ5 := hd hb5
          clear hct hb5 hcb
          go_wp2
          go_roundw
          case rel => exact ⟨i + 1, by have := HLT.out; omega, by have := HLT.out; go_num, HCT5, HJ5⟩
          case measure => have := HLT.out; simp [intOf]; omega
        · rw [decide_eq_false (by omega)] at g1
          rw [decide_eq_false (by omega)] at g2
          have HDT := hd hdt
          clear hdt
          obtain rfl : is = false := by
            have h := HTQ.out.1
            rw [h]; simp
          go_wp2_with fail
          clear k0 k1 k2 k3 k4 k5 k6 k7 k8 k9 k10 k11
          have hcb := fun g => rCnt_le (f3 bs0 bs1 bs2) (f3 gs0 gs1 gs2) tol g i
          refine mid_l4 nm0 nm1 nm2 st tol A0 B0 A1 B1 A2 B2 c0 d0 c1 d1 c2 d2 n i x BC false (rDev (f3 bs0 bs1 bs2) (f3 gs0 gs1 gs2) tol i 0) (rDev (f3 bs0 bs1 bs2) (f3 gs0 gs1 gs2) tol i 1) (rDev (f3 bs0 bs1 bs2) (f3 gs0 gs1 gs2) tol i 2) (rCnt (f3 bs0 bs1 bs2) (f3 gs0 gs1 gs2) tol 0 i) (rCnt (f3 bs0 bs1 bs2) (f3 gs0 gs1 gs2) tol 1 i) (rCnt (f3 bs0 bs1 bs2) (f3 gs0 gs1 gs2) tol 2 i) bs0 bs1 bs2 gs0 gs1 gs2 W _ _ HL0 HG0 HL1 HG1 HL2 HG2 (hd ⟨HN.out.1, HN.out.2.1, HN.out.2.2.1, HN.out.2.2.2.1, HLT.out.1⟩) HVI (hd HX2.out.1) HT (hd ⟨⟨(hcb 0).1, by have := (hcb 0).2; have := HLT.out; omega⟩, ⟨(hcb 1).1, by have := (hcb 1).2; have := HLT.out; omega⟩, ⟨(hcb 2).1, by have := (hcb 2).2; have := HLT.out; omega⟩⟩) (hd (HDV.out 0)) (hd (HDV.out 1)) (hd (HDV.out 2)) HBC HCT2 HJ2 ?_
          intro u29 u30 u31 u332 u333 u334 u335 u336 u337 u338 u339 u340 u341 u342 u343 u344 u345 u346 u347 u348 u349 u350 u351 u352 u353 u354 u355 u356 u357 u358 u359 u360 u361 u362 u363 u364 u365 u366 u367 u368 u369 u370 u371 u372 w5 hct hb5
          have HCT5 := hd hct
          have HJ5 := hd hb5
          clear hct hb5 hcb
          go_wp2
          go_roundw
          case rel => exact ⟨i + 1, by have := HLT.out; omega, by have := HLT.out; go_num, HCT5, HJ5⟩
          case measure => have := HLT.out; simp [intOf]; omega
      · clear hq3
        rcases Int.lt_trichotomy d tol with hdt | hdt | hdt
        · rw [decide_eq_true hdt] at g1
          rw [decide_eq_false (by omega)] at g2
          have HDT := hd hdt
          clear hdt
          obtain rfl : is = true := by
            have h := HTQ.out.1
            have h8 := HL3.out (by omega)
            rw [h]
            have hd1 := HD0.out
            have hd2 := HDT.out
            rw [← h8.1, ← h8.2, decide_eq_true (by omega)]; rfl
          have h8 := HL3.out (by omega)
          have h9 := HTQ.out.2 rfl
          rw [← HX2.out.2 rfl, ← h8.1, ← h8.2] at h9
          have b1 : (FloatKind.f32.format.order x lo == some .lt) = false := by have h := HFL.out; rw [decide_eq_false (by omega)] at h; exact h
          have b2 : (FloatKind.f32.format.order x hi == some .gt) = false := by have h := HFG.out; rw [decide_eq_false (by omega)] at h; exact h
          have b3 : (FloatKind.f32.format.order x hi == some .eq) = true := by have h := HFE.out; rw [decide_eq_true (h9.2.2 rfl)] at h; exact h
          have b4 : (FloatKind.f32.format.order x hi != some .eq) = false := by simpa [bne] using b3
          clear h8 h9
          go_wp2_with fail
          clear k0 k1 k2 k3 k4 k5 k6 k7 k8 k9 k10 k11
          have hcb := fun g => rCnt_le (f3 bs0 bs1 bs2) (f3 gs0 gs1 gs2) tol g i
          refine mid_l4 nm0 nm1 nm2 st tol A0 B0 A1 B1 A2 B2 c0 d0 c1 d1 c2 d2 n i x BC true (rDev (f3 bs0 bs1 bs2) (f3 gs0 gs1 gs2) tol i 0) (rDev (f3 bs0 bs1 bs2) (f3 gs0 gs1 gs2) tol i 1) (rDev (f3 bs0 bs1 bs2) (f3 gs0 gs1 gs2) tol i 2) (rCnt (f3 bs0 bs1 bs2) (f3 gs0 gs1 gs2) tol 0 i) (rCnt (f3 bs0 bs1 bs2) (f3 gs0 gs1 gs2) tol 1 i) (rCnt (f3 bs0 bs1 bs2) (f3 gs0 gs1 gs2) tol 2 i) bs0 bs1 bs2 gs0 gs1 gs2 W _ _ HL0 HG0 HL1 HG1 HL2 HG2 (hd ⟨HN.out.1, HN.out.2.1, HN.out.2.2.1, HN.out.2.2.2.1, HLT.out.1⟩) HVI (hd HX2.out.1) HT (hd ⟨⟨(hcb 0).1, by have := (hcb 0).2; have := HLT.out; omega⟩, ⟨(hcb 1).1, by have := (hcb 1).2; have := HLT.out; omega⟩, ⟨(hcb 2).1, by have := (hcb 2).2; have := HLT.out; omega⟩⟩) (hd (HDV.out 0)) (hd (HDV.out 1)) (hd (HDV.out 2)) HBC HCT2 HJ2 ?_
          intro u29 u30 u31 u332 u333 u334 u335 u336 u337 u338 u339 u340 u341 u342 u343 u344 u345 u346 u347 u348 u349 u350 u351 u352 u353 u354 u355 u356 u357 u358 u359 u360 u361 u362 u363 u364 u365 u366 u367 u368 u369 u370 u371 u372 w5 hct hb5
          have HCT5 := hd hct
          have HJ5 := hd hb5
          clear hct hb5 hcb
          go_wp2
          go_roundw
          case rel => exact ⟨i + 1, by have := HLT.out; omega, by have := HLT.out; go_num, HCT5, HJ5⟩
          case measure => have := HLT.out; simp [intOf]; omega
        · rw [decide_eq_false (by omega)] at g1
          rw [decide_eq_true hdt] at g2
          have HDT := hd hdt
          clear hdt
          obtain rfl : is = true := by
            have h := HTQ.out.1
            have h8 := HL3.out (by omega)
            rw [h]
            have hd1 := HD0.out
            have hd2 := HDT.out
            rw [← h8.1, ← h8.2, decide_eq_true (by omega)]; rfl
          have h8 := HL3.out (by omega)
          have h9 := HTQ.out.2 rfl
          rw [← HX2.out.2 rfl, ← h8.1, ← h8.2] at h9
          have b1 : (FloatKind.f32.format.order x lo == some .lt) = false := by have h := HFL.out; rw [decide_eq_false (by omega)] at h; exact h
          have b2 : (FloatKind.f32.format.order x hi == some .gt) = false := by have h := HFG.out; rw [decide_eq_false (by omega)] at h; exact h
          have b3 : (FloatKind.f32.format.order x hi == some .eq) = true := by have h := HFE.out; rw [decide_eq_true (h9.2.2 rfl)] at h; exact h
          have b4 : (FloatKind.f32.format.order x hi != some .eq) = false := by simpa [bne] using b3
          clear h8 h9
          go_wp2_with fail
          clear k0 k1 k2 k3 k4 k5 k6 k7 k8 k9 k10 k11
          have hcb := fun g => rCnt_le (f3 bs0 bs1 bs2) (f3 gs0 gs1 gs2) tol g i
          refine mid_l4 nm0 nm1 nm2 st tol A0 B0 A1 B1 A2 B2 c0 d0 c1 d1 c2 d2 n i x BC true (rDev (f3 bs0 bs1 bs2) (f3 gs0 gs1 gs2) tol i 0) (rDev (f3 bs0 bs1 bs2) (f3 gs0 gs1 gs2) tol i 1) (rDev (f3 bs0 bs1 bs2) (f3 gs0 gs1 gs2) tol i 2) (rCnt (f3 bs0 bs1 bs2) (f3 gs0 gs1 gs2) tol 0 i) (rCnt (f3 bs0 bs1 bs2) (f3 gs0 gs1 gs2) tol 1 i) (rCnt (f3 bs0 bs1 bs2) (f3 gs0 gs1 gs2) tol 2 i) bs0 bs1 bs2 gs0 gs1 gs2 W _ _ HL0 HG0 HL1 HG1 HL2 HG2 (hd ⟨HN.out.1, HN.out.2.1, HN.out.2.2.1, HN.out.2.2.2.1, HLT.out.1⟩) HVI (hd HX2.out.1) HT (hd ⟨⟨(hcb 0).1, by have := (hcb 0).2; have := HLT.out; omega⟩, ⟨(hcb 1).1, by have := (hcb 1).2; have := HLT.out; omega⟩, ⟨(hcb 2).1, by have := (hcb 2).2; have := HLT.out; omega⟩⟩) (hd (HDV.out 0)) (hd (HDV.out 1)) (hd (HDV.out 2)) HBC HCT2 HJ2 ?_
          intro u29 u30 u31 u332 u333 u334 u335 u336 u337 u338 u339 u340 u341 u342 u343 u344 u345 u346 u347 u348 u349 u350 u351 u352 u353 u354 u355 u356 u357 u358 u359 u360 u361 u362 u363 u364 u365 u366 u367 u368 u369 u370 u371 u372 w5 hct hb5
          have HCT5 := hd hct
          have HJ5 := hd hb5
          clear hct hb5 hcb
          go_wp2
          go_roundw
          case rel => exact ⟨i + 1, by have := HLT.out; omega, by have := HLT.out; go_num, HCT5, HJ5⟩
          case measure => have := HLT.out; simp [intOf]; omega
        · rw [decide_eq_false (by omega)] at g1
          rw [decide_eq_false (by omega)] at g2
          have HDT := hd hdt
          clear hdt
          obtain rfl : is = false := by
            have h := HTQ.out.1
            have h8 := HL3.out (by omega)
            rw [h]
            have hd1 := HD0.out
            have hd2 := HDT.out
            rw [← h8.1, ← h8.2, decide_eq_false (by omega)]; rfl
          go_wp2_with fail
          clear k0 k1 k2 k3 k4 k5 k6 k7 k8 k9 k10 k11
          have hcb := fun g => rCnt_le (f3 bs0 bs1 bs2) (f3 gs0 gs1 gs2) tol g i
          refine mid_l4 nm0 nm1 nm2 st tol A0 B0 A1 B1 A2 B2 c0 d0 c1 d1 c2 d2 n i x BC false (rDev (f3 bs0 bs1 bs2) (f3 gs0 gs1 gs2) tol i 0) (rDev (f3 bs0 bs1 bs2) (f3 gs0 gs1 gs2) tol i 1) (rDev (f3 bs0 bs1 bs2) (f3 gs0 gs1 gs2) tol i 2) (rCnt (f3 bs0 bs1 bs2) (f3 gs0 gs1 gs2) tol 0 i) (rCnt (f3 bs0 bs1 bs2) (f3 gs0 gs1 gs2) tol 1 i) (rCnt (f3 bs0 bs1 bs2) (f3 gs0 gs1 gs2) tol 2 i) bs0 bs1 bs2 gs0 gs1 gs2 W _ _ HL0 HG0 HL1 HG1 HL2 HG2 (hd ⟨HN.out.1, HN.out.2.1, HN.out.2.2.1, HN.out.2.2.2.1, HLT.out.1⟩) HVI (hd HX2.out.1) HT (hd ⟨⟨(hcb 0).1, by have := (hcb 0).2; have := HLT.out; omega⟩, ⟨(hcb 1).1, by have := (hcb 1).2; have := HLT.out; omega⟩, ⟨(hcb 2).1, by have := (hcb 2).2; have := HLT.out; omega⟩⟩) (hd (HDV.out 0)) (hd (HDV.out 1)) (hd (HDV.out 2)) HBC HCT2 HJ2 ?_
          intro u29 u30 u31 u332 u333 u334 u335 u336 u337 u338 u339 u340 u341 u342 u343 u344 u345 u346 u347 u348 u349 u350 u351 u352 u353 u354 u355 u356 u357 u358 u359 u360 u361 u362 u363 u364 u365 u366 u367 u368 u369 u370 u371 u372 w5 hct hb5
          have HCT5 := hd hct
          have HJ5 := hd hb5
          clear hct hb5 hcb
          go_wp2
          go_roundw
          case rel => exact ⟨i + 1, by have := HLT.out; omega, by have := HLT.out; go_num, HCT5, HJ5⟩
          case measure => have := HLT.out; simp [intOf]; omega
      · clear hq3
        rcases Int.lt_trichotomy d tol with hdt | hdt | hdt
        · rw [decide_eq_true hdt] at g1
          rw [decide_eq_false (by omega)] at g2
          have HDT := hd hdt
          clear hdt
          obtain rfl : is = true := by
            have h := HTQ.out.1
            rw [h]; simp
          have h8 := HL3.out (by omega)
          have h9 := HTQ.out.2 rfl
          rw [← HX2.out.2 rfl, ← h8.1, ← h8.2] at h9
          have b1 : (FloatKind.f32.format.order x lo == some .lt) = false := by have h := HFL.out; rw [decide_eq_false (by omega)] at h; exact h
          have b2 : (FloatKind.f32.format.order x hi == some .gt) = false := by have h := HFG.out; rw [decide_eq_false (by omega)] at h; exact h
          clear h8 h9
          go_wp2_with fail
          clear k0 k1 k2 k3 k4 k5 k6 k7 k8 k9 k10 k11
          have hcb := fun g => rCnt_le (f3 bs0 bs1 bs2) (f3 gs0 gs1 gs2) tol g i
          refine mid_l4 nm0 nm1 nm2 st tol A0 B0 A1 B1 A2 B2 c0 d0 c1 d1 c2 d2 n i x BC true (rDev (f3 bs0 bs1 bs2) (f3 gs0 gs1 gs2) tol i 0) (rDev (f3 bs0 bs1 bs2) (f3 gs0 gs1 gs2) tol i 1) (rDev (f3 bs0 bs1 bs2) (f3 gs0 gs1 gs2) tol i 2) (rCnt (f3 bs0 bs1 bs2) (f3 gs0 gs1 gs2) tol 0 i) (rCnt (f3 bs0 bs1 bs2) (f3 gs0 gs1 gs2) tol 1 i) (rCnt (f3 bs0 bs1 bs2) (f3 gs0 gs1 gs2) tol 2 i) bs0 bs1 bs2 gs0 gs1 gs2 W _ _ HL0 HG0 HL1 HG1 HL2 HG2 (hd ⟨HN.out.1, HN.out.2.1, HN.out.2.2.1, HN.out.2.2.2.1, HLT.out.1⟩) HVI (hd HX2.out.1) HT (hd ⟨⟨(hcb 0).1, by have := (hcb 0).2; have := HLT.out; omega⟩, ⟨(hcb 1).1, by have := (hcb 1).2; have := HLT.out; omega⟩, ⟨(hcb 2).1, by have := (hcb 2).2; have := HLT.out; omega⟩⟩) (hd (HDV.out 0)) (hd (HDV.out 1)) (hd (HDV.out 2)) HBC HCT2 HJ2 ?_
          intro u29 u30 u31 u332 u333 u334 u335 u336 u337 u338 u339 u340 u341 u342 u343 u344 u345 u346 u347 u348 u349 u350 u351 u352 u353 u354 u355 u356 u357 u358 u359 u360 u361 u362 u363 u364 u365 u366 u367 u368 u369 u370 u371 u372 w5 hct hb5
          have HCT5 := hd hct
          have HJ5 := hd hb5
          clear hct hb5 hcb
          go_wp2
          go_roundw
          case rel => exact ⟨i + 1, by have := HLT.out; omega, by have := HLT.out; go_num, HCT5, HJ5⟩
          case measure => have := HLT.out; simp [intOf]; omega
        · rw [decide_eq_false (by omega)] at g1
          rw [decide_eq_true hdt] at g2
          have HDT := hd hdt
          clear hdt
          obtain rfl : is = true := by
            have h := HTQ.out.1
            rw [h]; simp
          have h8 := HL3.out (by omega)
          have h9 := HTQ.out.2 rfl
          rw [← HX2.out.2 rfl, ← h8.1, ← h8.2] at h9
          have b1 : (FloatKind.f32.format.order x lo == some .lt) = false := by have h := HFL.out; rw [decide_eq_false (by omega)] at h; exact h
          have b2 : (FloatKind.f32.format.order x hi == some .gt) = false := by have h := HFG.out; rw [decide_eq_false (by omega)] at h; exact h
          clear h8 h9
          go_wp2_with fail
          clear k0 k1 k2 k3 k4 k5 k6 k7 k8 k9 k10 k11
          have hcb := fun g => rCnt_le (f3 bs0 bs1 bs2) (f3 gs0 gs1 gs2) tol g i
          refine mid_l4 nm0 nm1 nm2 st tol A0 B0 A1 B1 A2 B2 c0 d0 c1 d1 c2 d2 n i x BC true (rDev (f3 bs0 bs1 bs2) (f3 gs0 gs1 gs2) tol i 0) (rDev (f3 bs0 bs1 bs2) (f3 gs0 gs1 gs2) tol i 1) (rDev (f3 bs0 bs1 bs2) (f3 gs0 gs1 gs2) tol i 2) (rCnt (f3 bs0 bs1 bs2) (f3 gs0 gs1 gs2) tol 0 i) (rCnt (f3 bs0 bs1 bs2) (f3 gs0 gs1 gs2) tol 1 i) (rCnt (f3 bs0 bs1 bs2) (f3 gs0 gs1 gs2) tol 2 i) bs0 bs1 bs2 gs0 gs1 gs2 W _ _ HL0 HG0 HL1 HG1 HL2 HG2 (hd ⟨HN.out.1, HN.out.2.1, HN.out.2.2.1, HN.out.2.2.2.1, HLT.out.1⟩) HVI (hd HX2.out.1) HT (hd ⟨⟨(hcb 0).1, by have := (hcb 0).2; have := HLT.out; omega⟩, ⟨(hcb 1).1, by have := (hcb 1).2; have := HLT.out; omega⟩, ⟨(hcb 2).1, by have := (hcb 2).2; have := HLT.out; omega⟩⟩) (hd (HDV.out 0)) (hd (HDV.out 1)) (hd (HDV.out 2)) HBC HCT2 HJ2 ?_
          intro u29 u30 u31 u332 u333 u334 u335 u336 u337 u338 u339 u340 u341 u342 u343 u344 u345 u346 u347 u348 u349 u350 u351 u352 u353 u354 u355 u356 u357 u358 u359 u360 u361 u362 u363 u364 u365 u366 u367 u368 u369 u370 u371 u372 w5 hct hb5
          have HCT5 := hd hct
          have HJ5 := hd hb5
          clear hct hb5 hcb
          go_wp2
          go_roundw
          case rel => exact ⟨i + 1, by have := HLT.out; omega, by have := HLT.out; go_num, HCT5, HJ5⟩
          case measure => have := HLT.out; simp [intOf]; omega
        · rw [decide_eq_false (by omega)] at g1
          rw [decide_eq_false (by omega)] at g2
          have HDT := hd hdt
          clear hdt
          obtain rfl : is = true := by
            have h := HTQ.out.1
            rw [h]; simp
          have h8 := HL3.out (by omega)
          have h9 := HTQ.out.2 rfl
          rw [← HX2.out.2 rfl, ← h8.1, ← h8.2] at h9
          have b1 : (FloatKind.f32.format.order x lo == some .lt) = false := by have h := HFL.out; rw [decide_eq_false (by omega)] at h; exact h
          have b2 : (FloatKind.f32.format.order x hi == some .gt) = false := by have h := HFG.out; rw [decide_eq_false (by omega)] at h; exact h
          clear h8 h9
          go_wp2_with fail
          clear k0 k1 k2 k3 k4 k5 k6 k7 k8 k9 k10 k11
          have hcb := fun g => rCnt_le (f3 bs0 bs1 bs2) (f3 gs0 gs1 gs2) tol g i
          refine mid_l4 nm0 nm1 nm2 st tol A0 B0 A1 B1 A2 B2 c0 d0 c1 d1 c2 d2 n i x BC true (rDev (f3 bs0 bs1 bs2) (f3 gs0 gs1 gs2) tol i 0) (rDev (f3 bs0 bs1 bs2) (f3 gs0 gs1 gs2) tol i 1) (rDev (f3 bs0 bs1 bs2) (f3 gs0 gs1 gs2) tol i 2) (rCnt (f3 bs0 bs1 bs2) (f3 gs0 gs1 gs2) tol 0 i) (rCnt (f3 bs0 bs1 bs2) (f3 gs0 gs1 gs2) tol 1 i) (rCnt (f3 bs0 bs1 bs2) (f3 gs0 gs1 gs2) tol 2 i) bs0 bs1 bs2 gs0 gs1 gs2 W _ _ HL0 HG0 HL1 HG1 HL2 HG2 (hd ⟨HN.out.1, HN.out.2.1, HN.out.2.2.1, HN.out.2.2.2.1, HLT.out.1⟩) HVI (hd HX2.out.1) HT (hd ⟨⟨(hcb 0).1, by have := (hcb 0).2; have := HLT.out; omega⟩, ⟨(hcb 1).1, by have := (hcb 1).2; have := HLT.out; omega⟩, ⟨(hcb 2).1, by have := (hcb 2).2; have := HLT.out; omega⟩⟩) (hd (HDV.out 0)) (hd (HDV.out 1)) (hd (HDV.out 2)) HBC HCT2 HJ2 ?_
          intro u29 u30 u31 u332 u333 u334 u335 u336 u337 u338 u339 u340 u341 u342 u343 u344 u345 u346 u347 u348 u349 u350 u351 u352 u353 u354 u355 u356 u357 u358 u359 u360 u361 u362 u363 u364 u365 u366 u367 u368 u369 u370 u371 u372 w5 hct hb5
          have HCT5 := hd hct
          have HJ5 := hd hb5
          clear hct hb5 hcb
          go_wp2
          go_roundw
          case rel => exact ⟨i + 1, by have := HLT.out; omega, by have := HLT.out; go_num, HCT5, HJ5⟩
          case measure => have := HLT.out; simp [intOf]; omega
    · obtain rfl : i = n := by omega
      have hin : ¬ (i : Int) < (i : Int) := by omega
      go_wp2
      exact HX.out _ _ _ _ _ _ _ _ _ _ _ _ _ _ _ _ _ _ _ _ _ _ _ _ _ _ _ _ _ _ _ _ _ _ _ _ _ _ _ _ _ _ _ _ _ _ _ _ _ _ _ _ _ _ _ _ _ _ _ _ _ _ _ _ _ _ _ _ _ _ _ _ _ _ _ _ _ _ _ _ _ _ _ _ _ _ _ _ _ _ _ _ _ _ _ _ _ _ _ _ _ _ _ _ _ _ _ _ _ _ _ _ _ _ _ _ _ _ _ _ _ _ _ _ _ _ _ _ _ _ _ _ _ _ _ _ _ _ _ _ _ _ _ _ _ _ _ _ _ _ _ _ _ _ _ HCT.out HJ.out
end Go.Proofs.YtibhjdmndlelaaaGreatDoor
