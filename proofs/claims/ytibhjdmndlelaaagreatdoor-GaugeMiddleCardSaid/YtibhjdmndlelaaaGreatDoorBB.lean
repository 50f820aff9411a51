/-
  The loop of GaugeMiddle over the records, all of which are taken. Conditions: written at it.
-/
import Derived.Test.YtibhjdmndlelaaaGreatDoorB8
namespace Go.Proofs.YtibhjdmndlelaaaGreatDoor
open Go.RowKit
attribute [local go_sem] Oper.semAt_some

set_option maxRecDepth 1000000 in
set_option maxHeartbeats 8000000 in
theorem mid_l1 (nm0 nm1 nm2 : ByteArray) (st : Int) (A0 B0 A1 B1 A2 B2 : Option Addr) (c0 d0 c1 d1 c2 d2 BX : Nat) (bs0 bs1 bs2 : List Nat) (gs0 gs1 gs2 : List (Int × Int)) (W w : World) (Q0 : Exit → Act → World → Prop)
    (HQ : Hid (W.heap[BX]? = some (.cells #[.string nm0, .int .i64 st, .slice A0 bs0.length c0, .slice B0 gs0.length d0, .string nm1, .int .i64 st, .slice A1 bs1.length c1, .slice B1 gs1.length d1, .string nm2, .int .i64 st, .slice A2 bs2.length c2, .slice B2 gs2.length d2] 26 (0, 0))))
    (CR0 : Hid (∀ (X : World), Below W.heap.size W X → Calls Tryz.prog 7 #[.agg #[.string nm0, .int .i64 st, .slice A0 bs0.length c0, .slice B0 gs0.length d0]] X fun e w' => e = .returned (.int .i64 0) ∧ Below X.heap.size X w')) (CR1 : Hid (∀ (X : World), Below W.heap.size W X → Calls Tryz.prog 7 #[.agg #[.string nm1, .int .i64 st, .slice A1 bs1.length c1, .slice B1 gs1.length d1]] X fun e w' => e = .returned (.int .i64 0) ∧ Below X.heap.size X w')) (CR2 : Hid (∀ (X : World), Below W.heap.size W X → Calls Tryz.prog 7 #[.agg #[.string nm2, .int .i64 st, .slice A2 bs2.length c2, .slice B2 gs2.length d2]] X fun e w' => e = .returned (.int .i64 0) ∧ Below X.heap.size X w'))
    (HN : Hid (bs1.length = bs0.length ∧ bs2.length = bs0.length)) (HJ0 : Hid (Below W.heap.size W w))
    {t0 t1 t3 t4 t5 t6 t7 t8 t9 t10 t11 t12 t13 t14 t15 t16 t17 t18 t19 t20 t21 t22 t23 t24 t25 t26 t27 t28 t29 t30 t31 t32 t33 t34 t35 t36 t37 t38 t39 t40 t41 t42 t43 t44 t45 t46 t47 t48 t49 t50 t51 t52 t55 t56 t57 t58 t59 t60 t61 t62 t63 t64 t65 t66 t67 t68 t69 t70 t71 t72 t73 t74 t75 t76 t77 t78 t79 t80 t81 t82 t83 t84 t85 t86 t87 t88 t89 t90 t91 t92 t93 t94 t95 t96 t97 t98 t99 t100 t101 t102 t103 t104 t105 t106 t107 t108 t109 t110 t111 t112 t113 t114 t115 t116 t117 t118 t119 t120 t121 t122 t123 t124 t125 t126 t127 t128 t129 t130 t131 t132 t133 t134 t135 t136 t137 t138 t139 t140 t141 t142 t143 t144 t145 t146 t147 t148 t149 t150 t151 t152 t153 t154 t155 t156 t157 t158 t159 t160 t161 t162 t163 t164 t165 t166 t167 t168 t169 t170 t171 t172 t173 t174 t175 t176 t177 t178 t179 t180 t181 t182 t183 t184 t185 t186 t187 t188 t189 t190 t191 t192 t193 t194 t195 t196 t197 t198 t199 t200 t201 t202 t203 t204 t205 t206 t207 t208 t209 t210 t211 t212 t213 t214 t215 t216 t217 t218 t219 t220 t221 t222 t223 t224 t225 t226 t227 t228 t229 t230 t231 t232 t233 t234 t235 t236 t237 t238 t239 t240 t241 t242 t243 t244 t245 t246 t247 t248 t249 t250 t251 t252 t253 t254 t255 t256 t257 t258 t259 t260 t261 t262 t263 t264 t265 t266 t267 t268 t269 t270 t271 t272 t273 t274 t275 t276 t277 t278 t279 t280 t281 t282 t283 t284 t285 t286 t287 t288 t289 t290 t291 t292 t293 t294 t295 t296 t297 t298 t299 t300 t301 t302 t303 t304 t305 t306 t307 t308 t309 t310 t311 t312 t313 t314 t315 t316 t317 t318 t319 t320 t321 t322 t323 t324 t325 t326 t327 t328 t329 t330 t331 t332 t333 t334 t335 t336 t337 t338 t339 t340 t341 t342 t343 t344 t345 t346 t347 t348 t349 t350 t351 t352 t353 t354 t355 t356 t357 t358 t359 t360 t361 t362 t363 t364 t365 t366 t367 t368 t369 t370 t371 t372 t373 t374 t375 t376 : Value}
    (hexit : ∀ (u4 u6 u54 u55 u56 u57 u58 u59 u60 u61 u62 u63 u64 u65 u66 u67 u68 u69 u70 u71 u72 u73 u74 u75 u76 u77 u78 : Value) (w' : World), Below W.heap.size W w' → Q0 (.exit 0) ⟨List.toArray (t0 :: t1 :: .pointer (some ⟨BX, 0, none⟩) :: t3 :: u4 :: t5 :: u6 :: t7 :: t8 :: t9 :: t10 :: t11 :: t12 :: t13 :: t14 :: t15 :: t16 :: t17 :: t18 :: t19 :: t20 :: t21 :: t22 :: t23 :: t24 :: t25 :: t26 :: t27 :: t28 :: t29 :: t30 :: t31 :: t32 :: t33 :: t34 :: t35 :: t36 :: t37 :: t38 :: t39 :: t40 :: t41 :: t42 :: t43 :: t44 :: t45 :: t46 :: t47 :: t48 :: t49 :: t50 :: t51 :: t52 :: .agg #[.string nm0, .int .i64 st, .slice A0 bs0.length c0, .slice B0 gs0.length d0, .string nm1, .int .i64 st, .slice A1 bs1.length c1, .slice B1 gs1.length d1, .string nm2, .int .i64 st, .slice A2 bs2.length c2, .slice B2 gs2.length d2] :: u54 :: u55 :: u56 :: u57 :: u58 :: u59 :: u60 :: u61 :: u62 :: u63 :: u64 :: u65 :: u66 :: u67 :: u68 :: u69 :: u70 :: u71 :: u72 :: u73 :: u74 :: u75 :: u76 :: u77 :: u78 :: t79 :: t80 :: t81 :: t82 :: t83 :: t84 :: t85 :: t86 :: t87 :: t88 :: t89 :: t90 :: t91 :: t92 :: t93 :: t94 :: t95 :: t96 :: t97 :: t98 :: t99 :: t100 :: t101 :: t102 :: t103 :: t104 :: t105 :: t106 :: t107 :: t108 :: t109 :: t110 :: t111 :: t112 :: t113 :: t114 :: t115 :: t116 :: t117 :: t118 :: t119 :: t120 :: t121 :: t122 :: t123 :: t124 :: t125 :: t126 :: t127 :: t128 :: t129 :: t130 :: t131 :: t132 :: t133 :: t134 :: t135 :: t136 :: t137 :: t138 :: t139 :: t140 :: t141 :: t142 :: t143 :: t144 :: t145 :: t146 :: t147 :: t148 :: t149 :: t150 :: t151 :: t152 :: t153 :: t154 :: t155 :: t156 :: t157 :: t158 :: t159 :: t160 :: t161 :: t162 :: t163 :: t164 :: t165 :: t166 :: t167 :: t168 :: t169 :: t170 :: t171 :: t172 :: t173 :: t174 :: t175 :: t176 :: t177 :: t178 :: t179 :: t180 :: t181 :: t182 :: t183 :: t184 :: t185 :: t186 :: t187 :: t188 :: t189 :: t190 :: t191 :: t192 :: t193 :: t194 :: t195 :: t196 :: t197 :: t198 :: t199 :: t200 :: t201 :: t202 :: t203 :: t204 :: t205 :: t206 :: t207 :: t208 :: t209 :: t210 :: t211 :: t212 :: t213 :: t214 :: t215 :: t216 :: t217 :: t218 :: t219 :: t220 :: t221 :: t222 :: t223 :: t224 :: t225 :: t226 :: t227 :: t228 :: t229 :: t230 :: t231 :: t232 :: t233 :: t234 :: t235 :: t236 :: t237 :: t238 :: t239 :: t240 :: t241 :: t242 :: t243 :: t244 :: t245 :: t246 :: t247 :: t248 :: t249 :: t250 :: t251 :: t252 :: t253 :: t254 :: t255 :: t256 :: t257 :: t258 :: t259 :: t260 :: t261 :: t262 :: t263 :: t264 :: t265 :: t266 :: t267 :: t268 :: t269 :: t270 :: t271 :: t272 :: t273 :: t274 :: t275 :: t276 :: t277 :: t278 :: t279 :: t280 :: t281 :: t282 :: t283 :: t284 :: t285 :: t286 :: t287 :: t288 :: t289 :: t290 :: t291 :: t292 :: t293 :: t294 :: t295 :: t296 :: t297 :: t298 :: t299 :: t300 :: t301 :: t302 :: t303 :: t304 :: t305 :: t306 :: t307 :: t308 :: t309 :: t310 :: t311 :: t312 :: t313 :: t314 :: t315 :: t316 :: t317 :: t318 :: t319 :: t320 :: t321 :: t322 :: t323 :: t324 :: t325 :: t326 :: t327 :: t328 :: t329 :: t330 :: t331 :: t332 :: t333 :: t334 :: t335 :: t336 :: t337 :: t338 :: t339 :: t340 :: t341 :: t342 :: t343 :: t344 :: t345 :: t346 :: t347 :: t348 :: t349 :: t350 :: t351 :: t352 :: t353 :: t354 :: t355 :: t356 :: t357 :: t358 :: t359 :: t360 :: t361 :: t362 :: t363 :: t364 :: t365 :: t366 :: t367 :: t368 :: t369 :: t370 :: t371 :: t372 :: t373 :: t374 :: t375 :: t376 :: []), []⟩ w') :
    Code.wp Tryz.prog (Code.loop mL1) Q0 ⟨List.toArray (t0 :: t1 :: .pointer (some ⟨BX, 0, none⟩) :: t3 :: t4 :: t5 :: t6 :: t7 :: t8 :: t9 :: t10 :: t11 :: t12 :: t13 :: t14 :: t15 :: t16 :: t17 :: t18 :: t19 :: t20 :: t21 :: t22 :: t23 :: t24 :: t25 :: t26 :: t27 :: t28 :: t29 :: t30 :: t31 :: t32 :: t33 :: t34 :: t35 :: t36 :: t37 :: t38 :: t39 :: t40 :: t41 :: t42 :: t43 :: t44 :: t45 :: t46 :: t47 :: t48 :: t49 :: t50 :: t51 :: t52 :: .agg #[.string nm0, .int .i64 st, .slice A0 bs0.length c0, .slice B0 gs0.length d0, .string nm1, .int .i64 st, .slice A1 bs1.length c1, .slice B1 gs1.length d1, .string nm2, .int .i64 st, .slice A2 bs2.length c2, .slice B2 gs2.length d2] :: .int .i64 0 :: t55 :: t56 :: t57 :: t58 :: t59 :: t60 :: t61 :: t62 :: t63 :: t64 :: t65 :: t66 :: t67 :: t68 :: t69 :: t70 :: t71 :: t72 :: t73 :: t74 :: t75 :: t76 :: t77 :: t78 :: t79 :: t80 :: t81 :: t82 :: t83 :: t84 :: t85 :: t86 :: t87 :: t88 :: t89 :: t90 :: t91 :: t92 :: t93 :: t94 :: t95 :: t96 :: t97 :: t98 :: t99 :: t100 :: t101 :: t102 :: t103 :: t104 :: t105 :: t106 :: t107 :: t108 :: t109 :: t110 :: t111 :: t112 :: t113 :: t114 :: t115 :: t116 :: t117 :: t118 :: t119 :: t120 :: t121 :: t122 :: t123 :: t124 :: t125 :: t126 :: t127 :: t128 :: t129 :: t130 :: t131 :: t132 :: t133 :: t134 :: t135 :: t136 :: t137 :: t138 :: t139 :: t140 :: t141 :: t142 :: t143 :: t144 :: t145 :: t146 :: t147 :: t148 :: t149 :: t150 :: t151 :: t152 :: t153 :: t154 :: t155 :: t156 :: t157 :: t158 :: t159 :: t160 :: t161 :: t162 :: t163 :: t164 :: t165 :: t166 :: t167 :: t168 :: t169 :: t170 :: t171 :: t172 :: t173 :: t174 :: t175 :: t176 :: t177 :: t178 :: t179 :: t180 :: t181 :: t182 :: t183 :: t184 :: t185 :: t186 :: t187 :: t188 :: t189 :: t190 :: t191 :: t192 :: t193 :: t194 :: t195 :: t196 :: t197 :: t198 :: t199 :: t200 :: t201 :: t202 :: t203 :: t204 :: t205 :: t206 :: t207 :: t208 :: t209 :: t210 :: t211 :: t212 :: t213 :: t214 :: t215 :: t216 :: t217 :: t218 :: t219 :: t220 :: t221 :: t222 :: t223 :: t224 :: t225 :: t226 :: t227 :: t228 :: t229 :: t230 :: t231 :: t232 :: t233 :: t234 :: t235 :: t236 :: t237 :: t238 :: t239 :: t240 :: t241 :: t242 :: t243 :: t244 :: t245 :: t246 :: t247 :: t248 :: t249 :: t250 :: t251 :: t252 :: t253 :: t254 :: t255 :: t256 :: t257 :: t258 :: t259 :: t260 :: t261 :: t262 :: t263 :: t264 :: t265 :: t266 :: t267 :: t268 :: t269 :: t270 :: t271 :: t272 :: t273 :: t274 :: t275 :: t276 :: t277 :: t278 :: t279 :: t280 :: t281 :: t282 :: t283 :: t284 :: t285 :: t286 :: t287 :: t288 :: t289 :: t290 :: t291 :: t292 :: t293 :: t294 :: t295 :: t296 :: t297 :: t298 :: t299 :: t300 :: t301 :: t302 :: t303 :: t304 :: t305 :: t306 :: t307 :: t308 :: t309 :: t310 :: t311 :: t312 :: t313 :: t314 :: t315 :: t316 :: t317 :: t318 :: t319 :: t320 :: t321 :: t322 :: t323 :: t324 :: t325 :: t326 :: t327 :: t328 :: t329 :: t330 :: t331 :: t332 :: t333 :: t334 :: t335 :: t336 :: t337 :: t338 :: t339 :: t340 :: t341 :: t342 :: t343 :: t344 :: t345 :: t346 :: t347 :: t348 :: t349 :: t350 :: t351 :: t352 :: t353 :: t354 :: t355 :: t356 :: t357 :: t358 :: t359 :: t360 :: t361 :: t362 :: t363 :: t364 :: t365 :: t366 :: t367 :: t368 :: t369 :: t370 :: t371 :: t372 :: t373 :: t374 :: t375 :: t376 :: []), []⟩ w := by
  conv => arg 2; arg 1; whnf
  have HX := hd hexit
  clear hexit
  go_loopw [54] (fun s54 wr => ∃ k : Nat, k ≤ 3 ∧ s54 = .int .i64 k ∧ Hid (Below W.heap.size W wr)) (fun s54 _ => 3 - (intOf s54).toNat)
  case atStart => exact ⟨0, by omega, rfl, HJ0⟩
  case round =>
    obtain ⟨k, hk, rfl, HJ⟩ := hrel
    by_cases hk3 : k < 3
    · rcases (show k = 0 ∨ k = 1 ∨ k = 2 by omega) with rfl | rfl | rfl
      · clear hk hk3
        have hix := idx3m0
        have HJ2 := hd (HJ.out.alloc HJ.out.size (Obj.cells #[.string nm0, .int .i64 st, .slice A0 bs0.length c0, .slice B0 gs0.length d0] 25))
        go_wp2_with fail
        refine (CR0.out _ HJ2.out).mono ?_
        rintro e w2 ⟨rfl, hb⟩
        have hbx := hb.block wr.heap.size (by simp)
        have hbo := hbx.trans (blk_new wr #[.string nm0, .int .i64 st, .slice A0 bs0.length c0, .slice B0 gs0.length d0] 25)
        have hZ := cells4 hbo
        obtain ⟨l0, l1, l2, l3⟩ := hZ
        have HJ3 := hd (HJ2.out.trans (hb.mono HJ2.out.size))
        have hZ := cells12 ((HJ3.out.block _ (blk_lt HQ.out)).trans HQ.out)
        obtain ⟨k0, k1, k2, k3, k4, k5, k6, k7, k8, k9, k10, k11⟩ := hZ
        clear hbx hbo hb
        go_wp2
        go_roundw
        case rel => exact ⟨0 + 1, by omega, rfl, HJ3⟩
        case measure => simp [intOf]
      · clear hk hk3
        have hix := idx3m1
        have HJ2 := hd (HJ.out.alloc HJ.out.size (Obj.cells #[.string nm1, .int .i64 st, .slice A1 bs1.length c1, .slice B1 gs1.length d1] 25))
        go_wp2_with fail
        refine (CR1.out _ HJ2.out).mono ?_
        rintro e w2 ⟨rfl, hb⟩
        have hbx := hb.block wr.heap.size (by simp)
        have hbo := hbx.trans (blk_new wr #[.string nm1, .int .i64 st, .slice A1 bs1.length c1, .slice B1 gs1.length d1] 25)
        have hZ := cells4 hbo
        obtain ⟨l0, l1, l2, l3⟩ := hZ
        have HJ3 := hd (HJ2.out.trans (hb.mono HJ2.out.size))
        have hZ := cells12 ((HJ3.out.block _ (blk_lt HQ.out)).trans HQ.out)
        obtain ⟨k0, k1, k2, k3, k4, k5, k6, k7, k8, k9, k10, k11⟩ := hZ
        clear hbx hbo hb
        have hln : (bs1.length : Int) = (bs0.length : Int) := by have := HN.out; omega
        go_wp2
        go_roundw
        case rel => exact ⟨1 + 1, by omega, rfl, HJ3⟩
        case measure => simp [intOf]
      · clear hk hk3
        have hix := idx3m2
        have HJ2 := hd (HJ.out.alloc HJ.out.size (Obj.cells #[.string nm2, .int .i64 st, .slice A2 bs2.length c2, .slice B2 gs2.length d2] 25))
        go_wp2_with fail
        refine (CR2.out _ HJ2.out).mono ?_
        rintro e w2 ⟨rfl, hb⟩
        have hbx := hb.block wr.heap.size (by simp)
        have hbo := hbx.trans (blk_new wr #[.string nm2, .int .i64 st, .slice A2 bs2.length c2, .slice B2 gs2.length d2] 25)
        have hZ := cells4 hbo
        obtain ⟨l0, l1, l2, l3⟩ := hZ
        have HJ3 := hd (HJ2.out.trans (hb.mono HJ2.out.size))
        have hZ := cells12 ((HJ3.out.block _ (blk_lt HQ.out)).trans HQ.out)
        obtain ⟨k0, k1, k2, k3, k4, k5, k6, k7, k8, k9, k10, k11⟩ := hZ
        clear hbx hbo hb
        have hln : (bs2.length : Int) = (bs0.length : Int) := by have := HN.out; omega
        go_wp2
        go_roundw
        case rel => exact ⟨2 + 1, by omega, rfl, HJ3⟩
        case measure => simp [intOf]
    · obtain rfl : k = 3 := by omega
      have hkk : ¬ ((3 : Nat) : Int) < 3 := by omega
      go_wp2
      exact HX.out _ _ _ _ _ _ _ _ _ _ _ _ _ _ _ _ _ _ _ _ _ _ _ _ _ _ _ _ HJ.out
end Go.Proofs.YtibhjdmndlelaaaGreatDoor
