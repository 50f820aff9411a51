/-
  The loop of GaugeMiddle over the gauges at a tick: who deviates. Conditions: written at it.
-/
import Derived.Test.YtibhjdmndlelaaaGreatDoorB8
import Derived.Test.YtibhjdmndlelaaaGreatDoorB1
namespace Go.Proofs.YtibhjdmndlelaaaGreatDoor
open Go.RowKit
attribute [local go_sem] Oper.semAt_some

/-- A count, behind so many gauges. -/
def cv (p : Int) (D : Bool) (g k : Nat) : Int := if g < k then p + (if D then 1 else 0) else p
theorem cv_same (p : Int) (D : Bool) (g k : Nat) (h : g ≠ k) : cv p D g (k + 1) = cv p D g k := by
  unfold cv
  by_cases h1 : g < k
  · rw [if_pos h1, if_pos (by omega)]
  · rw [if_neg h1, if_neg (by omega)]
theorem cv_here (p : Int) (D : Bool) (k : Nat) : cv p D k (k + 1) = p + (if D then 1 else 0) ∧ cv p D k k = p := by
  unfold cv
  exact ⟨if_pos (by omega), if_neg (by omega)⟩
theorem box3c {W : World} {g : Nat} {t : TypeId} {a0 a1 a2 : Value} (h : W.heap[g]? = some (.cells #[a0, a1, a2] t (0, 0))) : W.cell? ⟨g, 0, none⟩ = some a0 ∧ W.cell? ⟨g, 1, none⟩ = some a1 ∧ W.cell? ⟨g, 2, none⟩ = some a2 ∧ W.frozen? ⟨g, 0, none⟩ = false ∧ W.frozen? ⟨g, 1, none⟩ = false ∧ W.frozen? ⟨g, 2, none⟩ = false :=
  ⟨blk_cell h 0, blk_cell h 1, blk_cell h 2, blk_frozen h 0, blk_frozen h 1, blk_frozen h 2⟩
theorem set3at {W : World} {g : Nat} {t : TypeId} {a0 a1 a2 : Value} (h : W.heap[g]? = some (.cells #[a0, a1, a2] t (0, 0))) (v : Value) : (W.setCell ⟨g, 0, none⟩ v).heap[g]? = some (.cells #[v, a1, a2] t (0, 0)) ∧ (W.setCell ⟨g, 1, none⟩ v).heap[g]? = some (.cells #[a0, v, a2] t (0, 0)) ∧ (W.setCell ⟨g, 2, none⟩ v).heap[g]? = some (.cells #[a0, a1, v] t (0, 0)) :=
  ⟨by simpa using blk_set h 0 v, by simpa using blk_set h 1 v, by simpa using blk_set h 2 v⟩

set_option maxRecDepth 1000000 in
set_option maxHeartbeats 16000000 in
theorem mid_l4 (nm0 nm1 nm2 : ByteArray) (st tol : Int) (A0 B0 A1 B1 A2 B2 : Option Addr) (c0 d0 c1 d1 c2 d2 n i x BC : Nat) (is D0 D1 D2 : Bool) (p0 p1 p2 : Int) (bs0 bs1 bs2 : List Nat) (gs0 gs1 gs2 : List (Int × Int)) (W w : World) (Q0 : Exit → Act → World → Prop)
    (HL0 : Hid (Rd W W.heap.size (.slice A0 bs0.length c0) bs0.length (flc bs0))) (HG0 : Hid (Rd W W.heap.size (.slice B0 gs0.length d0) gs0.length (spc gs0))) (HL1 : Hid (Rd W W.heap.size (.slice A1 bs1.length c1) bs1.length (flc bs1))) (HG1 : Hid (Rd W W.heap.size (.slice B1 gs1.length d1) gs1.length (spc gs1))) (HL2 : Hid (Rd W W.heap.size (.slice A2 bs2.length c2) bs2.length (flc bs2))) (HG2 : Hid (Rd W W.heap.size (.slice B2 gs2.length d2) gs2.length (spc gs2)))
    (HN : Hid (bs0.length = n ∧ bs1.length = n ∧ bs2.length = n ∧ n ≤ 100000 ∧ i < n)) (HV : Hid (chkLev (bs0.getD i 0) = 0 ∧ chkLev (bs1.getD i 0) = 0 ∧ chkLev (bs2.getD i 0) = 0)) (HXV : Hid (chkLev x = 0)) (HT : Hid (0 ≤ tol ∧ tol ≤ 255)) (HP : Hid ((0 ≤ p0 ∧ p0 ≤ 100000) ∧ (0 ≤ p1 ∧ p1 ≤ 100000) ∧ (0 ≤ p2 ∧ p2 ≤ 100000)))
    (HD0 : Hid (D0 = (is && (!hasL gs0 (i : Int) && (decide (tol < s16 (bs0.getD i 0) - s16 x) || decide (s16 (bs0.getD i 0) - s16 x < -tol)))))) (HD1 : Hid (D1 = (is && (!hasL gs1 (i : Int) && (decide (tol < s16 (bs1.getD i 0) - s16 x) || decide (s16 (bs1.getD i 0) - s16 x < -tol)))))) (HD2 : Hid (D2 = (is && (!hasL gs2 (i : Int) && (decide (tol < s16 (bs2.getD i 0) - s16 x) || decide (s16 (bs2.getD i 0) - s16 x < -tol))))))
    (HBC : Hid (W.heap.size ≤ BC)) (HC0 : Hid (w.heap[BC]? = some (.cells #[.int .i64 p0, .int .i64 p1, .int .i64 p2] 31 (0, 0)))) (HJ0 : Hid (Below W.heap.size W w))
    {t0 t2 t3 t4 t5 t6 t7 t8 t9 t10 t11 t12 t13 t14 t15 t16 t17 t18 t22 t23 t24 t25 t26 t28 t29 t30 t31 t32 t33 t34 t35 t36 t37 t38 t39 t40 t41 t42 t43 t44 t45 t46 t47 t48 t49 t50 t51 t52 t53 t54 t55 t56 t57 t58 t59 t60 t61 t62 t63 t64 t65 t66 t67 t68 t69 t70 t71 t72 t73 t74 t75 t76 t77 t78 t79 t80 t81 t82 t83 t84 t85 t86 t87 t88 t89 t90 t91 t92 t93 t94 t95 t96 t97 t98 t99 t100 t101 t102 t103 t104 t105 t106 t107 t108 t109 t110 t111 t112 t113 t114 t115 t116 t117 t118 t119 t120 t121 t122 t123 t124 t125 t126 t127 t128 t129 t130 t131 t132 t133 t134 t135 t136 t137 t138 t139 t140 t141 t142 t143 t144 t145 t146 t147 t148 t149 t150 t151 t152 t153 t154 t155 t156 t157 t158 t159 t160 t161 t162 t163 t164 t165 t166 t167 t168 t169 t170 t171 t172 t173 t174 t175 t176 t177 t178 t179 t180 t181 t182 t183 t184 t185 t186 t187 t188 t189 t190 t191 t192 t193 t194 t195 t196 t197 t198 t199 t200 t201 t202 t203 t204 t205 t206 t207 t208 t209 t210 t211 t212 t213 t214 t215 t216 t217 t218 t219 t220 t221 t222 t223 t224 t225 t226 t227 t228 t229 t230 t231 t232 t233 t234 t235 t236 t237 t238 t239 t240 t241 t242 t243 t244 t245 t246 t247 t248 t249 t250 t251 t252 t253 t254 t255 t256 t257 t258 t259 t260 t261 t262 t263 t264 t265 t266 t267 t268 t269 t270 t271 t272 t273 t274 t275 t276 t277 t278 t279 t280 t281 t282 t283 t284 t285 t286 t287 t288 t289 t290 t291 t292 t293 t294 t295 t296 t297 t298 t299 t300 t301 t302 t303 t304 t305 t306 t307 t308 t309 t310 t311 t312 t313 t314 t315 t316 t317 t318 t319 t320 t321 t322 t323 t324 t325 t326 t327 t328 t329 t330 t333 t334 t335 t336 t337 t338 t339 t340 t341 t342 t343 t344 t345 t346 t347 t348 t349 t350 t351 t352 t353 t354 t355 t356 t357 t358 t359 t360 t361 t362 t363 t364 t365 t366 t367 t368 t369 t370 t371 t372 t373 t374 t375 t376 : Value}
    (hexit : ∀ (u29 u30 u31 u332 u333 u334 u335 u336 u337 u338 u339 u340 u341 u342 u343 u344 u345 u346 u347 u348 u349 u350 u351 u352 u353 u354 u355 u356 u357 u358 u359 u360 u361 u362 u363 u364 u365 u366 u367 u368 u369 u370 u371 u372 : Value) (w' : World), w'.heap[BC]? = some (.cells #[.int .i64 (p0 + if D0 then 1 else 0), .int .i64 (p1 + if D1 then 1 else 0), .int .i64 (p2 + if D2 then 1 else 0)] 31 (0, 0)) → Below W.heap.size W w' → Q0 (.exit 6) ⟨List.toArray (t0 :: .int .u8 tol :: t2 :: t3 :: t4 :: t5 :: t6 :: t7 :: t8 :: t9 :: t10 :: t11 :: t12 :: t13 :: t14 :: t15 :: t16 :: t17 :: t18 :: .pointer (some ⟨BC, 0, none⟩) :: .int .i64 i :: .float .f32 x :: t22 :: t23 :: t24 :: t25 :: t26 :: .bool is :: t28 :: u29 :: u30 :: u31 :: t32 :: t33 :: t34 :: t35 :: t36 :: t37 :: t38 :: t39 :: t40 :: t41 :: t42 :: t43 :: t44 :: t45 :: t46 :: t47 :: t48 :: t49 :: t50 :: t51 :: t52 :: t53 :: t54 :: t55 :: t56 :: t57 :: t58 :: t59 :: t60 :: t61 :: t62 :: t63 :: t64 :: t65 :: t66 :: t67 :: t68 :: t69 :: t70 :: t71 :: t72 :: t73 :: t74 :: t75 :: t76 :: t77 :: t78 :: t79 :: t80 :: t81 :: t82 :: t83 :: t84 :: t85 :: t86 :: t87 :: t88 :: t89 :: t90 :: t91 :: t92 :: t93 :: t94 :: t95 :: t96 :: t97 :: t98 :: t99 :: t100 :: t101 :: t102 :: t103 :: t104 :: t105 :: t106 :: t107 :: t108 :: t109 :: t110 :: t111 :: t112 :: t113 :: t114 :: t115 :: t116 :: t117 :: t118 :: t119 :: t120 :: t121 :: t122 :: t123 :: t124 :: t125 :: t126 :: t127 :: t128 :: t129 :: t130 :: t131 :: t132 :: t133 :: t134 :: t135 :: t136 :: t137 :: t138 :: t139 :: t140 :: t141 :: t142 :: t143 :: t144 :: t145 :: t146 :: t147 :: t148 :: t149 :: t150 :: t151 :: t152 :: t153 :: t154 :: t155 :: t156 :: t157 :: t158 :: t159 :: t160 :: t161 :: t162 :: t163 :: t164 :: t165 :: t166 :: t167 :: t168 :: t169 :: t170 :: t171 :: t172 :: t173 :: t174 :: t175 :: t176 :: t177 :: t178 :: t179 :: t180 :: t181 :: t182 :: t183 :: t184 :: t185 :: t186 :: t187 :: t188 :: t189 :: t190 :: t191 :: t192 :: t193 :: t194 :: t195 :: t196 :: t197 :: t198 :: t199 :: t200 :: t201 :: t202 :: t203 :: t204 :: t205 :: t206 :: t207 :: t208 :: t209 :: t210 :: t211 :: t212 :: t213 :: t214 :: t215 :: t216 :: t217 :: t218 :: t219 :: t220 :: t221 :: t222 :: t223 :: t224 :: t225 :: t226 :: t227 :: t228 :: t229 :: t230 :: t231 :: t232 :: t233 :: t234 :: t235 :: t236 :: t237 :: t238 :: t239 :: t240 :: t241 :: t242 :: t243 :: t244 :: t245 :: t246 :: t247 :: t248 :: t249 :: t250 :: t251 :: t252 :: t253 :: t254 :: t255 :: t256 :: t257 :: t258 :: t259 :: t260 :: t261 :: t262 :: t263 :: t264 :: t265 :: t266 :: t267 :: t268 :: t269 :: t270 :: t271 :: t272 :: t273 :: t274 :: t275 :: t276 :: t277 :: t278 :: t279 :: t280 :: t281 :: t282 :: t283 :: t284 :: t285 :: t286 :: t287 :: t288 :: t289 :: t290 :: t291 :: t292 :: t293 :: t294 :: t295 :: t296 :: t297 :: t298 :: t299 :: t300 :: t301 :: t302 :: t303 :: t304 :: t305 :: t306 :: t307 :: t308 :: t309 :: t310 :: t311 :: t312 :: t313 :: t314 :: t315 :: t316 :: t317 :: t318 :: t319 :: t320 :: t321 :: t322 :: t323 :: t324 :: t325 :: t326 :: t327 :: t328 :: t329 :: t330 :: .agg #[.string nm0, .int .i64 st, .slice A0 bs0.length c0, .slice B0 gs0.length d0, .string nm1, .int .i64 st, .slice A1 bs1.length c1, .slice B1 gs1.length d1, .string nm2, .int .i64 st, .slice A2 bs2.length c2, .slice B2 gs2.length d2] :: u332 :: u333 :: u334 :: u335 :: u336 :: u337 :: u338 :: u339 :: u340 :: u341 :: u342 :: u343 :: u344 :: u345 :: u346 :: u347 :: u348 :: u349 :: u350 :: u351 :: u352 :: u353 :: u354 :: u355 :: u356 :: u357 :: u358 :: u359 :: u360 :: u361 :: u362 :: u363 :: u364 :: u365 :: u366 :: u367 :: u368 :: u369 :: u370 :: u371 :: u372 :: t373 :: t374 :: t375 :: t376 :: []), []⟩ w') :
    Code.wp Tryz.prog (Code.loop mL4) Q0 ⟨List.toArray (t0 :: .int .u8 tol :: t2 :: t3 :: t4 :: t5 :: t6 :: t7 :: t8 :: t9 :: t10 :: t11 :: t12 :: t13 :: t14 :: t15 :: t16 :: t17 :: t18 :: .pointer (some ⟨BC, 0, none⟩) :: .int .i64 i :: .float .f32 x :: t22 :: t23 :: t24 :: t25 :: t26 :: .bool is :: t28 :: t29 :: t30 :: t31 :: t32 :: t33 :: t34 :: t35 :: t36 :: t37 :: t38 :: t39 :: t40 :: t41 :: t42 :: t43 :: t44 :: t45 :: t46 :: t47 :: t48 :: t49 :: t50 :: t51 :: t52 :: t53 :: t54 :: t55 :: t56 :: t57 :: t58 :: t59 :: t60 :: t61 :: t62 :: t63 :: t64 :: t65 :: t66 :: t67 :: t68 :: t69 :: t70 :: t71 :: t72 :: t73 :: t74 :: t75 :: t76 :: t77 :: t78 :: t79 :: t80 :: t81 :: t82 :: t83 :: t84 :: t85 :: t86 :: t87 :: t88 :: t89 :: t90 :: t91 :: t92 :: t93 :: t94 :: t95 :: t96 :: t97 :: t98 :: t99 :: t100 :: t101 :: t102 :: t103 :: t104 :: t105 :: t106 :: t107 :: t108 :: t109 :: t110 :: t111 :: t112 :: t113 :: t114 :: t115 :: t116 :: t117 :: t118 :: t119 :: t120 :: t121 :: t122 :: t123 :: t124 :: t125 :: t126 :: t127 :: t128 :: t129 :: t130 :: t131 :: t132 :: t133 :: t134 :: t135 :: t136 :: t137 :: t138 :: t139 :: t140 :: t141 :: t142 :: t143 :: t144 :: t145 :: t146 :: t147 :: t148 :: t149 :: t150 :: t151 :: t152 :: t153 :: t154 :: t155 :: t156 :: t157 :: t158 :: t159 :: t160 :: t161 :: t162 :: t163 :: t164 :: t165 :: t166 :: t167 :: t168 :: t169 :: t170 :: t171 :: t172 :: t173 :: t174 :: t175 :: t176 :: t177 :: t178 :: t179 :: t180 :: t181 :: t182 :: t183 :: t184 :: t185 :: t186 :: t187 :: t188 :: t189 :: t190 :: t191 :: t192 :: t193 :: t194 :: t195 :: t196 :: t197 :: t198 :: t199 :: t200 :: t201 :: t202 :: t203 :: t204 :: t205 :: t206 :: t207 :: t208 :: t209 :: t210 :: t211 :: t212 :: t213 :: t214 :: t215 :: t216 :: t217 :: t218 :: t219 :: t220 :: t221 :: t222 :: t223 :: t224 :: t225 :: t226 :: t227 :: t228 :: t229 :: t230 :: t231 :: t232 :: t233 :: t234 :: t235 :: t236 :: t237 :: t238 :: t239 :: t240 :: t241 :: t242 :: t243 :: t244 :: t245 :: t246 :: t247 :: t248 :: t249 :: t250 :: t251 :: t252 :: t253 :: t254 :: t255 :: t256 :: t257 :: t258 :: t259 :: t260 :: t261 :: t262 :: t263 :: t264 :: t265 :: t266 :: t267 :: t268 :: t269 :: t270 :: t271 :: t272 :: t273 :: t274 :: t275 :: t276 :: t277 :: t278 :: t279 :: t280 :: t281 :: t282 :: t283 :: t284 :: t285 :: t286 :: t287 :: t288 :: t289 :: t290 :: t291 :: t292 :: t293 :: t294 :: t295 :: t296 :: t297 :: t298 :: t299 :: t300 :: t301 :: t302 :: t303 :: t304 :: t305 :: t306 :: t307 :: t308 :: t309 :: t310 :: t311 :: t312 :: t313 :: t314 :: t315 :: t316 :: t317 :: t318 :: t319 :: t320 :: t321 :: t322 :: t323 :: t324 :: t325 :: t326 :: t327 :: t328 :: t329 :: t330 :: .agg #[.string nm0, .int .i64 st, .slice A0 bs0.length c0, .slice B0 gs0.length d0, .string nm1, .int .i64 st, .slice A1 bs1.length c1, .slice B1 gs1.length d1, .string nm2, .int .i64 st, .slice A2 bs2.length c2, .slice B2 gs2.length d2] :: .int .i64 0 :: t333 :: t334 :: t335 :: t336 :: t337 :: t338 :: t339 :: t340 :: t341 :: t342 :: t343 :: t344 :: t345 :: t346 :: t347 :: t348 :: t349 :: t350 :: t351 :: t352 :: t353 :: t354 :: t355 :: t356 :: t357 :: t358 :: t359 :: t360 :: t361 :: t362 :: t363 :: t364 :: t365 :: t366 :: t367 :: t368 :: t369 :: t370 :: t371 :: t372 :: t373 :: t374 :: t375 :: t376 :: []), []⟩ w := by
  conv => arg 2; arg 1; whnf
  have HX := hd hexit
  clear hexit
  go_loopw [332] (fun s332 wr => ∃ k : Nat, k ≤ 3 ∧ s332 = .int .i64 k ∧ Hid (wr.heap[BC]? = some (.cells #[.int .i64 (cv p0 D0 0 k), .int .i64 (cv p1 D1 1 k), .int .i64 (cv p2 D2 2 k)] 31 (0, 0))) ∧ Hid (Below W.heap.size W wr)) (fun s332 _ => 3 - (intOf s332).toNat)
  case atStart => exact ⟨0, by omega, rfl, HC0, HJ0⟩
  case round =>
    obtain ⟨k, hk, rfl, HCT, HJ⟩ := hrel
    obtain ⟨ht0, ht1⟩ := HT.out
    by_cases hk3 : k < 3
    · rcases (show k = 0 ∨ k = 1 ∨ k = 2 by omega) with rfl | rfl | rfl
      · clear hk hk3
        have hix := idx3m0
        have HJ2 := hd (HJ.out.alloc HJ.out.size (Obj.cells #[.string nm0, .int .i64 st, .slice A0 bs0.length c0, .slice B0 gs0.length d0] 25))
        obtain ⟨lb, lo, rfl, hl0⟩ := rdLm HL0.out rfl HJ.out (show i < bs0.length by have := HN.out; omega)
        have hin2 : (i : Int) < (bs0.length : Int) := by have := HN.out; omega
        have hll := World.block_lt_of_cell? _ _ hl0
        obtain ⟨y, hy⟩ : ∃ y, y = bs0.getD i 0 := ⟨_, rfl⟩
        rw [← hy] at hl0
        have hyv : chkLev y = 0 := by rw [hy]; exact HV.out.1
        have HY := hd hy
        clear hy
        obtain ⟨f1, f2, f3', f4, v1, v2, v3, v4, hord⟩ := diff16 hyv HXV.out
        obtain ⟨o1, o2⟩ := hord tol (by omega)
        have hc1 := fun w => run_convert_float_float (P := Tryz.prog) w 41 43 .f32 .f64 y f1 (by kernel_rfl) Tryz.underlying43 v1
        have hc2 := fun w => run_convert_float_float (P := Tryz.prog) w 41 43 .f32 .f64 x f2 (by kernel_rfl) Tryz.underlying43 v2
        have hc3 := fun w => run_float_arith (P := Tryz.prog) w .sub 43 .f64 f1 f2 f3' v3
        have hc4 := fun w => run_float_arith (P := Tryz.prog) w .mul 43 .f64 4625196817309499392 f3' f4 v4
        have g1 : (FloatKind.f64.format.order f4 (floatOfInt .f64 tol) == some .gt) = decide (tol < s16 y - s16 x) := by rw [o1, cmp_gt]
        have g2 : (FloatKind.f64.format.order f4 (Op.negFloat .f64 (floatOfInt .f64 tol)) == some .lt) = decide (s16 y - s16 x < -tol) := by rw [o2, cmp_lt]
        obtain ⟨nf, hnf⟩ : ∃ nf, Op.negFloat .f64 (floatOfInt .f64 tol) = nf := ⟨_, rfl⟩
        rw [hnf] at g2
        have hun : ∀ w : World, (Op.unary UnOp.neg (Value.float .f64 (floatOfInt .f64 tol))).run Tryz.prog w = .ok (.float .f64 nf) w := fun w => by rw [← hnf]; rfl
        clear hnf
        clear v1 v2 v3 v4 o1 o2 hord hyv
        have e1 := cv_same p1 D1 1 0 (by decide)
        have e2 := cv_same p2 D2 2 0 (by decide)
        have e0 := cv_here p0 D0 0
        have hbc := blk_lt HCT.out
        cases his : is
        · subst his
          have HDG := hd (show D0 = false from by rw [HD0.out]; rfl)
          go_wp2
          go_roundw
          case rel => exact ⟨0 + 1, by omega, rfl, hd (by rw [e1, e2, e0.1, HDG.out]; have h := HCT.out; rw [e0.2] at h; exact (Below.heap_alloc _ _ _ (blk_lt HCT.out)).trans (by simpa using h)), hd (HJ2.out)⟩
          case measure => simp [intOf]
        · subst his
          go_wp2_with fail
          refine (has_any (.slice B0 gs0.length d0) gs0 (i : Int) _ ((HG0.out.below HJ2.out (Nat.le_refl _)).mono HJ2.out.size)).mono ?_
          rintro e w2 ⟨rfl, rfl⟩
          cases hg : hasL gs0 (i : Int)
          · by_cases hA : tol < s16 y - s16 x
            · rw [decide_eq_true hA] at g1
              have HG2 := hd (And.intro hg hA)
              clear hg hA g2
              have HDG := hd (show D0 = true from by rw [HD0.out]; rw [HG2.out.1, ← HY.out, decide_eq_true HG2.out.2]; rfl)
              have hZ := box3c HCT.out
              obtain ⟨q0, q1, q2, qf0, qf1, qf2⟩ := hZ
              rw [e0.2] at q0
              have hpb : 0 ≤ p0 ∧ p0 ≤ 100000 := HP.out.1
              have HS := hd (set3at HCT.out (.int .i64 (p0 + 1)))
              have HJS := hd (HJ.out.setCell (p := ⟨BC, 0, none⟩) HBC.out (.int .i64 (p0 + 1)))
              go_wp2
              go_roundw
              case rel => exact ⟨0 + 1, by omega, rfl, hd (by rw [e1, e2, e0.1, HDG.out]; exact (Below.heap_alloc _ _ _ (blk_lt HS.out.1)).trans HS.out.1), hd (HJS.out.alloc HJS.out.size _)⟩
              case measure => simp [intOf]
            · rw [decide_eq_false hA] at g1
              by_cases hB : s16 y - s16 x < -tol
              · rw [decide_eq_true hB] at g2
                have HG2 := hd (And.intro hg (And.intro hA hB))
                clear hg hA hB
                have HDG := hd (show D0 = true from by rw [HD0.out]; rw [HG2.out.1, ← HY.out, decide_eq_true HG2.out.2.2]; simp)
                have hZ := box3c HCT.out
                obtain ⟨q0, q1, q2, qf0, qf1, qf2⟩ := hZ
                rw [e0.2] at q0
                have hpb : 0 ≤ p0 ∧ p0 ≤ 100000 := HP.out.1
                have HS := hd (set3at HCT.out (.int .i64 (p0 + 1)))
                have HJS := hd (HJ.out.setCell (p := ⟨BC, 0, none⟩) HBC.out (.int .i64 (p0 + 1)))
                go_wp2
                go_roundw
                case rel => exact ⟨0 + 1, by omega, rfl, hd (by rw [e1, e2, e0.1, HDG.out]; exact (Below.heap_alloc _ _ _ (blk_lt HS.out.1)).trans HS.out.1), hd (HJS.out.alloc HJS.out.size _)⟩
                case measure => simp [intOf]
              · rw [decide_eq_false hB] at g2
                have HG2 := hd (And.intro hg (And.intro hA hB))
                clear hg hA hB
                have HDG := hd (show D0 = false from by rw [HD0.out]; rw [HG2.out.1, ← HY.out, decide_eq_false HG2.out.2.1, decide_eq_false HG2.out.2.2]; rfl)
                go_wp2
                go_roundw
                case rel => exact ⟨0 + 1, by omega, rfl, hd (by rw [e1, e2, e0.1, HDG.out]; have h := HCT.out; rw [e0.2] at h; exact (Below.heap_alloc _ _ _ (blk_lt HCT.out)).trans (by simpa using h)), hd (HJ2.out)⟩
                case measure => simp [intOf]
          · have HG2 := hd hg
            clear hg
            have HDG := hd (show D0 = false from by rw [HD0.out]; rw [HG2.out]; rfl)
            go_wp2
            go_roundw
            case rel => exact ⟨0 + 1, by omega, rfl, hd (by rw [e1, e2, e0.1, HDG.out]; have h := HCT.out; rw [e0.2] at h; exact (Below.heap_alloc _ _ _ (blk_lt HCT.out)).trans (by simpa using h)), hd (HJ2.out)⟩
            case measure => simp [intOf]
      · clear hk hk3
        have hix := idx3m1
        have HJ2 := hd (HJ.out.alloc HJ.out.size (Obj.cells #[.string nm1, .int .i64 st, .slice A1 bs1.length c1, .slice B1 gs1.length d1] 25))
        obtain ⟨lb, lo, rfl, hl0⟩ := rdLm HL1.out rfl HJ.out (show i < bs1.length by have := HN.out; omega)
        have hin2 : (i : Int) < (bs1.length : Int) := by have := HN.out; omega
        have hll := World.block_lt_of_cell? _ _ hl0
        obtain ⟨y, hy⟩ : ∃ y, y = bs1.getD i 0 := ⟨_, rfl⟩
        rw [← hy] at hl0
        have hyv : chkLev y = 0 := by rw [hy]; exact HV.out.2.1
        have HY := hd hy
        clear hy
        obtain ⟨f1, f2, f3', f4, v1, v2, v3, v4, hord⟩ := diff16 hyv HXV.out
        obtain ⟨o1, o2⟩ := hord tol (by omega)
        have hc1 := fun w => run_convert_float_float (P := Tryz.prog) w 41 43 .f32 .f64 y f1 (by kernel_rfl) Tryz.underlying43 v1
        have hc2 := fun w => run_convert_float_float (P := Tryz.prog) w 41 43 .f32 .f64 x f2 (by kernel_rfl) Tryz.underlying43 v2
        have hc3 := fun w => run_float_arith (P := Tryz.prog) w .sub 43 .f64 f1 f2 f3' v3
        have hc4 := fun w => run_float_arith (P := Tryz.prog) w .mul 43 .f64 4625196817309499392 f3' f4 v4
        have g1 : (FloatKind.f64.format.order f4 (floatOfInt .f64 tol) == some .gt) = decide (tol < s16 y - s16 x) := by rw [o1, cmp_gt]
        have g2 : (FloatKind.f64.format.order f4 (Op.negFloat .f64 (floatOfInt .f64 tol)) == some .lt) = decide (s16 y - s16 x < -tol) := by rw [o2, cmp_lt]
        obtain ⟨nf, hnf⟩ : ∃ nf, Op.negFloat .f64 (floatOfInt .f64 tol) = nf := ⟨_, rfl⟩
        rw [hnf] at g2
        have hun : ∀ w : World, (Op.unary UnOp.neg (Value.float .f64 (floatOfInt .f64 tol))).run Tryz.prog w = .ok (.float .f64 nf) w := fun w => by rw [← hnf]; rfl
        clear hnf
        clear v1 v2 v3 v4 o1 o2 hord hyv
        have e0 := cv_same p0 D0 0 1 (by decide)
        have e2 := cv_same p2 D2 2 1 (by decide)
        have e1 := cv_here p1 D1 1
        have hbc := blk_lt HCT.out
        cases his : is
        · subst his
          have HDG := hd (show D1 = false from by rw [HD1.out]; rfl)
          go_wp2
          go_roundw
          case rel => exact ⟨1 + 1, by omega, rfl, hd (by rw [e0, e2, e1.1, HDG.out]; have h := HCT.out; rw [e1.2] at h; exact (Below.heap_alloc _ _ _ (blk_lt HCT.out)).trans (by simpa using h)), hd (HJ2.out)⟩
          case measure => simp [intOf]
        · subst his
          go_wp2_with fail
          refine (has_any (.slice B1 gs1.length d1) gs1 (i : Int) _ ((HG1.out.below HJ2.out (Nat.le_refl _)).mono HJ2.out.size)).mono ?_
          rintro e w2 ⟨rfl, rfl⟩
          cases hg : hasL gs1 (i : Int)
          · by_cases hA : tol < s16 y - s16 x
            · rw [decide_eq_true hA] at g1
              have HG2 := hd (And.intro hg hA)
              clear hg hA g2
              have HDG := hd (show D1 = true from by rw [HD1.out]; rw [HG2.out.1, ← HY.out, decide_eq_true HG2.out.2]; rfl)
              have hZ := box3c HCT.out
              obtain ⟨q0, q1, q2, qf0, qf1, qf2⟩ := hZ
              rw [e1.2] at q1
              have hpb : 0 ≤ p1 ∧ p1 ≤ 100000 := HP.out.2.1
              have HS := hd (set3at HCT.out (.int .i64 (p1 + 1)))
              have HJS := hd (HJ.out.setCell (p := ⟨BC, 1, none⟩) HBC.out (.int .i64 (p1 + 1)))
              go_wp2
              go_roundw
              case rel => exact ⟨1 + 1, by omega, rfl, hd (by rw [e0, e2, e1.1, HDG.out]; exact (Below.heap_alloc _ _ _ (blk_lt HS.out.2.1)).trans HS.out.2.1), hd (HJS.out.alloc HJS.out.size _)⟩
              case measure => simp [intOf]
            · rw [decide_eq_false hA] at g1
              by_cases hB : s16 y - s16 x < -tol
              · rw [decide_eq_true hB] at g2
                have HG2 := hd (And.intro hg (And.intro hA hB))
                clear hg hA hB
                have HDG := hd (show D1 = true from by rw [HD1.out]; rw [HG2.out.1, ← HY.out, decide_eq_true HG2.out.2.2]; simp)
                have hZ := box3c HCT.out
                obtain ⟨q0, q1, q2, qf0, qf1, qf2⟩ := hZ
                rw [e1.2] at q1
                have hpb : 0 ≤ p1 ∧ p1 ≤ 100000 := HP.out.2.1
                have HS := hd (set3at HCT.out (.int .i64 (p1 + 1)))
                have HJS := hd (HJ.out.setCell (p := ⟨BC, 1, none⟩) HBC.out (.int .i64 (p1 + 1)))
                go_wp2
                go_roundw
                case rel => exact ⟨1 + 1, by omega, rfl, hd (by rw [e0, e2, e1.1, HDG.out]; exact (Below.heap_alloc _ _ _ (blk_lt HS.out.2.1)).trans HS.out.2.1), hd (HJS.out.alloc HJS.out.size _)⟩
                case measure => simp [intOf]
              · rw [decide_eq_false hB] at g2
                have HG2 := hd (And.intro hg (And.intro hA hB))
                clear hg hA hB
                have HDG := hd (show D1 = false from by rw [HD1.out]; rw [HG2.out.1, ← HY.out, decide_eq_false HG2.out.2.1, decide_eq_false HG2.out.2.2]; rfl)
                go_wp2
                go_roundw
                case rel => exact ⟨1 + 1, by omega, rfl, hd (by rw [e0, e2, e1.1, HDG.out]; have h := HCT.out; rw [e1.2] at h; exact (Below.heap_alloc _ _ _ (blk_lt HCT.out)).trans (by simpa using h)), hd (HJ2.out)⟩
                case measure => simp [intOf]
          · have HG2 := hd hg
            clear hg
            have HDG := hd (show D1 = false from by rw [HD1.out]; rw [HG2.out]; rfl)
            go_wp2
            go_roundw
            case rel => exact ⟨1 + 1, by omega, rfl, hd (by rw [e0, e2, e1.1, HDG.out]; have h := HCT.out; rw [e1.2] at h; exact (Below.heap_alloc _ _ _ (blk_lt HCT.out)).trans (by simpa using h)), hd (HJ2.out)⟩
            case measure => simp [intOf]
      · clear hk hk3
        have hix := idx3m2
        have HJ2 := hd (HJ.out.alloc HJ.out.size (Obj.cells #[.string nm2, .int .i64 st, .slice A2 bs2.length c2, .slice B2 gs2.length d2] 25))
        obtain ⟨lb, lo, rfl, hl0⟩ := rdLm HL2.out rfl HJ.out (show i < bs2.length by have := HN.out; omega)
        have hin2 : (i : Int) < (bs2.length : Int) := by have := HN.out; omega
        have hll := World.block_lt_of_cell? _ _ hl0
        obtain ⟨y, hy⟩ : ∃ y, y = bs2.getD i 0 := ⟨_, rfl⟩
        rw [← hy] at hl0
        have hyv : chkLev y = 0 := by rw [hy]; exact HV.out.2.2
        have HY := hd hy
        clear hy
        obtain ⟨f1, f2, f3', f4, v1, v2, v3, v4, hord⟩ := diff16 hyv HXV.out
        obtain ⟨o1, o2⟩ := hord tol (by omega)
        have hc1 := fun w => run_convert_float_float (P := Tryz.prog) w 41 43 .f32 .f64 y f1 (by kernel_rfl) Tryz.underlying43 v1
        have hc2 := fun w => run_convert_float_float (P := Tryz.prog) w 41 43 .f32 .f64 x f2 (by kernel_rfl) Tryz.underlying43 v2
        have hc3 := fun w => run_float_arith (P := Tryz.prog) w .sub 43 .f64 f1 f2 f3' v3
        have hc4 := fun w => run_float_arith (P := Tryz.prog) w .mul 43 .f64 4625196817309499392 f3' f4 v4
        have g1 : (FloatKind.f64.format.order f4 (floatOfInt .f64 tol) == some .gt) = decide (tol < s16 y - s16 x) := by rw [o1, cmp_gt]
        have g2 : (FloatKind.f64.format.order f4 (Op.negFloat .f64 (floatOfInt .f64 tol)) == some .lt) = decide (s16 y - s16 x < -tol) := by rw [o2, cmp_lt]
        obtain ⟨nf, hnf⟩ : ∃ nf, Op.negFloat .f64 (floatOfInt .f64 tol) = nf := ⟨_, rfl⟩
        rw [hnf] at g2
        have hun : ∀ w : World, (Op.unary UnOp.neg (Value.float .f64 (floatOfInt .f64 tol))).run Tryz.prog w = .ok (.float .f64 nf) w := fun w => by rw [← hnf]; rfl
        clear hnf
        clear v1 v2 v3 v4 o1 o2 hord hyv
        have e0 := cv_same p0 D0 0 2 (by decide)
        have e1 := cv_same p1 D1 1 2 (by decide)
        have e2 := cv_here p2 D2 2
        have hbc := blk_lt HCT.out
        cases his : is
        · subst his
          have HDG := hd (show D2 = false from by rw [HD2.out]; rfl)
          go_wp2
          go_roundw
          case rel => exact ⟨2 + 1, by omega, rfl, hd (by rw [e0, e1, e2.1, HDG.out]; have h := HCT.out; rw [e2.2] at h; exact (Below.heap_alloc _ _ _ (blk_lt HCT.out)).trans (by simpa using h)), hd (HJ2.out)⟩
          case measure => simp [intOf]
        · subst his
          go_wp2_with fail
          refine (has_any (.slice B2 gs2.length d2) gs2 (i : Int) _ ((HG2.out.below HJ2.out (Nat.le_refl _)).mono HJ2.out.size)).mono ?_
          rintro e w2 ⟨rfl, rfl⟩
          cases hg : hasL gs2 (i : Int)
          · by_cases hA : tol < s16 y - s16 x
            · rw [decide_eq_true hA] at g1
              have HG2 := hd (And.intro hg hA)
              clear hg hA g2
              have HDG := hd (show D2 = true from by rw [HD2.out]; rw [HG2.out.1, ← HY.out, decide_eq_true HG2.out.2]; rfl)
              have hZ := box3c HCT.out
              obtain ⟨q0, q1, q2, qf0, qf1, qf2⟩ := hZ
              rw [e2.2] at q2
              have hpb : 0 ≤ p2 ∧ p2 ≤ 100000 := HP.out.2.2
              have HS := hd (set3at HCT.out (.int .i64 (p2 + 1)))
              have HJS := hd (HJ.out.setCell (p := ⟨BC, 2, none⟩) HBC.out (.int .i64 (p2 + 1)))
              go_wp2
              go_roundw
              case rel => exact ⟨2 + 1, by omega, rfl, hd (by rw [e0, e1, e2.1, HDG.out]; exact (Below.heap_alloc _ _ _ (blk_lt HS.out.2.2)).trans HS.out.2.2), hd (HJS.out.alloc HJS.out.size _)⟩
              case measure => simp [intOf]
            · rw [decide_eq_false hA] at g1
              by_cases hB : s16 y - s16 x < -tol
              · rw [decide_eq_true hB] at g2
                have HG2 := hd (And.intro hg (And.intro hA hB))
                clear hg hA hB
                have HDG := hd (show D2 = true from by rw [HD2.out]; rw [HG2.out.1, ← HY.out, decide_eq_true HG2.out.2.2]; simp)
                have hZ := box3c HCT.out
                obtain ⟨q0, q1, q2, qf0, qf1, qf2⟩ := hZ
                rw [e2.2] at q2
                have hpb : 0 ≤ p2 ∧ p2 ≤ 100000 := HP.out.2.2
                have HS := hd (set3at HCT.out (.int .i64 (p2 + 1)))
                have HJS := hd (HJ.out.setCell (p := ⟨BC, 2, none⟩) HBC.out (.int .i64 (p2 + 1)))
                go_wp2
                go_roundw
                case rel => exact ⟨2 + 1, by omega, rfl, hd (by rw [e0, e1, e2.1, HDG.out]; exact (Below.heap_alloc _ _ _ (blk_lt HS.out.2.2)).trans HS.out.2.2), hd (HJS.out.alloc HJS.out.size _)⟩
                case measure => simp [intOf]
              · rw [decide_eq_false hB] at g2
                have HG2 := hd (And.intro hg (And.intro hA hB))
                clear hg hA hB
                have HDG := hd (show D2 = false from by rw [HD2.out]; rw [HG2.out.1, ← HY.out, decide_eq_false HG2.out.2.1, decide_eq_false HG2.out.2.2]; rfl)
                go_wp2
                go_roundw
                case rel => exact ⟨2 + 1, by omega, rfl, hd (by rw [e0, e1, e2.1, HDG.out]; have h := HCT.out; rw [e2.2] at h; exact (Below.heap_alloc _ _ _ (blk_lt HCT.out)).trans (by simpa using h)), hd (HJ2.out)⟩
                case measure => simp [intOf]
          · have HG2 := hd hg
            clear hg
            have HDG := hd (show D2 = false from by rw [HD2.out]; rw [HG2.out]; rfl)
            go_wp2
            go_roundw
            case rel => exact ⟨2 + 1, by omega, rfl, hd (by rw [e0, e1, e2.1, HDG.out]; have h := HCT.out; rw [e2.2] at h; exact (Below.heap_alloc _ _ _ (blk_lt HCT.out)).trans (by simpa using h)), hd (HJ2.out)⟩
            case measure => simp [intOf]
    · obtain rfl : k = 3 := by omega
      have hkk : ¬ ((3 : Nat) : Int) < 3 := by omega
      go_wp2
      exact HX.out _ _ _ _ _ _ _ _ _ _ _ _ _ _ _ _ _ _ _ _ _ _ _ _ _ _ _ _ _ _ _ _ _ _ _ _ _ _ _ _ _ _ _ _ _ (by have h := HCT.out; simpa [cv] using h) HJ.out
end Go.Proofs.YtibhjdmndlelaaaGreatDoor
