/-
  The loop of TopSkipperRecords that cuts the gaps of a part, for both parts. Conditions: written at each.
-/
import Derived.Test.YtkgkpcmokmhakaaGreatDoorJ1
import Derived.Test.YtkgkpcmokmhakaaGreatDoorS2
namespace Go.Proofs.YtkgkpcmokmhakaaGreatDoor
open Go.RowKit
attribute [local go_sem] Oper.semAt_some

theorem rdSJ {W V : World} {A : Option Addr} {c : Nat} {l : List (Int × Int)} {B : Nat} (h : Rd W B (.slice A l.length c) l.length (spc l)) (hb : ∀ b, b < B → ∀ o, V.cell? ⟨b, o, none⟩ = W.cell? ⟨b, o, none⟩) {k : Nat} (hk : k < l.length) : ∃ b o, A = some ⟨b, o, none⟩ ∧ V.cell? ⟨b, o + k * 2, none⟩ = some (.int .i64 (l.getD k (0, 0)).1) ∧ V.cell? ⟨b, o + k * 2 + 1, none⟩ = some (.int .i64 (l.getD k (0, 0)).2) := by
  obtain ⟨A', c', e', -, -, hx⟩ := h
  cases e'
  obtain ⟨b, o, rfl, hbb, hc⟩ := hx (by omega)
  obtain ⟨g1, g2⟩ := spc_getD l k hk
  exact ⟨b, o, rfl, (hb b hbb _).trans ((hc (k * 2) (by rw [spc_len]; omega)).trans g1), (hb b hbb _).trans ((hc (k * 2 + 1) (by rw [spc_len]; omega)).trans g2)⟩
theorem new_twoJ (w : World) (a b : Value) (T : TypeId) : ∀ j u, [a, b][j]? = some u → (w.alloc (.cells #[a, b] T)).cell? ((⟨w.heap.size, 0, none⟩ : Addr).add j) = some u := by
  intro j u hj
  have h := blk_new w #[a, b] T
  have ha : (⟨w.heap.size, 0, none⟩ : Addr).add j = ⟨w.heap.size, j, none⟩ := by unfold Addr.add; split <;> simp_all
  rw [ha, blk_cell h j]
  simpa using hj
/-- A region that is shown to end in order alone. -/
theorem wp_calm {P : Program} {c : Code} {Q : Exit → Act → World → Prop} {a : Act} {w : World} (h : Code.wp P c (fun e a w => match e with | .normal => Q .normal a w | _ => False) a w) : Code.wp P c Q a w :=
  Code.wp_mono (fun e a w h => by cases e <;> first | exact h | exact h.elim) h
/-- What holds while the gaps of a part are written: the parts' block, all else as it was. -/
structure PJ (P B0 : Nat) (W : World) (cs : Option Addr → Nat → Nat → Array Value) (L : List (Int × Int)) (V : World) : Prop where
  box : ∃ A c, V.heap[P]? = some (.cells (cs A L.length c) 46 (0, 0)) ∧ V.ownsRow B0 50 2 (.slice A L.length c) L.length (spc L)
  bel : Below P W V
  oth : ∀ b, b < B0 → b ≠ P → V.heap[b]? = W.heap[b]?
  siz : B0 ≤ V.heap.size
section
variable {P B0 : Nat} {W V V' : World} {cs : Option Addr → Nat → Nat → Array Value} {L : List (Int × Int)}
theorem PJ.drew (h : PJ P B0 W cs L V) : PJ P B0 W cs L V.drew := ⟨h.box, h.bel.drew, h.oth, h.siz⟩
theorem PJ.alloc (h : PJ P B0 W cs L V) (hP : P < B0) (o : Obj) : PJ P B0 W cs L (V.alloc o) := by
  have hs := h.siz
  obtain ⟨A, c, h1, h2⟩ := h.box
  exact ⟨⟨A, c, (Below.heap_alloc _ _ _ (by omega)).trans h1, h2.alloc _⟩, h.bel.alloc (by omega) _, fun b hb hne => (Below.heap_alloc _ _ _ (by omega)).trans (h.oth b hb hne), by rw [World.size_alloc]; omega⟩
theorem PJ.below (h : PJ P B0 W cs L V) (hP : P < B0) (hb : Below V.heap.size V V') : PJ P B0 W cs L V' := by
  have hs := h.siz
  obtain ⟨A, c, h1, h2⟩ := h.box
  exact ⟨⟨A, c, (hb.block _ (by omega)).trans h1, own_bel h2 hb⟩, h.bel.trans (hb.mono (by omega)), fun b hb' hne => (hb.block _ (by omega)).trans (h.oth b hb' hne), by have := hb.size; omega⟩
/-- One gap more. -/
theorem PJ.more (h : PJ P B0 W cs L V) (hP : P < B0) (q : Nat) (hcs : ∀ A c A' n' c' n, (cs A n c).setIfInBounds q (.slice A' n' c') = cs A' n' c') {A : Option Addr} {c : Nat}
    (h1 : V.heap[P]? = some (.cells (cs A L.length c) 46 (0, 0))) (h2 : V.ownsRow B0 50 2 (.slice A L.length c) L.length (spc L)) {A' : Option Addr} {c' : Nat} {f t : Int}
    (hown : V'.ownsRow B0 50 2 (.slice A' (L.length + 1) c') (L.length + 1) (spc L ++ [.int .i64 f, .int .i64 t])) (hg : V.grownBy V' (Value.slice A L.length c).ownBlock) : PJ P B0 W cs (L ++ [(f, t)]) (V'.setCell ⟨P, q, none⟩ (.slice A' (L.length + 1) c')) := by
  have hs := h.siz
  have bT := (hg.block P (blk_lt h1) (blk_not_row h1 (by decide) h2)).trans h1
  rw [spc_snoc] at hown
  have hl : (L ++ [(f, t)]).length = L.length + 1 := by simp
  refine ⟨⟨A', c', ?_, ?_⟩, (h.bel.grown hg (by omega) (fun kk hk => by have := (h2.lt kk hk).1; omega)).setCell (p := ⟨P, q, none⟩) (Nat.le_refl _) _, fun b hb hne => ?_, ?_⟩
  · rw [hl, ← hcs A c A' (L.length + 1) c' L.length]
    exact blk_set bT q _
  · rw [hl]
    exact own_far hown (own_box hown bT (by decide))
  · refine (Below.heap_setCell V' ⟨P, q, none⟩ _ _ hne).trans ((hg.block b (by omega) (fun e => ?_)).trans (h.oth b hb hne))
    have := (h2.lt b e.symm).1
    omega
  · have := hg.size
    rw [World.size_setCell]; omega
end

set_option maxRecDepth 1000000 in
set_option maxHeartbeats 8000000 in
theorem rec_l4_0 (nm0 nm1 : ByteArray) (st0 st1 : Int) (L0 L1 G1 : Value) (AD : Option Addr) (cD P X a b : Nat) (CG : List (Int × Int)) (W : World) (Q0 : Exit → Act → World → Prop)
    (HJ0 : Hid (PJ P W.heap.size W (fun A n c => #[.string nm0, .int .i64 st0, L0, .slice A n c, .string nm1, .int .i64 st1, L1, G1]) [] W)) (HX0 : Hid (W.heap[X]? = some (.cells #[.int .i64 a, .int .i64 b] 47 (0, 0))))
    (RD : Hid (Rd W P (.slice AD CG.length cD) CG.length (spc CG))) (HN : Hid (CG.length ≤ 100000 ∧ a ≤ 100000 ∧ b ≤ 100000)) (HBD : Hid (∀ s ∈ CG, 0 ≤ s.1 ∧ s.1 < s.2 ∧ s.2 ≤ 100000))
    {t0 t1 t2 t3 t4 t5 t6 t7 t8 t9 t10 t11 t12 t13 t14 t15 t16 t17 t18 t19 t23 t24 t25 t26 t27 t28 t29 t30 t31 t32 t33 t34 t35 t36 t37 t38 t39 t40 t41 t42 t43 t44 t45 t46 t47 t48 t49 t50 t51 t52 t53 t54 t55 t56 t57 t58 t59 t60 t61 t62 t63 t64 t65 t66 t67 t68 t69 t70 t71 t72 t73 t74 t75 t76 t77 t78 t79 t80 t81 t82 t83 t84 t85 t86 t87 t88 t89 t90 t91 t92 t93 t94 t95 t96 t97 t98 t99 t100 t101 t102 t103 t104 t105 t106 t107 t108 t109 t110 t111 t112 t113 t114 t115 t116 t117 t118 t119 t120 t121 t122 t123 t124 t125 t126 t127 t128 t129 t130 t131 t132 t133 t134 t135 t136 t137 t138 t139 t140 t141 t142 t143 t144 t145 t146 t147 t148 t149 t150 t151 t152 t153 t154 t155 t156 t157 t158 t159 t160 t161 t162 t163 t164 t165 t166 t167 t168 t169 t170 t171 t172 t173 t174 t175 t176 t177 t178 t179 t180 t181 t182 t183 t184 t185 t186 t187 t188 t189 t190 t191 t192 t193 t194 t195 t196 t200 t201 t202 t203 t204 t205 t206 t207 t208 t209 t210 t211 t212 t213 t214 t215 t216 t217 t218 t219 t220 t221 t222 t223 t224 t225 t226 t227 t228 t229 t230 t231 t232 t233 t234 t235 t236 t237 t238 t239 t240 t241 t242 t243 t244 t245 t246 t247 t248 t249 t250 t251 t252 t253 t254 t255 t256 t257 t258 t259 t260 t261 t262 t263 t264 t265 t266 t267 t268 t269 t270 t271 t272 t273 t274 t275 t276 t277 t278 t279 t280 t281 t282 t283 t284 t285 t286 t287 t288 t289 t290 t291 t292 t293 t294 t295 t296 t297 t298 t299 t300 t301 t302 t303 t304 t305 t306 t307 t308 t309 t310 t311 t312 t313 t314 t315 t316 t317 t318 t319 t320 t321 t322 t323 t324 t325 t326 t327 t328 t329 t330 t331 t332 t333 t334 t335 t336 t337 t338 t339 t340 t341 t342 t343 t344 t345 t346 t347 t348 t349 t350 t351 t352 t353 : Value}
    (hexit : ∀ (u24 u25 u26 u199 u200 u201 u202 u203 u204 u205 u206 u207 u208 u209 u210 u211 u212 u213 u214 u215 u216 u217 u218 u219 u220 u221 u222 u223 u224 u225 u226 u227 u228 u229 u230 u231 u232 u233 u234 : Value) (w' : World), PJ P W.heap.size W (fun A n c => #[.string nm0, .int .i64 st0, L0, .slice A n c, .string nm1, .int .i64 st1, L1, G1]) (cutP CG (a : Int) (b : Int)) w' → Q0 (.exit 6) ⟨List.toArray (t0 :: t1 :: t2 :: t3 :: t4 :: t5 :: t6 :: t7 :: t8 :: t9 :: t10 :: t11 :: t12 :: t13 :: t14 :: t15 :: t16 :: t17 :: t18 :: t19 :: .pointer (some ⟨P, 0, none⟩) :: .int .i64 0 :: .pointer (some ⟨X, 0, none⟩) :: t23 :: u24 :: u25 :: u26 :: t27 :: t28 :: t29 :: t30 :: t31 :: t32 :: t33 :: t34 :: t35 :: t36 :: t37 :: t38 :: t39 :: t40 :: t41 :: t42 :: t43 :: t44 :: t45 :: t46 :: t47 :: t48 :: t49 :: t50 :: t51 :: t52 :: t53 :: t54 :: t55 :: t56 :: t57 :: t58 :: t59 :: t60 :: t61 :: t62 :: t63 :: t64 :: t65 :: t66 :: t67 :: t68 :: t69 :: t70 :: t71 :: t72 :: t73 :: t74 :: t75 :: t76 :: t77 :: t78 :: t79 :: t80 :: t81 :: t82 :: t83 :: t84 :: t85 :: t86 :: t87 :: t88 :: t89 :: t90 :: t91 :: t92 :: t93 :: t94 :: t95 :: t96 :: t97 :: t98 :: t99 :: t100 :: t101 :: t102 :: t103 :: t104 :: t105 :: t106 :: t107 :: t108 :: t109 :: t110 :: t111 :: t112 :: t113 :: t114 :: t115 :: t116 :: t117 :: t118 :: t119 :: t120 :: t121 :: t122 :: t123 :: t124 :: t125 :: t126 :: t127 :: t128 :: t129 :: t130 :: t131 :: t132 :: t133 :: t134 :: t135 :: t136 :: t137 :: t138 :: t139 :: t140 :: t141 :: t142 :: t143 :: t144 :: t145 :: t146 :: t147 :: t148 :: t149 :: t150 :: t151 :: t152 :: t153 :: t154 :: t155 :: t156 :: t157 :: t158 :: t159 :: t160 :: t161 :: t162 :: t163 :: t164 :: t165 :: t166 :: t167 :: t168 :: t169 :: t170 :: t171 :: t172 :: t173 :: t174 :: t175 :: t176 :: t177 :: t178 :: t179 :: t180 :: t181 :: t182 :: t183 :: t184 :: t185 :: t186 :: t187 :: t188 :: t189 :: t190 :: t191 :: t192 :: t193 :: t194 :: t195 :: t196 :: .slice AD CG.length cD :: .int .i64 CG.length :: u199 :: u200 :: u201 :: u202 :: u203 :: u204 :: u205 :: u206 :: u207 :: u208 :: u209 :: u210 :: u211 :: u212 :: u213 :: u214 :: u215 :: u216 :: u217 :: u218 :: u219 :: u220 :: u221 :: u222 :: u223 :: u224 :: u225 :: u226 :: u227 :: u228 :: u229 :: u230 :: u231 :: u232 :: u233 :: u234 :: t235 :: t236 :: t237 :: t238 :: t239 :: t240 :: t241 :: t242 :: t243 :: t244 :: t245 :: t246 :: t247 :: t248 :: t249 :: t250 :: t251 :: t252 :: t253 :: t254 :: t255 :: t256 :: t257 :: t258 :: t259 :: t260 :: t261 :: t262 :: t263 :: t264 :: t265 :: t266 :: t267 :: t268 :: t269 :: t270 :: t271 :: t272 :: t273 :: t274 :: t275 :: t276 :: t277 :: t278 :: t279 :: t280 :: t281 :: t282 :: t283 :: t284 :: t285 :: t286 :: t287 :: t288 :: t289 :: t290 :: t291 :: t292 :: t293 :: t294 :: t295 :: t296 :: t297 :: t298 :: t299 :: t300 :: t301 :: t302 :: t303 :: t304 :: t305 :: t306 :: t307 :: t308 :: t309 :: t310 :: t311 :: t312 :: t313 :: t314 :: t315 :: t316 :: t317 :: t318 :: t319 :: t320 :: t321 :: t322 :: t323 :: t324 :: t325 :: t326 :: t327 :: t328 :: t329 :: t330 :: t331 :: t332 :: t333 :: t334 :: t335 :: t336 :: t337 :: t338 :: t339 :: t340 :: t341 :: t342 :: t343 :: t344 :: t345 :: t346 :: t347 :: t348 :: t349 :: t350 :: t351 :: t352 :: t353 :: []), []⟩ w') :
    Code.wp Tryz.prog (Code.loop jL4) Q0 ⟨List.toArray (t0 :: t1 :: t2 :: t3 :: t4 :: t5 :: t6 :: t7 :: t8 :: t9 :: t10 :: t11 :: t12 :: t13 :: t14 :: t15 :: t16 :: t17 :: t18 :: t19 :: .pointer (some ⟨P, 0, none⟩) :: .int .i64 0 :: .pointer (some ⟨X, 0, none⟩) :: t23 :: t24 :: t25 :: t26 :: t27 :: t28 :: t29 :: t30 :: t31 :: t32 :: t33 :: t34 :: t35 :: t36 :: t37 :: t38 :: t39 :: t40 :: t41 :: t42 :: t43 :: t44 :: t45 :: t46 :: t47 :: t48 :: t49 :: t50 :: t51 :: t52 :: t53 :: t54 :: t55 :: t56 :: t57 :: t58 :: t59 :: t60 :: t61 :: t62 :: t63 :: t64 :: t65 :: t66 :: t67 :: t68 :: t69 :: t70 :: t71 :: t72 :: t73 :: t74 :: t75 :: t76 :: t77 :: t78 :: t79 :: t80 :: t81 :: t82 :: t83 :: t84 :: t85 :: t86 :: t87 :: t88 :: t89 :: t90 :: t91 :: t92 :: t93 :: t94 :: t95 :: t96 :: t97 :: t98 :: t99 :: t100 :: t101 :: t102 :: t103 :: t104 :: t105 :: t106 :: t107 :: t108 :: t109 :: t110 :: t111 :: t112 :: t113 :: t114 :: t115 :: t116 :: t117 :: t118 :: t119 :: t120 :: t121 :: t122 :: t123 :: t124 :: t125 :: t126 :: t127 :: t128 :: t129 :: t130 :: t131 :: t132 :: t133 :: t134 :: t135 :: t136 :: t137 :: t138 :: t139 :: t140 :: t141 :: t142 :: t143 :: t144 :: t145 :: t146 :: t147 :: t148 :: t149 :: t150 :: t151 :: t152 :: t153 :: t154 :: t155 :: t156 :: t157 :: t158 :: t159 :: t160 :: t161 :: t162 :: t163 :: t164 :: t165 :: t166 :: t167 :: t168 :: t169 :: t170 :: t171 :: t172 :: t173 :: t174 :: t175 :: t176 :: t177 :: t178 :: t179 :: t180 :: t181 :: t182 :: t183 :: t184 :: t185 :: t186 :: t187 :: t188 :: t189 :: t190 :: t191 :: t192 :: t193 :: t194 :: t195 :: t196 :: .slice AD CG.length cD :: .int .i64 CG.length :: .int .i64 0 :: t200 :: t201 :: t202 :: t203 :: t204 :: t205 :: t206 :: t207 :: t208 :: t209 :: t210 :: t211 :: t212 :: t213 :: t214 :: t215 :: t216 :: t217 :: t218 :: t219 :: t220 :: t221 :: t222 :: t223 :: t224 :: t225 :: t226 :: t227 :: t228 :: t229 :: t230 :: t231 :: t232 :: t233 :: t234 :: t235 :: t236 :: t237 :: t238 :: t239 :: t240 :: t241 :: t242 :: t243 :: t244 :: t245 :: t246 :: t247 :: t248 :: t249 :: t250 :: t251 :: t252 :: t253 :: t254 :: t255 :: t256 :: t257 :: t258 :: t259 :: t260 :: t261 :: t262 :: t263 :: t264 :: t265 :: t266 :: t267 :: t268 :: t269 :: t270 :: t271 :: t272 :: t273 :: t274 :: t275 :: t276 :: t277 :: t278 :: t279 :: t280 :: t281 :: t282 :: t283 :: t284 :: t285 :: t286 :: t287 :: t288 :: t289 :: t290 :: t291 :: t292 :: t293 :: t294 :: t295 :: t296 :: t297 :: t298 :: t299 :: t300 :: t301 :: t302 :: t303 :: t304 :: t305 :: t306 :: t307 :: t308 :: t309 :: t310 :: t311 :: t312 :: t313 :: t314 :: t315 :: t316 :: t317 :: t318 :: t319 :: t320 :: t321 :: t322 :: t323 :: t324 :: t325 :: t326 :: t327 :: t328 :: t329 :: t330 :: t331 :: t332 :: t333 :: t334 :: t335 :: t336 :: t337 :: t338 :: t339 :: t340 :: t341 :: t342 :: t343 :: t344 :: t345 :: t346 :: t347 :: t348 :: t349 :: t350 :: t351 :: t352 :: t353 :: []), []⟩ W := by
  obtain ⟨i0, hi, hz0, hz1, hz2⟩ := info_parts spanInfo
  have HIS := hd (And.intro hi (And.intro hz0 (And.intro hz1 hz2)))
  clear hi hz0 hz1 hz2
  have HP := hd (show P < W.heap.size from by obtain ⟨A, c, h1, -⟩ := HJ0.out.box; exact blk_lt h1)
  have HXP := hd (show X ≠ P from fun e => by obtain ⟨A, c, h1, -⟩ := HJ0.out.box; have h2 := HX0.out; rw [e, h1] at h2; injection h2 with h2; injection h2 with h2; have := congrArg Array.size h2; simp at this)
  conv => arg 2; arg 1; whnf
  have HX := hd hexit
  clear hexit
  go_loopw [199] (fun kv wr => ∃ k : Nat, k ≤ CG.length ∧ kv = .int .i64 k ∧ Hid (PJ P W.heap.size W (fun A n c => #[.string nm0, .int .i64 st0, L0, .slice A n c, .string nm1, .int .i64 st1, L1, G1]) (cutP (CG.take k) (a : Int) (b : Int)) wr)) (fun kv _ => CG.length - (intOf kv).toNat)
  case atStart => exact ⟨0, Nat.zero_le _, rfl, HJ0⟩
  case round =>
    obtain ⟨k, hk, rfl, HJ⟩ := hrel
    by_cases hlt : k < CG.length
    · have hki : (k : Int) < (CG.length : Int) := by omega
      have HLT := hd (show k < CG.length ∧ CG.length ≤ 100000 from ⟨hlt, HN.out.1⟩)
      have hgn : CG.length ≤ 100000 := HN.out.1
      obtain ⟨lb, lo, rfl, g1, g2⟩ := rdSJ RD.out (fun b hb o => HJ.out.bel.cell (p := ⟨b, o, none⟩) hb) hlt
      have hx := (HJ.out.oth X (blk_lt HX0.out) HXP.out).trans HX0.out
      have x0 := blk_cell hx 0
      have x1 := blk_cell hx 1
      simp at x0 x1
      clear hx
      obtain ⟨b0, b1, b2⟩ := HBD.out _ (getD_mem CG k hlt)
      have HNX := hd (cut_next CG (a : Int) (b : Int) k hlt)
      have HLE := hd (show (cutP (CG.take k) (a : Int) (b : Int)).length ≤ k from Nat.le_trans (cut_len _ _ _) (by rw [List.length_take]; omega))
      generalize CG.getD k (0, 0) = g at *
      obtain ⟨f, t⟩ := g
      dsimp only at g1 g2 b0 b1 b2 HNX
      generalize cutP (CG.take k) (a : Int) (b : Int) = LL at *
      have ha0 : (a : Int) ≤ 100000 := by have := HN.out; omega
      have hb0 : (b : Int) ≤ 100000 := by have := HN.out; omega
      have HJ1 := hd (HJ.out.alloc HP.out (Obj.cells #[.int .i64 f, .int .i64 t] 50))
      have hsz := HJ.out.siz
      have hXw : X < wr.heap.size := Nat.lt_of_lt_of_le (blk_lt HX0.out) hsz
      have hnX : wr.heap.size ≠ X := Nat.ne_of_gt hXw
      have hnX' := hnX.symm
      clear hXw hsz
      obtain ⟨AG, cG, hbt, hog⟩ := HJ1.out.box
      have HBT := hd hbt
      have HOG := hd hog
      have t3 := blk_cell hbt 3
      simp at t3
      have hPw : P < wr.heap.size := Nat.lt_of_lt_of_le HP.out HJ.out.siz
      have hnP : wr.heap.size ≠ P := Nat.ne_of_gt hPw
      have hnP' := hnP.symm
      clear hbt hog hPw
      have HBX := hd (blk_new wr #[.int .i64 f, .int .i64 t] 50)
      have e1 : IntKind.i64.wrap (max f (a : Int) - (a : Int)) = max f (a : Int) - (a : Int) := IntWalk.i64_in _ (by omega)
      have e2 : IntKind.i64.wrap (min t (b : Int) - (a : Int)) = min t (b : Int) - (a : Int) := IntWalk.i64_in _ (by omega)
      have HPL := hd (show LL.length + 1 ≤ maxLen ∧ (LL.length + 1) * 16 ≤ 140737488355328 by have := HLE.out; unfold maxLen; omega)
      go_wp2_with fail
      have z0 := blk_cell HBX.out 0
      have z1 := blk_cell HBX.out 1
      simp at z0 z1
      have x0' := fun o => cell_alloc_old (w := wr) (o := o) x0
      have x1' := fun o => cell_alloc_old (w := wr) (o := o) x1
      go_quiet (fail)
      have HJ2 := hd (HJ1.out.below HP.out (below_dr (Below.refl _ _) nq))
      have y0 := (show ((wr.alloc (Obj.cells #[.int .i64 f, .int .i64 t] 50)).drewN nq).cell? ⟨X, 0, none⟩ = some (.int .i64 a) from x0' _)
      clear x0 x1 x0' x1' z0 z1 t3 g1 g2 hnX hnX' hnP hnP' HBX HBT HOG HJ1
      generalize (wr.alloc (Obj.cells #[.int .i64 f, .int .i64 t] 50)).drewN nq = w2 at *
      obtain ⟨A3, c3, hbt, hog⟩ := HJ2.out.box
      have HBT := hd hbt
      have HOG := hd hog
      have t3 := blk_cell hbt 3
      simp at t3
      clear hbt hog
      by_cases hc : max f (a : Int) < min t (b : Int)
      · rw [if_pos hc] at HNX
        have t3' := fun o => cell_alloc_old (w := w2) (o := o) t3
        have y0' := fun o => cell_alloc_old (w := w2) (o := o) y0
        have HX2 := hd ((HJ2.out.oth X (blk_lt HX0.out) HXP.out).trans HX0.out)
        have HX3 := hd (show (w2.alloc (Obj.cells #[.int .i64 (max f (a : Int) - (a : Int)), .int .i64 (min t (b : Int) - (a : Int))] 50)).drew.heap[X]? = _ from (Below.heap_alloc w2 (Obj.cells #[.int .i64 (max f (a : Int) - (a : Int)), .int .i64 (min t (b : Int) - (a : Int))] 50) X (blk_lt HX2.out)).trans HX2.out)
        have hPw := blk_lt HBT.out
        have hn2 : w2.heap.size ≠ P := Nat.ne_of_gt hPw
        have hn2' := hn2.symm
        have hXw : X < w2.heap.size := World.block_lt_of_cell? _ _ y0
        have hn3 : w2.heap.size ≠ X := Nat.ne_of_gt hXw
        have hn3' := hn3.symm
        clear hPw hXw
        have HLV := hd (show (w2.alloc (Obj.cells #[.int .i64 (max f (a : Int) - (a : Int)), .int .i64 (min t (b : Int) - (a : Int))] 50)).drew.ownsRow W.heap.size 50 2 (.slice A3 LL.length c3) LL.length (spc LL) from World.ownsRow.drew (HOG.out.alloc _))
        have HJ3 := hd ((HJ2.out.alloc HP.out (Obj.cells #[.int .i64 (max f (a : Int) - (a : Int)), .int .i64 (min t (b : Int) - (a : Int))] 50)).drew)
        have HB3 := hd (show (w2.alloc (Obj.cells #[.int .i64 (max f (a : Int) - (a : Int)), .int .i64 (min t (b : Int) - (a : Int))] 50)).drew.heap[P]? = _ from (Below.heap_alloc w2 (Obj.cells #[.int .i64 (max f (a : Int) - (a : Int)), .int .i64 (min t (b : Int) - (a : Int))] 50) P (blk_lt HBT.out)).trans HBT.out)
        have HS3 := hd (show W.heap.size ≤ (w2.alloc (Obj.cells #[.int .i64 (max f (a : Int) - (a : Int)), .int .i64 (min t (b : Int) - (a : Int))] 50)).drew.heap.size from HJ3.out.siz)
        have hXP := HXP.out
        have hXP' := hXP.symm
        go_wp2_with fail
        refine wp_calm ?_
        go_region_law (first
            | (refine step_append_ownS (w2.alloc (Obj.cells #[.int .i64 (max f (a : Int) - (a : Int)), .int .i64 (min t (b : Int) - (a : Int))] 50)).drew (by rfl) (.tmp 220) (.tmp 230) 23 (by rfl) W.heap.size 50 i0 (.agg #[.int .i64 0, .int .i64 0]) 2 16 Tryz.underlying23 HIS.out.1 HIS.out.2.1 HIS.out.2.2.1 HIS.out.2.2.2 rfl (by decide) (.slice A3 LL.length c3) LL.length (spc LL) (by rfl) HLV.out ⟨w2.heap.size, 0, none⟩ 1 1 [.int .i64 (max f (a : Int) - (a : Int)), .int .i64 (min t (b : Int) - (a : Int))] (by rfl) (by rfl) (new_twoJ w2 _ _ _) (by simp [Value.oneCell']) HPL.out.1 HPL.out.2 HS3.out ?_; intro v' w5 hown' hg5 _; obtain ⟨A5, c5, hv5, -⟩ := own_form hown'; subst hv5; have HM := hd (HJ3.out.more HP.out 3 (fun _ _ _ _ _ _ => rfl) HB3.out HLV.out hown' hg5); have hb5 := (hg5.block P (blk_lt HB3.out) (blk_not_row HB3.out (by decide) HLV.out)).trans HB3.out; have r3 := blk_cell hb5 3; have r4 := blk_frozen hb5 3; simp at r3; have hx5 := (hg5.block X (blk_lt HX3.out) (blk_not_row HX3.out (by decide) HLV.out)).trans HX3.out; have y0 := blk_cell hx5 0; simp at y0; clear hown' hg5 hb5 hx5))
        all_goals
          go_wp2_with fail
          go_roundw
          case rel => exact ⟨k + 1, by have := HLT.out; omega, by have := HLT.out; go_num, hd (by rw [HNX.out]; exact HM.out)⟩
          case measure => have := HLT.out; simp [intOf]; omega
      · rw [if_neg hc] at HNX
        clear t3 y0
        go_wp2
        go_roundw
        case rel => exact ⟨k + 1, by have := HLT.out; omega, by have := HLT.out; go_num, hd (by rw [HNX.out]; exact HJ2.out)⟩
        case measure => have := HLT.out; simp [intOf]; omega
    · have hki : ¬ (k : Int) < (CG.length : Int) := by omega
      have hke : k = CG.length := by omega
      subst hke
      have HK := hd HJ.out
      rw [List.take_length] at HK
      go_wp2_with fail
      exact HX.out _ _ _ _ _ _ _ _ _ _ _ _ _ _ _ _ _ _ _ _ _ _ _ _ _ _ _ _ _ _ _ _ _ _ _ _ _ _ _ _ HK.out
set_option maxRecDepth 1000000 in
set_option maxHeartbeats 8000000 in
theorem rec_l4_1 (nm0 nm1 : ByteArray) (st0 st1 : Int) (L0 L1 G0 : Value) (AD : Option Addr) (cD P X a b : Nat) (CG : List (Int × Int)) (W : World) (Q0 : Exit → Act → World → Prop)
    (HJ0 : Hid (PJ P W.heap.size W (fun A n c => #[.string nm0, .int .i64 st0, L0, G0, .string nm1, .int .i64 st1, L1, .slice A n c]) [] W)) (HX0 : Hid (W.heap[X]? = some (.cells #[.int .i64 a, .int .i64 b] 47 (0, 0))))
    (RD : Hid (Rd W P (.slice AD CG.length cD) CG.length (spc CG))) (HN : Hid (CG.length ≤ 100000 ∧ a ≤ 100000 ∧ b ≤ 100000)) (HBD : Hid (∀ s ∈ CG, 0 ≤ s.1 ∧ s.1 < s.2 ∧ s.2 ≤ 100000))
    {t0 t1 t2 t3 t4 t5 t6 t7 t8 t9 t10 t11 t12 t13 t14 t15 t16 t17 t18 t19 t23 t24 t25 t26 t27 t28 t29 t30 t31 t32 t33 t34 t35 t36 t37 t38 t39 t40 t41 t42 t43 t44 t45 t46 t47 t48 t49 t50 t51 t52 t53 t54 t55 t56 t57 t58 t59 t60 t61 t62 t63 t64 t65 t66 t67 t68 t69 t70 t71 t72 t73 t74 t75 t76 t77 t78 t79 t80 t81 t82 t83 t84 t85 t86 t87 t88 t89 t90 t91 t92 t93 t94 t95 t96 t97 t98 t99 t100 t101 t102 t103 t104 t105 t106 t107 t108 t109 t110 t111 t112 t113 t114 t115 t116 t117 t118 t119 t120 t121 t122 t123 t124 t125 t126 t127 t128 t129 t130 t131 t132 t133 t134 t135 t136 t137 t138 t139 t140 t141 t142 t143 t144 t145 t146 t147 t148 t149 t150 t151 t152 t153 t154 t155 t156 t157 t158 t159 t160 t161 t162 t163 t164 t165 t166 t167 t168 t169 t170 t171 t172 t173 t174 t175 t176 t177 t178 t179 t180 t181 t182 t183 t184 t185 t186 t187 t188 t189 t190 t191 t192 t193 t194 t195 t196 t200 t201 t202 t203 t204 t205 t206 t207 t208 t209 t210 t211 t212 t213 t214 t215 t216 t217 t218 t219 t220 t221 t222 t223 t224 t225 t226 t227 t228 t229 t230 t231 t232 t233 t234 t235 t236 t237 t238 t239 t240 t241 t242 t243 t244 t245 t246 t247 t248 t249 t250 t251 t252 t253 t254 t255 t256 t257 t258 t259 t260 t261 t262 t263 t264 t265 t266 t267 t268 t269 t270 t271 t272 t273 t274 t275 t276 t277 t278 t279 t280 t281 t282 t283 t284 t285 t286 t287 t288 t289 t290 t291 t292 t293 t294 t295 t296 t297 t298 t299 t300 t301 t302 t303 t304 t305 t306 t307 t308 t309 t310 t311 t312 t313 t314 t315 t316 t317 t318 t319 t320 t321 t322 t323 t324 t325 t326 t327 t328 t329 t330 t331 t332 t333 t334 t335 t336 t337 t338 t339 t340 t341 t342 t343 t344 t345 t346 t347 t348 t349 t350 t351 t352 t353 : Value}
    (hexit : ∀ (u24 u25 u26 u199 u200 u201 u202 u203 u204 u205 u206 u207 u208 u209 u210 u211 u212 u213 u214 u215 u216 u217 u218 u219 u220 u221 u222 u223 u224 u225 u226 u227 u228 u229 u230 u231 u232 u233 u234 : Value) (w' : World), PJ P W.heap.size W (fun A n c => #[.string nm0, .int .i64 st0, L0, G0, .string nm1, .int .i64 st1, L1, .slice A n c]) (cutP CG (a : Int) (b : Int)) w' → Q0 (.exit 6) ⟨List.toArray (t0 :: t1 :: t2 :: t3 :: t4 :: t5 :: t6 :: t7 :: t8 :: t9 :: t10 :: t11 :: t12 :: t13 :: t14 :: t15 :: t16 :: t17 :: t18 :: t19 :: .pointer (some ⟨P, 0, none⟩) :: .int .i64 1 :: .pointer (some ⟨X, 0, none⟩) :: t23 :: u24 :: u25 :: u26 :: t27 :: t28 :: t29 :: t30 :: t31 :: t32 :: t33 :: t34 :: t35 :: t36 :: t37 :: t38 :: t39 :: t40 :: t41 :: t42 :: t43 :: t44 :: t45 :: t46 :: t47 :: t48 :: t49 :: t50 :: t51 :: t52 :: t53 :: t54 :: t55 :: t56 :: t57 :: t58 :: t59 :: t60 :: t61 :: t62 :: t63 :: t64 :: t65 :: t66 :: t67 :: t68 :: t69 :: t70 :: t71 :: t72 :: t73 :: t74 :: t75 :: t76 :: t77 :: t78 :: t79 :: t80 :: t81 :: t82 :: t83 :: t84 :: t85 :: t86 :: t87 :: t88 :: t89 :: t90 :: t91 :: t92 :: t93 :: t94 :: t95 :: t96 :: t97 :: t98 :: t99 :: t100 :: t101 :: t102 :: t103 :: t104 :: t105 :: t106 :: t107 :: t108 :: t109 :: t110 :: t111 :: t112 :: t113 :: t114 :: t115 :: t116 :: t117 :: t118 :: t119 :: t120 :: t121 :: t122 :: t123 :: t124 :: t125 :: t126 :: t127 :: t128 :: t129 :: t130 :: t131 :: t132 :: t133 :: t134 :: t135 :: t136 :: t137 :: t138 :: t139 :: t140 :: t141 :: t142 :: t143 :: t144 :: t145 :: t146 :: t147 :: t148 :: t149 :: t150 :: t151 :: t152 :: t153 :: t154 :: t155 :: t156 :: t157 :: t158 :: t159 :: t160 :: t161 :: t162 :: t163 :: t164 :: t165 :: t166 :: t167 :: t168 :: t169 :: t170 :: t171 :: t172 :: t173 :: t174 :: t175 :: t176 :: t177 :: t178 :: t179 :: t180 :: t181 :: t182 :: t183 :: t184 :: t185 :: t186 :: t187 :: t188 :: t189 :: t190 :: t191 :: t192 :: t193 :: t194 :: t195 :: t196 :: .slice AD CG.length cD :: .int .i64 CG.length :: u199 :: u200 :: u201 :: u202 :: u203 :: u204 :: u205 :: u206 :: u207 :: u208 :: u209 :: u210 :: u211 :: u212 :: u213 :: u214 :: u215 :: u216 :: u217 :: u218 :: u219 :: u220 :: u221 :: u222 :: u223 :: u224 :: u225 :: u226 :: u227 :: u228 :: u229 :: u230 :: u231 :: u232 :: u233 :: u234 :: t235 :: t236 :: t237 :: t238 :: t239 :: t240 :: t241 :: t242 :: t243 :: t244 :: t245 :: t246 :: t247 :: t248 :: t249 :: t250 :: t251 :: t252 :: t253 :: t254 :: t255 :: t256 :: t257 :: t258 :: t259 :: t260 :: t261 :: t262 :: t263 :: t264 :: t265 :: t266 :: t267 :: t268 :: t269 :: t270 :: t271 :: t272 :: t273 :: t274 :: t275 :: t276 :: t277 :: t278 :: t279 :: t280 :: t281 :: t282 :: t283 :: t284 :: t285 :: t286 :: t287 :: t288 :: t289 :: t290 :: t291 :: t292 :: t293 :: t294 :: t295 :: t296 :: t297 :: t298 :: t299 :: t300 :: t301 :: t302 :: t303 :: t304 :: t305 :: t306 :: t307 :: t308 :: t309 :: t310 :: t311 :: t312 :: t313 :: t314 :: t315 :: t316 :: t317 :: t318 :: t319 :: t320 :: t321 :: t322 :: t323 :: t324 :: t325 :: t326 :: t327 :: t328 :: t329 :: t330 :: t331 :: t332 :: t333 :: t334 :: t335 :: t336 :: t337 :: t338 :: t339 :: t340 :: t341 :: t342 :: t343 :: t344 :: t345 :: t346 :: t347 :: t348 :: t349 :: t350 :: t351 :: t352 :: t353 :: []), []⟩ w') :
    Code.wp Tryz.prog (Code.loop jL4) Q0 ⟨List.toArray (t0 :: t1 :: t2 :: t3 :: t4 :: t5 :: t6 :: t7 :: t8 :: t9 :: t10 :: t11 :: t12 :: t13 :: t14 :: t15 :: t16 :: t17 :: t18 :: t19 :: .pointer (some ⟨P, 0, none⟩) :: .int .i64 1 :: .pointer (some ⟨X, 0, none⟩) :: t23 :: t24 :: t25 :: t26 :: t27 :: t28 :: t29 :: t30 :: t31 :: t32 :: t33 :: t34 :: t35 :: t36 :: t37 :: t38 :: t39 :: t40 :: t41 :: t42 :: t43 :: t44 :: t45 :: t46 :: t47 :: t48 :: t49 :: t50 :: t51 :: t52 :: t53 :: t54 :: t55 :: t56 :: t57 :: t58 :: t59 :: t60 :: t61 :: t62 :: t63 :: t64 :: t65 :: t66 :: t67 :: t68 :: t69 :: t70 :: t71 :: t72 :: t73 :: t74 :: t75 :: t76 :: t77 :: t78 :: t79 :: t80 :: t81 :: t82 :: t83 :: t84 :: t85 :: t86 :: t87 :: t88 :: t89 :: t90 :: t91 :: t92 :: t93 :: t94 :: t95 :: t96 :: t97 :: t98 :: t99 :: t100 :: t101 :: t102 :: t103 :: t104 :: t105 :: t106 :: t107 :: t108 :: t109 :: t110 :: t111 :: t112 :: t113 :: t114 :: t115 :: t116 :: t117 :: t118 :: t119 :: t120 :: t121 :: t122 :: t123 :: t124 :: t125 :: t126 :: t127 :: t128 :: t129 :: t130 :: t131 :: t132 :: t133 :: t134 :: t135 :: t136 :: t137 :: t138 :: t139 :: t140 :: t141 :: t142 :: t143 :: t144 :: t145 :: t146 :: t147 :: t148 :: t149 :: t150 :: t151 :: t152 :: t153 :: t154 :: t155 :: t156 :: t157 :: t158 :: t159 :: t160 :: t161 :: t162 :: t163 :: t164 :: t165 :: t166 :: t167 :: t168 :: t169 :: t170 :: t171 :: t172 :: t173 :: t174 :: t175 :: t176 :: t177 :: t178 :: t179 :: t180 :: t181 :: t182 :: t183 :: t184 :: t185 :: t186 :: t187 :: t188 :: t189 :: t190 :: t191 :: t192 :: t193 :: t194 :: t195 :: t196 :: .slice AD CG.length cD :: .int .i64 CG.length :: .int .i64 0 :: t200 :: t201 :: t202 :: t203 :: t204 :: t205 :: t206 :: t207 :: t208 :: t209 :: t210 :: t211 :: t212 :: t213 :: t214 :: t215 :: t216 :: t217 :: t218 :: t219 :: t220 :: t221 :: t222 :: t223 :: t224 :: t225 :: t226 :: t227 :: t228 :: t229 :: t230 :: t231 :: t232 :: t233 :: t234 :: t235 :: t236 :: t237 :: t238 :: t239 :: t240 :: t241 :: t242 :: t243 :: t244 :: t245 :: t246 :: t247 :: t248 :: t249 :: t250 :: t251 :: t252 :: t253 :: t254 :: t255 :: t256 :: t257 :: t258 :: t259 :: t260 :: t261 :: t262 :: t263 :: t264 :: t265 :: t266 :: t267 :: t268 :: t269 :: t270 :: t271 :: t272 :: t273 :: t274 :: t275 :: t276 :: t277 :: t278 :: t279 :: t280 :: t281 :: t282 :: t283 :: t284 :: t285 :: t286 :: t287 :: t288 :: t289 :: t290 :: t291 :: t292 :: t293 :: t294 :: t295 :: t296 :: t297 :: t298 :: t299 :: t300 :: t301 :: t302 :: t303 :: t304 :: t305 :: t306 :: t307 :: t308 :: t309 :: t310 :: t311 :: t312 :: t313 :: t314 :: t315 :: t316 :: t317 :: t318 :: t319 :: t320 :: t321 :: t322 :: t323 :: t324 :: t325 :: t326 :: t327 :: t328 :: t329 :: t330 :: t331 :: t332 :: t333 :: t334 :: t335 :: t336 :: t337 :: t338 :: t339 :: t340 :: t341 :: t342 :: t343 :: t344 :: t345 :: t346 :: t347 :: t348 :: t349 :: t350 :: t351 :: t352 :: t353 :: []), []⟩ W := by
  obtain ⟨i0, hi, hz0, hz1, hz2⟩ := info_parts spanInfo
  have HIS := hd (And.intro hi (And.intro hz0 (And.intro hz1 hz2)))
  clear hi hz0 hz1 hz2
  have HP := hd (show P < W.heap.size from by obtain ⟨A, c, h1, -⟩ := HJ0.out.box; exact blk_lt h1)
  have HXP := hd (show X ≠ P from fun e => by obtain ⟨A, c, h1, -⟩ := HJ0.out.box; have h2 := HX0.out; rw [e, h1] at h2; injection h2 with h2; injection h2 with h2; have := congrArg Array.size h2; simp at this)
  conv => arg 2; arg 1; whnf
  have HX := hd hexit
  clear hexit
  go_loopw [199] (fun kv wr => ∃ k : Nat, k ≤ CG.length ∧ kv = .int .i64 k ∧ Hid (PJ P W.heap.size W (fun A n c => #[.string nm0, .int .i64 st0, L0, G0, .string nm1, .int .i64 st1, L1, .slice A n c]) (cutP (CG.take k) (a : Int) (b : Int)) wr)) (fun kv _ => CG.length - (intOf kv).toNat)
  case atStart => exact ⟨0, Nat.zero_le _, rfl, HJ0⟩
  case round =>
    obtain ⟨k, hk, rfl, HJ⟩ := hrel
    by_cases hlt : k < CG.length
    · have hki : (k : Int) < (CG.length : Int) := by omega
      have HLT := hd (show k < CG.length ∧ CG.length ≤ 100000 from ⟨hlt, HN.out.1⟩)
      have hgn : CG.length ≤ 100000 := HN.out.1
      obtain ⟨lb, lo, rfl, g1, g2⟩ := rdSJ RD.out (fun b hb o => HJ.out.bel.cell (p := ⟨b, o, none⟩) hb) hlt
      have hx := (HJ.out.oth X (blk_lt HX0.out) HXP.out).trans HX0.out
      have x0 := blk_cell hx 0
      have x1 := blk_cell hx 1
      simp at x0 x1
      clear hx
      obtain ⟨b0, b1, b2⟩ := HBD.out _ (getD_mem CG k hlt)
      have HNX := hd (cut_next CG (a : Int) (b : Int) k hlt)
      have HLE := hd (show (cutP (CG.take k) (a : Int) (b : Int)).length ≤ k from Nat.le_trans (cut_len _ _ _) (by rw [List.length_take]; omega))
      generalize CG.getD k (0, 0) = g at *
      obtain ⟨f, t⟩ := g
      dsimp only at g1 g2 b0 b1 b2 HNX
      generalize cutP (CG.take k) (a : Int) (b : Int) = LL at *
      have ha0 : (a : Int) ≤ 100000 := by have := HN.out; omega
      have hb0 : (b : Int) ≤ 100000 := by have := HN.out; omega
      have HJ1 := hd (HJ.out.alloc HP.out (Obj.cells #[.int .i64 f, .int .i64 t] 50))
      have hsz := HJ.out.siz
      have hXw : X < wr.heap.size := Nat.lt_of_lt_of_le (blk_lt HX0.out) hsz
      have hnX : wr.heap.size ≠ X := Nat.ne_of_gt hXw
      have hnX' := hnX.symm
      clear hXw hsz
      obtain ⟨AG, cG, hbt, hog⟩ := HJ1.out.box
      have HBT := hd hbt
      have HOG := hd hog
      have t3 := blk_cell hbt 7
      simp at t3
      have hPw : P < wr.heap.size := Nat.lt_of_lt_of_le HP.out HJ.out.siz
      have hnP : wr.heap.size ≠ P := Nat.ne_of_gt hPw
      have hnP' := hnP.symm
      clear hbt hog hPw
      have HBX := hd (blk_new wr #[.int .i64 f, .int .i64 t] 50)
      have e1 : IntKind.i64.wrap (max f (a : Int) - (a : Int)) = max f (a : Int) - (a : Int) := IntWalk.i64_in _ (by omega)
      have e2 : IntKind.i64.wrap (min t (b : Int) - (a : Int)) = min t (b : Int) - (a : Int) := IntWalk.i64_in _ (by omega)
      have HPL := hd (show LL.length + 1 ≤ maxLen ∧ (LL.length + 1) * 16 ≤ 140737488355328 by have := HLE.out; unfold maxLen; omega)
      go_wp2_with fail
      have z0 := blk_cell HBX.out 0
      have z1 := blk_cell HBX.out 1
      simp at z0 z1
      have x0' := fun o => cell_alloc_old (w := wr) (o := o) x0
      have x1' := fun o => cell_alloc_old (w := wr) (o := o) x1
      go_quiet (fail)
      have HJ2 := hd (HJ1.out.below HP.out (below_dr (Below.refl _ _) nq))
      have y0 := (show ((wr.alloc (Obj.cells #[.int .i64 f, .int .i64 t] 50)).drewN nq).cell? ⟨X, 0, none⟩ = some (.int .i64 a) from x0' _)
      clear x0 x1 x0' x1' z0 z1 t3 g1 g2 hnX hnX' hnP hnP' HBX HBT HOG HJ1
      generalize (wr.alloc (Obj.cells #[.int .i64 f, .int .i64 t] 50)).drewN nq = w2 at *
      obtain ⟨A3, c3, hbt, hog⟩ := HJ2.out.box
      have HBT := hd hbt
      have HOG := hd hog
      have t3 := blk_cell hbt 7
      simp at t3
      clear hbt hog
      by_cases hc : max f (a : Int) < min t (b : Int)
      · rw [if_pos hc] at HNX
        have t3' := fun o => cell_alloc_old (w := w2) (o := o) t3
        have y0' := fun o => cell_alloc_old (w := w2) (o := o) y0
        have HX2 := hd ((HJ2.out.oth X (blk_lt HX0.out) HXP.out).trans HX0.out)
        have HX3 := hd (show (w2.alloc (Obj.cells #[.int .i64 (max f (a : Int) - (a : Int)), .int .i64 (min t (b : Int) - (a : Int))] 50)).drew.heap[X]? = _ from (Below.heap_alloc w2 (Obj.cells #[.int .i64 (max f (a : Int) - (a : Int)), .int .i64 (min t (b : Int) - (a : Int))] 50) X (blk_lt HX2.out)).trans HX2.out)
        have hPw := blk_lt HBT.out
        have hn2 : w2.heap.size ≠ P := Nat.ne_of_gt hPw
        have hn2' := hn2.symm
        have hXw : X < w2.heap.size := World.block_lt_of_cell? _ _ y0
        have hn3 : w2.heap.size ≠ X := Nat.ne_of_gt hXw
        have hn3' := hn3.symm
        clear hPw hXw
        have HLV := hd (show (w2.alloc (Obj.cells #[.int .i64 (max f (a : Int) - (a : Int)), .int .i64 (min t (b : Int) - (a : Int))] 50)).drew.ownsRow W.heap.size 50 2 (.slice A3 LL.length c3) LL.length (spc LL) from World.ownsRow.drew (HOG.out.alloc _))
        have HJ3 := hd ((HJ2.out.alloc HP.out (Obj.cells #[.int .i64 (max f (a : Int) - (a : Int)), .int .i64 (min t (b : Int) - (a : Int))] 50)).drew)
        have HB3 := hd (show (w2.alloc (Obj.cells #[.int .i64 (max f (a : Int) - (a : Int)), .int .i64 (min t (b : Int) - (a : Int))] 50)).drew.heap[P]? = _ from (Below.heap_alloc w2 (Obj.cells #[.int .i64 (max f (a : Int) - (a : Int)), .int .i64 (min t (b : Int) - (a : Int))] 50) P (blk_lt HBT.out)).trans HBT.out)
        have HS3 := hd (show W.heap.size ≤ (w2.alloc (Obj.cells #[.int .i64 (max f (a : Int) - (a : Int)), .int .i64 (min t (b : Int) - (a : Int))] 50)).drew.heap.size from HJ3.out.siz)
        have hXP := HXP.out
        have hXP' := hXP.symm
        go_wp2_with fail
        refine wp_calm ?_
        go_region_law (first
            | (refine step_append_ownS (w2.alloc (Obj.cells #[.int .i64 (max f (a : Int) - (a : Int)), .int .i64 (min t (b : Int) - (a : Int))] 50)).drew (by rfl) (.tmp 220) (.tmp 230) 23 (by rfl) W.heap.size 50 i0 (.agg #[.int .i64 0, .int .i64 0]) 2 16 Tryz.underlying23 HIS.out.1 HIS.out.2.1 HIS.out.2.2.1 HIS.out.2.2.2 rfl (by decide) (.slice A3 LL.length c3) LL.length (spc LL) (by rfl) HLV.out ⟨w2.heap.size, 0, none⟩ 1 1 [.int .i64 (max f (a : Int) - (a : Int)), .int .i64 (min t (b : Int) - (a : Int))] (by rfl) (by rfl) (new_twoJ w2 _ _ _) (by simp [Value.oneCell']) HPL.out.1 HPL.out.2 HS3.out ?_; intro v' w5 hown' hg5 _; obtain ⟨A5, c5, hv5, -⟩ := own_form hown'; subst hv5; have HM := hd (HJ3.out.more HP.out 7 (fun _ _ _ _ _ _ => rfl) HB3.out HLV.out hown' hg5); have hb5 := (hg5.block P (blk_lt HB3.out) (blk_not_row HB3.out (by decide) HLV.out)).trans HB3.out; have r3 := blk_cell hb5 7; have r4 := blk_frozen hb5 7; simp at r3; have hx5 := (hg5.block X (blk_lt HX3.out) (blk_not_row HX3.out (by decide) HLV.out)).trans HX3.out; have y0 := blk_cell hx5 0; simp at y0; clear hown' hg5 hb5 hx5))
        all_goals
          go_wp2_with fail
          go_roundw
          case rel => exact ⟨k + 1, by have := HLT.out; omega, by have := HLT.out; go_num, hd (by rw [HNX.out]; exact HM.out)⟩
          case measure => have := HLT.out; simp [intOf]; omega
      · rw [if_neg hc] at HNX
        clear t3 y0
        go_wp2
        go_roundw
        case rel => exact ⟨k + 1, by have := HLT.out; omega, by have := HLT.out; go_num, hd (by rw [HNX.out]; exact HJ2.out)⟩
        case measure => have := HLT.out; simp [intOf]; omega
    · have hki : ¬ (k : Int) < (CG.length : Int) := by omega
      have hke : k = CG.length := by omega
      subst hke
      have HK := hd HJ.out
      rw [List.take_length] at HK
      go_wp2_with fail
      exact HX.out _ _ _ _ _ _ _ _ _ _ _ _ _ _ _ _ _ _ _ _ _ _ _ _ _ _ _ _ _ _ _ _ _ _ _ _ _ _ _ _ HK.out
end Go.Proofs.YtkgkpcmokmhakaaGreatDoor
