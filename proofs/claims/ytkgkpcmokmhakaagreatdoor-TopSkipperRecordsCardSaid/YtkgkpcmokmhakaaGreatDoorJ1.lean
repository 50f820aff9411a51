/-
  Loops of TopSkipperRecords, out of the program's own text: the rules' copies, the reasons, the statistics. Conditions: written at each.
-/
import Derived.Test.YtkgkpcmokmhakaaGreatDoorProg
import Derived.Test.YtkgkpcmokmhakaaGreatDoorET
import Derived.Test.YtkgkpcmokmhakaaGreatDoorMO
import Derived.Deep.RegionHeld3
import Derived.Deep.RegionLaw
import Derived.BigQuiet
namespace Go.Proofs.YtkgkpcmokmhakaaGreatDoor
open Go.RowKit
attribute [local go_sem] Oper.semAt_some

/-- The outermost loops' rounds, in their order. -/
def loopsJ : Code → List Code
  | .loop c => [c]
  | .seq a b => loopsJ a ++ loopsJ b
  | .block _ c => loopsJ c
  | .scope c => loopsJ c
  | .cond _ a b => loopsJ a ++ loopsJ b
  | _ => []
/-- A region of a text, by its number. -/
def regionJ (k : Nat) : Code → List Code
  | .region i os d => if i = k then [.region i os d] else []
  | .seq a b => regionJ k a ++ regionJ k b
  | .block _ c => regionJ k c
  | .scope c => regionJ k c
  | .cond _ a b => regionJ k a ++ regionJ k b
  | .loop c => regionJ k c
  | _ => []
set_option maxRecDepth 1000000 in
noncomputable def jL1 : Code := ((Tryz.f3.body.map loopsJ).getD []).getD 0 .skip
set_option maxRecDepth 1000000 in
noncomputable def jL2 : Code := ((Tryz.f3.body.map loopsJ).getD []).getD 1 .skip
set_option maxRecDepth 1000000 in
noncomputable def jL3 : Code := ((Tryz.f3.body.map loopsJ).getD []).getD 2 .skip
set_option maxRecDepth 1000000 in
noncomputable def jL5 : Code := ((Tryz.f3.body.map loopsJ).getD []).getD 3 .skip
noncomputable def jL4 : Code := (loopsJ jL3).getD 0 .skip
set_option maxRecDepth 1000000 in
noncomputable def jR28 : Code := ((Tryz.f3.body.map (regionJ 28)).getD []).getD 0 .skip
theorem box4J {W : World} {g : Nat} {t : TypeId} {a0 a1 a2 a3 : Value} (h : W.heap[g]? = some (.cells #[a0, a1, a2, a3] t (0, 0))) : W.cell? ⟨g, 0, none⟩ = some a0 ∧ W.cell? ⟨g, 1, none⟩ = some a1 ∧ W.cell? ⟨g, 2, none⟩ = some a2 ∧ W.cell? ⟨g, 3, none⟩ = some a3 ∧ W.frozen? ⟨g, 0, none⟩ = false ∧ W.frozen? ⟨g, 1, none⟩ = false ∧ W.frozen? ⟨g, 2, none⟩ = false ∧ W.frozen? ⟨g, 3, none⟩ = false :=
  ⟨blk_cell h 0, blk_cell h 1, blk_cell h 2, blk_cell h 3, blk_frozen h 0, blk_frozen h 1, blk_frozen h 2, blk_frozen h 3⟩
theorem upJ {c n : World} {u : Value} {a : Nat} {xs : List Value} (h : Rd c c.heap.size u a xs) (hb : Below c.heap.size c n) : Rd n n.heap.size u a xs := (h.below hb (Nat.le_refl _)).mono hb.size
theorem rdIJ {W V : World} {A : Option Addr} {n c : Nat} {l : List Int} (h : Rd W W.heap.size (.slice A n c) n (l.map (Value.int .i64))) (hl : l.length = n) (hb : Below W.heap.size W V) {k : Nat} (hk : k < n) : ∃ b o, A = some ⟨b, o, none⟩ ∧ V.cell? ⟨b, o + k, none⟩ = some (.int .i64 (l.getD k 0)) := by
  obtain ⟨A', c', e', -, -, hx⟩ := h
  cases e'
  obtain ⟨b, o, rfl, hbb, hc⟩ := hx (by omega)
  refine ⟨b, o, rfl, (hb.cell (p := ⟨b, _, none⟩) hbb).trans ((hc k (by rw [List.length_map]; omega)).trans ?_)⟩
  rw [List.getElem?_map, List.getD_eq_getElem?_getD, List.getElem?_eq_getElem (by omega)]
  rfl
def GotSJ (c s e0 : Int) (lo hi : Nat) (w : World) (e : Ending) (w' : World) : Prop :=
  e = .returned (.tuple #[.agg #[.int .i64 c, .int .i64 s, .float .f32 lo, .float .f32 hi], .int .i64 e0]) ∧ Below w.heap.size w w'
theorem cells12J {W : World} {g : Nat} {t : TypeId} {a0 a1 a2 a3 a4 a5 a6 a7 a8 a9 a10 a11 : Value} (h : W.heap[g]? = some (.cells #[a0, a1, a2, a3, a4, a5, a6, a7, a8, a9, a10, a11] t (0, 0))) : W.cell? ⟨g, 0, none⟩ = some a0 ∧ W.cell? ⟨g, 1, none⟩ = some a1 ∧ W.cell? ⟨g, 2, none⟩ = some a2 ∧ W.cell? ⟨g, 3, none⟩ = some a3 ∧ W.cell? ⟨g, 4, none⟩ = some a4 ∧ W.cell? ⟨g, 5, none⟩ = some a5 ∧ W.cell? ⟨g, 6, none⟩ = some a6 ∧ W.cell? ⟨g, 7, none⟩ = some a7 ∧ W.cell? ⟨g, 8, none⟩ = some a8 ∧ W.cell? ⟨g, 9, none⟩ = some a9 ∧ W.cell? ⟨g, 10, none⟩ = some a10 ∧ W.cell? ⟨g, 11, none⟩ = some a11 :=
  ⟨blk_cell h 0, blk_cell h 1, blk_cell h 2, blk_cell h 3, blk_cell h 4, blk_cell h 5, blk_cell h 6, blk_cell h 7, blk_cell h 8, blk_cell h 9, blk_cell h 10, blk_cell h 11⟩
theorem cells8J {W : World} {g : Nat} {t : TypeId} {a0 a1 a2 a3 a4 a5 a6 a7 : Value} (h : W.heap[g]? = some (.cells #[a0, a1, a2, a3, a4, a5, a6, a7] t (0, 0))) : W.cell? ⟨g, 0, none⟩ = some a0 ∧ W.cell? ⟨g, 1, none⟩ = some a1 ∧ W.cell? ⟨g, 2, none⟩ = some a2 ∧ W.cell? ⟨g, 3, none⟩ = some a3 ∧ W.cell? ⟨g, 4, none⟩ = some a4 ∧ W.cell? ⟨g, 5, none⟩ = some a5 ∧ W.cell? ⟨g, 6, none⟩ = some a6 ∧ W.cell? ⟨g, 7, none⟩ = some a7 :=
  ⟨blk_cell h 0, blk_cell h 1, blk_cell h 2, blk_cell h 3, blk_cell h 4, blk_cell h 5, blk_cell h 6, blk_cell h 7⟩
/-- Four cells of a block, written. -/
def setJ (W : World) (R o : Nat) (a b c d : Value) : World := (((W.setCell ⟨R, o, none⟩ a).setCell ⟨R, o + 1, none⟩ b).setCell ⟨R, o + 2, none⟩ c).setCell ⟨R, o + 3, none⟩ d
theorem setJ_blk {W : World} {R : Nat} {t : TypeId} {cs : Array Value} (h : W.heap[R]? = some (.cells cs t (0, 0))) (o : Nat) (a b c d : Value) : (setJ W R o a b c d).heap[R]? = some (.cells ((((cs.setIfInBounds o a).setIfInBounds (o + 1) b).setIfInBounds (o + 2) c).setIfInBounds (o + 3) d) t (0, 0)) :=
  blk_set (blk_set (blk_set (blk_set h o a) (o + 1) b) (o + 2) c) (o + 3) d
theorem setJ_far {W : World} {R o b' : Nat} (h : R ≠ b') (a b c d : Value) : (setJ W R o a b c d).heap[b']? = W.heap[b']? := by
  unfold setJ
  rw [Below.heap_setCell _ _ _ _ h.symm, Below.heap_setCell _ _ _ _ h.symm, Below.heap_setCell _ _ _ _ h.symm, Below.heap_setCell _ _ _ _ h.symm]
theorem setJ_below {B : Nat} {w W : World} {R o : Nat} (h : Below B w W) (hR : B ≤ R) (a b c d : Value) : Below B w (setJ W R o a b c d) :=
  (((h.setCell (p := ⟨R, o, none⟩) hR a).setCell (p := ⟨R, o + 1, none⟩) hR b).setCell (p := ⟨R, o + 2, none⟩) hR c).setCell (p := ⟨R, o + 3, none⟩) hR d
theorem setJ_size (W : World) (R o : Nat) (a b c d : Value) : (setJ W R o a b c d).heap.size = W.heap.size := by
  unfold setJ; simp only [World.size_setCell]
theorem setJ_own {W : World} {B e s k R o : Nat} {v a b c d : Value} {xs : List Value} (h : W.ownsRow B e s v k xs) (hX : v.ownBlock = none ∨ v.ownBlock ≠ some R) : (setJ W R o a b c d).ownsRow B e s v k xs :=
  own_far (own_far (own_far (own_far h hX) hX) hX) hX
/-- Only one block, and what is new, is written. -/
structure SJ (S : Nat) (W V : World) : Prop where
  bel : Below S W V
  oth : ∀ b, b < W.heap.size → b ≠ S → V.heap[b]? = W.heap[b]?
  siz : W.heap.size ≤ V.heap.size
theorem SJ.refl (S : Nat) (W : World) : SJ S W W := ⟨Below.refl _ _, fun _ _ _ => rfl, Nat.le_refl _⟩
theorem SJ.step {S : Nat} {W V V' : World} (h : SJ S W V) (hS : S < W.heap.size) (hb : Below V.heap.size V V') : SJ S W V' := by
  have hs := h.siz
  exact ⟨h.bel.trans (hb.mono (by omega)), fun b h1 h2 => (hb.block b (by omega)).trans (h.oth b h1 h2), by have := hb.size; omega⟩
theorem SJ.put {S o : Nat} {W V : World} (h : SJ S W V) (a b c d : Value) : SJ S W (setJ V S o a b c d) :=
  ⟨setJ_below h.bel (Nat.le_refl S) _ _ _ _, fun b' h1 h2 => (setJ_far h2.symm _ _ _ _).trans (h.oth b' h1 h2), by rw [setJ_size]; exact h.siz⟩
theorem SJ.own {S : Nat} {W V : World} (h : SJ S W V) {B e s k : Nat} {v : Value} {xs : List Value} {cs0 : Array Value} (ho : W.ownsRow B e s v k xs) (hp : W.heap[S]? = some (.cells cs0 63 (0, 0))) (hne : 63 ≠ e) : V.ownsRow B e s v k xs := by
  refine ⟨ho.1, ?_⟩
  rcases ho.2 with h2 | ⟨g, cap, cur, e1, hB, hh, h3⟩
  · exact .inl h2
  · refine .inr ⟨g, cap, cur, e1, hB, (h.oth g (blk_lt hh) fun e2 => ?_).trans hh, h3⟩
    rw [e2, hp] at hh
    injection hh with hh
    injection hh with _ h5
    exact absurd h5 hne

set_option maxRecDepth 1000000 in
set_option maxHeartbeats 8000000 in
theorem rec_l1 (A3 : Option Addr) (c3 : Nat) (l : List Ru) (W : World) (Q0 : Exit → Act → World → Prop)
    (RU : Hid (Rd W W.heap.size (.slice A3 l.length c3) l.length (ruc l))) (HN : Hid (l.length ≤ 100000))
    {t0 t1 t2 t3 t4 t5 t6 t8 t9 t10 t11 t12 t13 t14 t15 t16 t17 t18 t19 t20 t21 t22 t23 t24 t25 t26 t27 t28 t29 t30 t31 t32 t33 t34 t35 t36 t37 t38 t39 t40 t41 t42 t43 t44 t45 t46 t47 t48 t49 t50 t51 t52 t53 t54 t55 t56 t57 t58 t59 t60 t61 t65 t66 t67 t68 t69 t70 t71 t72 t73 t74 t75 t76 t77 t78 t79 t80 t81 t82 t83 t84 t85 t86 t87 t88 t89 t90 t91 t92 t93 t94 t95 t96 t97 t98 t99 t100 t101 t102 t103 t104 t105 t106 t107 t108 t109 t110 t111 t112 t113 t114 t115 t116 t117 t118 t119 t120 t121 t122 t123 t124 t125 t126 t127 t128 t129 t130 t131 t132 t133 t134 t135 t136 t137 t138 t139 t140 t141 t142 t143 t144 t145 t146 t147 t148 t149 t150 t151 t152 t153 t154 t155 t156 t157 t158 t159 t160 t161 t162 t163 t164 t165 t166 t167 t168 t169 t170 t171 t172 t173 t174 t175 t176 t177 t178 t179 t180 t181 t182 t183 t184 t185 t186 t187 t188 t189 t190 t191 t192 t193 t194 t195 t196 t197 t198 t199 t200 t201 t202 t203 t204 t205 t206 t207 t208 t209 t210 t211 t212 t213 t214 t215 t216 t217 t218 t219 t220 t221 t222 t223 t224 t225 t226 t227 t228 t229 t230 t231 t232 t233 t234 t235 t236 t237 t238 t239 t240 t241 t242 t243 t244 t245 t246 t247 t248 t249 t250 t251 t252 t253 t254 t255 t256 t257 t258 t259 t260 t261 t262 t263 t264 t265 t266 t267 t268 t269 t270 t271 t272 t273 t274 t275 t276 t277 t278 t279 t280 t281 t282 t283 t284 t285 t286 t287 t288 t289 t290 t291 t292 t293 t294 t295 t296 t297 t298 t299 t300 t301 t302 t303 t304 t305 t306 t307 t308 t309 t310 t311 t312 t313 t314 t315 t316 t317 t318 t319 t320 t321 t322 t323 t324 t325 t326 t327 t328 t329 t330 t331 t332 t333 t334 t335 t336 t337 t338 t339 t340 t341 t342 t343 t344 t345 t346 t347 t348 t349 t350 t351 t352 t353 : Value}
    (hexit : ∀ (u9 u64 u65 u66 u67 u68 u69 u70 u71 u72 : Value) (w' : World) (A7 : Option Addr) (c7 : Nat), w'.ownsRow W.heap.size 34 3 (.slice A7 l.length c7) l.length (ruc l) ∧ Below W.heap.size W w' → Q0 (.exit 0) ⟨List.toArray (t0 :: t1 :: t2 :: t3 :: t4 :: t5 :: t6 :: .slice A7 l.length c7 :: t8 :: u9 :: t10 :: t11 :: t12 :: t13 :: t14 :: t15 :: t16 :: t17 :: t18 :: t19 :: t20 :: t21 :: t22 :: t23 :: t24 :: t25 :: t26 :: t27 :: t28 :: t29 :: t30 :: t31 :: t32 :: t33 :: t34 :: t35 :: t36 :: t37 :: t38 :: t39 :: t40 :: t41 :: t42 :: t43 :: t44 :: t45 :: t46 :: t47 :: t48 :: t49 :: t50 :: t51 :: t52 :: t53 :: t54 :: t55 :: t56 :: t57 :: t58 :: t59 :: t60 :: t61 :: .slice A3 l.length c3 :: .int .i64 l.length :: u64 :: u65 :: u66 :: u67 :: u68 :: u69 :: u70 :: u71 :: u72 :: t73 :: t74 :: t75 :: t76 :: t77 :: t78 :: t79 :: t80 :: t81 :: t82 :: t83 :: t84 :: t85 :: t86 :: t87 :: t88 :: t89 :: t90 :: t91 :: t92 :: t93 :: t94 :: t95 :: t96 :: t97 :: t98 :: t99 :: t100 :: t101 :: t102 :: t103 :: t104 :: t105 :: t106 :: t107 :: t108 :: t109 :: t110 :: t111 :: t112 :: t113 :: t114 :: t115 :: t116 :: t117 :: t118 :: t119 :: t120 :: t121 :: t122 :: t123 :: t124 :: t125 :: t126 :: t127 :: t128 :: t129 :: t130 :: t131 :: t132 :: t133 :: t134 :: t135 :: t136 :: t137 :: t138 :: t139 :: t140 :: t141 :: t142 :: t143 :: t144 :: t145 :: t146 :: t147 :: t148 :: t149 :: t150 :: t151 :: t152 :: t153 :: t154 :: t155 :: t156 :: t157 :: t158 :: t159 :: t160 :: t161 :: t162 :: t163 :: t164 :: t165 :: t166 :: t167 :: t168 :: t169 :: t170 :: t171 :: t172 :: t173 :: t174 :: t175 :: t176 :: t177 :: t178 :: t179 :: t180 :: t181 :: t182 :: t183 :: t184 :: t185 :: t186 :: t187 :: t188 :: t189 :: t190 :: t191 :: t192 :: t193 :: t194 :: t195 :: t196 :: t197 :: t198 :: t199 :: t200 :: t201 :: t202 :: t203 :: t204 :: t205 :: t206 :: t207 :: t208 :: t209 :: t210 :: t211 :: t212 :: t213 :: t214 :: t215 :: t216 :: t217 :: t218 :: t219 :: t220 :: t221 :: t222 :: t223 :: t224 :: t225 :: t226 :: t227 :: t228 :: t229 :: t230 :: t231 :: t232 :: t233 :: t234 :: t235 :: t236 :: t237 :: t238 :: t239 :: t240 :: t241 :: t242 :: t243 :: t244 :: t245 :: t246 :: t247 :: t248 :: t249 :: t250 :: t251 :: t252 :: t253 :: t254 :: t255 :: t256 :: t257 :: t258 :: t259 :: t260 :: t261 :: t262 :: t263 :: t264 :: t265 :: t266 :: t267 :: t268 :: t269 :: t270 :: t271 :: t272 :: t273 :: t274 :: t275 :: t276 :: t277 :: t278 :: t279 :: t280 :: t281 :: t282 :: t283 :: t284 :: t285 :: t286 :: t287 :: t288 :: t289 :: t290 :: t291 :: t292 :: t293 :: t294 :: t295 :: t296 :: t297 :: t298 :: t299 :: t300 :: t301 :: t302 :: t303 :: t304 :: t305 :: t306 :: t307 :: t308 :: t309 :: t310 :: t311 :: t312 :: t313 :: t314 :: t315 :: t316 :: t317 :: t318 :: t319 :: t320 :: t321 :: t322 :: t323 :: t324 :: t325 :: t326 :: t327 :: t328 :: t329 :: t330 :: t331 :: t332 :: t333 :: t334 :: t335 :: t336 :: t337 :: t338 :: t339 :: t340 :: t341 :: t342 :: t343 :: t344 :: t345 :: t346 :: t347 :: t348 :: t349 :: t350 :: t351 :: t352 :: t353 :: []), []⟩ w') :
    Code.wp Tryz.prog (Code.loop jL1) Q0 ⟨List.toArray (t0 :: t1 :: t2 :: t3 :: t4 :: t5 :: t6 :: .slice none 0 0 :: t8 :: t9 :: t10 :: t11 :: t12 :: t13 :: t14 :: t15 :: t16 :: t17 :: t18 :: t19 :: t20 :: t21 :: t22 :: t23 :: t24 :: t25 :: t26 :: t27 :: t28 :: t29 :: t30 :: t31 :: t32 :: t33 :: t34 :: t35 :: t36 :: t37 :: t38 :: t39 :: t40 :: t41 :: t42 :: t43 :: t44 :: t45 :: t46 :: t47 :: t48 :: t49 :: t50 :: t51 :: t52 :: t53 :: t54 :: t55 :: t56 :: t57 :: t58 :: t59 :: t60 :: t61 :: .slice A3 l.length c3 :: .int .i64 l.length :: .int .i64 0 :: t65 :: t66 :: t67 :: t68 :: t69 :: t70 :: t71 :: t72 :: t73 :: t74 :: t75 :: t76 :: t77 :: t78 :: t79 :: t80 :: t81 :: t82 :: t83 :: t84 :: t85 :: t86 :: t87 :: t88 :: t89 :: t90 :: t91 :: t92 :: t93 :: t94 :: t95 :: t96 :: t97 :: t98 :: t99 :: t100 :: t101 :: t102 :: t103 :: t104 :: t105 :: t106 :: t107 :: t108 :: t109 :: t110 :: t111 :: t112 :: t113 :: t114 :: t115 :: t116 :: t117 :: t118 :: t119 :: t120 :: t121 :: t122 :: t123 :: t124 :: t125 :: t126 :: t127 :: t128 :: t129 :: t130 :: t131 :: t132 :: t133 :: t134 :: t135 :: t136 :: t137 :: t138 :: t139 :: t140 :: t141 :: t142 :: t143 :: t144 :: t145 :: t146 :: t147 :: t148 :: t149 :: t150 :: t151 :: t152 :: t153 :: t154 :: t155 :: t156 :: t157 :: t158 :: t159 :: t160 :: t161 :: t162 :: t163 :: t164 :: t165 :: t166 :: t167 :: t168 :: t169 :: t170 :: t171 :: t172 :: t173 :: t174 :: t175 :: t176 :: t177 :: t178 :: t179 :: t180 :: t181 :: t182 :: t183 :: t184 :: t185 :: t186 :: t187 :: t188 :: t189 :: t190 :: t191 :: t192 :: t193 :: t194 :: t195 :: t196 :: t197 :: t198 :: t199 :: t200 :: t201 :: t202 :: t203 :: t204 :: t205 :: t206 :: t207 :: t208 :: t209 :: t210 :: t211 :: t212 :: t213 :: t214 :: t215 :: t216 :: t217 :: t218 :: t219 :: t220 :: t221 :: t222 :: t223 :: t224 :: t225 :: t226 :: t227 :: t228 :: t229 :: t230 :: t231 :: t232 :: t233 :: t234 :: t235 :: t236 :: t237 :: t238 :: t239 :: t240 :: t241 :: t242 :: t243 :: t244 :: t245 :: t246 :: t247 :: t248 :: t249 :: t250 :: t251 :: t252 :: t253 :: t254 :: t255 :: t256 :: t257 :: t258 :: t259 :: t260 :: t261 :: t262 :: t263 :: t264 :: t265 :: t266 :: t267 :: t268 :: t269 :: t270 :: t271 :: t272 :: t273 :: t274 :: t275 :: t276 :: t277 :: t278 :: t279 :: t280 :: t281 :: t282 :: t283 :: t284 :: t285 :: t286 :: t287 :: t288 :: t289 :: t290 :: t291 :: t292 :: t293 :: t294 :: t295 :: t296 :: t297 :: t298 :: t299 :: t300 :: t301 :: t302 :: t303 :: t304 :: t305 :: t306 :: t307 :: t308 :: t309 :: t310 :: t311 :: t312 :: t313 :: t314 :: t315 :: t316 :: t317 :: t318 :: t319 :: t320 :: t321 :: t322 :: t323 :: t324 :: t325 :: t326 :: t327 :: t328 :: t329 :: t330 :: t331 :: t332 :: t333 :: t334 :: t335 :: t336 :: t337 :: t338 :: t339 :: t340 :: t341 :: t342 :: t343 :: t344 :: t345 :: t346 :: t347 :: t348 :: t349 :: t350 :: t351 :: t352 :: t353 :: []), []⟩ W := by
  conv => arg 2; arg 1; whnf
  have HX := hd hexit
  clear hexit
  obtain ⟨j0, hj, hy0, hy1, hy2⟩ := info_parts ruleInfo
  obtain ⟨A', c', e', hc1, hc2, hc⟩ := RU.out
  cases e'
  unfold maxLen at hc2
  have HC := hd hc
  have HJ := hd (And.intro hj (And.intro hy0 (And.intro hy1 hy2)))
  have hn := HN.out
  clear hc hj hy0 hy1 hy2
  go_loopw [7, 64] (fun o i wr => ∃ k : Nat, k ≤ l.length ∧ i = .int .i64 k ∧ Hid (wr.ownsRow W.heap.size 34 3 o k (ruc (l.take k))) ∧ Below W.heap.size W wr) (fun _ i _ => l.length - (intOf i).toNat)
  case atStart => exact ⟨0, Nat.zero_le _, rfl, hd (World.ownsRow_nil _ _ _ _), Below.refl _ _⟩
  case round =>
    obtain ⟨k, hk, rfl, HO, hb⟩ := hrel
    obtain ⟨A5, c5, hv5, -⟩ := own_form HO.out
    subst hv5
    by_cases hlt : k < l.length
    · obtain ⟨b, off, rfl, hbb, hcell⟩ := HC.out (by omega)
      obtain ⟨q0, q1, q2⟩ := ruc_getD l k hlt
      have hs0 := (hb.cell (p := ⟨b, _, none⟩) hbb).trans ((hcell (k * 3) (by rw [ruc_len]; omega)).trans q0)
      have hs1 := (hb.cell (p := ⟨b, _, none⟩) hbb).trans ((hcell (k * 3 + 1) (by rw [ruc_len]; omega)).trans q1)
      have hs2 := (hb.cell (p := ⟨b, _, none⟩) hbb).trans ((hcell (k * 3 + 2) (by rw [ruc_len]; omega)).trans q2)
      rw [← Nat.add_assoc] at hs1 hs2
      have HTK := hd (ruc_take l k hlt)
      have HW := hd hb
      clear hcell q0 q1 q2 hb
      generalize (l.getD k ru0).1 = kd at *
      generalize (l.getD k ru0).2.1 = A at *
      generalize (l.getD k ru0).2.2 = B at *
      have HCN := hd (show ∀ j u, ([.string kd, .int .i64 A, .int .i64 B] : List Value)[j]? = some u → ((wr.alloc (.cells #[.string kd, .int .i64 A, .int .i64 B] 33)).alloc (.cells #[.string kd, .int .i64 A, .int .i64 B] 34)).cell? ((⟨wr.heap.size + 1, 0, none⟩ : Addr).add j) = some u from by
        have := cells_new (wr.alloc (.cells #[.string kd, .int .i64 A, .int .i64 B] 33)) #[.string kd, .int .i64 A, .int .i64 B] 34 [.string kd, .int .i64 A, .int .i64 B] rfl
        rwa [World.size_alloc] at this)
      have HWN := hd ((HW.out.alloc HW.out.size (.cells #[.string kd, .int .i64 A, .int .i64 B] 33)).alloc (by have := HW.out.size; simp; omega) (.cells #[.string kd, .int .i64 A, .int .i64 B] 34))
      have HRN := hd ((HO.out.alloc (.cells #[.string kd, .int .i64 A, .int .i64 B] 33)).alloc (.cells #[.string kd, .int .i64 A, .int .i64 B] 34))
      have HNB := hd (show k + 1 ≤ maxLen ∧ (k + 1) * 32 ≤ 140737488355328 by unfold maxLen; omega)
      go_wp2_with (at_builtin; refine Hid.out ?_)
      refine hd ?_
      refine wpList_append_own _ rfl (.tmp 68) (.tmp 70) 31 rfl W.heap.size 34 j0 (.agg #[.string ⟨#[]⟩, .int .i64 0, .int .i64 0]) 3 32 Tryz.underlying31 HJ.out.1 HJ.out.2.1 HJ.out.2.2.1 HJ.out.2.2.2 rfl (by decide) _ k _ rfl HRN.out ⟨wr.heap.size + 1, 0, none⟩ 1 1 [.string kd, .int .i64 A, .int .i64 B] rfl rfl HCN.out (by simp [Value.oneCell']) HNB.out.1 HNB.out.2 HWN.out.size ?_
      intro v7 w7 hown7 hg7 _
      have H1 := hd (show w7.ownsRow W.heap.size 34 3 v7 (k + 1) (ruc (l.take (k + 1))) by rw [HTK.out]; exact hown7)
      have H3 := hd (HWN.out.trans (gb_below hg7 HWN.out.size (fun kk hk => (HRN.out.lt kk hk).1)))
      clear hown7 hg7 HTK HCN HWN HRN HW hs0 hs1 hs2
      go_wp2
      go_roundw
      case rel => exact ⟨k + 1, by omega, by go_num, H1, H3.out⟩
      case measure => simp [intOf]; omega
    · have hke : k = l.length := by omega
      subst hke
      have HO9 := hd (show wr.ownsRow W.heap.size 34 3 (.slice A5 l.length c5) l.length (ruc l) from by have := HO.out; rwa [List.take_length] at this)
      have HW := hd hb
      clear hb HO
      go_wp2_with fail
      exact HX.out _ _ _ _ _ _ _ _ _ _ _ _ _ ⟨HO9.out, HW.out⟩

set_option maxRecDepth 1000000 in
set_option maxHeartbeats 8000000 in
theorem rec_l2 (AX : Option Addr) (n cX : Nat) (R : List Int) (W : World) (Q0 : Exit → Act → World → Prop)
    (RX : Hid (Rd W W.heap.size (.slice AX n cX) n (R.map (Value.int .i64)))) (HN : Hid (n ≤ 100000 ∧ R.length = n))
    {t0 t1 t2 t3 t4 t5 t6 t7 t8 t9 t10 t11 t12 t13 t14 t15 t17 t18 t19 t20 t21 t22 t23 t24 t25 t26 t27 t28 t29 t30 t31 t32 t33 t34 t35 t36 t37 t38 t39 t40 t41 t42 t43 t44 t45 t46 t47 t48 t49 t50 t51 t52 t53 t54 t55 t56 t57 t58 t59 t60 t61 t62 t63 t64 t65 t66 t67 t68 t69 t70 t71 t72 t73 t74 t75 t76 t77 t78 t79 t80 t81 t82 t83 t84 t85 t86 t87 t88 t89 t90 t91 t92 t93 t94 t95 t96 t97 t98 t99 t100 t101 t102 t103 t104 t105 t106 t107 t108 t109 t110 t111 t112 t113 t114 t115 t116 t117 t118 t119 t120 t121 t122 t123 t124 t125 t126 t127 t128 t129 t130 t131 t132 t133 t134 t135 t136 t137 t141 t142 t143 t144 t145 t146 t147 t148 t149 t150 t151 t152 t153 t154 t155 t156 t157 t158 t159 t160 t161 t162 t163 t164 t165 t166 t167 t168 t169 t170 t171 t172 t173 t174 t175 t176 t177 t178 t179 t180 t181 t182 t183 t184 t185 t186 t187 t188 t189 t190 t191 t192 t193 t194 t195 t196 t197 t198 t199 t200 t201 t202 t203 t204 t205 t206 t207 t208 t209 t210 t211 t212 t213 t214 t215 t216 t217 t218 t219 t220 t221 t222 t223 t224 t225 t226 t227 t228 t229 t230 t231 t232 t233 t234 t235 t236 t237 t238 t239 t240 t241 t242 t243 t244 t245 t246 t247 t248 t249 t250 t251 t252 t253 t254 t255 t256 t257 t258 t259 t260 t261 t262 t263 t264 t265 t266 t267 t268 t269 t270 t271 t272 t273 t274 t275 t276 t277 t278 t279 t280 t281 t282 t283 t284 t285 t286 t287 t288 t289 t290 t291 t292 t293 t294 t295 t296 t297 t298 t299 t300 t301 t302 t303 t304 t305 t306 t307 t308 t309 t310 t311 t312 t313 t314 t315 t316 t317 t318 t319 t320 t321 t322 t323 t324 t325 t326 t327 t328 t329 t330 t331 t332 t333 t334 t335 t336 t337 t338 t339 t340 t341 t342 t343 t344 t345 t346 t347 t348 t349 t350 t351 t352 t353 : Value}
    (hexit : ∀ (u18 u140 u141 u142 u143 u144 u145 u146 u147 u148 : Value) (w' : World), Below W.heap.size W w' → Q0 (.exit 2) ⟨List.toArray (t0 :: t1 :: t2 :: t3 :: t4 :: t5 :: t6 :: t7 :: t8 :: t9 :: t10 :: t11 :: t12 :: t13 :: t14 :: t15 :: .int .i64 (lsK R n) :: t17 :: u18 :: t19 :: t20 :: t21 :: t22 :: t23 :: t24 :: t25 :: t26 :: t27 :: t28 :: t29 :: t30 :: t31 :: t32 :: t33 :: t34 :: t35 :: t36 :: t37 :: t38 :: t39 :: t40 :: t41 :: t42 :: t43 :: t44 :: t45 :: t46 :: t47 :: t48 :: t49 :: t50 :: t51 :: t52 :: t53 :: t54 :: t55 :: t56 :: t57 :: t58 :: t59 :: t60 :: t61 :: t62 :: t63 :: t64 :: t65 :: t66 :: t67 :: t68 :: t69 :: t70 :: t71 :: t72 :: t73 :: t74 :: t75 :: t76 :: t77 :: t78 :: t79 :: t80 :: t81 :: t82 :: t83 :: t84 :: t85 :: t86 :: t87 :: t88 :: t89 :: t90 :: t91 :: t92 :: t93 :: t94 :: t95 :: t96 :: t97 :: t98 :: t99 :: t100 :: t101 :: t102 :: t103 :: t104 :: t105 :: t106 :: t107 :: t108 :: t109 :: t110 :: t111 :: t112 :: t113 :: t114 :: t115 :: t116 :: t117 :: t118 :: t119 :: t120 :: t121 :: t122 :: t123 :: t124 :: t125 :: t126 :: t127 :: t128 :: t129 :: t130 :: t131 :: t132 :: t133 :: t134 :: t135 :: t136 :: t137 :: .slice AX n cX :: .int .i64 n :: u140 :: u141 :: u142 :: u143 :: u144 :: u145 :: u146 :: u147 :: u148 :: t149 :: t150 :: t151 :: t152 :: t153 :: t154 :: t155 :: t156 :: t157 :: t158 :: t159 :: t160 :: t161 :: t162 :: t163 :: t164 :: t165 :: t166 :: t167 :: t168 :: t169 :: t170 :: t171 :: t172 :: t173 :: t174 :: t175 :: t176 :: t177 :: t178 :: t179 :: t180 :: t181 :: t182 :: t183 :: t184 :: t185 :: t186 :: t187 :: t188 :: t189 :: t190 :: t191 :: t192 :: t193 :: t194 :: t195 :: t196 :: t197 :: t198 :: t199 :: t200 :: t201 :: t202 :: t203 :: t204 :: t205 :: t206 :: t207 :: t208 :: t209 :: t210 :: t211 :: t212 :: t213 :: t214 :: t215 :: t216 :: t217 :: t218 :: t219 :: t220 :: t221 :: t222 :: t223 :: t224 :: t225 :: t226 :: t227 :: t228 :: t229 :: t230 :: t231 :: t232 :: t233 :: t234 :: t235 :: t236 :: t237 :: t238 :: t239 :: t240 :: t241 :: t242 :: t243 :: t244 :: t245 :: t246 :: t247 :: t248 :: t249 :: t250 :: t251 :: t252 :: t253 :: t254 :: t255 :: t256 :: t257 :: t258 :: t259 :: t260 :: t261 :: t262 :: t263 :: t264 :: t265 :: t266 :: t267 :: t268 :: t269 :: t270 :: t271 :: t272 :: t273 :: t274 :: t275 :: t276 :: t277 :: t278 :: t279 :: t280 :: t281 :: t282 :: t283 :: t284 :: t285 :: t286 :: t287 :: t288 :: t289 :: t290 :: t291 :: t292 :: t293 :: t294 :: t295 :: t296 :: t297 :: t298 :: t299 :: t300 :: t301 :: t302 :: t303 :: t304 :: t305 :: t306 :: t307 :: t308 :: t309 :: t310 :: t311 :: t312 :: t313 :: t314 :: t315 :: t316 :: t317 :: t318 :: t319 :: t320 :: t321 :: t322 :: t323 :: t324 :: t325 :: t326 :: t327 :: t328 :: t329 :: t330 :: t331 :: t332 :: t333 :: t334 :: t335 :: t336 :: t337 :: t338 :: t339 :: t340 :: t341 :: t342 :: t343 :: t344 :: t345 :: t346 :: t347 :: t348 :: t349 :: t350 :: t351 :: t352 :: t353 :: []), []⟩ w') :
    Code.wp Tryz.prog (Code.loop jL2) Q0 ⟨List.toArray (t0 :: t1 :: t2 :: t3 :: t4 :: t5 :: t6 :: t7 :: t8 :: t9 :: t10 :: t11 :: t12 :: t13 :: t14 :: t15 :: .int .i64 0 :: t17 :: t18 :: t19 :: t20 :: t21 :: t22 :: t23 :: t24 :: t25 :: t26 :: t27 :: t28 :: t29 :: t30 :: t31 :: t32 :: t33 :: t34 :: t35 :: t36 :: t37 :: t38 :: t39 :: t40 :: t41 :: t42 :: t43 :: t44 :: t45 :: t46 :: t47 :: t48 :: t49 :: t50 :: t51 :: t52 :: t53 :: t54 :: t55 :: t56 :: t57 :: t58 :: t59 :: t60 :: t61 :: t62 :: t63 :: t64 :: t65 :: t66 :: t67 :: t68 :: t69 :: t70 :: t71 :: t72 :: t73 :: t74 :: t75 :: t76 :: t77 :: t78 :: t79 :: t80 :: t81 :: t82 :: t83 :: t84 :: t85 :: t86 :: t87 :: t88 :: t89 :: t90 :: t91 :: t92 :: t93 :: t94 :: t95 :: t96 :: t97 :: t98 :: t99 :: t100 :: t101 :: t102 :: t103 :: t104 :: t105 :: t106 :: t107 :: t108 :: t109 :: t110 :: t111 :: t112 :: t113 :: t114 :: t115 :: t116 :: t117 :: t118 :: t119 :: t120 :: t121 :: t122 :: t123 :: t124 :: t125 :: t126 :: t127 :: t128 :: t129 :: t130 :: t131 :: t132 :: t133 :: t134 :: t135 :: t136 :: t137 :: .slice AX n cX :: .int .i64 n :: .int .i64 0 :: t141 :: t142 :: t143 :: t144 :: t145 :: t146 :: t147 :: t148 :: t149 :: t150 :: t151 :: t152 :: t153 :: t154 :: t155 :: t156 :: t157 :: t158 :: t159 :: t160 :: t161 :: t162 :: t163 :: t164 :: t165 :: t166 :: t167 :: t168 :: t169 :: t170 :: t171 :: t172 :: t173 :: t174 :: t175 :: t176 :: t177 :: t178 :: t179 :: t180 :: t181 :: t182 :: t183 :: t184 :: t185 :: t186 :: t187 :: t188 :: t189 :: t190 :: t191 :: t192 :: t193 :: t194 :: t195 :: t196 :: t197 :: t198 :: t199 :: t200 :: t201 :: t202 :: t203 :: t204 :: t205 :: t206 :: t207 :: t208 :: t209 :: t210 :: t211 :: t212 :: t213 :: t214 :: t215 :: t216 :: t217 :: t218 :: t219 :: t220 :: t221 :: t222 :: t223 :: t224 :: t225 :: t226 :: t227 :: t228 :: t229 :: t230 :: t231 :: t232 :: t233 :: t234 :: t235 :: t236 :: t237 :: t238 :: t239 :: t240 :: t241 :: t242 :: t243 :: t244 :: t245 :: t246 :: t247 :: t248 :: t249 :: t250 :: t251 :: t252 :: t253 :: t254 :: t255 :: t256 :: t257 :: t258 :: t259 :: t260 :: t261 :: t262 :: t263 :: t264 :: t265 :: t266 :: t267 :: t268 :: t269 :: t270 :: t271 :: t272 :: t273 :: t274 :: t275 :: t276 :: t277 :: t278 :: t279 :: t280 :: t281 :: t282 :: t283 :: t284 :: t285 :: t286 :: t287 :: t288 :: t289 :: t290 :: t291 :: t292 :: t293 :: t294 :: t295 :: t296 :: t297 :: t298 :: t299 :: t300 :: t301 :: t302 :: t303 :: t304 :: t305 :: t306 :: t307 :: t308 :: t309 :: t310 :: t311 :: t312 :: t313 :: t314 :: t315 :: t316 :: t317 :: t318 :: t319 :: t320 :: t321 :: t322 :: t323 :: t324 :: t325 :: t326 :: t327 :: t328 :: t329 :: t330 :: t331 :: t332 :: t333 :: t334 :: t335 :: t336 :: t337 :: t338 :: t339 :: t340 :: t341 :: t342 :: t343 :: t344 :: t345 :: t346 :: t347 :: t348 :: t349 :: t350 :: t351 :: t352 :: t353 :: []), []⟩ W := by
  conv => arg 2; arg 1; whnf
  have HX := hd hexit
  clear hexit
  go_loopw [16, 140] (fun s kv wr => ∃ k : Nat, k ≤ n ∧ s = .int .i64 (lsK R k) ∧ kv = .int .i64 k ∧ Hid (Below W.heap.size W wr)) (fun _ kv _ => n - (intOf kv).toNat)
  case atStart => exact ⟨0, Nat.zero_le _, rfl, rfl, hd (Below.refl _ _)⟩
  case round =>
    obtain ⟨k, hk, rfl, rfl, HJ⟩ := hrel
    have HLT := hd (show n ≤ 100000 from HN.out.1)
    have hnn : n ≤ 100000 := HN.out.1
    obtain ⟨z1, z2⟩ := lsK_bnd R k
    by_cases hlt : k < n
    · have hki : (k : Int) < (n : Int) := by omega
      have HLK := hd hlt
      obtain ⟨xb, xo, rfl, hx0⟩ := rdIJ RX.out HN.out.2 HJ.out hlt
      have HNX := hd (show lsK R (k + 1) = lsK R k + (if 0 < R.getD k 0 then 1 else 0) from rfl)
      generalize R.getD k 0 = r at *
      generalize lsK R k = s at *
      have e1 : IntKind.i64.wrap (s + 1) = s + 1 := IntWalk.i64_in _ (by omega)
      clear hlt hk
      by_cases hr : 0 < r
      · have hr' : (0 : Int) < r := hr
        rw [if_pos hr] at HNX
        go_wp2
        go_roundw
        case rel => exact ⟨k + 1, by have := HLK.out; omega, by rw [HNX.out], by have := HLT.out; go_num, HJ⟩
        case measure => have := HLK.out; simp [intOf]; omega
      · have hr' : ¬ (0 : Int) < r := hr
        rw [if_neg hr] at HNX
        go_wp2
        go_roundw
        case rel => exact ⟨k + 1, by have := HLK.out; omega, by rw [HNX.out]; simp, by have := HLT.out; go_num, HJ⟩
        case measure => have := HLK.out; simp [intOf]; omega
    · have hki : ¬ (k : Int) < (n : Int) := by omega
      have hke : k = n := by omega
      subst hke
      go_wp2_with fail
      exact HX.out _ _ _ _ _ _ _ _ _ _ _ HJ.out

theorem idx3J0 (a0 a1 a2 a3 a4 a5 a6 a7 a8 a9 a10 a11 : Value) (w : World) : (Instr.index 64 (.agg #[a0, a1, a2, a3, a4, a5, a6, a7, a8, a9, a10, a11]) (.int .i64 0)).run Tryz.prog w = .ok (.agg #[a0, a1, a2, a3]) w := by kernel_rfl
theorem idx3J1 (a0 a1 a2 a3 a4 a5 a6 a7 a8 a9 a10 a11 : Value) (w : World) : (Instr.index 64 (.agg #[a0, a1, a2, a3, a4, a5, a6, a7, a8, a9, a10, a11]) (.int .i64 1)).run Tryz.prog w = .ok (.agg #[a4, a5, a6, a7]) w := by kernel_rfl
theorem idx3J2 (a0 a1 a2 a3 a4 a5 a6 a7 a8 a9 a10 a11 : Value) (w : World) : (Instr.index 64 (.agg #[a0, a1, a2, a3, a4, a5, a6, a7, a8, a9, a10, a11]) (.int .i64 2)).run Tryz.prog w = .ok (.agg #[a8, a9, a10, a11]) w := by kernel_rfl

set_option maxRecDepth 1000000 in
set_option maxHeartbeats 8000000 in
theorem rec_l5 (nm0 nm1 nm2 : ByteArray) (st0 st1 st2 k0 k1 k2 s0 s1 s2 e0 e1 e2 : Int) (A0 A1 A2 B0 B1 B2 : Option Addr) (n0 n1 n2 c0 c1 c2 m0 m1 m2 d0 d1 d2 S lo0 lo1 lo2 hi0 hi1 hi2 : Nat) (W : World) (Q0 : Exit → Act → World → Prop)
    (HS0 : Hid (W.heap[S]? = some (.cells #[.int .i64 0, .int .i64 0, .float .f32 0, .float .f32 0, .int .i64 0, .int .i64 0, .float .f32 0, .float .f32 0, .int .i64 0, .int .i64 0, .float .f32 0, .float .f32 0] 63 (0, 0))))
    (SU0 : Hid (∀ X : World, SJ S W X → Calls Tryz.prog 19 #[.agg #[.string nm0, .int .i64 st0, .slice A0 n0 c0, .slice B0 m0 d0]] X (GotSJ k0 s0 e0 lo0 hi0 X))) (HE0 : Hid (e0 = 0 ∨ e0 = 12)) (SU1 : Hid (∀ X : World, SJ S W X → Calls Tryz.prog 19 #[.agg #[.string nm1, .int .i64 st1, .slice A1 n1 c1, .slice B1 m1 d1]] X (GotSJ k1 s1 e1 lo1 hi1 X))) (HE1 : Hid (e1 = 0 ∨ e1 = 12)) (SU2 : Hid (∀ X : World, SJ S W X → Calls Tryz.prog 19 #[.agg #[.string nm2, .int .i64 st2, .slice A2 n2 c2, .slice B2 m2 d2]] X (GotSJ k2 s2 e2 lo2 hi2 X))) (HE2 : Hid (e2 = 0 ∨ e2 = 12))
    {t0 t1 t2 t3 t4 t5 t6 t7 t8 t9 t10 t11 t12 t13 t14 t15 t16 t17 t18 t19 t20 t21 t22 t23 t24 t25 t26 t27 t28 t29 t30 t31 t32 t33 t34 t35 t36 t37 t39 t40 t41 t42 t43 t44 t45 t46 t47 t48 t49 t50 t51 t52 t53 t54 t55 t56 t57 t58 t59 t60 t61 t62 t63 t64 t65 t66 t67 t68 t69 t70 t71 t72 t73 t74 t75 t76 t77 t78 t79 t80 t81 t82 t83 t84 t85 t86 t87 t88 t89 t90 t91 t92 t93 t94 t95 t96 t97 t98 t99 t100 t101 t102 t103 t104 t105 t106 t107 t108 t109 t110 t111 t112 t113 t114 t115 t116 t117 t118 t119 t120 t121 t122 t123 t124 t125 t126 t127 t128 t129 t130 t131 t132 t133 t134 t135 t136 t137 t138 t139 t140 t141 t142 t143 t144 t145 t146 t147 t148 t149 t150 t151 t152 t153 t154 t155 t156 t157 t158 t159 t160 t161 t162 t163 t164 t165 t166 t167 t168 t169 t170 t171 t172 t173 t174 t175 t176 t177 t178 t179 t180 t181 t182 t183 t184 t185 t186 t187 t188 t189 t190 t191 t192 t193 t194 t195 t196 t197 t198 t199 t200 t201 t202 t203 t204 t205 t206 t207 t208 t209 t210 t211 t212 t213 t214 t215 t216 t217 t218 t219 t220 t221 t222 t223 t224 t225 t226 t227 t228 t229 t230 t231 t232 t233 t234 t235 t236 t237 t238 t239 t240 t241 t242 t243 t244 t245 t246 t247 t248 t249 t250 t251 t252 t253 t254 t255 t256 t257 t258 t259 t260 t261 t262 t263 t264 t265 t266 t267 t268 t269 t270 t271 t272 t273 t274 t275 t276 t277 t278 t279 t280 t281 t282 t283 t284 t285 t286 t287 t288 t289 t290 t291 t292 t293 t296 t297 t298 t299 t300 t301 t302 t303 t304 t305 t306 t307 t308 t309 t310 t311 t312 t313 t314 t315 t316 t317 t318 t319 t320 t321 t322 t323 t324 t325 t326 t327 t328 t329 t330 t331 t332 t333 t334 t335 t336 t337 t338 t339 t340 t341 t342 t343 t344 t345 t346 t347 t348 t349 t350 t351 t352 t353 : Value}
    (hexit : ∀ (u6 u39 u40 u41 u42 u295 u296 u297 u298 u299 u300 u301 u302 u303 u304 u305 u306 u307 u308 u309 u310 u311 u312 u313 : Value) (w' : World), w'.heap[S]? = some (.cells #[.int .i64 k0, .int .i64 s0, .float .f32 lo0, .float .f32 hi0, .int .i64 k1, .int .i64 s1, .float .f32 lo1, .float .f32 hi1, .int .i64 k2, .int .i64 s2, .float .f32 lo2, .float .f32 hi2] 63 (0, 0)) ∧ SJ S W w' → Q0 (.exit 8) ⟨List.toArray (t0 :: t1 :: t2 :: t3 :: t4 :: t5 :: u6 :: t7 :: t8 :: t9 :: t10 :: t11 :: t12 :: t13 :: t14 :: t15 :: t16 :: t17 :: t18 :: t19 :: t20 :: t21 :: t22 :: t23 :: t24 :: t25 :: t26 :: t27 :: t28 :: t29 :: t30 :: t31 :: t32 :: t33 :: t34 :: t35 :: t36 :: t37 :: .pointer (some ⟨S, 0, none⟩) :: u39 :: u40 :: u41 :: u42 :: t43 :: t44 :: t45 :: t46 :: t47 :: t48 :: t49 :: t50 :: t51 :: t52 :: t53 :: t54 :: t55 :: t56 :: t57 :: t58 :: t59 :: t60 :: t61 :: t62 :: t63 :: t64 :: t65 :: t66 :: t67 :: t68 :: t69 :: t70 :: t71 :: t72 :: t73 :: t74 :: t75 :: t76 :: t77 :: t78 :: t79 :: t80 :: t81 :: t82 :: t83 :: t84 :: t85 :: t86 :: t87 :: t88 :: t89 :: t90 :: t91 :: t92 :: t93 :: t94 :: t95 :: t96 :: t97 :: t98 :: t99 :: t100 :: t101 :: t102 :: t103 :: t104 :: t105 :: t106 :: t107 :: t108 :: t109 :: t110 :: t111 :: t112 :: t113 :: t114 :: t115 :: t116 :: t117 :: t118 :: t119 :: t120 :: t121 :: t122 :: t123 :: t124 :: t125 :: t126 :: t127 :: t128 :: t129 :: t130 :: t131 :: t132 :: t133 :: t134 :: t135 :: t136 :: t137 :: t138 :: t139 :: t140 :: t141 :: t142 :: t143 :: t144 :: t145 :: t146 :: t147 :: t148 :: t149 :: t150 :: t151 :: t152 :: t153 :: t154 :: t155 :: t156 :: t157 :: t158 :: t159 :: t160 :: t161 :: t162 :: t163 :: t164 :: t165 :: t166 :: t167 :: t168 :: t169 :: t170 :: t171 :: t172 :: t173 :: t174 :: t175 :: t176 :: t177 :: t178 :: t179 :: t180 :: t181 :: t182 :: t183 :: t184 :: t185 :: t186 :: t187 :: t188 :: t189 :: t190 :: t191 :: t192 :: t193 :: t194 :: t195 :: t196 :: t197 :: t198 :: t199 :: t200 :: t201 :: t202 :: t203 :: t204 :: t205 :: t206 :: t207 :: t208 :: t209 :: t210 :: t211 :: t212 :: t213 :: t214 :: t215 :: t216 :: t217 :: t218 :: t219 :: t220 :: t221 :: t222 :: t223 :: t224 :: t225 :: t226 :: t227 :: t228 :: t229 :: t230 :: t231 :: t232 :: t233 :: t234 :: t235 :: t236 :: t237 :: t238 :: t239 :: t240 :: t241 :: t242 :: t243 :: t244 :: t245 :: t246 :: t247 :: t248 :: t249 :: t250 :: t251 :: t252 :: t253 :: t254 :: t255 :: t256 :: t257 :: t258 :: t259 :: t260 :: t261 :: t262 :: t263 :: t264 :: t265 :: t266 :: t267 :: t268 :: t269 :: t270 :: t271 :: t272 :: t273 :: t274 :: t275 :: t276 :: t277 :: t278 :: t279 :: t280 :: t281 :: t282 :: t283 :: t284 :: t285 :: t286 :: t287 :: t288 :: t289 :: t290 :: t291 :: t292 :: t293 :: .agg #[.string nm0, .int .i64 st0, .slice A0 n0 c0, .slice B0 m0 d0, .string nm1, .int .i64 st1, .slice A1 n1 c1, .slice B1 m1 d1, .string nm2, .int .i64 st2, .slice A2 n2 c2, .slice B2 m2 d2] :: u295 :: u296 :: u297 :: u298 :: u299 :: u300 :: u301 :: u302 :: u303 :: u304 :: u305 :: u306 :: u307 :: u308 :: u309 :: u310 :: u311 :: u312 :: u313 :: t314 :: t315 :: t316 :: t317 :: t318 :: t319 :: t320 :: t321 :: t322 :: t323 :: t324 :: t325 :: t326 :: t327 :: t328 :: t329 :: t330 :: t331 :: t332 :: t333 :: t334 :: t335 :: t336 :: t337 :: t338 :: t339 :: t340 :: t341 :: t342 :: t343 :: t344 :: t345 :: t346 :: t347 :: t348 :: t349 :: t350 :: t351 :: t352 :: t353 :: []), []⟩ w') :
    Code.wp Tryz.prog (Code.loop jL5) Q0 ⟨List.toArray (t0 :: t1 :: t2 :: t3 :: t4 :: t5 :: t6 :: t7 :: t8 :: t9 :: t10 :: t11 :: t12 :: t13 :: t14 :: t15 :: t16 :: t17 :: t18 :: t19 :: t20 :: t21 :: t22 :: t23 :: t24 :: t25 :: t26 :: t27 :: t28 :: t29 :: t30 :: t31 :: t32 :: t33 :: t34 :: t35 :: t36 :: t37 :: .pointer (some ⟨S, 0, none⟩) :: t39 :: t40 :: t41 :: t42 :: t43 :: t44 :: t45 :: t46 :: t47 :: t48 :: t49 :: t50 :: t51 :: t52 :: t53 :: t54 :: t55 :: t56 :: t57 :: t58 :: t59 :: t60 :: t61 :: t62 :: t63 :: t64 :: t65 :: t66 :: t67 :: t68 :: t69 :: t70 :: t71 :: t72 :: t73 :: t74 :: t75 :: t76 :: t77 :: t78 :: t79 :: t80 :: t81 :: t82 :: t83 :: t84 :: t85 :: t86 :: t87 :: t88 :: t89 :: t90 :: t91 :: t92 :: t93 :: t94 :: t95 :: t96 :: t97 :: t98 :: t99 :: t100 :: t101 :: t102 :: t103 :: t104 :: t105 :: t106 :: t107 :: t108 :: t109 :: t110 :: t111 :: t112 :: t113 :: t114 :: t115 :: t116 :: t117 :: t118 :: t119 :: t120 :: t121 :: t122 :: t123 :: t124 :: t125 :: t126 :: t127 :: t128 :: t129 :: t130 :: t131 :: t132 :: t133 :: t134 :: t135 :: t136 :: t137 :: t138 :: t139 :: t140 :: t141 :: t142 :: t143 :: t144 :: t145 :: t146 :: t147 :: t148 :: t149 :: t150 :: t151 :: t152 :: t153 :: t154 :: t155 :: t156 :: t157 :: t158 :: t159 :: t160 :: t161 :: t162 :: t163 :: t164 :: t165 :: t166 :: t167 :: t168 :: t169 :: t170 :: t171 :: t172 :: t173 :: t174 :: t175 :: t176 :: t177 :: t178 :: t179 :: t180 :: t181 :: t182 :: t183 :: t184 :: t185 :: t186 :: t187 :: t188 :: t189 :: t190 :: t191 :: t192 :: t193 :: t194 :: t195 :: t196 :: t197 :: t198 :: t199 :: t200 :: t201 :: t202 :: t203 :: t204 :: t205 :: t206 :: t207 :: t208 :: t209 :: t210 :: t211 :: t212 :: t213 :: t214 :: t215 :: t216 :: t217 :: t218 :: t219 :: t220 :: t221 :: t222 :: t223 :: t224 :: t225 :: t226 :: t227 :: t228 :: t229 :: t230 :: t231 :: t232 :: t233 :: t234 :: t235 :: t236 :: t237 :: t238 :: t239 :: t240 :: t241 :: t242 :: t243 :: t244 :: t245 :: t246 :: t247 :: t248 :: t249 :: t250 :: t251 :: t252 :: t253 :: t254 :: t255 :: t256 :: t257 :: t258 :: t259 :: t260 :: t261 :: t262 :: t263 :: t264 :: t265 :: t266 :: t267 :: t268 :: t269 :: t270 :: t271 :: t272 :: t273 :: t274 :: t275 :: t276 :: t277 :: t278 :: t279 :: t280 :: t281 :: t282 :: t283 :: t284 :: t285 :: t286 :: t287 :: t288 :: t289 :: t290 :: t291 :: t292 :: t293 :: .agg #[.string nm0, .int .i64 st0, .slice A0 n0 c0, .slice B0 m0 d0, .string nm1, .int .i64 st1, .slice A1 n1 c1, .slice B1 m1 d1, .string nm2, .int .i64 st2, .slice A2 n2 c2, .slice B2 m2 d2] :: .int .i64 0 :: t296 :: t297 :: t298 :: t299 :: t300 :: t301 :: t302 :: t303 :: t304 :: t305 :: t306 :: t307 :: t308 :: t309 :: t310 :: t311 :: t312 :: t313 :: t314 :: t315 :: t316 :: t317 :: t318 :: t319 :: t320 :: t321 :: t322 :: t323 :: t324 :: t325 :: t326 :: t327 :: t328 :: t329 :: t330 :: t331 :: t332 :: t333 :: t334 :: t335 :: t336 :: t337 :: t338 :: t339 :: t340 :: t341 :: t342 :: t343 :: t344 :: t345 :: t346 :: t347 :: t348 :: t349 :: t350 :: t351 :: t352 :: t353 :: []), []⟩ W := by
  conv => arg 2; arg 1; whnf
  have HX := hd hexit
  clear hexit
  have HSL := hd (blk_lt HS0.out)
  go_loopw [295] (fun kv wr => ∃ k : Nat, k ≤ 3 ∧ kv = .int .i64 k ∧ Hid (wr.heap[S]? = some (.cells (match k with | 0 => #[.int .i64 0, .int .i64 0, .float .f32 0, .float .f32 0, .int .i64 0, .int .i64 0, .float .f32 0, .float .f32 0, .int .i64 0, .int .i64 0, .float .f32 0, .float .f32 0] | 1 => #[.int .i64 k0, .int .i64 s0, .float .f32 lo0, .float .f32 hi0, .int .i64 0, .int .i64 0, .float .f32 0, .float .f32 0, .int .i64 0, .int .i64 0, .float .f32 0, .float .f32 0] | 2 => #[.int .i64 k0, .int .i64 s0, .float .f32 lo0, .float .f32 hi0, .int .i64 k1, .int .i64 s1, .float .f32 lo1, .float .f32 hi1, .int .i64 0, .int .i64 0, .float .f32 0, .float .f32 0] | _ => #[.int .i64 k0, .int .i64 s0, .float .f32 lo0, .float .f32 hi0, .int .i64 k1, .int .i64 s1, .float .f32 lo1, .float .f32 hi1, .int .i64 k2, .int .i64 s2, .float .f32 lo2, .float .f32 hi2]) 63 (0, 0)) ∧ SJ S W wr)) (fun kv _ => 3 - (intOf kv).toNat)
  case atStart => exact ⟨0, by omega, rfl, hd ⟨HS0.out, SJ.refl _ _⟩⟩
  case round =>
    obtain ⟨k, hk, rfl, HJ⟩ := hrel
    by_cases hk3 : k < 3
    · rcases (show k = 0 ∨ k = 1 ∨ k = 2 by omega) with rfl | rfl | rfl
      · clear hk hk3
        have HB := hd (show wr.heap[S]? = some (.cells #[.int .i64 0, .int .i64 0, .float .f32 0, .float .f32 0, .int .i64 0, .int .i64 0, .float .f32 0, .float .f32 0, .int .i64 0, .int .i64 0, .float .f32 0, .float .f32 0] 63 (0, 0)) from HJ.out.1)
        have HW := hd HJ.out.2
        clear HJ
        have hix := idx3J0
        have HW2 := hd (HW.out.step HSL.out ((Below.refl _ wr).alloc (Nat.le_refl _) (Obj.cells #[.string nm0, .int .i64 st0, .slice A0 n0 c0, .slice B0 m0 d0] 35)))
        have HB2 := hd ((Below.heap_alloc wr (Obj.cells #[.string nm0, .int .i64 st0, .slice A0 n0 c0, .slice B0 m0 d0] 35) S (blk_lt HB.out)).trans HB.out)
        go_wp2_with fail
        refine (SU0.out _ HW2.out).mono ?_
        rintro e w2 ⟨rfl, hb⟩
        have HB3 := hd ((hb.block _ (blk_lt HB2.out)).trans HB2.out)
        have HW3 := hd (HW2.out.step HSL.out hb)
        clear hb
        have HB4 := hd ((Below.heap_alloc w2 (Obj.cells #[.int .i64 k0, .int .i64 s0, .float .f32 lo0, .float .f32 hi0] 62) S (blk_lt HB3.out)).trans HB3.out)
        have HW4 := hd (HW3.out.step HSL.out ((Below.refl _ w2).alloc (Nat.le_refl _) (Obj.cells #[.int .i64 k0, .int .i64 s0, .float .f32 lo0, .float .f32 hi0] 62)))
        have hZ := cells12J HB4.out
        obtain ⟨q0, q1, q2, q3, q4, q5, q6, q7, q8, q9, q10, q11⟩ := hZ
        have y0 := blk_frozen HB4.out 0
        have y1 := blk_frozen HB4.out 1
        have y2 := blk_frozen HB4.out 2
        have y3 := blk_frozen HB4.out 3
        have hns : w2.heap.size ≠ S := Nat.ne_of_gt (blk_lt HB3.out)
        have hns' := hns.symm
        rcases HE0.out with rfl | rfl
        · go_wp2
          have hq := setJ_blk HB4.out 0 (.int .i64 k0) (.int .i64 s0) (.float .f32 lo0) (.float .f32 hi0)
          have HW5 := hd (HW4.out.put (o := 0) (.int .i64 k0) (.int .i64 s0) (.float .f32 lo0) (.float .f32 hi0))
          simp at hq
          have HQ5 := hd hq
          clear hq
          go_roundw
          case rel => exact ⟨0 + 1, by omega, rfl, hd ⟨HQ5.out, HW5.out⟩⟩
          case measure => simp [intOf]
        · go_wp2
          have hq := setJ_blk HB4.out 0 (.int .i64 k0) (.int .i64 s0) (.float .f32 lo0) (.float .f32 hi0)
          have HW5 := hd (HW4.out.put (o := 0) (.int .i64 k0) (.int .i64 s0) (.float .f32 lo0) (.float .f32 hi0))
          simp at hq
          have HQ5 := hd hq
          clear hq
          go_roundw
          case rel => exact ⟨0 + 1, by omega, rfl, hd ⟨HQ5.out, HW5.out⟩⟩
          case measure => simp [intOf]
      · clear hk hk3
        have HB := hd (show wr.heap[S]? = some (.cells #[.int .i64 k0, .int .i64 s0, .float .f32 lo0, .float .f32 hi0, .int .i64 0, .int .i64 0, .float .f32 0, .float .f32 0, .int .i64 0, .int .i64 0, .float .f32 0, .float .f32 0] 63 (0, 0)) from HJ.out.1)
        have HW := hd HJ.out.2
        clear HJ
        have hix := idx3J1
        have HW2 := hd (HW.out.step HSL.out ((Below.refl _ wr).alloc (Nat.le_refl _) (Obj.cells #[.string nm1, .int .i64 st1, .slice A1 n1 c1, .slice B1 m1 d1] 35)))
        have HB2 := hd ((Below.heap_alloc wr (Obj.cells #[.string nm1, .int .i64 st1, .slice A1 n1 c1, .slice B1 m1 d1] 35) S (blk_lt HB.out)).trans HB.out)
        go_wp2_with fail
        refine (SU1.out _ HW2.out).mono ?_
        rintro e w2 ⟨rfl, hb⟩
        have HB3 := hd ((hb.block _ (blk_lt HB2.out)).trans HB2.out)
        have HW3 := hd (HW2.out.step HSL.out hb)
        clear hb
        have HB4 := hd ((Below.heap_alloc w2 (Obj.cells #[.int .i64 k1, .int .i64 s1, .float .f32 lo1, .float .f32 hi1] 62) S (blk_lt HB3.out)).trans HB3.out)
        have HW4 := hd (HW3.out.step HSL.out ((Below.refl _ w2).alloc (Nat.le_refl _) (Obj.cells #[.int .i64 k1, .int .i64 s1, .float .f32 lo1, .float .f32 hi1] 62)))
        have hZ := cells12J HB4.out
        obtain ⟨q0, q1, q2, q3, q4, q5, q6, q7, q8, q9, q10, q11⟩ := hZ
        have y0 := blk_frozen HB4.out 4
        have y1 := blk_frozen HB4.out 5
        have y2 := blk_frozen HB4.out 6
        have y3 := blk_frozen HB4.out 7
        have hns : w2.heap.size ≠ S := Nat.ne_of_gt (blk_lt HB3.out)
        have hns' := hns.symm
        rcases HE1.out with rfl | rfl
        · go_wp2
          have hq := setJ_blk HB4.out 4 (.int .i64 k1) (.int .i64 s1) (.float .f32 lo1) (.float .f32 hi1)
          have HW5 := hd (HW4.out.put (o := 4) (.int .i64 k1) (.int .i64 s1) (.float .f32 lo1) (.float .f32 hi1))
          simp at hq
          have HQ5 := hd hq
          clear hq
          go_roundw
          case rel => exact ⟨1 + 1, by omega, rfl, hd ⟨HQ5.out, HW5.out⟩⟩
          case measure => simp [intOf]
        · go_wp2
          have hq := setJ_blk HB4.out 4 (.int .i64 k1) (.int .i64 s1) (.float .f32 lo1) (.float .f32 hi1)
          have HW5 := hd (HW4.out.put (o := 4) (.int .i64 k1) (.int .i64 s1) (.float .f32 lo1) (.float .f32 hi1))
          simp at hq
          have HQ5 := hd hq
          clear hq
          go_roundw
          case rel => exact ⟨1 + 1, by omega, rfl, hd ⟨HQ5.out, HW5.out⟩⟩
          case measure => simp [intOf]
      · clear hk hk3
        have HB := hd (show wr.heap[S]? = some (.cells #[.int .i64 k0, .int .i64 s0, .float .f32 lo0, .float .f32 hi0, .int .i64 k1, .int .i64 s1, .float .f32 lo1, .float .f32 hi1, .int .i64 0, .int .i64 0, .float .f32 0, .float .f32 0] 63 (0, 0)) from HJ.out.1)
        have HW := hd HJ.out.2
        clear HJ
        have hix := idx3J2
        have HW2 := hd (HW.out.step HSL.out ((Below.refl _ wr).alloc (Nat.le_refl _) (Obj.cells #[.string nm2, .int .i64 st2, .slice A2 n2 c2, .slice B2 m2 d2] 35)))
        have HB2 := hd ((Below.heap_alloc wr (Obj.cells #[.string nm2, .int .i64 st2, .slice A2 n2 c2, .slice B2 m2 d2] 35) S (blk_lt HB.out)).trans HB.out)
        go_wp2_with fail
        refine (SU2.out _ HW2.out).mono ?_
        rintro e w2 ⟨rfl, hb⟩
        have HB3 := hd ((hb.block _ (blk_lt HB2.out)).trans HB2.out)
        have HW3 := hd (HW2.out.step HSL.out hb)
        clear hb
        have HB4 := hd ((Below.heap_alloc w2 (Obj.cells #[.int .i64 k2, .int .i64 s2, .float .f32 lo2, .float .f32 hi2] 62) S (blk_lt HB3.out)).trans HB3.out)
        have HW4 := hd (HW3.out.step HSL.out ((Below.refl _ w2).alloc (Nat.le_refl _) (Obj.cells #[.int .i64 k2, .int .i64 s2, .float .f32 lo2, .float .f32 hi2] 62)))
        have hZ := cells12J HB4.out
        obtain ⟨q0, q1, q2, q3, q4, q5, q6, q7, q8, q9, q10, q11⟩ := hZ
        have y0 := blk_frozen HB4.out 8
        have y1 := blk_frozen HB4.out 9
        have y2 := blk_frozen HB4.out 10
        have y3 := blk_frozen HB4.out 11
        have hns : w2.heap.size ≠ S := Nat.ne_of_gt (blk_lt HB3.out)
        have hns' := hns.symm
        rcases HE2.out with rfl | rfl
        · go_wp2
          have hq := setJ_blk HB4.out 8 (.int .i64 k2) (.int .i64 s2) (.float .f32 lo2) (.float .f32 hi2)
          have HW5 := hd (HW4.out.put (o := 8) (.int .i64 k2) (.int .i64 s2) (.float .f32 lo2) (.float .f32 hi2))
          simp at hq
          have HQ5 := hd hq
          clear hq
          go_roundw
          case rel => exact ⟨2 + 1, by omega, rfl, hd ⟨HQ5.out, HW5.out⟩⟩
          case measure => simp [intOf]
        · go_wp2
          have hq := setJ_blk HB4.out 8 (.int .i64 k2) (.int .i64 s2) (.float .f32 lo2) (.float .f32 hi2)
          have HW5 := hd (HW4.out.put (o := 8) (.int .i64 k2) (.int .i64 s2) (.float .f32 lo2) (.float .f32 hi2))
          simp at hq
          have HQ5 := hd hq
          clear hq
          go_roundw
          case rel => exact ⟨2 + 1, by omega, rfl, hd ⟨HQ5.out, HW5.out⟩⟩
          case measure => simp [intOf]
    · obtain rfl : k = 3 := by omega
      have hkk : ¬ ((3 : Nat) : Int) < 3 := by omega
      go_wp2_with fail
      exact HX.out _ _ _ _ _ _ _ _ _ _ _ _ _ _ _ _ _ _ _ _ _ _ _ _ _ ⟨HJ.out.1, HJ.out.2⟩
end Go.Proofs.YtkgkpcmokmhakaaGreatDoor
