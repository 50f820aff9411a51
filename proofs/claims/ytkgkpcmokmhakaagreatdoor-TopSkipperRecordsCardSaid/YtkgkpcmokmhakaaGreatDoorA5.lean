/-
  extend, with the place of its row.
  gauge.Append at records that it takes.
-/
import Derived.Test.YtkgkpcmokmhakaaGreatDoorProg
import Derived.Test.YtkgkpcmokmhakaaGreatDoorA2
import Derived.Maps.AppendAt

namespace Go.Proofs.YtkgkpcmokmhakaaGreatDoor
open Go.RowKit
attribute [local go_sem] Oper.semAt_some

/-- What extend leaves, and where. -/
def Extd2 (base : Nat) (l : List (Int × Int)) (f t : Int) (v : Value) (w : World) (e : Ending) (w' : World) : Prop :=
  ∃ v', e = .returned v' ∧ w'.ownsRow base 50 2 v' (ext l f t).length (spc (ext l f t)) ∧ w.grownBy w' v.ownBlock ∧ v' ≠ .slice none 0 0 ∧ (v'.ownBlock = v.ownBlock ∨ ∃ g, v'.ownBlock = some g ∧ w.heap.size ≤ g)

/-- The state in which extend appends. -/
theorem ext_fin2 {base : Nat} {l : List (Int × Int)} {f t : Int} {v v' : Value} {w w' : World} {o o' : Obj} {nq : Nat} (he : ext l f t = l ++ [(f, t)])
    (hown' : w'.ownsRow base 50 2 v' (l.length + 1) (spc l ++ [.int .i64 f, .int .i64 t])) (hg : (((w.alloc o).drewN nq).alloc o').grownBy w' v.ownBlock) (hne : v' ≠ .slice none 0 0) (hat : v'.ownBlock = v.ownBlock ∨ v'.ownBlock = some (w.heap.size + 1 + 1)) :
    Extd2 base l f t v w (.returned v') w' :=
  ⟨v', rfl, by rw [he]; simpa [spc] using hown', gb_trans (gb_trans (World.grownBy_alloc w o _) (gb_trans (gb_drewN _ nq _) (World.grownBy_alloc _ o' _))) hg, hne, hat.imp id (fun h => ⟨_, h, by omega⟩)⟩

set_option maxRecDepth 100000 in
set_option maxHeartbeats 1000000 in
theorem ext_grow2 (base : Nat) (l : List (Int × Int)) (f t : Int) (A : Option Addr) (c : Nat) (w : World) (hown : w.ownsRow base 50 2 (.slice A l.length c) l.length (spc l)) (hb : base ≤ w.heap.size) (hlen : l.length ≤ 100000)
    (he : ext l f t = l ++ [(f, t)]) (hcase : l.length = 0 ∨ ∃ g x, A = some ⟨g, 0, none⟩ ∧ l.length ≤ c ∧ c ≤ maxLen ∧ 0 < l.length ∧ w.cell? ⟨g, (l.length - 1) * 2 + 1, none⟩ = some (.int .i64 x) ∧ x ≠ f ∧ g < w.heap.size) :
    Calls Tryz.prog 52 #[.slice A l.length c, .agg #[.int .i64 f, .int .i64 t]] w (Extd2 base l f t (.slice A l.length c) w) := by
  obtain ⟨i0, hi, hz0, hz1, hz2⟩ := info_parts spanInfo
  have h63 : l.length + 1 ≤ maxLen := by unfold maxLen; omega
  have hby : (l.length + 1) * 16 ≤ 140737488355328 := by omega
  have h48 : l.length ≤ 4611686018427387904 := by omega
  have H63 := hd h63
  have HBY := hd hby
  have HE := hd he
  have HO := hd hown
  have new2 := fun nq => new_two ((w.alloc (.cells #[Value.int .i64 f, Value.int .i64 t] 50)).drewN nq) (.int .i64 f) (.int .i64 t) 50
  simp only [size_drewN, World.size_alloc] at new2
  have N2 := hd new2
  clear hlen he h63 hby hown new2
  rcases hcase with h0 | ⟨g, x, rfl, hc1, hc2, hpos, hx, hxf, hg⟩
  · have hl0 : l = [] := List.eq_nil_of_length_eq_zero h0
    subst hl0
    clear h0 h48
    change Calls _ _ #[.slice A 0 c, _] w _
    go_enter Tryz.func52, Tryz.ntmps52
    go_wp2
    go_quiet (fail)
    go_wp2_with (at_builtin; refine wpList_append_own_at _ rfl (.tmp 28) (.tmp 30) 23 rfl base 50 i0 (.agg #[.int .i64 0, .int .i64 0]) 2 16 Tryz.underlying23 hi hz0 hz1 hz2 rfl (by decide) (.slice A 0 c) 0 [] rfl ?c0 ⟨w.heap.size + 1, 0, none⟩ 1 1 [.int .i64 f, .int .i64 t] rfl rfl ?c1 ?c2 ?c3 ?c4 ?c5 ?_)
    case c0 => exact World.ownsRow.alloc (w := (w.alloc _).drewN nq) (World.ownsRow.alloc HO.out _) _
    case c1 => exact N2.out nq
    case c2 => exact one_spc [(f, t)]
    case c3 => exact H63.out
    case c4 => exact HBY.out
    case c5 => simp; omega
    · intro v' w' hown' hgrow hne hat
      have HAT := hd hat
      clear hat
      go_wp2
      go_ret
      exact ext_fin2 (v' := v') HE.out hown' hgrow (by simpa using hne) HAT.out
  · have hlast : (0 : Int) ≤ (l.length : Int) - 1 := by omega
    have hl1 : (1 : Int) ≤ (l.length : Int) := by omega
    have hg1 : decide ((1 : Int) ≤ (l.length : Int)) = true := by simp; omega
    have hg2 : decide ((0 : Int) ≤ (l.length : Int) - 1) = true := by simp; omega
    have hg3 : decide (1 ≤ l.length) = true := by simp; omega
    have hlast2 : (l.length : Int) - 1 < (l.length : Int) := by omega
    unfold maxLen at hc2
    have hxb : (x == f) = false := by simpa using hxf
    have hx1 := cell_alloc_old (o := .cells #[Value.int .i64 f, Value.int .i64 t] 50) hx
    clear hx
    go_enter Tryz.func52, Tryz.ntmps52
    go_wp2
    go_quiet (fail)
    go_wp2_with (at_builtin; refine wpList_append_own_at _ rfl (.tmp 28) (.tmp 30) 23 rfl base 50 i0 (.agg #[.int .i64 0, .int .i64 0]) 2 16 Tryz.underlying23 hi hz0 hz1 hz2 rfl (by decide) (.slice (some ⟨g, 0, none⟩) l.length c) l.length (spc l) rfl ?c0 ⟨w.heap.size + 1, 0, none⟩ 1 1 [.int .i64 f, .int .i64 t] rfl rfl ?c1 ?c2 ?c3 ?c4 ?c5 ?_)
    case c0 => exact World.ownsRow.alloc (w := (w.alloc _).drewN nq) (World.ownsRow.alloc HO.out _) _
    case c1 => exact N2.out nq
    case c2 => exact one_spc [(f, t)]
    case c3 => exact H63.out
    case c4 => exact HBY.out
    case c5 => simp; omega
    · intro v' w' hown' hgrow hne hat
      have HAT := hd hat
      clear hat
      have hne' : v' ≠ .slice none 0 0 := by simpa using hne
      clear hne
      go_wp2
      go_ret
      exact ext_fin2 (v' := v') HE.out hown' hgrow hne' HAT.out

set_option maxRecDepth 100000 in
set_option maxHeartbeats 1000000 in
theorem ext_touch2 (base : Nat) (m : List (Int × Int)) (a f t : Int) (g c : Nat) (w : World) (hown : w.ownsRow base 50 2 (.slice (some ⟨g, 0, none⟩) (m.length + 1) c) (m.length + 1) (spc (m ++ [(a, f)]))) (hc1 : m.length + 1 ≤ c) (hc2 : c ≤ maxLen) (hg : g < w.heap.size) :
    Calls Tryz.prog 52 #[.slice (some ⟨g, 0, none⟩) (m.length + 1 : Nat) c, .agg #[.int .i64 f, .int .i64 t]] w (Extd2 base (m ++ [(a, f)]) f t (.slice (some ⟨g, 0, none⟩) (m.length + 1 : Nat) c) w) := by
  have hx : w.cell? ⟨g, m.length * 2 + 1, none⟩ = some (.int .i64 f) := by
    rw [hown.cellAt _ (by omega), spc_append, List.getElem?_append_right (by rw [spc_len]; omega), spc_len, show m.length * 2 + 1 - 2 * m.length = 1 by omega]
    rfl
  have hfz : w.frozen? ⟨g, m.length * 2 + 1, none⟩ = false := hown.frozenAt _
  have HO := hd hown
  unfold maxLen at hc2
  have hx1 := cell_alloc_old (o := .cells #[Value.int .i64 f, Value.int .i64 t] 50) hx
  have hl1 : (0 : Int) ≤ (m.length : Int) := by omega
  have hg1 : decide ((0 : Int) ≤ (m.length : Int)) = true := by simp
  have hlast2 : (m.length : Int) < (m.length : Int) + 1 := by omega
  clear hx hown
  go_enter Tryz.func52, Tryz.ntmps52
  go_wp2
  go_quiet (fail)
  go_wp2
  go_ret
  have e : ext (m ++ [(a, f)]) f t = m ++ [(a, t)] := by rw [ext_snoc, if_pos rfl]
  refine ⟨_, rfl, ?_, ?_, by simp, .inl rfl⟩
  · rw [e, spc_set m a f t]
    have := World.ownsRow.stored (w := (w.alloc (.cells #[Value.int .i64 f, Value.int .i64 t] 50)).drewN nq) (HO.out.alloc _) (m.length * 2 + 1) (.int .i64 t)
    simpa using this.1
  · exact gb_trans (gb_trans (World.grownBy_alloc w _ _) (gb_drewN _ nq _)) (gb_set _ _ _ _)

/-- extend, of a list of the call's own. -/
theorem ext_any2 (base : Nat) (l : List (Int × Int)) (f t : Int) (v : Value) (w : World) (hown : w.ownsRow base 50 2 v l.length (spc l)) (hb : base ≤ w.heap.size) (hlen : l.length ≤ 100000) :
    Calls Tryz.prog 52 #[v, .agg #[.int .i64 f, .int .i64 t]] w (Extd2 base l f t v w) := by
  have hlt := hown.lt
  rcases hown.2 with ⟨rfl, h0⟩ | ⟨g, cap, cur, rfl, hgb, hh, hc1, hc2, _, _⟩
  · obtain rfl : l = [] := List.eq_nil_of_length_eq_zero h0
    exact ext_grow2 base [] f t none 0 w hown hb hlen rfl (.inl rfl)
  · have hg : g < w.heap.size := (hlt g rfl).2
    rcases List.eq_nil_or_concat l with rfl | ⟨m, ⟨a, b⟩, rfl⟩
    · exact ext_grow2 base [] f t _ cap w hown hb hlen rfl (.inl rfl)
    · simp only [List.concat_eq_append] at *
      have hl : (m ++ [(a, b)]).length = m.length + 1 := by simp
      by_cases hbf : b = f
      · subst hbf
        rw [hl] at hown hc1 ⊢
        exact ext_touch2 base m a b t g cap w hown hc1 hc2 hg
      · refine ext_grow2 base _ f t _ cap w hown hb hlen (by rw [ext_snoc, if_neg hbf]) (.inr ⟨g, b, rfl, hc1, hc2, by omega, ?_, hbf, hg⟩)
        rw [hown.cellAt _ (by omega), hl, spc_append, List.getElem?_append_right (by rw [spc_len]; omega), spc_len, show (m.length + 1 - 1) * 2 + 1 - 2 * m.length = 1 by omega]
        rfl

end Go.Proofs.YtkgkpcmokmhakaaGreatDoor

namespace Go.Proofs.YtkgkpcmokmhakaaGreatDoor
open Go.RowKit
attribute [local go_sem] Oper.semAt_some

/-- What Append holds behind its checks. -/
structure KA (w : World) (R1 R2 : Array Value) (O : Nat) (nm : ByteArray) (st : Int) (LV GV : Value) (n : Nat) (xs : List Value) (G : List (Int × Int)) (W : World) : Prop where
  out : W.heap[O]? = some (.cells #[.string nm, .int .i64 st, LV, GV] 35 (0, 0))
  lev : W.ownsRow w.heap.size 60 1 LV n xs
  gap : W.ownsRow w.heap.size 50 2 GV G.length (spc G)
  one : W.heap[w.heap.size]? = some (.cells R1 35 (0, 0))
  two : W.heap[w.heap.size + 1]? = some (.cells R2 35 (0, 0))
  res : W.heap[w.heap.size + 1 + 1]? = some (.cells #[.string ⟨#[]⟩, .int .i64 0, .slice none 0 0, .slice none 0 0] 35 (0, 0))
  bel : Below w.heap.size w W
section
variable {w V W W' : World} {R1 R2 : Array Value} {O : Nat} {nm : ByteArray} {st : Int} {LV GV : Value} {n : Nat} {xs : List Value} {G : List (Int × Int)}
theorem KA.below (h : KA w R1 R2 O nm st LV GV n xs G W) (hb : Below W.heap.size W W') : KA w R1 R2 O nm st LV GV n xs G W' :=
  ⟨(hb.block _ (blk_lt h.out)).trans h.out, own_bel h.lev hb, own_bel h.gap hb, (hb.block _ (blk_lt h.one)).trans h.one, (hb.block _ (blk_lt h.two)).trans h.two, (hb.block _ (blk_lt h.res)).trans h.res, h.bel.trans (hb.mono h.bel.size)⟩
theorem ka_stored (hVS : w.heap.size + 3 ≤ V.heap.size) (hVB : Below w.heap.size w V) (h1 : V.heap[w.heap.size]? = some (.cells R1 35 (0, 0))) (h2 : V.heap[w.heap.size + 1]? = some (.cells R2 35 (0, 0)))
    (h3 : V.heap[w.heap.size + 1 + 1]? = some (.cells #[.string ⟨#[]⟩, .int .i64 0, .slice none 0 0, .slice none 0 0] 35 (0, 0))) (hW : Below V.heap.size V W) {P : Nat} {z0 z1 z2 z3 : Value} (hP : W.heap[P]? = some (.cells #[z0, z1, z2, z3] 35 (0, 0))) (hb : V.heap.size ≤ P)
    (hl : W.ownsRow V.heap.size 60 1 LV n xs) {b : Nat} (hg : W.ownsRow b 50 2 GV G.length (spc G)) (hb1 : V.heap.size ≤ b) :
    w.heap.size + 3 ≤ P ∧ KA w R1 R2 P nm st LV GV n xs G (set4 W P (.string nm) (.int .i64 st) LV GV) :=
  ⟨by omega, set4_blk hP _ _ _ _, own_base (own_far4 hl (own_box hl hP (by decide))) (by omega), own_base (own_far4 hg (own_box hg hP (by decide))) (by omega),
    (set4_other W (R := P) (D := w.heap.size) (by omega) _ _ _ _).trans ((hW.block _ (by omega)).trans h1), (set4_other W (R := P) (D := w.heap.size + 1) (by omega) _ _ _ _).trans ((hW.block _ (by omega)).trans h2), (set4_other W (R := P) (D := w.heap.size + 1 + 1) (by omega) _ _ _ _).trans ((hW.block _ (by omega)).trans h3),
    set4_below (hVB.trans (hW.mono hVB.size)) (R := P) (by omega) _ _ _ _⟩
theorem ka_alloc (hVS : w.heap.size + 3 ≤ V.heap.size) (hVB : Below w.heap.size w V) (h1 : V.heap[w.heap.size]? = some (.cells R1 35 (0, 0))) (h2 : V.heap[w.heap.size + 1]? = some (.cells R2 35 (0, 0)))
    (h3 : V.heap[w.heap.size + 1 + 1]? = some (.cells #[.string ⟨#[]⟩, .int .i64 0, .slice none 0 0, .slice none 0 0] 35 (0, 0))) (hW : Below V.heap.size V W)
    (hl : W.ownsRow V.heap.size 60 1 LV n xs) {b : Nat} (hg : W.ownsRow b 50 2 GV G.length (spc G)) (hb1 : V.heap.size ≤ b) :
    w.heap.size + 3 ≤ W.heap.size ∧ KA w R1 R2 W.heap.size nm st LV GV n xs G (W.alloc (.cells #[.string nm, .int .i64 st, LV, GV] 35)) := by
  have hsz := hW.size
  exact ⟨by omega, blk_new _ _ _, own_base (hl.alloc _) (by omega), own_base (hg.alloc _) (by omega), (Below.heap_alloc _ _ _ (by omega)).trans ((hW.block _ (by omega)).trans h1), (Below.heap_alloc _ _ _ (by omega)).trans ((hW.block _ (by omega)).trans h2), (Below.heap_alloc _ _ _ (by omega)).trans ((hW.block _ (by omega)).trans h3), (hVB.trans (hW.mono hVB.size)).alloc (by have := hVB.size; omega) _⟩
theorem KA.put (h : KA w R1 R2 O nm st LV GV n xs G W) (hO : w.heap.size + 3 ≤ O) {v7 : Value} {G' : List (Int × Int)} (hown : W'.ownsRow w.heap.size 50 2 v7 G'.length (spc G')) (hg : W.grownBy W' GV.ownBlock) :
    KA w R1 R2 O nm st LV v7 n xs G' (W'.setCell ⟨O, 3, none⟩ v7) := by
  have bO := (hg.block O (blk_lt h.out) (blk_not_row h.out (by decide) h.gap)).trans h.out
  have b0 := (hg.block _ (blk_lt h.one) (blk_not_row h.one (by decide) h.gap)).trans h.one
  have b1 := (hg.block _ (blk_lt h.two) (blk_not_row h.two (by decide) h.gap)).trans h.two
  have b2 := (hg.block _ (blk_lt h.res) (blk_not_row h.res (by decide) h.gap)).trans h.res
  have l1 := h.lev.kept hg (own_types h.lev h.gap (by decide))
  exact ⟨by simpa using blk_set bO 3 v7, own_far l1 (own_box l1 bO (by decide)), own_far hown (own_box hown bO (by decide)), (Below.heap_setCell W' ⟨O, 3, none⟩ v7 _ (by show w.heap.size ≠ O; omega)).trans b0, (Below.heap_setCell W' ⟨O, 3, none⟩ v7 _ (by show w.heap.size + 1 ≠ O; omega)).trans b1, (Below.heap_setCell W' ⟨O, 3, none⟩ v7 _ (by show w.heap.size + 1 + 1 ≠ O; omega)).trans b2,
    (h.bel.grown hg h.bel.size (fun j hj => (h.gap.lt j hj).1)).setCell (p := ⟨O, 3, none⟩) (by show w.heap.size ≤ O; omega) v7⟩
/-- The row of the spans that are put behind stays as it is. -/
theorem mov_put (h : KA w R1 R2 O nm st LV GV n xs G W) {v6 v7 : Value} {M m : Nat} {ys : List Value} (hM : W.ownsRow M 50 2 v6 m ys) (hs : ∀ g, GV.ownBlock = some g → v6.ownBlock ≠ some g) (hg : W.grownBy W' GV.ownBlock) : (W'.setCell ⟨O, 3, none⟩ v7).ownsRow M 50 2 v6 m ys := by
  have bO := (hg.block O (blk_lt h.out) (blk_not_row h.out (by decide) h.gap)).trans h.out
  have l1 := hM.kept hg (by
    cases hq : v6.ownBlock with
    | none => exact .inl rfl
    | some g => exact .inr (fun e => hs g e.symm hq))
  exact own_far l1 (own_box l1 bO (by decide))
theorem KA.alloc (h : KA w R1 R2 O nm st LV GV n xs G W) (o : Obj) : KA w R1 R2 O nm st LV GV n xs G (W.alloc o) :=
  h.below ((Below.refl _ W).alloc (Nat.le_refl _) o)
theorem KA.done (h : KA w R1 R2 O nm st LV GV n xs G W) (a b c d : Value) :
    (set4 W (w.heap.size + 1 + 1) a b c d).ownsRow w.heap.size 60 1 LV n xs ∧ (set4 W (w.heap.size + 1 + 1) a b c d).ownsRow w.heap.size 50 2 GV G.length (spc G) ∧ Below w.heap.size w (set4 W (w.heap.size + 1 + 1) a b c d) ∧ (set4 W (w.heap.size + 1 + 1) a b c d).heap[w.heap.size + 1 + 1]? = some (.cells #[a, b, c, d] 35 (0, 0)) :=
  ⟨own_far4 h.lev (own_box h.lev h.res (by decide)), own_far4 h.gap (own_box h.gap h.res (by decide)), set4_below h.bel (by omega) a b c d, set4_blk h.res a b c d⟩
end
theorem movS_get (n : Nat) (l : List (Int × Int)) (k : Nat) (hk : k < l.length) : (movS n l).getD k (0, 0) = ((l.getD k (0, 0)).1 + n, (l.getD k (0, 0)).2 + n) := by simp [movS, hk]

set_option maxRecDepth 1000000 in
set_option maxHeartbeats 4000000 in
theorem append_ok (nm nm2 : ByteArray) (st st2 : Int) (A A2 B B2 : Option Addr) (c c2 d d2 : Nat) (bs cs : List Nat) (gs hs : List (Int × Int)) (w : World) (HL : Hid (Rd w w.heap.size (.slice A bs.length c) bs.length (flc bs))) (HG : Hid (Rd w w.heap.size (.slice A2 gs.length c2) gs.length (spc gs))) (HL2 : Hid (Rd w w.heap.size (.slice B cs.length d) cs.length (flc cs))) (HG2 : Hid (Rd w w.heap.size (.slice B2 hs.length d2) hs.length (spc hs))) (hs1 : nm.size ≤ maxLen) (hs2 : nm2.size ≤ maxLen) (HNA : Hid (A = none → bs.length = 0 ∧ c = 0)) (HNB : Hid (B = none → cs.length = 0 ∧ d = 0)) (hgn : gs.length ≤ 2048) (hhn : hs.length ≤ 2048) (HSP : Hid (∀ j, j < hs.length → 0 ≤ (hs.getD j (0, 0)).1 ∧ (hs.getD j (0, 0)).1 ≤ 10000 ∧ 0 ≤ (hs.getD j (0, 0)).2 ∧ (hs.getD j (0, 0)).2 ≤ 10000)) (hn : bs.length ≤ 4096) (hm : cs.length ≤ 4096)
     (hE : fst0 [chkRec nm st bs gs, chkRec nm2 st2 cs hs, unl (nm.toList == nm2.toList) 30, unl (st2 == wrap64 (st + (bs.length : Int))) 11, Go.Proofs.YtkgkpcmokmhakaaGreatDoor.most ((bs.length : Int) + (cs.length : Int)) 4096] = 0) :
    Calls Tryz.prog 18 #[.agg #[.string nm, .int .i64 st, .slice A bs.length c, .slice A2 gs.length c2], .agg #[.string nm2, .int .i64 st2, .slice B cs.length d, .slice B2 hs.length d2]] w fun e w' => ∃ LV GV, e = .returned (.tuple #[.agg #[.string nm, .int .i64 st, LV, GV], .int .i64 0]) ∧ w'.ownsRow w.heap.size 60 1 LV (bs.length + cs.length) (flc bs ++ flc cs) ∧ w'.ownsRow w.heap.size 50 2 GV (apK gs hs bs.length hs.length).length (spc (apK gs hs bs.length hs.length)) ∧ Below w.heap.size w w' := by
  have hbs63 : (bs.length : Int) ≤ 100000 := by omega
  have hcs63 : (cs.length : Int) ≤ 100000 := by omega
  obtain ⟨x1, hx1⟩ : ∃ x, x = chkRec nm st bs gs := ⟨_, rfl⟩
  obtain ⟨x2, hx2⟩ : ∃ x, x = chkRec nm2 st2 cs hs := ⟨_, rfl⟩
  have CR := hd (fun W h h' => show Calls Tryz.prog 33 #[.agg #[.string nm, .int .i64 st, .slice A bs.length c, .slice A2 gs.length c2]] W fun e w' => e = .returned (.int .i64 x1) ∧ Below W.heap.size W w' from by rw [hx1]; exact chkRec_any _ _ _ _ bs gs W h h' hs1)
  have CU := hd (fun W h h' => show Calls Tryz.prog 33 #[.agg #[.string nm2, .int .i64 st2, .slice B cs.length d, .slice B2 hs.length d2]] W fun e w' => e = .returned (.int .i64 x2) ∧ Below W.heap.size W w' from by rw [hx2]; exact chkRec_any _ _ _ _ cs hs W h h' hs2)
  rw [← hx1, ← hx2] at hE
  have HE := hd hE
  clear hE hx1 hx2 hs1 hs2
  obtain ⟨W0, hW0⟩ : ∃ W0, W0 = (((w.alloc (.cells #[.string nm, .int .i64 st, .slice A bs.length c, .slice A2 gs.length c2] 35)).alloc (.cells #[.string nm2, .int .i64 st2, .slice B cs.length d, .slice B2 hs.length d2] 35)).alloc (.cells #[.string ⟨#[]⟩, .int .i64 0, .slice none 0 0, .slice none 0 0] 35)) := ⟨_, rfl⟩
  have hb0 : Below w.heap.size w W0 := by rw [hW0]; exact (((Below.refl _ w).alloc (Nat.le_refl _) _).alloc (by simp) _).alloc (by simp; omega) _
  have hs0 : W0.heap.size = w.heap.size + 3 := by rw [hW0]; simp
  have hq : W0.heap[w.heap.size]? = some (.cells #[.string nm, .int .i64 st, .slice A bs.length c, .slice A2 gs.length c2] 35 (0, 0)) := by
    rw [hW0]; exact (Below.heap_alloc _ _ _ (by simp; omega)).trans ((Below.heap_alloc _ _ _ (by simp)).trans (blk_new _ _ _))
  have hq2 : W0.heap[w.heap.size + 1]? = some (.cells #[.string nm2, .int .i64 st2, .slice B cs.length d, .slice B2 hs.length d2] 35 (0, 0)) := by
    have h := blk_new (w.alloc (.cells #[.string nm, .int .i64 st, .slice A bs.length c, .slice A2 gs.length c2] 35)) #[.string nm2, .int .i64 st2, .slice B cs.length d, .slice B2 hs.length d2] 35
    rw [World.size_alloc] at h
    rw [hW0]; exact (Below.heap_alloc _ _ _ (by simp)).trans h
  have hr : W0.heap[w.heap.size + 2]? = some (.cells #[.string ⟨#[]⟩, .int .i64 0, .slice none 0 0, .slice none 0 0] 35 (0, 0)) := by
    have h := blk_new ((w.alloc (.cells #[.string nm, .int .i64 st, .slice A bs.length c, .slice A2 gs.length c2] 35)).alloc (.cells #[.string nm2, .int .i64 st2, .slice B cs.length d, .slice B2 hs.length d2] 35)) #[.string ⟨#[]⟩, .int .i64 0, .slice none 0 0, .slice none 0 0] 35
    rw [World.size_alloc, World.size_alloc] at h
    rw [hW0]; exact h
  have HB3 := hd (fun p : Bw W0 => hb0.trans (p.below.mono hb0.size))
  have F : ∀ (j : Nat) (u : Value) (p : Bw W0), (#[.string nm, .int .i64 st, .slice A bs.length c, .slice A2 gs.length c2] : Array Value)[j]? = some u → p.out.cell? ⟨w.heap.size, j, none⟩ = some u := fun j u p h => p.cell (by omega) ((blk_cell hq j).trans h)
  have G : ∀ (j : Nat) (u : Value) (p : Bw W0), (#[.string nm2, .int .i64 st2, .slice B cs.length d, .slice B2 hs.length d2] : Array Value)[j]? = some u → p.out.cell? ⟨w.heap.size + 1, j, none⟩ = some u := fun j u p h => p.cell (by omega) ((blk_cell hq2 j).trans h)
  have F0 := fun p => F 0 _ p rfl
  have F1 := fun p => F 1 _ p rfl
  have F2 := fun p => F 2 _ p rfl
  have F3 := fun p => F 3 _ p rfl
  have G0 := fun p => G 0 _ p rfl
  have G1 := fun p => G 1 _ p rfl
  have G2 := fun p => G 2 _ p rfl
  have G3 := fun p => G 3 _ p rfl
  have HR := hd hr
  have HQ1 := hd hq
  have HQ2 := hd hq2
  have HS0 := hd hs0
  have hle3 := hd (show bs.length ≤ 4096 ∧ cs.length ≤ 4096 from ⟨hn, hm⟩)
  clear hr hb0 hq hq2 F G hs0
  go_enter Tryz.func18, Tryz.ntmps18
  go_wp2_with fail
  rw [← hW0]
  clear hW0
  refine wp_region_bw_tail 28 (by kernel_rfl) (by kernel_rfl) ?_
  simp only [List.take_succ_cons, List.take_zero, List.drop_succ_cons, List.drop_zero]
  go_big_quiet_step (fail)
  go_big_quiet_step (first | (go_at_call 33; exact Bw.call _ (CR.out _ ((HL.out.below (HB3.out _) (Nat.le_refl _)).mono (HB3.out _).size) ((HG.out.below (HB3.out _) (Nat.le_refl _)).mono (HB3.out _).size))))
  go_big_quiet_step (fail)
  go_big_quiet_step (first | (go_at_call 33; exact Bw.call _ (CU.out _ ((HL2.out.below (HB3.out _) (Nat.le_refl _)).mono (HB3.out _).size) ((HG2.out.below (HB3.out _) (Nat.le_refl _)).mono (HB3.out _).size))))
  repeat (first | go_big_quiet_step (first | (go_at_call 40; exact Bw.pure _ (unl_any _ _ _)) | (go_at_call 47; exact Bw.pure _ (most_any _ _ _))))
  refine wpQuiet_nil ?_
  rintro ⟨W2, hB2⟩
  change wpList _ _ _ _ _ W2
  clear F0 F1 F2 F3 G0 G1 G2 G3
  go_wp2_with fail
  refine (first5 _ _ _ _ _ _ _).mono ?_
  rintro e w' ⟨rfl, rfl⟩
  rw [HE.out]
  have hb : Below W0.heap.size W0 (W2.alloc (.cells #[.int .i64 x1, .int .i64 x2, .int .i64 (unl (nm.toList == nm2.toList) 30), .int .i64 (unl (st2 == wrap64 (st + (bs.length : Int))) 11), .int .i64 (Go.Proofs.YtkgkpcmokmhakaaGreatDoor.most ((bs.length : Int) + (cs.length : Int)) 4096)] 36)) := hB2.alloc hB2.size _
  generalize (W2.alloc (.cells #[.int .i64 x1, .int .i64 x2, .int .i64 (unl (nm.toList == nm2.toList) 30), .int .i64 (unl (st2 == wrap64 (st + (bs.length : Int))) 11), .int .i64 (Go.Proofs.YtkgkpcmokmhakaaGreatDoor.most ((bs.length : Int) + (cs.length : Int)) 4096)] 36)) = W3 at hb ⊢
  obtain ⟨V, rfl⟩ : ∃ x : World, x = W3 := ⟨_, rfl⟩
  have HV1 := hd ((hb.block _ (blk_lt HQ1.out)).trans HQ1.out)
  have HV2 := hd ((hb.block _ (blk_lt HQ2.out)).trans HQ2.out)
  have HV3 := hd (show V.heap[w.heap.size + 1 + 1]? = _ from (hb.block _ (blk_lt HR.out)).trans HR.out)
  have HVS := hd (show w.heap.size + 3 ≤ V.heap.size from by have h1 := hb.size; have h2 := HS0.out; omega)
  have HVB := hd (show Below w.heap.size w V from (HB3.out ⟨W0, Below.refl _ _⟩).trans (hb.mono (HB3.out ⟨W0, Below.refl _ _⟩).size))
  clear hb HQ1 HQ2 HR HB3 HS0 CR CU HE hB2
  have HCC := hd (fun (X : World) (R : Nat) (hbX : Below V.heap.size V X) (hR : X.heap[R]? = some (.cells #[.slice A bs.length c, .slice B cs.length d] 22 (0, 0))) => show Calls Tryz.prog 48 #[.slice (some ⟨R, 0, none⟩) 2 2] X (fun e w' => ∃ v, e = .returned v ∧ w'.ownsRow V.heap.size 60 1 v (bs.length + cs.length) (flc bs ++ flc cs) ∧ Below V.heap.size V w' ∧ ∀ k, k < X.heap.size → w'.heap[k]? = X.heap[k]?) from by
    have h1 := HVB.out.trans (hbX.mono HVB.out.size)
    refine (concat2_any R _ A B c d bs cs X (hd hR) (hd ((HL.out.below h1 (Nat.le_refl _)).mono h1.size)) (hd ((HL2.out.below h1 (Nat.le_refl _)).mono h1.size)) HNA HNB hle3.out.1 hle3.out.2).mono ?_
    rintro e w' ⟨v, rfl, ho, hbw⟩
    exact ⟨v, rfl, own_base ho hbX.size, hbX.trans (hbw.mono hbX.size), fun k hk => hbw.block k hk⟩)
  have HCL := hd (fun (Y : World) (hbY : Below V.heap.size V Y) => show Calls Tryz.prog 49 #[.slice A2 gs.length c2] Y (OwnSp2 Y.heap.size gs Y) from by
    have h1 := HVB.out.trans (hbY.mono HVB.out.size)
    exact cloneSp_any _ gs Y ((HG.out.below h1 (Nat.le_refl _)).mono h1.size) (by omega))
  have q0 := blk_cell HV1.out 0
  have q1 := blk_cell HV1.out 1
  have q2 := blk_cell HV1.out 2
  have q3 := blk_cell HV1.out 3
  have q4 := blk_cell HV2.out 2
  simp at q0 q1 q2 q3 q4
  have hnA : V.heap.size ≠ w.heap.size := by have := HVS.out; omega
  have hnA' := hnA.symm
  have hnB : V.heap.size ≠ w.heap.size + 1 := by have := HVS.out; omega
  have hnB' := hnB.symm
  have hnG : V.heap.size + 1 ≠ w.heap.size := by have := HVS.out; omega
  have hnG' := hnG.symm
  have hnH : V.heap.size + 1 ≠ w.heap.size + 1 := by have := HVS.out; omega
  have hnH' := hnH.symm
  go_wp2_with fail
  go_cut [7] from 45 (fun s7 wx => ∃ (O : Nat) (A7 : Option Addr) (c7 : Nat) (A8 : Option Addr) (c8 : Nat), s7 = .pointer (some ⟨O, 0, none⟩) ∧ Hid (w.heap.size + 3 ≤ O ∧ KA w #[.string nm, .int .i64 st, .slice A bs.length c, .slice A2 gs.length c2] #[.string nm2, .int .i64 st2, .slice B cs.length d, .slice B2 hs.length d2] O nm st (.slice A7 (bs.length + cs.length) c7) (.slice A8 gs.length c8) (bs.length + cs.length) (flc bs ++ flc cs) gs wx))
  case first =>
    go_region_held3 (fun x => x.cell? ⟨w.heap.size, 0, none⟩ = some (.string nm) ∧ x.cell? ⟨w.heap.size, 1, none⟩ = some (.int .i64 st) ∧ x.cell? ⟨w.heap.size, 2, none⟩ = some (.slice A bs.length c) ∧ x.cell? ⟨w.heap.size, 3, none⟩ = some (.slice A2 gs.length c2) ∧ x.cell? ⟨w.heap.size + 1, 2, none⟩ = some (.slice B cs.length d)) (go_keep)
      (first
        | (go_at_call 48; refine (HCC.out _ _ (by first | exact ((Below.refl _ V).alloc (Nat.le_refl _) _).drew | exact (((Below.refl _ V).alloc (Nat.le_refl _) _).alloc (by simp) _).drew) (by first | exact blk_new V _ _ | exact (Below.heap_alloc _ _ _ (by simp)).trans (blk_new V _ _) | (have h := blk_new (V.alloc (Obj.cells #[.string ⟨#[]⟩, .int .i64 0, .slice none 0 0, .slice none 0 0] 35)) #[.slice A bs.length c, .slice B cs.length d] 22; rw [World.size_alloc] at h; exact h))).mono ?_; rintro e w4 ⟨v4, rfl, hown4, hb4, hl4⟩; obtain ⟨A4, c4, hv4, -⟩ := own_form hown4; subst hv4; have hW4 : Below V.heap.size V w4 := hb4; have hq4 := (hW4.block _ (blk_lt HV1.out)).trans HV1.out; have hp4 := (hW4.block _ (blk_lt HV2.out)).trans HV2.out; have N0 := blk_cell hq4 0; have N1 := blk_cell hq4 1; have N2 := blk_cell hq4 2; have N3 := blk_cell hq4 3; have N4 := blk_cell hp4 2; have N5 := blk_cell hp4 3; simp at N0 N1 N2 N3 N4 N5; (first | (have hP : w4.heap[V.heap.size + 1]? = some (Obj.cells #[.string ⟨#[]⟩, .int .i64 0, .slice none 0 0, .slice none 0 0] 35 (0, 0)) := (hl4 _ (show V.heap.size + 1 < ((V.alloc (Obj.cells #[.slice A bs.length c, .slice B cs.length d] 22)).alloc (Obj.cells #[.string ⟨#[]⟩, .int .i64 0, .slice none 0 0, .slice none 0 0] 35)).heap.size by simp)).trans (by have h := blk_new (V.alloc (Obj.cells #[.slice A bs.length c, .slice B cs.length d] 22)) #[.string ⟨#[]⟩, .int .i64 0, .slice none 0 0, .slice none 0 0] 35; rw [World.size_alloc] at h; exact h); have Np0 := blk_cell hP 0; have Np1 := blk_cell hP 1; have Np2 := blk_cell hP 2; have Np3 := blk_cell hP 3; simp at Np0 Np1 Np2 Np3; have Nf0 := blk_frozen hP 0; have Nf1 := blk_frozen hP 1; have Nf2 := blk_frozen hP 2; have Nf3 := blk_frozen hP 3; have HP4 := hd hP; clear hP) | (have hP : w4.heap[V.heap.size]? = some (Obj.cells #[.string ⟨#[]⟩, .int .i64 0, .slice none 0 0, .slice none 0 0] 35 (0, 0)) := (hl4 _ (show V.heap.size < ((V.alloc (Obj.cells #[.string ⟨#[]⟩, .int .i64 0, .slice none 0 0, .slice none 0 0] 35)).alloc (Obj.cells #[.slice A bs.length c, .slice B cs.length d] 22)).heap.size by simp; omega)).trans ((Below.heap_alloc (V.alloc (Obj.cells #[.string ⟨#[]⟩, .int .i64 0, .slice none 0 0, .slice none 0 0] 35)) (Obj.cells #[.slice A bs.length c, .slice B cs.length d] 22) V.heap.size (by simp)).trans (blk_new V #[.string ⟨#[]⟩, .int .i64 0, .slice none 0 0, .slice none 0 0] 35)); have Np0 := blk_cell hP 0; have Np1 := blk_cell hP 1; have Np2 := blk_cell hP 2; have Np3 := blk_cell hP 3; simp at Np0 Np1 Np2 Np3; have Nf0 := blk_frozen hP 0; have Nf1 := blk_frozen hP 1; have Nf2 := blk_frozen hP 2; have Nf3 := blk_frozen hP 3; have HP4 := hd hP; clear hP) | skip); have hs4 := hW4.size; have hnC : w4.heap.size ≠ w.heap.size := (by have := HVS.out; omega); have hnC' := hnC.symm; have hnD : w4.heap.size ≠ w.heap.size + 1 := (by have := HVS.out; omega); have hnD' := hnD.symm; have HO4 := hd hown4; have HW4 := hd hW4; clear hown4 hb4 hl4 hW4 hq4 hp4)
        | (go_at_call 49; refine (HCL.out _ (by first | exact HW4.out | exact HW4.out.drew | exact HW4.out.alloc HW4.out.size _ | exact (HW4.out.alloc HW4.out.size _).drew)).mono ?_; rintro e w5 ⟨v5, rfl, hown5, hb5⟩; obtain ⟨A5, c5, hv5, -⟩ := own_form hown5; subst hv5; have hW5 : Below V.heap.size V w5 := (by first | exact HW4.out.trans (hb5.mono HW4.out.size) | exact (HW4.out.alloc HW4.out.size _).trans (hb5.mono (Nat.le_trans HW4.out.size (by simp)))); have hq5 := (hW5.block _ (blk_lt HV1.out)).trans HV1.out; have hp5 := (hW5.block _ (blk_lt HV2.out)).trans HV2.out; have M0 := blk_cell hq5 0; have M1 := blk_cell hq5 1; have M2 := blk_cell hq5 2; have M3 := blk_cell hq5 3; have M4 := blk_cell hp5 2; have M5 := blk_cell hp5 3; simp at M0 M1 M2 M3 M4 M5; (first | (have hP : w5.heap[w4.heap.size]? = some (Obj.cells #[.string ⟨#[]⟩, .int .i64 0, .slice none 0 0, .slice none 0 0] 35 (0, 0)) := (hb5.block _ (show w4.heap.size < (w4.alloc (Obj.cells #[.string ⟨#[]⟩, .int .i64 0, .slice none 0 0, .slice none 0 0] 35)).heap.size by simp)).trans (blk_new w4 #[.string ⟨#[]⟩, .int .i64 0, .slice none 0 0, .slice none 0 0] 35); have Mp0 := blk_cell hP 0; have Mp1 := blk_cell hP 1; have Mp2 := blk_cell hP 2; have Mp3 := blk_cell hP 3; simp at Mp0 Mp1 Mp2 Mp3; have Mf0 := blk_frozen hP 0; have Mf1 := blk_frozen hP 1; have Mf2 := blk_frozen hP 2; have Mf3 := blk_frozen hP 3; have HP5 := hd hP; clear hP) | (have hP := (hb5.block _ (blk_lt HP4.out)).trans HP4.out; have Mp0 := blk_cell hP 0; have Mp1 := blk_cell hP 1; have Mp2 := blk_cell hP 2; have Mp3 := blk_cell hP 3; simp at Mp0 Mp1 Mp2 Mp3; have Mf0 := blk_frozen hP 0; have Mf1 := blk_frozen hP 1; have Mf2 := blk_frozen hP 2; have Mf3 := blk_frozen hP 3; have HP5 := hd hP; clear hP) | skip); have hs5 := hW5.size; have hnE : w5.heap.size ≠ w.heap.size := (by have := HVS.out; omega); have hnE' := hnE.symm; have hnF : w5.heap.size ≠ w.heap.size + 1 := (by have := HVS.out; omega); have hnF' := hnF.symm; have HO5 := hd hown5; have HW5 := hd hW5; have HL5 := hd (show w5.ownsRow V.heap.size 60 1 (.slice A4 (bs.length + cs.length) c4) (bs.length + cs.length) (flc bs ++ flc cs) from by first | exact own_base (own_bel HO4.out hb5) (Nat.le_refl _) | exact own_bel (HO4.out.alloc _) hb5); clear hown5 hb5 hW5 hq5 hp5))
    all_goals
      go_wp2_with fail
      go_meet
      have hs4' := HW4.out.size
      have hs45 := HW5.out.size
      first
        | exact ⟨_, _, _, _, _, rfl, hd (ka_alloc HVS.out HVB.out HV1.out HV2.out HV3.out HW5.out HL5.out HO5.out (by first | exact hs4' | (simp; omega)))⟩
        | exact ⟨_, _, _, _, _, rfl, hd (ka_stored HVS.out HVB.out HV1.out HV2.out HV3.out HW5.out HP5.out (by first | exact hs4' | exact Nat.le_refl _ | omega) HL5.out HO5.out (by first | exact hs4' | (simp; omega)))⟩
  case rest =>
    obtain ⟨O, A7, c7, A8, c8, rfl, HK⟩ := hcut
    have hO := HK.out.1
    have HK2 := hd HK.out.2
    have hgs63 : (gs.length : Int) ≤ 2048 := by omega
    have hhs63 : (hs.length : Int) ≤ 2048 := by omega
    clear HK HCC HCL HV1 HV2 HV3 HVS HVB q0 q1 q2 q3 q4 hnA hnA' hnB hnB' hnG hnG' hnH hnH'
    have t3 := blk_cell HK2.out.two 3
    simp at t3
    go_wp2_with fail
    have HLE := hd HK2.out.bel.size
    refine (moveAll_any _ hs w.heap.size A bs.length c _ ((HG2.out.below HK2.out.bel (Nat.le_refl _)).mono HK2.out.bel.size) (blk_cell HK2.out.one 2) (by omega) (by omega) HSP.out).mono ?_
    rintro e w6 ⟨v6, rfl, hown6, hb6⟩
    obtain ⟨A9, c9, hv6, -⟩ := own_form hown6
    subst hv6
    rw [movS_len] at hown6 ⊢
    have HI0 := hd (show ∃ GV, KA w #[.string nm, .int .i64 st, .slice A bs.length c, .slice A2 gs.length c2] #[.string nm2, .int .i64 st2, .slice B cs.length d, .slice B2 hs.length d2] O nm st (.slice A7 (bs.length + cs.length) c7) GV (bs.length + cs.length) (flc bs ++ flc cs) (apK gs hs bs.length 0) w6 ∧ w6.ownsRow w.heap.size 50 2 (.slice A9 hs.length c9) hs.length (spc (movS bs.length hs)) ∧ (∀ g, GV.ownBlock = some g → (Value.slice A9 hs.length c9).ownBlock ≠ some g) from
      ⟨_, HK2.out.below hb6, own_base hown6 HLE.out, fun g hgv hgm => by
        have h1 := (HK2.out.gap.lt g hgv).2
        have h2 := (hown6.lt g hgm).1
        omega⟩)
    clear HK2 t3 hown6 hb6 HLE
    go_wp2
    go_loopw [65] (fun i wr => ∃ k : Nat, k ≤ hs.length ∧ i = .int .i64 k ∧ Hid (∃ GV, KA w #[.string nm, .int .i64 st, .slice A bs.length c, .slice A2 gs.length c2] #[.string nm2, .int .i64 st2, .slice B cs.length d, .slice B2 hs.length d2] O nm st (.slice A7 (bs.length + cs.length) c7) GV (bs.length + cs.length) (flc bs ++ flc cs) (apK gs hs bs.length k) wr ∧ wr.ownsRow w.heap.size 50 2 (.slice A9 hs.length c9) hs.length (spc (movS bs.length hs)) ∧ (∀ g, GV.ownBlock = some g → (Value.slice A9 hs.length c9).ownBlock ≠ some g))) (fun i _ => hs.length - (intOf i).toNat)
    case atStart => exact ⟨0, Nat.zero_le _, rfl, HI0⟩
    case round =>
      obtain ⟨k, hk, rfl, HI⟩ := hrel
      clear HI0
      obtain ⟨GV, hK, hM, hsep⟩ := HI.out
      obtain ⟨A10, c10, hv10, -⟩ := own_form hK.gap
      subst hv10
      have hlen := apK_len gs hs bs.length k
      by_cases hlt : k < hs.length
      · have hki : (k : Int) < (hs.length : Int) := by omega
        obtain ⟨A', c', e', hq7, hq8, hx⟩ := rd_of_own hM
        cases e'
        obtain ⟨b, off, rfl, hbb, hcell⟩ := hx (by omega)
        obtain ⟨p1, p2⟩ := spc_getD (movS bs.length hs) k (by rw [movS_len]; exact hlt)
        rw [movS_get _ _ _ hlt] at p1 p2
        have hs0 : wr.cell? ⟨b, off + k * 2, none⟩ = some (.int .i64 ((hs.getD k (0, 0)).1 + bs.length)) := (hcell (k * 2) (by rw [spc_len, movS_len]; omega)).trans p1
        have hs1 : wr.cell? ⟨b, off + k * 2 + 1, none⟩ = some (.int .i64 ((hs.getD k (0, 0)).2 + bs.length)) := (hcell (k * 2 + 1) (by rw [spc_len, movS_len]; omega)).trans p2
        have HAP := hd (show apK gs hs bs.length (k + 1) = ext (apK gs hs bs.length k) ((hs.getD k (0, 0)).1 + bs.length) ((hs.getD k (0, 0)).2 + bs.length) from rfl)
        clear p1 p2 hcell hx
        generalize (hs.getD k (0, 0)).1 + (bs.length : Int) = f at *
        generalize (hs.getD k (0, 0)).2 + (bs.length : Int) = t at *
        have o3 := cell_alloc_old (o := .cells #[Value.int .i64 f, Value.int .i64 t] 50) ((blk_cell hK.out 3).trans rfl)
        have HKA := hd (And.intro (hK.alloc (.cells #[Value.int .i64 f, Value.int .i64 t] 50)) (And.intro (hM.alloc (.cells #[Value.int .i64 f, Value.int .i64 t] 50)) hsep))
        have HML := hd hM.lt
        have HLN := hd (show (apK gs hs bs.length k).length ≤ 100000 by omega)
        have hOw : O ≠ wr.heap.size := by have := blk_lt hK.out; omega
        have hOw' := hOw.symm
        clear hK hM hsep HI hlen
        go_wp2_with fail
        refine (ext_any2 w.heap.size (apK gs hs bs.length k) f t _ _ HKA.out.1.gap HKA.out.1.bel.size HLN.out).mono ?_
        rintro e w7 ⟨v7, rfl, hown7, hg7, hne7, hat7⟩
        rw [← HAP.out] at hown7
        obtain ⟨A11, c11, hv11, -⟩ := own_form hown7
        subst hv11
        have hb7 := (hg7.block O (blk_lt HKA.out.1.out) (blk_not_row HKA.out.1.out (by decide) HKA.out.1.gap)).trans HKA.out.1.out
        have r3 := blk_cell hb7 3
        have r4 := blk_frozen hb7 3
        simp at r3
        have HN := hd (And.intro (HKA.out.1.put hO hown7 hg7) (And.intro (mov_put (v7 := .slice A11 (apK gs hs bs.length (k + 1)).length c11) HKA.out.1 HKA.out.2.1 HKA.out.2.2 hg7) (fun g (hgv : (Value.slice A11 (apK gs hs bs.length (k + 1)).length c11).ownBlock = some g) (hgm : (Value.slice (some ⟨b, off, none⟩) hs.length c9).ownBlock = some g) => show False from by
          rcases hat7 with h | ⟨g', h, hle⟩
          · exact HKA.out.2.2 g (h ▸ hgv) hgm
          · rw [h] at hgv
            have e2 : g' = g := Option.some.inj hgv
            have h3 := (HML.out g hgm).2
            simp at hle
            omega)))
        clear hown7 hg7 hne7 hat7 hb7 HKA HML HAP
        go_wp2
        go_roundw
        case rel => exact ⟨k + 1, by omega, by go_num, hd ⟨_, HN.out.1, HN.out.2.1, HN.out.2.2⟩⟩
        case measure => simp [intOf]; omega
      · have hke : k = hs.length := by omega
        subst hke
        have o0 := blk_cell hK.out 0
        have o1 := blk_cell hK.out 1
        have o2 := blk_cell hK.out 2
        have o3 := blk_cell hK.out 3
        have n0 := blk_cell hK.res 0
        have n1 := blk_cell hK.res 1
        have n2 := blk_cell hK.res 2
        have n3 := blk_cell hK.res 3
        simp at o0 o1 o2 o3 n0 n1 n2 n3
        have m0 := blk_frozen hK.res 0
        have m1 := blk_frozen hK.res 1
        have m2 := blk_frozen hK.res 2
        have m3 := blk_frozen hK.res 3
        have HDN := hd (hK.done (.string nm) (.int .i64 st) (.slice A7 (bs.length + cs.length) c7) (.slice A10 (apK gs hs bs.length hs.length).length c10))
        clear hK hM hsep HI
        go_wp2
        change bodyPost _ _ _ _ _ (set4 wr (w.heap.size + 1 + 1) (.string nm) (.int .i64 st) (.slice A7 (bs.length + cs.length) c7) (.slice A10 (apK gs hs bs.length hs.length).length c10))
        obtain ⟨d1, d2, d4, d5⟩ := HDN.out
        generalize (set4 wr (w.heap.size + 1 + 1) (.string nm) (.int .i64 st) (.slice A7 (bs.length + cs.length) c7) (.slice A10 (apK gs hs bs.length hs.length).length c10)) = WE at *
        have u0 := blk_cell d5 0
        have u1 := blk_cell d5 1
        have u2 := blk_cell d5 2
        have u3 := blk_cell d5 3
        simp at u0 u1 u2 u3
        exact bodyPost_ret (v := .tuple #[.agg #[.string nm, .int .i64 st, .slice A7 (bs.length + cs.length) c7, .slice A10 (apK gs hs bs.length hs.length).length c10], .int .i64 0]) (by simp [results, Tryz.results18, go_sem, u0, u1, u2, u3]) rfl ⟨_, _, rfl, d1, d2, d4⟩
end Go.Proofs.YtkgkpcmokmhakaaGreatDoor
