/-
  Plain words of gauge.Fill, and what holds between its rounds.
  Contract of gauge.Fill at a valid record. Condition: a length from 0 to 4096.
  Plain words of GaugeFollows: what Fill keeps and fills. No program. Conditions: written at each.
-/
import Derived.Test.YtkgkpcmokmhakaaGreatDoorProg
import Derived.Test.YtkgkpcmokmhakaaGreatDoorMR
import Derived.Deep.RegionHeld3
import Derived.Maps.AppendAt
import Derived.BigRegion
import Derived.WalkKit
import Derived.Test.YtkgkpcmokmhakaaGreatDoorMI

namespace Go.Proofs.YtkgkpcmokmhakaaGreatDoor
open Go.RowKit Go.Shelf
attribute [local go_sem] Oper.semAt_some

/-- Levels from an index on, before another one, made a level. -/
def setK (ls : List Nat) (f k v : Nat) : List Nat := (List.range ls.length).map (fun j => if f ≤ j ∧ j < k then v else ls.getD j 0)
theorem setK_len (ls : List Nat) (f k v : Nat) : (setK ls f k v).length = ls.length := by simp [setK]
theorem setK_zero (ls : List Nat) (f v : Nat) : setK ls f f v = ls := by
  apply List.ext_getElem
  · simp [setK]
  · intro i h1 h2
    simp only [setK, List.getElem_map, List.getElem_range]
    rw [if_neg (by omega)]
    simp [h2]
theorem setK_step (ls : List Nat) (f k v : Nat) (h : f ≤ k) : (flc (setK ls f k v)).set k (.float .f32 v) = flc (setK ls f (k + 1) v) := by
  apply List.ext_getElem
  · simp [setK, flc]
  · intro i h1 h2
    simp only [setK, flc, List.getElem_map, List.getElem_range, List.getElem_set]
    by_cases e : k = i
    · subst e; rw [if_pos rfl, if_pos ⟨h, by omega⟩]
    · rw [if_neg e]
      simp only [show (f ≤ i ∧ i < k + 1) = (f ≤ i ∧ i < k) from propext ⟨fun ⟨a, b⟩ => ⟨a, by omega⟩, fun ⟨a, b⟩ => ⟨a, by omega⟩⟩]
/-- The levels, the gaps that stay, and the spans that are filled, behind so many gaps. -/
structure FS where
  lev : List Nat
  gap : List (Int × Int)
  fil : List (Int × Int)
def fStep (bs : List Nat) (n : Int) (s : FS) (g : Int × Int) : FS :=
  if g.1 = 0 ∨ g.2 - g.1 > n then ⟨s.lev, s.gap ++ [g], s.fil⟩ else ⟨setK s.lev g.1.toNat g.2.toNat (bs.getD (g.1.toNat - 1) 0), s.gap, s.fil ++ [g]⟩
def fillF (bs : List Nat) (gs : List (Int × Int)) (n : Int) : Nat → FS
  | 0 => ⟨bs, [], []⟩
  | k + 1 => fStep bs n (fillF bs gs n k) (gs.getD k (0, 0))
theorem fillF_len (bs : List Nat) (gs : List (Int × Int)) (n : Int) : ∀ k, (fillF bs gs n k).lev.length = bs.length ∧ (fillF bs gs n k).gap.length ≤ k ∧ (fillF bs gs n k).fil.length ≤ k
  | 0 => by simp [fillF]
  | k + 1 => by
    obtain ⟨h1, h2, h3⟩ := fillF_len bs gs n k
    unfold fillF fStep
    split
    · simp only [List.length_append, List.length_cons, List.length_nil]; omega
    · simp only [setK_len, List.length_append, List.length_cons, List.length_nil]; omega
theorem spc_snoc (l : List (Int × Int)) (f t : Int) : spc l ++ [.int .i64 f, .int .i64 t] = spc (l ++ [(f, t)]) := by simp [spc]

theorem own_types {W : World} {B B' s s' m m' : Nat} {e e' : TypeId} {v v' : Value} {xs xs' : List Value} (h : W.ownsRow B e s v m xs) (h' : W.ownsRow B' e' s' v' m' xs') (hne : e ≠ e') : v.ownBlock = none ∨ v.ownBlock ≠ v'.ownBlock := by
  rcases h.2 with ⟨rfl, _⟩ | ⟨g, cap, cur, rfl, _, hg, _⟩
  · exact .inl rfl
  · refine .inr fun e1 => ?_
    rcases h'.2 with ⟨rfl, _⟩ | ⟨g', cap', cur', rfl, _, hg', _⟩
    · cases e1
    · have e2 : g = g' := Option.some.inj e1
      subst e2
      rw [hg] at hg'
      cases hg'
      exact hne rfl
theorem own_box {W : World} {B s m g : Nat} {e t : TypeId} {cs : Array Value} {v : Value} {xs : List Value} (h : W.ownsRow B e s v m xs) (hg : W.heap[g]? = some (.cells cs t (0, 0))) (hne : t ≠ e) : v.ownBlock = none ∨ v.ownBlock ≠ some g :=
  .inr (fun e1 => blk_not_row hg hne h e1.symm)

/-- What holds between the rounds of Fill. -/
structure FI (n₀ O n : Nat) (w : World) (REC : Array Value) (nm : ByteArray) (st : Int) (LV : Value) (s : FS) (FV : Value) (W : World) : Prop where
  lev : W.ownsRow n₀ 60 1 LV n (flc s.lev)
  out : ∃ GV, W.heap[O]? = some (.cells #[.string nm, .int .i64 st, LV, GV] 35 (0, 0)) ∧ W.ownsRow n₀ 50 2 GV s.gap.length (spc s.gap) ∧ (∀ g, GV.ownBlock = some g → FV.ownBlock ≠ some g)
  fil : W.ownsRow n₀ 50 2 FV s.fil.length (spc s.fil)
  rec0 : W.heap[n₀]? = some (.cells REC 35 (0, 0))
  rec1 : W.heap[n₀ + 1]? = some (.cells #[.string ⟨#[]⟩, .int .i64 0, .slice none 0 0, .slice none 0 0] 35 (0, 0))
  bel : Below n₀ w W
section
variable {n₀ O n : Nat} {w : World} {REC : Array Value} {nm : ByteArray} {st : Int} {LV : Value} {s : FS} {FV : Value} {W W' : World}
theorem FI.below (h : FI n₀ O n w REC nm st LV s FV W) (hb : Below W.heap.size W W') : FI n₀ O n w REC nm st LV s FV W' := by
  obtain ⟨GV, h1, h2, h3⟩ := h.out
  exact ⟨own_bel h.lev hb, ⟨GV, (hb.block _ (blk_lt h1)).trans h1, own_bel h2 hb, h3⟩, own_bel h.fil hb, (hb.block _ (blk_lt h.rec0)).trans h.rec0, (hb.block _ (blk_lt h.rec1)).trans h.rec1, h.bel.trans (hb.mono (Nat.le_of_lt (blk_lt h.rec0)))⟩
/-- A gap that stays is put behind the others. -/
theorem FI.keep (h : FI n₀ O n w REC nm st LV s FV W) (hO : n₀ + 2 ≤ O) {GV v' : Value} (h1 : W.heap[O]? = some (.cells #[.string nm, .int .i64 st, LV, GV] 35 (0, 0))) (h2 : W.ownsRow n₀ 50 2 GV s.gap.length (spc s.gap)) (h3 : ∀ g, GV.ownBlock = some g → FV.ownBlock ≠ some g) {f t : Int}
    (hown : W'.ownsRow n₀ 50 2 v' (s.gap.length + 1) (spc s.gap ++ [.int .i64 f, .int .i64 t])) (hg : W.grownBy W' GV.ownBlock) (hat : v'.ownBlock = GV.ownBlock ∨ v'.ownBlock = some W.heap.size) : FI n₀ O n w REC nm st LV ⟨s.lev, s.gap ++ [(f, t)], s.fil⟩ FV (W'.setCell ⟨O, 3, none⟩ v') := by
  have bO := (hg.block O (blk_lt h1) (blk_not_row h1 (by decide) h2)).trans h1
  have b0 := (hg.block n₀ (blk_lt h.rec0) (blk_not_row h.rec0 (by decide) h2)).trans h.rec0
  have b1 := (hg.block (n₀ + 1) (blk_lt h.rec1) (blk_not_row h.rec1 (by decide) h2)).trans h.rec1
  have l1 := h.lev.kept hg (own_types h.lev h2 (by decide))
  have f1 := h.fil.kept hg (by
    cases hq : FV.ownBlock with
    | none => exact .inl rfl
    | some g => exact .inr (fun e => h3 g e.symm hq))
  refine ⟨own_far l1 (own_box l1 bO (by decide)), ⟨v', by simpa using blk_set bO 3 v', ?_, fun g hgv hgf => ?_⟩, own_far f1 (own_box f1 bO (by decide)), (Below.heap_setCell W' ⟨O, 3, none⟩ v' _ (by show n₀ ≠ O; omega)).trans b0, (Below.heap_setCell W' ⟨O, 3, none⟩ v' _ (by show n₀ + 1 ≠ O; omega)).trans b1, (h.bel.grown hg (Nat.le_of_lt (blk_lt h.rec0)) (fun j hj => (h2.lt j hj).1)).setCell (p := ⟨O, 3, none⟩) (by show n₀ ≤ O; omega) v'⟩
  · rw [← spc_snoc, List.length_append]
    exact own_far hown (own_box hown bO (by decide))
  · rcases hat with e | e
    · rw [e] at hgv; exact h3 g hgv hgf
    · rw [e] at hgv
      have e2 : W.heap.size = g := Option.some.inj hgv
      have := (h.fil.lt g hgf).2
      omega
/-- A span that is filled is put behind the others. -/
theorem FI.fill (h : FI n₀ O n w REC nm st LV s FV W) {v' : Value} {f t : Int} (hown : W'.ownsRow n₀ 50 2 v' (s.fil.length + 1) (spc s.fil ++ [.int .i64 f, .int .i64 t])) (hg : W.grownBy W' FV.ownBlock) (hat : v'.ownBlock = FV.ownBlock ∨ v'.ownBlock = some W.heap.size) : FI n₀ O n w REC nm st LV ⟨s.lev, s.gap, s.fil ++ [(f, t)]⟩ v' W' := by
  obtain ⟨GV, h1, h2, h3⟩ := h.out
  refine ⟨h.lev.kept hg (own_types h.lev h.fil (by decide)), ⟨GV, (hg.block O (blk_lt h1) (blk_not_row h1 (by decide) h.fil)).trans h1, h2.kept hg ?_, fun g hgv hgf => ?_⟩, by rw [← spc_snoc, List.length_append]; exact hown, (hg.block n₀ (blk_lt h.rec0) (blk_not_row h.rec0 (by decide) h.fil)).trans h.rec0, (hg.block (n₀ + 1) (blk_lt h.rec1) (blk_not_row h.rec1 (by decide) h.fil)).trans h.rec1, h.bel.grown hg (Nat.le_of_lt (blk_lt h.rec0)) (fun j hj => (h.fil.lt j hj).1)⟩
  · cases hq : GV.ownBlock with
    | none => exact .inl rfl
    | some g => exact .inr (fun e => h3 g hq e.symm)
  · rcases hat with e | e
    · rw [e] at hgf; exact h3 g hgv hgf
    · rw [e] at hgf
      have e2 : W.heap.size = g := Option.some.inj hgf
      have := (h2.lt g hgv).2
      omega
/-- A level is set. -/
theorem FI.put {g c : Nat} (h : FI n₀ O n w REC nm st (.slice (some ⟨g, 0, none⟩) n c) s FV W) (hg : n₀ ≤ g) (i : Nat) {v : Nat} {ls : List Nat} (e : (flc s.lev).set i (.float .f32 v) = flc ls) : FI n₀ O n w REC nm st (.slice (some ⟨g, 0, none⟩) n c) ⟨ls, s.gap, s.fil⟩ FV (W.setCell ⟨g, i, none⟩ (.float .f32 v)) := by
  obtain ⟨GV, h1, h2, h3⟩ := h.out
  obtain ⟨cs, hc⟩ := own_blk h.lev
  have ne : ∀ {t : TypeId} {x : Nat} {cs : Array Value}, W.heap[x]? = some (.cells cs t (0, 0)) → t ≠ 60 → x ≠ g := fun hx ht e => by subst e; rw [hc] at hx; cases hx; exact ht rfl
  refine ⟨by rw [← e]; exact (h.lev.stored i (.float .f32 v)).1, ⟨GV, (Below.heap_setCell W ⟨g, i, none⟩ _ _ (ne h1 (by decide))).trans h1, own_far h2 (own_box h2 hc (by decide)), h3⟩, own_far h.fil (own_box h.fil hc (by decide)), (Below.heap_setCell W ⟨g, i, none⟩ _ _ (ne h.rec0 (by decide))).trans h.rec0, (Below.heap_setCell W ⟨g, i, none⟩ _ _ (ne h.rec1 (by decide))).trans h.rec1, h.bel.setCell (p := ⟨g, i, none⟩) hg _⟩
end
end Go.Proofs.YtkgkpcmokmhakaaGreatDoor

namespace Go.Proofs.YtkgkpcmokmhakaaGreatDoor
open Go.RowKit Go.Shelf
attribute [local go_sem] Oper.semAt_some

theorem fillF_keep {bs : List Nat} {gs : List (Int × Int)} {n : Int} {k : Nat} {f t : Int} (h : gs.getD k (0, 0) = (f, t)) (hc : f = 0 ∨ t - f > n) : fillF bs gs n (k + 1) = ⟨(fillF bs gs n k).lev, (fillF bs gs n k).gap ++ [(f, t)], (fillF bs gs n k).fil⟩ := by
  show fStep bs n _ _ = _
  unfold fStep
  rw [h]
  exact if_pos hc
theorem fillF_fill {bs : List Nat} {gs : List (Int × Int)} {n : Int} {k : Nat} {f t : Nat} (h : gs.getD k (0, 0) = ((f : Int), (t : Int))) (hc : ¬((f : Int) = 0 ∨ (t : Int) - f > n)) : fillF bs gs n (k + 1) = ⟨setK (fillF bs gs n k).lev f t (bs.getD (f - 1) 0), (fillF bs gs n k).gap, (fillF bs gs n k).fil ++ [((f : Int), (t : Int))]⟩ := by
  show fStep bs n _ _ = _
  unfold fStep
  rw [h]
  exact if_neg hc
theorem FI.drew {n₀ O n : Nat} {w : World} {REC : Array Value} {nm : ByteArray} {st : Int} {LV : Value} {s : FS} {FV : Value} {W : World} (h : FI n₀ O n w REC nm st LV s FV W) : FI n₀ O n w REC nm st LV s FV W.drew := ⟨h.lev, h.out, h.fil, h.rec0, h.rec1, h.bel.drew⟩
theorem own_far4 {W : World} {B e s k R : Nat} {v a b c d : Value} {xs : List Value} (h : W.ownsRow B e s v k xs) (hX : v.ownBlock = none ∨ v.ownBlock ≠ some R) : (set4 W R a b c d).ownsRow B e s v k xs :=
  own_far (own_far (own_far (own_far h hX) hX) hX) hX
/-- The result is written. -/
theorem FI.done {n₀ O n : Nat} {w : World} {REC : Array Value} {nm : ByteArray} {st : Int} {LV : Value} {s : FS} {FV GV : Value} {W : World} (h : FI n₀ O n w REC nm st LV s FV W) (hg : W.ownsRow n₀ 50 2 GV s.gap.length (spc s.gap)) (a b c d : Value) :
    (set4 W (n₀ + 1) a b c d).ownsRow n₀ 60 1 LV n (flc s.lev) ∧ (set4 W (n₀ + 1) a b c d).ownsRow n₀ 50 2 GV s.gap.length (spc s.gap) ∧ (set4 W (n₀ + 1) a b c d).ownsRow n₀ 50 2 FV s.fil.length (spc s.fil) ∧ Below n₀ w (set4 W (n₀ + 1) a b c d) ∧ (set4 W (n₀ + 1) a b c d).heap[n₀ + 1]? = some (.cells #[a, b, c, d] 35 (0, 0)) :=
  ⟨own_far4 h.lev (own_box h.lev h.rec1 (by decide)), own_far4 hg (own_box hg h.rec1 (by decide)), own_far4 h.fil (own_box h.fil h.rec1 (by decide)), set4_below h.bel (Nat.le_succ n₀) a b c d, set4_blk h.rec1 a b c d⟩

set_option maxRecDepth 1000000 in
set_option maxHeartbeats 8000000 in
theorem fill_any (nm : ByteArray) (st : Int) (lv gv : Value) (bs : List Nat) (gs : List (Int × Int)) (n : Int) (w : World) (hl : Rd w w.heap.size lv bs.length (flc bs)) (hg : Rd w w.heap.size gv gs.length (spc gs)) (V : Valid nm st bs gs) (hn : 0 ≤ n ∧ n ≤ 4096) :
    Calls Tryz.prog 28 #[.agg #[.string nm, .int .i64 st, lv, gv], .int .i64 n] w fun e w' => ∃ LV GV FV, e = .returned (.tuple #[.agg #[.string nm, .int .i64 st, LV, GV], FV, .int .i64 0]) ∧
      w'.ownsRow w.heap.size 60 1 LV bs.length (flc (fillF bs gs n gs.length).lev) ∧ w'.ownsRow w.heap.size 50 2 GV (fillF bs gs n gs.length).gap.length (spc (fillF bs gs n gs.length).gap) ∧ w'.ownsRow w.heap.size 50 2 FV (fillF bs gs n gs.length).fil.length (spc (fillF bs gs n gs.length).fil) ∧ Below w.heap.size w w' := by
  obtain ⟨i0, hi, hz0, hz1, hz2⟩ := info_parts spanInfo
  have HL := hd hl
  have HG := hd hg
  have HV := hd V
  have hl2 := hl
  have hg2 := hg
  obtain ⟨A1, c1, rfl, hq1, hq2, -⟩ := hl2
  obtain ⟨A2, c2, rfl, hq3, hq4, -⟩ := hg2
  have hbn : bs.length ≤ 4096 := V.most
  unfold maxLen at hq2 hq4
  have hgs : gs.length ≤ 2048 := (chkSpans_ok gs V.spans).1
  have HSP := hd (show ∀ k, k < gs.length → 0 ≤ (gs.getD k (0, 0)).1 ∧ (gs.getD k (0, 0)).1 < (gs.getD k (0, 0)).2 ∧ (gs.getD k (0, 0)).2 ≤ (bs.length : Int) from fun k hk => by have := V.ends k hk; have h2 := (chkSpans_ok gs V.spans).2.1 (gs.getD k (0, 0)) (by simp [hk]); omega)
  have hrt := hd (show rng n 0 4096 = 0 by unfold rng; rw [if_pos ⟨by omega, by omega⟩])
  obtain ⟨hn1, hn2⟩ := hn
  clear hl hg V
  go_enter Tryz.func28, Tryz.ntmps28
  go_wp2_with fail
  obtain ⟨W0, hW0⟩ : ∃ W0, W0 = (w.alloc (.cells #[.string nm, .int .i64 st, .slice A1 bs.length c1, .slice A2 gs.length c2] 35)).alloc (.cells #[.string ⟨#[]⟩, .int .i64 0, .slice none 0 0, .slice none 0 0] 35) := ⟨_, rfl⟩
  have hsz : W0.heap.size = w.heap.size + 2 := by rw [hW0]; simp
  have hb0 : Below w.heap.size w W0 := by rw [hW0]; exact ((Below.refl _ w).alloc (Nat.le_refl _) _).alloc (by simp) _
  have HRA := hd (show W0.heap[w.heap.size]? = some (.cells #[.string nm, .int .i64 st, .slice A1 bs.length c1, .slice A2 gs.length c2] 35 (0, 0)) by rw [hW0, Below.heap_alloc _ _ _ (by simp)]; exact blk_new _ _ _)
  have HRB := hd (show W0.heap[w.heap.size + 1]? = some (.cells #[.string ⟨#[]⟩, .int .i64 0, .slice none 0 0, .slice none 0 0] 35 (0, 0)) by
    have h1 := blk_new (w.alloc (.cells #[.string nm, .int .i64 st, .slice A1 bs.length c1, .slice A2 gs.length c2] 35)) #[.string ⟨#[]⟩, .int .i64 0, .slice none 0 0, .slice none 0 0] 35
    simp only [World.size_alloc] at h1
    rw [hW0]; exact h1)
  rw [← hW0]
  clear hW0
  have HRD := hd (fun (W : World) (hB : Below w.heap.size w W) => And.intro ((HL.out.below hB (Nat.le_refl _)).mono hB.size) ((HG.out.below hB (Nat.le_refl _)).mono hB.size))
  refine (chkRec_ok nm st _ _ bs gs _ (HRD.out _ hb0).1 (HRD.out _ hb0).2 HV.out).mono ?_
  rintro e w1 ⟨rfl, hb1⟩
  have hb1s := hb1.size
  have hz := hd (show fst0 [0, 0] = 0 by simp [fst0])
  have HB1 := hd hb1
  have hra := fun o => (Below.heap_alloc w1 o w.heap.size (by omega)).trans ((hb1.block _ (show w.heap.size < W0.heap.size by omega)).trans HRA.out)
  have HRAA := hd hra
  clear hb1 hra
  go_wp2_with (first | (go_at_call 59; refine (rng_any _ _ _ _).mono ?_; rintro e w' ⟨rfl, rfl⟩; rw [hrt.out]) | (go_at_call 39; refine (first2 _ _ _ _).mono ?_; rintro e w' ⟨rfl, rfl⟩; rw [hz.out]))
  obtain ⟨W2, hW2⟩ : ∃ W2, W2 = w1.alloc (.cells #[.int .i64 0, .int .i64 0] 36) := ⟨_, rfl⟩
  have hs2 : W2.heap.size = w1.heap.size + 1 := by rw [hW2]; simp
  have hb02 : Below W0.heap.size W0 W2 := by rw [hW2]; exact HB1.out.alloc hb1s _
  have hra2 : W2.heap[w.heap.size]? = some (.cells #[.string nm, .int .i64 st, .slice A1 bs.length c1, .slice A2 gs.length c2] 35 (0, 0)) := by rw [hW2]; exact HRAA.out _
  rw [← hW2]
  clear hW2
  have n0 := blk_cell hra2 0
  have n1 := blk_cell hra2 1
  have n2 := blk_cell hra2 2
  simp at n0 n1 n2
  have HB2 := hd (And.intro hb02 hra2)
  have HCL := hd (fun (W : World) (hb : Below W2.heap.size W2 W) => cloneFl_any (.slice A1 bs.length c1) bs W (HRD.out _ ((hb0.trans (hb02.mono hb0.size)).trans (hb.mono (by have := hb02.size; omega)))).1 (by omega))
  clear hb02 hra2
  have hwW : w.heap.size < W2.heap.size := by have := HB2.out.1.size; omega
  have hne1 : w.heap.size ≠ W2.heap.size := by omega
  have hne2 : W2.heap.size ≠ w.heap.size := by omega
  have hw02 : w.heap.size + 2 ≤ W2.heap.size := by omega
  clear hs2 hb1s hsz
  go_region_held3 (fun x => x.cell? ⟨w.heap.size, 0, none⟩ = some (.string nm) ∧ x.cell? ⟨w.heap.size, 1, none⟩ = some (.int .i64 st) ∧ x.cell? ⟨w.heap.size, 2, none⟩ = some (.slice A1 bs.length c1)) (go_keep)
        (first | (go_at_call 60; refine (HCL.out _ (by first | exact (Below.refl _ W2).drew | exact ((Below.refl _ W2).drew).alloc (Nat.le_refl _) _)).mono ?_; rintro e w4 ⟨lv4, rfl, hown4, hb4⟩; obtain ⟨A4, c4, hv4, -⟩ := own_form hown4; subst hv4; have hW4 : Below W2.heap.size W2 w4 := (by first | exact ((Below.refl _ W2).drew).trans hb4 | exact (((Below.refl _ W2).drew).alloc (Nat.le_refl _) (.cells #[.string ⟨#[]⟩, .int .i64 0, .slice none 0 0, .slice none 0 0] 35)).trans (hb4.mono (by simp))); have hs4 := hW4.size; have hr4 := (hW4.block _ hwW).trans HB2.out.2; have N0 := blk_cell hr4 0; have N1 := blk_cell hr4 1; have N2 := blk_cell hr4 2; simp at N0 N1 N2; (first | (have hO4 := (hb4.block W2.heap.size (by first | (simp; done) | (show W2.heap.size < (W2.heap.push _).size; simp))).trans (blk_new W2.drew #[.string ⟨#[]⟩, .int .i64 0, .slice none 0 0, .slice none 0 0] 35); have p0 := blk_cell hO4 0; have p1 := blk_cell hO4 1; have p2 := blk_cell hO4 2; have p3 := blk_cell hO4 3; try simp at p0 p1 p2 p3; have f0 := blk_frozen hO4 0; have f1 := blk_frozen hO4 1; have f2 := blk_frozen hO4 2; have f3 := blk_frozen hO4 3; have HO4 := hd hO4; clear hO4) | (have hZ := blk_new w4 #[.string ⟨#[]⟩, .int .i64 0, .slice none 0 0, .slice none 0 0] 35; have z0 := blk_cell hZ 0; have z1 := blk_cell hZ 1; have z2 := blk_cell hZ 2; have z3 := blk_cell hZ 3; try simp at z0 z1 z2 z3; have g0 := blk_frozen hZ 0; have g1 := blk_frozen hZ 1; have g2 := blk_frozen hZ 2; have g3 := blk_frozen hZ 3; clear hZ)); have HB4 := hd (And.intro hown4 (And.intro hb4 (And.intro hW4 hr4))); have hne4 : w.heap.size ≠ w4.heap.size := (by omega); have hne5 : w4.heap.size ≠ w.heap.size := (by omega); clear hown4 hb4 hW4 hr4 n0 n1 n2))
  obtain ⟨hown4, hb4, hW4, hr4⟩ := HB4.out
  have hb4w : Below w.heap.size w w4 := (hb0.trans (HB2.out.1.mono hb0.size)).trans (hW4.mono (by omega))
  have h11 := (hW4.block (w.heap.size + 1) (by omega)).trans ((HB2.out.1.block _ (blk_lt HRB.out)).trans HRB.out)
  have HFI := hd (show FI w.heap.size w4.heap.size bs.length w #[.string nm, .int .i64 st, .slice A1 bs.length c1, .slice A2 gs.length c2] nm st (.slice A4 bs.length c4) (fillF bs gs n 0) (.slice none 0 0) (w4.alloc (.cells #[.string nm, .int .i64 st, .slice A4 bs.length c4, .slice none 0 0] 35)) from
    ⟨own_base (hown4.alloc _) (by show w.heap.size ≤ W2.heap.size; omega), ⟨.slice none 0 0, blk_new _ _ _, World.ownsRow_nil _ _ _ _, fun g hg => by cases hg⟩, World.ownsRow_nil _ _ _ _, (Below.heap_alloc _ _ _ (by omega)).trans hr4, (Below.heap_alloc _ _ _ (by omega)).trans h11, hb4w.alloc hb4w.size _⟩)
  have hwO : w.heap.size + 2 ≤ w4.heap.size := by omega
  clear HB4 hown4 hb4 hW4 hr4 N0 N1 N2 z0 z1 z2 z3 g0 g1 g2 g3 hne4 hne5 hs4 hb4w h11
  generalize (w4.alloc (.cells #[.string nm, .int .i64 st, .slice A4 bs.length c4, .slice none 0 0] 35)) = W3 at *
  generalize w4.heap.size = O at *
  rotate_left 1
  obtain ⟨hown4, hb4, hW4, hr4⟩ := HB4.out
  have hb4w : Below w.heap.size w w4 := (hb0.trans (HB2.out.1.mono hb0.size)).trans (hW4.mono (by omega))
  have h11 := (hW4.block (w.heap.size + 1) (by omega)).trans ((HB2.out.1.block _ (blk_lt HRB.out)).trans HRB.out)
  have hl4 := own_set4 (R := W2.heap.size) (a := .string nm) (b := .int .i64 st) (c := .slice A4 bs.length c4) (d := .slice none 0 0) hown4 (by show W2.heap.size < (W2.heap.push _).size; simp)
  have hO4 := set4_blk HO4.out (.string nm) (.int .i64 st) (.slice A4 bs.length c4) (.slice none 0 0)
  have hr5 := (set4_other w4 (R := W2.heap.size) (D := w.heap.size) (by omega) (.string nm) (.int .i64 st) (.slice A4 bs.length c4) (.slice none 0 0)).trans hr4
  have h12 := (set4_other w4 (R := W2.heap.size) (D := w.heap.size + 1) (by omega) (.string nm) (.int .i64 st) (.slice A4 bs.length c4) (.slice none 0 0)).trans h11
  have hb5 := set4_below hb4w (R := W2.heap.size) (by omega) (.string nm) (.int .i64 st) (.slice A4 bs.length c4) (.slice none 0 0)
  have HFI := hd (show FI w.heap.size W2.heap.size bs.length w #[.string nm, .int .i64 st, .slice A1 bs.length c1, .slice A2 gs.length c2] nm st (.slice A4 bs.length c4) (fillF bs gs n 0) (.slice none 0 0) (set4 w4 W2.heap.size (.string nm) (.int .i64 st) (.slice A4 bs.length c4) (.slice none 0 0)) from
    ⟨own_base hl4 (by show w.heap.size ≤ (W2.heap.push _).size; simp; omega), ⟨.slice none 0 0, hO4, World.ownsRow_nil _ _ _ _, fun g hg => by cases hg⟩, World.ownsRow_nil _ _ _ _, hr5, h12, hb5⟩)
  have hwO : w.heap.size + 2 ≤ W2.heap.size := hw02
  change Exit.then _ _ _ _ (set4 w4 W2.heap.size (.string nm) (.int .i64 st) (.slice A4 bs.length c4) (.slice none 0 0))
  clear HB4 hown4 hb4 hW4 hr4 N0 N1 N2 p0 p1 p2 p3 f0 f1 f2 f3 hne4 hne5 hs4 hb4w h11 HO4 hl4 hO4 hr5 h12 hb5
  generalize (set4 w4 W2.heap.size (.string nm) (.int .i64 st) (.slice A4 bs.length c4) (.slice none 0 0)) = W3 at *
  generalize W2.heap.size = O at *
  all_goals
    have k3 := blk_cell HFI.out.rec0 3
    simp at k3
    go_wp2
    go_loopw [9, 34] (fun fv i wr => ∃ k : Nat, k ≤ gs.length ∧ i = .int .i64 k ∧ Hid (FI w.heap.size O bs.length w #[.string nm, .int .i64 st, .slice A1 bs.length c1, .slice A2 gs.length c2] nm st (.slice A4 bs.length c4) (fillF bs gs n k) fv wr)) (fun _ i _ => gs.length - (intOf i).toNat)
    case atStart => exact ⟨0, Nat.zero_le _, rfl, HFI⟩
    case round =>
      obtain ⟨k, hk, rfl, HI⟩ := hrel
      clear HFI k3
      by_cases hlt : k < gs.length
      · obtain ⟨A', c', e', -, -, hx⟩ := (HRD.out _ HI.out.bel).2
        cases e'
        obtain ⟨b, off, rfl, hbb, hcell⟩ := hx (by omega)
        obtain ⟨q1, q2⟩ := spc_getD gs k hlt
        have hs0 : wr.cell? ⟨b, off + k * 2, none⟩ = some (.int .i64 (gs.getD k (0, 0)).1) := (hcell (k * 2) (by rw [spc_len]; omega)).trans q1
        have hs1 : wr.cell? ⟨b, off + k * 2 + 1, none⟩ = some (.int .i64 (gs.getD k (0, 0)).2) := (hcell (k * 2 + 1) (by rw [spc_len]; omega)).trans q2
        have hsp := HSP.out k hlt
        obtain ⟨F, T, hft⟩ : ∃ F T : Int, gs.getD k (0, 0) = (F, T) := ⟨_, _, rfl⟩
        rw [hft] at hs0 hs1 hsp
        simp only at hs0 hs1 hsp
        have HFT := hd hft
        have hki : (k : Int) < (gs.length : Int) := by omega
        have hwr := HI.out.bel.size
        obtain ⟨GV, g1, g2, g3⟩ := HI.out.out
        have hOlt := blk_lt g1
        have hO0 := blk_cell g1 3
        simp at hO0
        have hlen := fillF_len bs gs n k
        clear hft q1 q2 hcell hx
        have HCT := hd (show ∀ j u, [Value.int .i64 F, .int .i64 T][j]? = some u → ((wr.alloc (.cells #[.int .i64 F, .int .i64 T] 50)).alloc (.cells #[.int .i64 F, .int .i64 T] 50)).cell? ((⟨wr.heap.size + 1, 0, none⟩ : Addr).add j) = some u from by have h := cell_two_new (wr.alloc (.cells #[.int .i64 F, .int .i64 T] 50)) (.int .i64 F) (.int .i64 T) 50; rw [World.size_alloc] at h; exact h)
        have HBB := hd ((((Below.refl _ wr).alloc (Nat.le_refl _) (.cells #[.int .i64 F, .int .i64 T] 50)).alloc (by simp) (.cells #[.int .i64 F, .int .i64 T] 50)))
        have HSZ := hd (show w.heap.size ≤ ((wr.alloc (.cells #[.int .i64 F, .int .i64 T] 50)).alloc (.cells #[.int .i64 F, .int .i64 T] 50)).heap.size by simp; omega)
        have HG := hd (And.intro g1 (And.intro g2 g3))
        by_cases hc : F = 0 ∨ T - F > n
        · have HKE := hd (fillF_keep (bs := bs) (n := n) HFT.out hc)
          have H63 := hd (show (fillF bs gs n k).gap.length + 1 ≤ maxLen by unfold maxLen; omega)
          have HBY := hd (show ((fillF bs gs n k).gap.length + 1) * 16 ≤ 140737488355328 by omega)
          clear hlen g1 g2 g3
          by_cases hf : F = 0
          · subst hf
            go_wp2_with (at_builtin; refine wpList_append_own_at _ rfl _ _ 23 rfl w.heap.size 50 i0 (.agg #[.int .i64 0, .int .i64 0]) 2 16 Tryz.underlying23 hi hz0 hz1 hz2 rfl (by decide) _ _ _ rfl (own_bel HG.out.2.1 HBB.out) ⟨wr.heap.size + 1, 0, none⟩ 1 1 [.int .i64 0, .int .i64 T] rfl rfl HCT.out (by simp [Value.oneCell']) H63.out HBY.out HSZ.out ?_; intro v' w5 hown' hgrow _ hat; obtain ⟨A5, c5, hv5, -⟩ := own_form hown'; subst hv5; have HN := hd (And.intro hown' (And.intro hgrow hat)); have hb5 := (hgrow.block O (blk_lt ((HBB.out.block _ (blk_lt HG.out.1)).trans HG.out.1)) (blk_not_row ((HBB.out.block _ (blk_lt HG.out.1)).trans HG.out.1) (by decide) (own_bel HG.out.2.1 HBB.out))).trans ((HBB.out.block _ (blk_lt HG.out.1)).trans HG.out.1); have r3 := blk_cell hb5 3; have r4 := blk_frozen hb5 3; simp at r3; clear hown' hgrow hat hb5)
            go_roundw
            case rel => exact ⟨k + 1, by omega, by go_num, hd (by rw [HKE.out]; exact (HI.out.below HBB.out).keep hwO ((HBB.out.block _ (blk_lt HG.out.1)).trans HG.out.1) (own_bel HG.out.2.1 HBB.out) HG.out.2.2 HN.out.1 HN.out.2.1 HN.out.2.2)⟩
            case measure => simp [intOf]; omega
          · have hgt : T - F > n := by omega
            go_wp2_with (at_builtin; refine wpList_append_own_at _ rfl _ _ 23 rfl w.heap.size 50 i0 (.agg #[.int .i64 0, .int .i64 0]) 2 16 Tryz.underlying23 hi hz0 hz1 hz2 rfl (by decide) _ _ _ rfl (own_bel HG.out.2.1 HBB.out) ⟨wr.heap.size + 1, 0, none⟩ 1 1 [.int .i64 F, .int .i64 T] rfl rfl HCT.out (by simp [Value.oneCell']) H63.out HBY.out HSZ.out ?_; intro v' w5 hown' hgrow _ hat; obtain ⟨A5, c5, hv5, -⟩ := own_form hown'; subst hv5; have HN := hd (And.intro hown' (And.intro hgrow hat)); have hb5 := (hgrow.block O (blk_lt ((HBB.out.block _ (blk_lt HG.out.1)).trans HG.out.1)) (blk_not_row ((HBB.out.block _ (blk_lt HG.out.1)).trans HG.out.1) (by decide) (own_bel HG.out.2.1 HBB.out))).trans ((HBB.out.block _ (blk_lt HG.out.1)).trans HG.out.1); have r3 := blk_cell hb5 3; have r4 := blk_frozen hb5 3; simp at r3; clear hown' hgrow hat hb5)
            go_roundw
            case rel => exact ⟨k + 1, by omega, by go_num, hd (by rw [HKE.out]; exact (HI.out.below HBB.out).keep hwO ((HBB.out.block _ (blk_lt HG.out.1)).trans HG.out.1) (own_bel HG.out.2.1 HBB.out) HG.out.2.2 HN.out.1 HN.out.2.1 HN.out.2.2)⟩
            case measure => simp [intOf]; omega
        · obtain ⟨f, rfl⟩ : ∃ f : Nat, F = (f : Int) + 1 := ⟨(F - 1).toNat, by omega⟩
          obtain ⟨t, rfl⟩ : ∃ t : Nat, T = (t : Int) := ⟨T.toNat, by omega⟩
          have HKE := hd (fillF_fill (bs := bs) (n := n) (f := f + 1) HFT.out hc)
          have H63 := hd (show (fillF bs gs n k).fil.length + 1 ≤ maxLen by unfold maxLen; omega)
          have HBY := hd (show ((fillF bs gs n k).fil.length + 1) * 16 ≤ 140737488355328 by omega)
          have hf : ¬((f : Int) + 1 = 0) := by omega
          have hgt : ¬(n < (t : Int) - ((f : Int) + 1)) := by omega
          have hft2 : f + 1 < t := by omega
          have htb : t ≤ bs.length := by omega
          clear hlen g1 g2 g3 HG hc hsp
          go_wp2_with (at_builtin; refine wpList_append_own_at _ rfl _ _ 23 rfl w.heap.size 50 i0 (.agg #[.int .i64 0, .int .i64 0]) 2 16 Tryz.underlying23 hi hz0 hz1 hz2 rfl (by decide) _ _ _ rfl (own_bel HI.out.fil HBB.out) ⟨wr.heap.size + 1, 0, none⟩ 1 1 [.int .i64 ((f : Int) + 1), .int .i64 (t : Int)] rfl rfl HCT.out (by simp [Value.oneCell']) H63.out HBY.out HSZ.out ?_; intro v' w5 hown' hgrow _ hat; obtain ⟨A5, c5, hv5, -⟩ := own_form hown'; subst hv5; have HJ := hd ((HI.out.below HBB.out).fill hown' hgrow hat); have hb5 := (hgrow.block wr.heap.size (by simp; omega) (fun e => by have := (HI.out.fil.lt _ e.symm).2; omega)).trans ((Below.heap_alloc _ _ _ (by simp)).trans (blk_new wr _ _)); have r0 := blk_cell hb5 0; simp at r0; have HBX := hd hb5; clear hown' hgrow hat hb5)
          obtain ⟨SB, hSB⟩ : ∃ SB, SB = wr.heap.size := ⟨_, rfl⟩
          rw [← hSB] at HBX ⊢
          clear hSB r0
          go_loopw [12] (fun i wq => ∃ j : Nat, f + 1 ≤ j ∧ j ≤ t ∧ i = .int .i64 (j : Int) ∧ Hid (FI w.heap.size O bs.length w #[.string nm, .int .i64 st, .slice A1 bs.length c1, .slice (some ⟨b, off, none⟩) gs.length c2] nm st (.slice A4 bs.length c4) ⟨(setK (fillF bs gs n k).lev (f + 1) j (bs.getD f 0)), (fillF bs gs n k).gap, (fillF bs gs n k).fil ++ [((f : Int) + 1, (t : Int))]⟩ (.slice A5 ((fillF bs gs n k).fil.length + 1) c5) wq) ∧ Hid (wq.heap[SB]? = some (.cells #[.int .i64 ((f : Int) + 1), .int .i64 (t : Int)] 50 (0, 0)))) (fun i _ => t - (intOf i).toNat)
          case atStart => exact ⟨f + 1, Nat.le_refl _, by omega, rfl, hd (by rw [setK_zero]; exact HJ.out), HBX⟩
          case round =>
            obtain ⟨j, hj1, hj2, rfl, HJ, HBX⟩ := hrel
            have x0 := blk_cell HBX.out 0
            have x1 := blk_cell HBX.out 1
            simp at x0 x1
            by_cases hjt : j < t
            · have hjt' : (j : Int) < (t : Int) := by omega
              obtain ⟨A', c', e', -, -, hx⟩ := (HRD.out _ HJ.out.bel).1
              cases e'
              obtain ⟨b1, off1, rfl, -, hcell⟩ := hx (by omega)
              obtain ⟨v1, hv1⟩ : ∃ v, v = bs.getD f 0 := ⟨_, rfl⟩
              have hc1 : wr.cell? ⟨b1, off1 + f, none⟩ = some (.float .f32 v1) := by
                have := hcell f (by simp [flc]; omega)
                rw [this, hv1]; simp [flc, show f < bs.length by omega]
              obtain ⟨A'', c'', e'', hx4⟩ := own_form HJ.out.lev
              cases e''
              obtain ⟨g4, rfl⟩ := hx4 (by omega)
              have l0 := HJ.out.lev.cellAt j (by omega)
              have l1 := HJ.out.lev.frozenAt j
              obtain ⟨GW, y1, y2, -⟩ := HJ.out.out
              have o2 := blk_cell y1 2
              have n2 := blk_cell HJ.out.rec0 2
              simp at o2 n2
              have l0' : wr.cell? ⟨g4, j, none⟩ = some (((flc (setK (fillF bs gs n k).lev (f + 1) j (bs.getD f 0)))[j]?).getD undef) := by
                rw [l0]; cases h : (flc (setK (fillF bs gs n k).lev (f + 1) j (bs.getD f 0)))[j]? with
                | some v => rfl
                | none => rw [List.getElem?_eq_none_iff] at h; simp [flc, setK_len, (fillF_len bs gs n k).1] at h; omega
              generalize ((flc (setK (fillF bs gs n k).lev (f + 1) j (bs.getD f 0)))[j]?).getD undef = lx at l0'
              have hji : (j : Int) < (bs.length : Int) := by omega
              have hfi : (f : Int) < (bs.length : Int) := by omega
              have HV1 := hd hv1
              clear l0 y1 y2 hcell hx hx4 hv1
              go_wp2_with fail
              go_big_region
              go_wp2
              go_roundw
              case rel => exact ⟨j + 1, by omega, by omega, by go_num, hd (HJ.out.put (HJ.out.lev.lt g4 rfl).1 j (by rw [HV1.out]; exact setK_step _ _ _ _ hj1)).drew, hd ((Below.heap_setCell wr ⟨g4, j, none⟩ _ _ (by
                show SB ≠ g4
                intro e
                subst e
                obtain ⟨cs, hcs⟩ := own_blk HJ.out.lev
                rw [HBX.out] at hcs
                cases hcs)).trans HBX.out)⟩
              case measure => simp [intOf]; omega
            · have hjt' : ¬((j : Int) < (t : Int)) := by omega
              obtain rfl : j = t := by omega
              go_wp2
              go_roundw
              case rel => exact ⟨k + 1, by omega, by go_num, hd (by rw [HKE.out]; exact HJ.out)⟩
              case measure => simp [intOf]; omega
      · obtain rfl : k = gs.length := by omega
        obtain ⟨GV, g1, g2, g3⟩ := HI.out.out
        obtain ⟨Ag, cg, hgv, -⟩ := own_form g2
        subst hgv
        have o0 := blk_cell g1 0
        have o1 := blk_cell g1 1
        have o2 := blk_cell g1 2
        have o3 := blk_cell g1 3
        have n0 := blk_cell HI.out.rec1 0
        have n1 := blk_cell HI.out.rec1 1
        have n2 := blk_cell HI.out.rec1 2
        have n3 := blk_cell HI.out.rec1 3
        simp at o0 o1 o2 o3 n0 n1 n2 n3
        have m0 := blk_frozen HI.out.rec1 0
        have m1 := blk_frozen HI.out.rec1 1
        have m2 := blk_frozen HI.out.rec1 2
        have m3 := blk_frozen HI.out.rec1 3
        have HDN := hd (HI.out.done g2 (.string nm) (.int .i64 st) (.slice A4 bs.length c4) (.slice Ag (fillF bs gs n gs.length).gap.length cg))
        clear g1 g2 g3
        go_wp2
        change bodyPost _ _ _ _ _ (set4 wr (w.heap.size + 1) (.string nm) (.int .i64 st) (.slice A4 bs.length c4) (.slice Ag (fillF bs gs n gs.length).gap.length cg))
        obtain ⟨d1, d2, d3, d4, d5⟩ := HDN.out
        generalize (set4 wr (w.heap.size + 1) (.string nm) (.int .i64 st) (.slice A4 bs.length c4) (.slice Ag (fillF bs gs n gs.length).gap.length cg)) = WE at *
        have u0 := blk_cell d5 0
        have u1 := blk_cell d5 1
        have u2 := blk_cell d5 2
        have u3 := blk_cell d5 3
        simp at u0 u1 u2 u3
        exact bodyPost_ret (v := .tuple #[.agg #[.string nm, .int .i64 st, .slice A4 bs.length c4, .slice Ag (fillF bs gs n gs.length).gap.length cg], u9, .int .i64 0]) (by simp [results, Tryz.results28, go_sem, u0, u1, u2, u3]) rfl ⟨_, _, _, rfl, d1, d2, d3, d4⟩
end Go.Proofs.YtkgkpcmokmhakaaGreatDoor

namespace Go.Proofs.YtkgkpcmokmhakaaGreatDoor
open Go Go.RowKit

theorem take_next (gs : List (Int × Int)) (k : Nat) (h : k < gs.length) : gs.take (k + 1) = gs.take k ++ [gs.getD k (0, 0)] := by
  rw [List.take_add_one]
  simp [List.getElem?_eq_getElem h, List.getD]
end Go.Proofs.YtkgkpcmokmhakaaGreatDoor
