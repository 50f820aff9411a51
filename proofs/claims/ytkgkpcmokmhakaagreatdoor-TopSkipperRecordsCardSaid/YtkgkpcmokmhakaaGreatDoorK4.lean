/-
  Contract of gauge.stuck (the rule 'stuck'). Condition: a record of at most 100000 valid levels, the ends of whose gaps ascend.
  Plain facts for gauge.apply: that the stretches' ends ascend; which indices the rules remove; what the rules leave, one by one. Conditions are stated at each.
-/
import Derived.Test.YtkgkpcmokmhakaaGreatDoorProg
import Derived.Test.YtkgkpcmokmhakaaGreatDoorMF
import Derived.Maps.AppendAt
import Derived.Test.YtkgkpcmokmhakaaGreatDoorME

namespace Go.Proofs.YtkgkpcmokmhakaaGreatDoor
open Go.RowKit Go.Shelf
attribute [local go_sem] Oper.semAt_some
attribute [local go_sem, local simp] wide_fn

theorem box_grow {W w1 : World} {r B : Nat} {t e : TypeId} {size : Nat} {v b : Value} {k : Nat} {xs : List Value} {tmp : Obj} (h : Boxed W B t b) (hrow : W.ownsRow r e size v k xs) (hB : B < r) (hg : (W.alloc tmp).grownBy w1 v.ownBlock) : Boxed w1 B t b :=
  (h.alloc tmp).kept hg (low_not_row hrow hB)

/-- That two levels are the same. -/
def feq (a b : Nat) : Bool := FloatKind.f32.format.order a b == some .eq
/-- What stuck carries: the next index, the bits before, how many equal ones, the indices found. -/
def seq' (s : Int × Nat × Int × List Int) (x : Lv) : Int := if (decide ((x.1.1 : Int) = s.1) && feq x.1.2 s.2.1) = true then s.2.2.1 + 1 else 0
def sstep (A : Int) (s : Int × Nat × Int × List Int) (x : Lv) : Int × Nat × Int × List Int :=
  ((x.1.1 : Int) + 1, x.1.2, seq' s x, if A ≤ seq' s x then s.2.2.2 ++ [(x.1.1 : Int)] else s.2.2.2)
def sf (A : Int) (l : List Lv) : Int × Nat × Int × List Int := l.foldl (sstep A) (-1, 0, 0, [])
theorem sf_snoc (A : Int) (l : List Lv) (x : Lv) : sf A (l ++ [x]) = sstep A (sf A l) x := by simp [sf]
theorem sf_go (A : Int) : ∀ (l : List Lv) (s : Int × Nat × Int × List Int), 0 ≤ s.2.2.1 →
    0 ≤ (l.foldl (sstep A) s).2.2.1 ∧ (l.foldl (sstep A) s).2.2.1 ≤ s.2.2.1 + l.length ∧ (l.foldl (sstep A) s).2.2.2.length ≤ s.2.2.2.length + l.length
  | [], s, h1 => ⟨h1, by simp, by simp⟩
  | x :: l, s, h1 => by
    simp only [List.foldl_cons]
    have e0 : 0 ≤ seq' s x ∧ seq' s x ≤ s.2.2.1 + 1 := by unfold seq'; split <;> omega
    have e1 : (sstep A s x).2.2.1 = seq' s x := rfl
    have e2 : (sstep A s x).2.2.2.length ≤ s.2.2.2.length + 1 := by unfold sstep; simp only; split <;> simp
    obtain ⟨g1, g2, g3⟩ := sf_go A l (sstep A s x) (by rw [e1]; exact e0.1)
    rw [e1] at g2
    refine ⟨g1, ?_, ?_⟩
    · simp only [List.length_cons]; omega
    · simp only [List.length_cons]; omega
theorem sf_ok (A : Int) (l : List Lv) : 0 ≤ (sf A l).2.2.1 ∧ (sf A l).2.2.1 ≤ l.length ∧ (sf A l).2.2.2.length ≤ l.length := by
  have := sf_go A l (-1, 0, 0, []) (by decide)
  simpa [sf] using this

set_option maxRecDepth 1000000 in
set_option maxHeartbeats 8000000 in
theorem stuck_in (kd nm : ByteArray) (A B st : Int) (lv gv : Value) (bs : List Nat) (gs : List (Int × Int)) (w : World) (hl : Rd w w.heap.size lv bs.length (flc bs)) (hg : Rd w w.heap.size gv gs.length (spc gs)) (hasc : Asc gs) (hgs : gs.length ≤ 100000) (hbs : bs.length ≤ 100000) (hok : ∀ j, j < bs.length → levOK (bs.getD j 0) = true) :
    CallsIn Fence.wide 5 Tryz.prog 97 #[.agg #[.string kd, .int .i64 A, .int .i64 B], .agg #[.string nm, .int .i64 st, lv, gv]] w (OwnsIn w.heap.size (sf A (itm gs (fLv bs) bs.length)).2.2.2 w) := by
  obtain ⟨i0, hi, hz0, hz1, hz2⟩ := info_parts intInfo
  have HL := hd hl
  have HG := hd hg
  have HOK := hd (And.intro hasc (And.intro hgs (And.intro hbs (fLv_at bs hbs hok))))
  have hl2 := hl
  have hg2 := hg
  obtain ⟨A1, c1, rfl, -, -, -⟩ := hl2
  obtain ⟨A2, c2, rfl, -, -, -⟩ := hg2
  clear hl hg hasc hgs hok
  refine callsIn_of_wp_marks Tryz.func97 rfl trivial ?_ rfl
  simp only [Tryz.ntmps97, List.size_toArray, List.length_cons, List.length_nil, Nat.reduceAdd, Nat.reduceSub, Array.replicate_succ, Array.replicate_zero, List.push_toArray, List.append_toArray, List.nil_append, List.cons_append]
  gi_wp2_with (gi_at_call 53; refine (callsIn_wide.2 (recorded_any _ _ _ _ _)).mono ?_; rintro e w' ⟨rfl, rfl⟩)
  have hR0 := blk_new w #[.string kd, .int .i64 A, .int .i64 B] 34
  obtain ⟨w1, hw1⟩ : ∃ w1, w1 = w.alloc (.cells #[.string kd, .int .i64 A, .int .i64 B] 34) := ⟨_, rfl⟩
  obtain ⟨w2, hw2⟩ : ∃ w2, w2 = w1.alloc (.cells #[.string nm, .int .i64 st, .slice A1 bs.length c1, .slice A2 gs.length c2] 35) := ⟨_, rfl⟩
  obtain ⟨w3, hw3⟩ : ∃ w3, w3 = w2.alloc (.cells #[.slice none 0 0] 41) := ⟨_, rfl⟩
  obtain ⟨w4, hw4⟩ : ∃ w4, w4 = w3.alloc (.cells #[.int .i64 (-1)] 3) := ⟨_, rfl⟩
  obtain ⟨w5, hw5⟩ : ∃ w5, w5 = w4.alloc (.cells #[.float .f32 0] 60) := ⟨_, rfl⟩
  obtain ⟨w6, hw6⟩ : ∃ w6, w6 = w5.alloc (.cells #[.int .i64 0] 3) := ⟨_, rfl⟩
  obtain ⟨W0, hW0⟩ : ∃ W0, W0 = w6.alloc (.cells #[.string nm, .int .i64 st, .slice A1 bs.length c1, .slice A2 gs.length c2] 35) := ⟨_, rfl⟩
  rw [← hw1, ← hw2, ← hw3, ← hw4, ← hw5, ← hw6, ← hW0]
  have hs1 : w1.heap.size = w.heap.size + 1 := by rw [hw1]; simp
  have hs2 : w2.heap.size = w.heap.size + 2 := by rw [hw2]; simp; omega
  have hs3 : w3.heap.size = w.heap.size + 3 := by rw [hw3]; simp; omega
  have hs4 : w4.heap.size = w.heap.size + 4 := by rw [hw4]; simp; omega
  have hs5 : w5.heap.size = w.heap.size + 5 := by rw [hw5]; simp; omega
  have hs6 : w6.heap.size = w.heap.size + 6 := by rw [hw6]; simp; omega
  have hsz : W0.heap.size = w.heap.size + 7 := by rw [hW0]; simp; omega
  have hB0 : Below w.heap.size w W0 := by rw [hW0, hw6, hw5, hw4, hw3, hw2, hw1]; exact ((((((((Below.refl _ w).alloc (Nat.le_refl _) _).alloc (by simp) _).alloc (by simp; omega) _).alloc (by simp; omega) _).alloc (by simp; omega) _).alloc (by simp; omega) _).alloc (by simp; omega) _)
  have hRl : W0.heap[w.heap.size]? = some (.cells #[.string kd, .int .i64 A, .int .i64 B] 34 (0, 0)) := by
    rw [hW0, Below.heap_alloc _ _ _ (by omega), hw6, Below.heap_alloc _ _ _ (by omega), hw5, Below.heap_alloc _ _ _ (by omega), hw4, Below.heap_alloc _ _ _ (by omega), hw3, Below.heap_alloc _ _ _ (by omega), hw2, Below.heap_alloc _ _ _ (by omega), hw1]
    exact hR0
  have hBx : Boxed W0 (w.heap.size + 2) 41 (.slice none 0 0) := by
    have h1 := Boxed.new w2 41 (.slice none 0 0)
    rw [hs2] at h1
    rw [hW0, hw6, hw5, hw4, hw3]; exact (((h1.alloc _).alloc _).alloc _).alloc _
  have hBn : Boxed W0 (w.heap.size + 3) 3 (.int .i64 (-1)) := by
    have h1 := Boxed.new w3 3 (.int .i64 (-1))
    rw [hs3] at h1
    rw [hW0, hw6, hw5, hw4]; exact ((h1.alloc _).alloc _).alloc _
  have hBb : Boxed W0 (w.heap.size + 4) 60 (.float .f32 0) := by
    have h1 := Boxed.new w4 60 (.float .f32 0)
    rw [hs4] at h1
    rw [hW0, hw6, hw5]; exact (h1.alloc _).alloc _
  have hBe : Boxed W0 (w.heap.size + 5) 3 (.int .i64 0) := by
    have h1 := Boxed.new w5 3 (.int .i64 0)
    rw [hs5] at h1
    rw [hW0, hw6]; exact h1.alloc _
  have hRc : W0.heap[w.heap.size + 6]? = some (.cells #[.string nm, .int .i64 st, .slice A1 bs.length c1, .slice A2 gs.length c2] 35 (0, 0)) := by
    have h1 := blk_new w6 #[.string nm, .int .i64 st, .slice A1 bs.length c1, .slice A2 gs.length c2] 35
    rw [hs6] at h1
    rw [hW0]; exact h1
  clear hW0 hw1 hw2 hw3 hw4 hw5 hw6 hR0 hs1 hs2 hs3 hs4 hs5 hs6
  refine wpIn_rangeFunc_ownG (α := Lv) rfl (by omega) (gf := 83) (lb := #[.pointer (some ⟨w.heap.size + 6, 0, none⟩)]) rfl trivial (enters_of Tryz.func83 (by kernel_rfl) rfl)
    (rec_stops (fun x : Lv => x.1) (fLv bs) 4 (by omega) (w.heap.size + 6) w.heap.size (w.heap.size + 2) nm st _ _ bs gs HOK.out.2.2.1 HOK.out.2.1 HOK.out.1 HOK.out.2.2.2 W0 (by omega) (by omega) (by omega) hRc (HL.out.below hB0 (Nat.le_refl _)) (HG.out.below hB0 (Nat.le_refl _)))
    KpR.trans (KpR.putObj (by omega)) (Below.refl _ _) (fun _ => rfl)
    (fun pre W => (((∃ v, Boxed W (w.heap.size + 2) 41 v ∧ W.ownsRow (w.heap.size + 6) 3 1 v (sf A pre).2.2.2.length ((sf A pre).2.2.2.map (Value.int .i64)) ∧ True) ∧ W.heap[w.heap.size]? = some (.cells #[.string kd, .int .i64 A, .int .i64 B] 34 (0, 0))) ∧ (Boxed W (w.heap.size + 3) 3 (.int .i64 (sf A pre).1) ∧ Boxed W (w.heap.size + 4) 60 (.float .f32 (sf A pre).2.1) ∧ Boxed W (w.heap.size + 5) 3 (.int .i64 (sf A pre).2.2.1))) ∧ Below w.heap.size w W)
    (fun _ _ _ => False)
    (OwnFrom.and (OwnFrom.and (OwnFrom.and (Own.from (holdsRow_own (w.heap.size + 6) (w.heap.size + 2) 41 3 1 (fun pre => (sf A pre).2.2.2.length) (fun pre => (sf A pre).2.2.2.map (Value.int .i64)) (fun _ _ => True)) _) (Own.from blk_own _)) (OwnFrom.and (Own.from (boxed_own _ _ (fun pre => .int .i64 (sf A pre).1)) _) (OwnFrom.and (Own.from (boxed_own _ _ (fun pre => .float .f32 (sf A pre).2.1)) _) (Own.from (boxed_own _ _ (fun pre => .int .i64 (sf A pre).2.2.1)) _)))) (ownFrom_below (Nat.le_refl _) (by omega)))
    (fun _ _ _ _ _ hs _ _ => hs)
    ⟨⟨⟨⟨_, hBx, World.ownsRow_nil _ _ _ _, trivial⟩, hRl⟩, hBn, hBb, hBe⟩, hB0⟩
    (fun x => { tmps := #[.agg #[.string kd, .int .i64 A, .int .i64 B], .agg #[.string nm, .int .i64 st, .slice A1 bs.length c1, .slice A2 gs.length c2], .pointer (some ⟨w.heap.size, 0, none⟩), .pointer (some ⟨w.heap.size + 1, 0, none⟩), .slice none 0 0, .pointer (some ⟨w.heap.size + 2, 0, none⟩), .pointer (some ⟨w.heap.size + 3, 0, none⟩), .pointer (some ⟨w.heap.size + 4, 0, none⟩), .pointer (some ⟨w.heap.size + 5, 0, none⟩), .int .i64 (x.1.1 : Int), .float .f32 x.1.2, .agg #[.string nm, .int .i64 st, .slice A1 bs.length c1, .slice A2 gs.length c2], .func (.func 83) #[] #[.pointer (some ⟨w.heap.size + 6, 0, none⟩)], .int .i64 (x.1.1 : Int), .float .f32 x.1.2, undef, undef, undef, undef, undef, undef, undef, undef, undef, undef, undef, undef, undef, undef, undef, undef, undef, undef, undef, undef, undef, undef], defers := [] }) ?assign ?body ?done ?stop
  case assign =>
    intro l x W K hK
    gi_wp2
    exact hK
  case body =>
    rintro l pre ⟨⟨i, b⟩, hi2⟩ W ⟨⟨⟨⟨v, hv, hrow, -⟩, hrl⟩, hbn, hbb, hbe⟩, hB⟩ hlt
    obtain ⟨o1, o2, o3⟩ := sf_ok A pre
    have hJ : sf A (pre ++ [⟨(i, b), hi2⟩]) = sstep A (sf A pre) ⟨(i, b), hi2⟩ := sf_snoc _ _ _
    generalize hq : sf A pre = q at *
    obtain ⟨nx, be, eq, out⟩ := q
    simp only at o1 o2 o3 hv hrow hbn hbb hbe
    have hi3 : i < 100000 := hi2.1
    have hd0 : 1 ≤ 5 - 1 - 1 := by omega
    have H63 := hd (show out.length + 1 ≤ maxLen by unfold maxLen; omega)
    have HBY := hd (show (out.length + 1) * 8 ≤ 140737488355328 by omega)
    have hX2 : w.heap.size ≤ w.heap.size + 2 := by omega
    have HJ := hd hJ
    have hbs6 : w.heap.size + 6 ≤ W.heap.size := by have := hbe.lt; omega
    clear hJ hq
    have key : ∀ W' v' nx' be' e' out', sstep A (nx, be, eq, out) ⟨(i, b), hi2⟩ = (nx', be', e', out') → Boxed W' (w.heap.size + 2) 41 v' → W'.ownsRow (w.heap.size + 6) 3 1 v' out'.length (out'.map (Value.int .i64)) → W'.heap[w.heap.size]? = some (.cells #[.string kd, .int .i64 A, .int .i64 B] 34 (0, 0)) → Boxed W' (w.heap.size + 3) 3 (.int .i64 nx') → Boxed W' (w.heap.size + 4) 60 (.float .f32 be') → Boxed W' (w.heap.size + 5) 3 (.int .i64 e') → Below w.heap.size w W' →
        ((((∃ v, Boxed W' (w.heap.size + 2) 41 v ∧ W'.ownsRow (w.heap.size + 6) 3 1 v (sf A (pre ++ [⟨(i, b), hi2⟩])).2.2.2.length ((sf A (pre ++ [⟨(i, b), hi2⟩])).2.2.2.map (Value.int .i64)) ∧ True) ∧ W'.heap[w.heap.size]? = some (.cells #[.string kd, .int .i64 A, .int .i64 B] 34 (0, 0))) ∧ (Boxed W' (w.heap.size + 3) 3 (.int .i64 (sf A (pre ++ [⟨(i, b), hi2⟩])).1) ∧ Boxed W' (w.heap.size + 4) 60 (.float .f32 (sf A (pre ++ [⟨(i, b), hi2⟩])).2.1) ∧ Boxed W' (w.heap.size + 5) 3 (.int .i64 (sf A (pre ++ [⟨(i, b), hi2⟩])).2.2.1))) ∧ Below w.heap.size w W') := by
      intro W' v' nx' be' e' out' h1 h2 h3 h4 h5 h6 h7 h8
      rw [HJ.out, h1]
      exact ⟨⟨⟨⟨v', h2, h3, trivial⟩, h4⟩, h5, h6, h7⟩, h8⟩
    have key := hd key
    have hc := hv.cell
    have r1 := blk_cell hrl 1
    simp at r1
    have cn := hbn.cell
    have cb := hbb.cell
    have ce := hbe.cell
    have fn := hbn.frozen
    have fb := hbb.frozen
    have fe := hbe.frozen
    have HA := hd (And.intro hv (And.intro hrow (And.intro hrl (And.intro hbn (And.intro hbb (And.intro hbe hB))))))
    clear hv hrow hrl hbn hbb hbe hB
    by_cases q1 : (i : Int) = nx
    · subst q1
      cases q2 : feq b be
      · have q2' : (FloatKind.f32.format.order b be == some .eq) = false := q2
        by_cases q3 : A ≤ 0
        · have HP := hd (show sstep A (i, be, eq, out) ⟨(i, b), hi2⟩ = ((i : Int) + 1, b, 0, out ++ [(i : Int)]) by simp [sstep, seq', q2, q3])
          have q3' : decide (A ≤ 0) = true := by simpa using q3
          have Q3 := hd q3
          clear q3
          obtain ⟨hv, hrow, hrl, hbn, hbb, hbe, hB⟩ := HA.out
          have kpE := kp_set (n := w.heap.size) (X := w.heap.size + 2) (.int .i64 (0)) hbe (by omega) (by decide) (by decide)
          have HW := hd (And.intro (hv.other (show w.heap.size + 2 ≠ w.heap.size + 5 by omega) (.int .i64 (0))) (And.intro (own_set hrow (show w.heap.size + 5 < w.heap.size + 6 by omega) (.int .i64 (0))) (And.intro (blk_st hrl (show w.heap.size ≠ w.heap.size + 5 by omega) (.int .i64 (0))) (And.intro (hbn.other (show w.heap.size + 3 ≠ w.heap.size + 5 by omega) (.int .i64 (0))) (And.intro (hbb.other (show w.heap.size + 4 ≠ w.heap.size + 5 by omega) (.int .i64 (0))) (And.intro (hbe.set (.int .i64 (0))) (And.intro (hB.trans kpE.below) (And.intro (fun n0 => kf_set (n := n0) (B := w.heap.size + 5) W (.int .i64 (0))) kpE))))))))
          clear hv hrow hrl hbn hbb hbe hB kpE
          gi_wp2_with (gi_at_builtin; refine wpListIn_append_own _ rfl _ _ 41 rfl (w.heap.size + 6) 3 i0 (.int .i64 0) 1 8 Tryz.underlying41 hi hz0 hz1 hz2 rfl (by decide) _ _ _ rfl (HW.out.2.1.alloc _) ⟨W.heap.size, 0, none⟩ 1 1 [.int .i64 (i : Int)] rfl rfl (by simpa using cell_one_new (W.setCell ⟨w.heap.size + 5, 0, none⟩ (.int .i64 (0))) (.int .i64 (i : Int)) 3) (by simp [Value.oneCell']) H63.out HBY.out (by simp; omega) ?_; intro v' w1 hown' hgrow _; obtain ⟨hv, hrow, hrl, hbn, hbb, hbe, hB, hK1, hK2⟩ := HW.out; have HKA := hd (And.intro (kp_app (u := v') (owns_mono hrow (show w.heap.size ≤ w.heap.size + 6 by omega)) hB.size hX2 hgrow) (And.intro (blk_app (X := w.heap.size + 2) (u := v') hrl (by decide) hrow (by omega) hgrow) (And.intro (box_app (X := w.heap.size + 2) (u := v') hbn hrow (by omega) (by omega) hgrow) (And.intro (box_app (X := w.heap.size + 2) (u := v') hbb hrow (by omega) (by omega) hgrow) (box_app (X := w.heap.size + 2) (u := v') hbe hrow (by omega) (by omega) hgrow))))); have cn1 := (box_grow hbn hrow (by omega) hgrow).cell; have fn1 := (box_grow hbn hrow (by omega) hgrow).frozen; have cb1 := (box_grow hbb hrow (by omega) hgrow).cell; have fb1 := (box_grow hbb hrow (by omega) hgrow).frozen; obtain ⟨g', cap', hv'⟩ := ownsRow_succ hown'; subst hv'; obtain ⟨hv1, hv2, hr2, hk2, hb2⟩ := appd hv (by decide) hrow (show w.heap.size ≤ w.heap.size + 6 by omega) hB.size hX2 hown' hgrow; have hc1 := hv1.cell; have hf1 := hv1.frozen; have HR := hd (And.intro hv2 (And.intro hr2 (And.intro hk2 hb2))); have HKW := hd (And.intro hK1 (And.intro hK2 hB)); clear hown' hgrow hv2 hr2 hk2 hb2 hv1 hv hrow hrl hbn hbb hbe hB hK1 hK2)
          obtain ⟨hA1, hA2, hA3, hA4, hA5⟩ := HKA.out
          obtain ⟨hR1, hR2, hR3, hR4⟩ := HR.out
          have key1 := kp_set (n := w.heap.size) (X := w.heap.size + 2) (.int .i64 ((i : Int) + 1)) hA3 (by omega) (by decide) (by decide)
          have hbb2 := hA4.other (show w.heap.size + 4 ≠ w.heap.size + 3 by omega) (.int .i64 ((i : Int) + 1))
          have key2 := kp_set (n := w.heap.size) (X := w.heap.size + 2) (.float .f32 b) hbb2 (by omega) (by decide) (by decide)
          exact ⟨(HKW.out.1 _).trans ((hR3.from _).trans ((kf_set _ _).trans (kf_set _ _))), HKW.out.2.1.trans (hA1.trans (key1.trans key2)), (by have h := key.out _ _ _ _ _ _ HP.out ((hR1.other (by omega) _).other (by omega) _) (own_set (own_set (by simpa using hR2) (by omega) _) (by omega) _) (blk_st (blk_st hA2 (by omega) _) (by omega) _) ((hA3.set _).other (by omega) _) (hbb2.set _) ((hA5.other (by omega) _).other (by omega) _) (HKW.out.2.2.trans (hR4.trans (key1.trans key2).below)); first | exact h | exact ⟨⟨⟨h.1.1.1.imp (fun _ h => ⟨h.1, h.2.1⟩), h.1.1.2⟩, h.1.2⟩, h.2⟩)⟩
        · have HP := hd (show sstep A (i, be, eq, out) ⟨(i, b), hi2⟩ = ((i : Int) + 1, b, 0, out) by simp [sstep, seq', q2, q3])
          have q3' : decide (A ≤ 0) = false := by simpa using q3
          have Q3 := hd q3
          clear q3
          obtain ⟨hv, hrow, hrl, hbn, hbb, hbe, hB⟩ := HA.out
          have kpE := kp_set (n := w.heap.size) (X := w.heap.size + 2) (.int .i64 (0)) hbe (by omega) (by decide) (by decide)
          have HW := hd (And.intro (hv.other (show w.heap.size + 2 ≠ w.heap.size + 5 by omega) (.int .i64 (0))) (And.intro (own_set hrow (show w.heap.size + 5 < w.heap.size + 6 by omega) (.int .i64 (0))) (And.intro (blk_st hrl (show w.heap.size ≠ w.heap.size + 5 by omega) (.int .i64 (0))) (And.intro (hbn.other (show w.heap.size + 3 ≠ w.heap.size + 5 by omega) (.int .i64 (0))) (And.intro (hbb.other (show w.heap.size + 4 ≠ w.heap.size + 5 by omega) (.int .i64 (0))) (And.intro (hbe.set (.int .i64 (0))) (And.intro (hB.trans kpE.below) (And.intro (fun n0 => kf_set (n := n0) (B := w.heap.size + 5) W (.int .i64 (0))) kpE))))))))
          clear hv hrow hrl hbn hbb hbe hB kpE
          gi_wp2
          obtain ⟨hv, hrow, hrl, hbn, hbb, hbe, hB, hK1, hK2⟩ := HW.out
          have key1 := kp_set (n := w.heap.size) (X := w.heap.size + 2) (.int .i64 ((i : Int) + 1)) hbn (by omega) (by decide) (by decide)
          have hbb2 := hbb.other (show w.heap.size + 4 ≠ w.heap.size + 3 by omega) (.int .i64 ((i : Int) + 1))
          have key2 := kp_set (n := w.heap.size) (X := w.heap.size + 2) (.float .f32 b) hbb2 (by omega) (by decide) (by decide)
          exact ⟨(hK1 _).trans ((kf_set _ _).trans (kf_set _ _)), hK2.trans (key1.trans key2), (by have h := key.out _ _ _ _ _ _ HP.out ((hv.other (by omega) _).other (by omega) _) (own_set (own_set hrow (by omega) _) (by omega) _) (blk_st (blk_st hrl (by omega) _) (by omega) _) ((hbn.set _).other (by omega) _) (hbb2.set _) ((hbe.other (by omega) _).other (by omega) _) (hB.trans (key1.trans key2).below); first | exact h | exact ⟨⟨⟨h.1.1.1.imp (fun _ h => ⟨h.1, h.2.1⟩), h.1.1.2⟩, h.1.2⟩, h.2⟩)⟩
      · have q2' : (FloatKind.f32.format.order b be == some .eq) = true := q2
        by_cases q3 : A ≤ eq + 1
        · have HP := hd (show sstep A (i, be, eq, out) ⟨(i, b), hi2⟩ = ((i : Int) + 1, b, eq + 1, out ++ [(i : Int)]) by simp [sstep, seq', q2, q3])
          have q3' : decide (A ≤ eq + 1) = true := by simpa using q3
          have Q3 := hd q3
          clear q3
          obtain ⟨hv, hrow, hrl, hbn, hbb, hbe, hB⟩ := HA.out
          have kpE := kp_set (n := w.heap.size) (X := w.heap.size + 2) (.int .i64 (eq + 1)) hbe (by omega) (by decide) (by decide)
          have HW := hd (And.intro (hv.other (show w.heap.size + 2 ≠ w.heap.size + 5 by omega) (.int .i64 (eq + 1))) (And.intro (own_set hrow (show w.heap.size + 5 < w.heap.size + 6 by omega) (.int .i64 (eq + 1))) (And.intro (blk_st hrl (show w.heap.size ≠ w.heap.size + 5 by omega) (.int .i64 (eq + 1))) (And.intro (hbn.other (show w.heap.size + 3 ≠ w.heap.size + 5 by omega) (.int .i64 (eq + 1))) (And.intro (hbb.other (show w.heap.size + 4 ≠ w.heap.size + 5 by omega) (.int .i64 (eq + 1))) (And.intro (hbe.set (.int .i64 (eq + 1))) (And.intro (hB.trans kpE.below) (And.intro (fun n0 => kf_set (n := n0) (B := w.heap.size + 5) W (.int .i64 (eq + 1))) kpE))))))))
          clear hv hrow hrl hbn hbb hbe hB kpE
          gi_wp2_with (gi_at_builtin; refine wpListIn_append_own _ rfl _ _ 41 rfl (w.heap.size + 6) 3 i0 (.int .i64 0) 1 8 Tryz.underlying41 hi hz0 hz1 hz2 rfl (by decide) _ _ _ rfl (HW.out.2.1.alloc _) ⟨W.heap.size, 0, none⟩ 1 1 [.int .i64 (i : Int)] rfl rfl (by simpa using cell_one_new (W.setCell ⟨w.heap.size + 5, 0, none⟩ (.int .i64 (eq + 1))) (.int .i64 (i : Int)) 3) (by simp [Value.oneCell']) H63.out HBY.out (by simp; omega) ?_; intro v' w1 hown' hgrow _; obtain ⟨hv, hrow, hrl, hbn, hbb, hbe, hB, hK1, hK2⟩ := HW.out; have HKA := hd (And.intro (kp_app (u := v') (owns_mono hrow (show w.heap.size ≤ w.heap.size + 6 by omega)) hB.size hX2 hgrow) (And.intro (blk_app (X := w.heap.size + 2) (u := v') hrl (by decide) hrow (by omega) hgrow) (And.intro (box_app (X := w.heap.size + 2) (u := v') hbn hrow (by omega) (by omega) hgrow) (And.intro (box_app (X := w.heap.size + 2) (u := v') hbb hrow (by omega) (by omega) hgrow) (box_app (X := w.heap.size + 2) (u := v') hbe hrow (by omega) (by omega) hgrow))))); have cn1 := (box_grow hbn hrow (by omega) hgrow).cell; have fn1 := (box_grow hbn hrow (by omega) hgrow).frozen; have cb1 := (box_grow hbb hrow (by omega) hgrow).cell; have fb1 := (box_grow hbb hrow (by omega) hgrow).frozen; obtain ⟨g', cap', hv'⟩ := ownsRow_succ hown'; subst hv'; obtain ⟨hv1, hv2, hr2, hk2, hb2⟩ := appd hv (by decide) hrow (show w.heap.size ≤ w.heap.size + 6 by omega) hB.size hX2 hown' hgrow; have hc1 := hv1.cell; have hf1 := hv1.frozen; have HR := hd (And.intro hv2 (And.intro hr2 (And.intro hk2 hb2))); have HKW := hd (And.intro hK1 (And.intro hK2 hB)); clear hown' hgrow hv2 hr2 hk2 hb2 hv1 hv hrow hrl hbn hbb hbe hB hK1 hK2)
          obtain ⟨hA1, hA2, hA3, hA4, hA5⟩ := HKA.out
          obtain ⟨hR1, hR2, hR3, hR4⟩ := HR.out
          have key1 := kp_set (n := w.heap.size) (X := w.heap.size + 2) (.int .i64 ((i : Int) + 1)) hA3 (by omega) (by decide) (by decide)
          have hbb2 := hA4.other (show w.heap.size + 4 ≠ w.heap.size + 3 by omega) (.int .i64 ((i : Int) + 1))
          have key2 := kp_set (n := w.heap.size) (X := w.heap.size + 2) (.float .f32 b) hbb2 (by omega) (by decide) (by decide)
          exact ⟨(HKW.out.1 _).trans ((hR3.from _).trans ((kf_set _ _).trans (kf_set _ _))), HKW.out.2.1.trans (hA1.trans (key1.trans key2)), (by have h := key.out _ _ _ _ _ _ HP.out ((hR1.other (by omega) _).other (by omega) _) (own_set (own_set (by simpa using hR2) (by omega) _) (by omega) _) (blk_st (blk_st hA2 (by omega) _) (by omega) _) ((hA3.set _).other (by omega) _) (hbb2.set _) ((hA5.other (by omega) _).other (by omega) _) (HKW.out.2.2.trans (hR4.trans (key1.trans key2).below)); first | exact h | exact ⟨⟨⟨h.1.1.1.imp (fun _ h => ⟨h.1, h.2.1⟩), h.1.1.2⟩, h.1.2⟩, h.2⟩)⟩
        · have HP := hd (show sstep A (i, be, eq, out) ⟨(i, b), hi2⟩ = ((i : Int) + 1, b, eq + 1, out) by simp [sstep, seq', q2, q3])
          have q3' : decide (A ≤ eq + 1) = false := by simpa using q3
          have Q3 := hd q3
          clear q3
          obtain ⟨hv, hrow, hrl, hbn, hbb, hbe, hB⟩ := HA.out
          have kpE := kp_set (n := w.heap.size) (X := w.heap.size + 2) (.int .i64 (eq + 1)) hbe (by omega) (by decide) (by decide)
          have HW := hd (And.intro (hv.other (show w.heap.size + 2 ≠ w.heap.size + 5 by omega) (.int .i64 (eq + 1))) (And.intro (own_set hrow (show w.heap.size + 5 < w.heap.size + 6 by omega) (.int .i64 (eq + 1))) (And.intro (blk_st hrl (show w.heap.size ≠ w.heap.size + 5 by omega) (.int .i64 (eq + 1))) (And.intro (hbn.other (show w.heap.size + 3 ≠ w.heap.size + 5 by omega) (.int .i64 (eq + 1))) (And.intro (hbb.other (show w.heap.size + 4 ≠ w.heap.size + 5 by omega) (.int .i64 (eq + 1))) (And.intro (hbe.set (.int .i64 (eq + 1))) (And.intro (hB.trans kpE.below) (And.intro (fun n0 => kf_set (n := n0) (B := w.heap.size + 5) W (.int .i64 (eq + 1))) kpE))))))))
          clear hv hrow hrl hbn hbb hbe hB kpE
          gi_wp2
          obtain ⟨hv, hrow, hrl, hbn, hbb, hbe, hB, hK1, hK2⟩ := HW.out
          have key1 := kp_set (n := w.heap.size) (X := w.heap.size + 2) (.int .i64 ((i : Int) + 1)) hbn (by omega) (by decide) (by decide)
          have hbb2 := hbb.other (show w.heap.size + 4 ≠ w.heap.size + 3 by omega) (.int .i64 ((i : Int) + 1))
          have key2 := kp_set (n := w.heap.size) (X := w.heap.size + 2) (.float .f32 b) hbb2 (by omega) (by decide) (by decide)
          exact ⟨(hK1 _).trans ((kf_set _ _).trans (kf_set _ _)), hK2.trans (key1.trans key2), (by have h := key.out _ _ _ _ _ _ HP.out ((hv.other (by omega) _).other (by omega) _) (own_set (own_set hrow (by omega) _) (by omega) _) (blk_st (blk_st hrl (by omega) _) (by omega) _) ((hbn.set _).other (by omega) _) (hbb2.set _) ((hbe.other (by omega) _).other (by omega) _) (hB.trans (key1.trans key2).below); first | exact h | exact ⟨⟨⟨h.1.1.1.imp (fun _ h => ⟨h.1, h.2.1⟩), h.1.1.2⟩, h.1.2⟩, h.2⟩)⟩
    · have q1' : decide ((i : Int) = nx) = false := by simpa using q1
      by_cases q3 : A ≤ 0
      · have HP := hd (show sstep A (nx, be, eq, out) ⟨(i, b), hi2⟩ = ((i : Int) + 1, b, 0, out ++ [(i : Int)]) by simp [sstep, seq', q1, q3])
        have q3' : decide (A ≤ 0) = true := by simpa using q3
        have Q3 := hd q3
        clear q3
        obtain ⟨hv, hrow, hrl, hbn, hbb, hbe, hB⟩ := HA.out
        have kpE := kp_set (n := w.heap.size) (X := w.heap.size + 2) (.int .i64 (0)) hbe (by omega) (by decide) (by decide)
        have HW := hd (And.intro (hv.other (show w.heap.size + 2 ≠ w.heap.size + 5 by omega) (.int .i64 (0))) (And.intro (own_set hrow (show w.heap.size + 5 < w.heap.size + 6 by omega) (.int .i64 (0))) (And.intro (blk_st hrl (show w.heap.size ≠ w.heap.size + 5 by omega) (.int .i64 (0))) (And.intro (hbn.other (show w.heap.size + 3 ≠ w.heap.size + 5 by omega) (.int .i64 (0))) (And.intro (hbb.other (show w.heap.size + 4 ≠ w.heap.size + 5 by omega) (.int .i64 (0))) (And.intro (hbe.set (.int .i64 (0))) (And.intro (hB.trans kpE.below) (And.intro (fun n0 => kf_set (n := n0) (B := w.heap.size + 5) W (.int .i64 (0))) kpE))))))))
        clear hv hrow hrl hbn hbb hbe hB kpE
        gi_wp2_with (gi_at_builtin; refine wpListIn_append_own _ rfl _ _ 41 rfl (w.heap.size + 6) 3 i0 (.int .i64 0) 1 8 Tryz.underlying41 hi hz0 hz1 hz2 rfl (by decide) _ _ _ rfl (HW.out.2.1.alloc _) ⟨W.heap.size, 0, none⟩ 1 1 [.int .i64 (i : Int)] rfl rfl (by simpa using cell_one_new (W.setCell ⟨w.heap.size + 5, 0, none⟩ (.int .i64 (0))) (.int .i64 (i : Int)) 3) (by simp [Value.oneCell']) H63.out HBY.out (by simp; omega) ?_; intro v' w1 hown' hgrow _; obtain ⟨hv, hrow, hrl, hbn, hbb, hbe, hB, hK1, hK2⟩ := HW.out; have HKA := hd (And.intro (kp_app (u := v') (owns_mono hrow (show w.heap.size ≤ w.heap.size + 6 by omega)) hB.size hX2 hgrow) (And.intro (blk_app (X := w.heap.size + 2) (u := v') hrl (by decide) hrow (by omega) hgrow) (And.intro (box_app (X := w.heap.size + 2) (u := v') hbn hrow (by omega) (by omega) hgrow) (And.intro (box_app (X := w.heap.size + 2) (u := v') hbb hrow (by omega) (by omega) hgrow) (box_app (X := w.heap.size + 2) (u := v') hbe hrow (by omega) (by omega) hgrow))))); have cn1 := (box_grow hbn hrow (by omega) hgrow).cell; have fn1 := (box_grow hbn hrow (by omega) hgrow).frozen; have cb1 := (box_grow hbb hrow (by omega) hgrow).cell; have fb1 := (box_grow hbb hrow (by omega) hgrow).frozen; obtain ⟨g', cap', hv'⟩ := ownsRow_succ hown'; subst hv'; obtain ⟨hv1, hv2, hr2, hk2, hb2⟩ := appd hv (by decide) hrow (show w.heap.size ≤ w.heap.size + 6 by omega) hB.size hX2 hown' hgrow; have hc1 := hv1.cell; have hf1 := hv1.frozen; have HR := hd (And.intro hv2 (And.intro hr2 (And.intro hk2 hb2))); have HKW := hd (And.intro hK1 (And.intro hK2 hB)); clear hown' hgrow hv2 hr2 hk2 hb2 hv1 hv hrow hrl hbn hbb hbe hB hK1 hK2)
        obtain ⟨hA1, hA2, hA3, hA4, hA5⟩ := HKA.out
        obtain ⟨hR1, hR2, hR3, hR4⟩ := HR.out
        have key1 := kp_set (n := w.heap.size) (X := w.heap.size + 2) (.int .i64 ((i : Int) + 1)) hA3 (by omega) (by decide) (by decide)
        have hbb2 := hA4.other (show w.heap.size + 4 ≠ w.heap.size + 3 by omega) (.int .i64 ((i : Int) + 1))
        have key2 := kp_set (n := w.heap.size) (X := w.heap.size + 2) (.float .f32 b) hbb2 (by omega) (by decide) (by decide)
        exact ⟨(HKW.out.1 _).trans ((hR3.from _).trans ((kf_set _ _).trans (kf_set _ _))), HKW.out.2.1.trans (hA1.trans (key1.trans key2)), (by have h := key.out _ _ _ _ _ _ HP.out ((hR1.other (by omega) _).other (by omega) _) (own_set (own_set (by simpa using hR2) (by omega) _) (by omega) _) (blk_st (blk_st hA2 (by omega) _) (by omega) _) ((hA3.set _).other (by omega) _) (hbb2.set _) ((hA5.other (by omega) _).other (by omega) _) (HKW.out.2.2.trans (hR4.trans (key1.trans key2).below)); first | exact h | exact ⟨⟨⟨h.1.1.1.imp (fun _ h => ⟨h.1, h.2.1⟩), h.1.1.2⟩, h.1.2⟩, h.2⟩)⟩
      · have HP := hd (show sstep A (nx, be, eq, out) ⟨(i, b), hi2⟩ = ((i : Int) + 1, b, 0, out) by simp [sstep, seq', q1, q3])
        have q3' : decide (A ≤ 0) = false := by simpa using q3
        have Q3 := hd q3
        clear q3
        obtain ⟨hv, hrow, hrl, hbn, hbb, hbe, hB⟩ := HA.out
        have kpE := kp_set (n := w.heap.size) (X := w.heap.size + 2) (.int .i64 (0)) hbe (by omega) (by decide) (by decide)
        have HW := hd (And.intro (hv.other (show w.heap.size + 2 ≠ w.heap.size + 5 by omega) (.int .i64 (0))) (And.intro (own_set hrow (show w.heap.size + 5 < w.heap.size + 6 by omega) (.int .i64 (0))) (And.intro (blk_st hrl (show w.heap.size ≠ w.heap.size + 5 by omega) (.int .i64 (0))) (And.intro (hbn.other (show w.heap.size + 3 ≠ w.heap.size + 5 by omega) (.int .i64 (0))) (And.intro (hbb.other (show w.heap.size + 4 ≠ w.heap.size + 5 by omega) (.int .i64 (0))) (And.intro (hbe.set (.int .i64 (0))) (And.intro (hB.trans kpE.below) (And.intro (fun n0 => kf_set (n := n0) (B := w.heap.size + 5) W (.int .i64 (0))) kpE))))))))
        clear hv hrow hrl hbn hbb hbe hB kpE
        gi_wp2
        obtain ⟨hv, hrow, hrl, hbn, hbb, hbe, hB, hK1, hK2⟩ := HW.out
        have key1 := kp_set (n := w.heap.size) (X := w.heap.size + 2) (.int .i64 ((i : Int) + 1)) hbn (by omega) (by decide) (by decide)
        have hbb2 := hbb.other (show w.heap.size + 4 ≠ w.heap.size + 3 by omega) (.int .i64 ((i : Int) + 1))
        have key2 := kp_set (n := w.heap.size) (X := w.heap.size + 2) (.float .f32 b) hbb2 (by omega) (by decide) (by decide)
        exact ⟨(hK1 _).trans ((kf_set _ _).trans (kf_set _ _)), hK2.trans (key1.trans key2), (by have h := key.out _ _ _ _ _ _ HP.out ((hv.other (by omega) _).other (by omega) _) (own_set (own_set hrow (by omega) _) (by omega) _) (blk_st (blk_st hrl (by omega) _) (by omega) _) ((hbn.set _).other (by omega) _) (hbb2.set _) ((hbe.other (by omega) _).other (by omega) _) (hB.trans (key1.trans key2).below); first | exact h | exact ⟨⟨⟨h.1.1.1.imp (fun _ h => ⟨h.1, h.2.1⟩), h.1.1.2⟩, h.1.2⟩, h.2⟩)⟩
  case done =>
    rintro D ys W hD rfl ⟨⟨⟨⟨v, hv, hrow, -⟩, -⟩, -⟩, hB⟩ hK
    have hc := hv.cell
    gi_wp2
    refine ⟨by simp, .inl ⟨_, _, rfl, run_takeDeferred hK, ?_⟩⟩
    exact ⟨_, results_tmp rfl _ _ _, v, rfl, owns_mono (ownsRow_putObj hrow _ hK rfl) (by omega), hB.trans (belowK_b (w := w) (Nat.le_refl _) W D _ _ (by omega) hK rfl rfl)⟩
  case stop =>
    rintro D c pre W _ _ h _
    exact h.elim

end Go.Proofs.YtkgkpcmokmhakaaGreatDoor

namespace Go.Proofs.YtkgkpcmokmhakaaGreatDoor
open Go.RowKit

def Asc2 (l : List (Int × Int)) (t : Int) : Prop := (∀ s ∈ l, s.2 ≤ t) ∧ l.Pairwise (fun a b => a.2 ≤ b.2)
theorem asc2_asc {l : List (Int × Int)} {t : Int} (h : Asc2 l t) : Asc l := by
  intro a b hab hb
  have ha : a < l.length := by omega
  simp only [List.getD_eq_getElem?_getD, List.getElem?_eq_getElem ha, List.getElem?_eq_getElem hb, Option.getD_some]
  rcases Nat.lt_or_ge a b with h1 | h1
  · exact List.pairwise_iff_getElem.1 h.2 a b ha hb h1
  · have e : a = b := by omega
    subst e; exact Int.le_refl _
theorem ext_asc2 {l : List (Int × Int)} {f t : Int} (h : Asc2 l f) (hft : f ≤ t) : Asc2 (ext l f t) t := by
  obtain ⟨h1, h2⟩ := h
  unfold ext
  cases hl : l.getLast? with
  | none => exact ⟨fun s hs => by simp only [List.mem_singleton] at hs; subst hs; exact Int.le_refl _, List.pairwise_singleton _ _⟩
  | some s =>
    simp only
    split
    · refine ⟨fun x hx => ?_, List.pairwise_append.2 ⟨h2.sublist (List.dropLast_sublist _), List.pairwise_singleton _ _, fun a ha b hb => ?_⟩⟩
      · rcases List.mem_append.1 hx with hx | hx
        · exact Int.le_trans (h1 x ((List.dropLast_sublist _).subset hx)) hft
        · simp only [List.mem_singleton] at hx; subst hx; exact Int.le_refl _
      · simp only [List.mem_singleton] at hb; subst hb
        exact Int.le_trans (h1 a ((List.dropLast_sublist _).subset ha)) hft
    · refine ⟨fun x hx => ?_, List.pairwise_append.2 ⟨h2, List.pairwise_singleton _ _, fun a ha b hb => ?_⟩⟩
      · rcases List.mem_append.1 hx with hx | hx
        · exact Int.le_trans (h1 x hx) hft
        · simp only [List.mem_singleton] at hx; subst hx; exact Int.le_refl _
      · simp only [List.mem_singleton] at hb; subst hb
        exact Int.le_trans (h1 a ha) hft
theorem strF_asc2 (bs : List Bool) : ∀ k : Nat, Asc2 (strF bs k) k
  | 0 => ⟨by simp [strF], by simp [strF]⟩
  | k + 1 => by
    have ih := strF_asc2 bs k
    rw [strF]
    split
    · have := ext_asc2 ih (show (k : Int) ≤ k + 1 by omega)
      simpa using this
    · exact ⟨fun s hs => Int.le_trans (ih.1 s hs) (by simp; omega), ih.2⟩
theorem strF_asc (bs : List Bool) (k : Nat) : Asc (strF bs k) := asc2_asc (strF_asc2 bs k)

theorem itm_idx (bs : List Nat) (gs : List (Int × Int)) (hn : bs.length ≤ 100000) (hok : ∀ j, j < bs.length → levOK (bs.getD j 0) = true) : ∀ x ∈ itm gs (fLv bs) bs.length, x.1.1 < bs.length := by
  intro x hx
  unfold itm at hx
  obtain ⟨i, hi, rfl⟩ := List.mem_map.1 hx
  have hi2 : i < bs.length := by simpa using (List.mem_filter.1 hi).1
  rw [fLv_at bs hn hok i hi2]
  exact hi2
theorem sel_idx (p : Lv → Bool) (l : List Lv) : ∀ y ∈ sel p l, ∃ x ∈ l, y = (x.1.1 : Int) := by
  intro y hy
  unfold sel at hy
  obtain ⟨x, hx, rfl⟩ := List.mem_map.1 hy
  exact ⟨x, (List.mem_filter.1 hx).1, rfl⟩
theorem jf_idx (A : Int) : ∀ (l : List Lv) (s : Int × Nat × List Int), ∀ y ∈ (l.foldl (jstep A) s).2.2, y ∈ s.2.2 ∨ ∃ x ∈ l, y = (x.1.1 : Int)
  | [], _, _, hy => .inl hy
  | a :: l, s, y, hy => by
    rcases jf_idx A l (jstep A s a) y hy with h | ⟨x, hx, e⟩
    · unfold jstep at h
      split at h
      · rcases List.mem_append.1 h with h | h
        · exact .inl h
        · exact .inr ⟨a, List.mem_cons_self, by simpa using h⟩
      · exact .inl h
    · exact .inr ⟨x, List.mem_cons_of_mem _ hx, e⟩
theorem sf_idx (A : Int) : ∀ (l : List Lv) (s : Int × Nat × Int × List Int), ∀ y ∈ (l.foldl (sstep A) s).2.2.2, y ∈ s.2.2.2 ∨ ∃ x ∈ l, y = (x.1.1 : Int)
  | [], _, _, hy => .inl hy
  | a :: l, s, y, hy => by
    rcases sf_idx A l (sstep A s a) y hy with h | ⟨x, hx, e⟩
    · unfold sstep at h
      simp only at h
      split at h
      · rcases List.mem_append.1 h with h | h
        · exact .inl h
        · exact .inr ⟨a, List.mem_cons_self, by simpa using h⟩
      · exact .inl h
    · exact .inr ⟨x, List.mem_cons_of_mem _ hx, e⟩

/-- What a rule removes. -/
def remv (x : Ru) (bs : List Nat) (gs : List (Int × Int)) : List Int :=
  bif x.1 == sRange then sel (outP x.2.1 x.2.2) (itm gs (fLv bs) bs.length) else bif x.1 == sJump then (jf x.2.1 (itm gs (fLv bs) bs.length)).2.2 else bif x.1 == sStuck then (sf x.2.1 (itm gs (fLv bs) bs.length)).2.2.2 else []
theorem remv_idx (x : Ru) (bs : List Nat) (gs : List (Int × Int)) (hn : bs.length ≤ 100000) (hok : ∀ j, j < bs.length → levOK (bs.getD j 0) = true) : ∀ y ∈ remv x bs gs, ∃ i : Nat, y = (i : Int) ∧ i < bs.length := by
  have key : ∀ y, (∃ z ∈ itm gs (fLv bs) bs.length, y = (z.1.1 : Int)) → ∃ i : Nat, y = (i : Int) ∧ i < bs.length := fun y ⟨z, hz, e⟩ => ⟨_, e, itm_idx bs gs hn hok z hz⟩
  intro y hy
  unfold remv at hy
  cases h1 : x.1 == sRange
  · cases h2 : x.1 == sJump
    · cases h3 : x.1 == sStuck
      · rw [h1, h2, h3] at hy; simp at hy
      · rw [h1, h2, h3] at hy
        rcases sf_idx _ _ _ y hy with h | h
        · cases h
        · exact key y h
    · rw [h1, h2] at hy
      rcases jf_idx _ _ _ y hy with h | h
      · cases h
      · exact key y h
  · rw [h1] at hy
    exact key y (sel_idx _ _ y hy)
theorem remv_len (x : Ru) (bs : List Nat) (gs : List (Int × Int)) : (remv x bs gs).length ≤ bs.length := by
  have h0 := itm_len gs (fLv bs) bs.length
  unfold remv
  cases x.1 == sRange
  · cases x.1 == sJump
    · cases x.1 == sStuck
      · exact Nat.zero_le _
      · exact Nat.le_trans (sf_ok _ _).2.2 h0
    · exact Nat.le_trans (jf_ok _ _).2.2.2 h0
  · exact Nat.le_trans (sel_len _ _) h0

def remN (x : Ru) (bs : List Nat) (gs : List (Int × Int)) : List Nat := (remv x bs gs).map Int.toNat
theorem remN_len (x : Ru) (bs : List Nat) (gs : List (Int × Int)) : (remN x bs gs).length = (remv x bs gs).length := by simp [remN]
theorem remN_lt (x : Ru) (bs : List Nat) (gs : List (Int × Int)) (hn : bs.length ≤ 100000) (hok : ∀ j, j < bs.length → levOK (bs.getD j 0) = true) : ∀ j, j < (remN x bs gs).length → (remN x bs gs).getD j 0 < bs.length := by
  intro j hj
  have hm : (remN x bs gs)[j] ∈ remN x bs gs := List.getElem_mem hj
  unfold remN at hm
  obtain ⟨y, hy, e⟩ := List.mem_map.1 hm
  obtain ⟨i, rfl, hi⟩ := remv_idx x bs gs hn hok y hy
  simp only [List.getD_eq_getElem?_getD, List.getElem?_eq_getElem hj, Option.getD_some]
  unfold remN at *
  rw [← e]; simpa using hi
theorem remN_inc (x : Ru) (bs : List Nat) (gs : List (Int × Int)) (hn : bs.length ≤ 100000) (hok : ∀ j, j < bs.length → levOK (bs.getD j 0) = true) : (remv x bs gs).map (Value.int .i64) = inc (remN x bs gs) := by
  unfold inc remN
  rw [List.map_map]
  apply List.map_congr_left
  intro y hy
  obtain ⟨i, rfl, hi⟩ := remv_idx x bs gs hn hok y hy
  simp

/-- What is left of a record, and its reasons, after k rules. -/
abbrev AS := List Nat × List (Int × Int) × List Int
def woB (bs : List Nat) (gs : List (Int × Int)) (il : List Nat) : List Nat := asmK bs (wout bs gs il) bs.length
def woG (bs : List Nat) (gs : List (Int × Int)) (il : List Nat) : List (Int × Int) := strF (misK (wout bs gs il) bs.length bs.length) bs.length
def rsK (rs : List Int) (il : List Nat) (v : Int) (k : Nat) : List Int := (il.take k).foldl (fun r i => r.set i v) rs
def apF (bs : List Nat) (gs : List (Int × Int)) (l : List Ru) : Nat → AS
  | 0 => (woB bs gs [], woG bs gs [], List.replicate bs.length 0)
  | k + 1 => let s := apF bs gs l k; let il := remN (l.getD k ru0) s.1 s.2.1; (woB s.1 s.2.1 il, woG s.1 s.2.1 il, rsK s.2.2 il ((k : Int) + 1) il.length)
theorem rsK_succ (rs : List Int) (il : List Nat) (v : Int) (k : Nat) (h : k < il.length) : rsK rs il v (k + 1) = (rsK rs il v k).set (il.getD k 0) v := by
  unfold rsK
  rw [List.take_add_one, List.foldl_append, List.getElem?_eq_getElem h]
  simp only [Option.toList_some, List.foldl_cons, List.foldl_nil, List.getD_eq_getElem?_getD, List.getElem?_eq_getElem h, Option.getD_some]
theorem rsK_len (rs : List Int) (il : List Nat) (v : Int) : ∀ k, k ≤ il.length → (rsK rs il v k).length = rs.length
  | 0, _ => rfl
  | k + 1, h => by rw [rsK_succ rs il v k (by omega), List.length_set, rsK_len rs il v k (by omega)]
theorem asmK_ok (bs : List Nat) (ms : List Bool) (k : Nat) (hok : ∀ j, j < bs.length → levOK (bs.getD j 0) = true) : ∀ j, j < bs.length → levOK ((asmK bs ms k).getD j 0) = true := by
  intro j hj
  have e : (asmK bs ms k).getD j 0 = if j < k ∧ ms.getD j false = false then 0 else bs.getD j 0 := by
    unfold asmK
    rw [List.getD_eq_getElem?_getD, List.getElem?_map, List.getElem?_range hj]
    rfl
  rw [e]
  split
  · exact lv0
  · exact hok j hj
theorem apF_ok (bs : List Nat) (gs : List (Int × Int)) (l : List Ru) (hok : ∀ j, j < bs.length → levOK (bs.getD j 0) = true) (k : Nat) :
    (apF bs gs l k).1.length = bs.length ∧ (∀ j, j < bs.length → levOK ((apF bs gs l k).1.getD j 0) = true) ∧ Asc (apF bs gs l k).2.1 ∧ (apF bs gs l k).2.1.length ≤ bs.length ∧ (apF bs gs l k).2.2.length = bs.length := by
  induction k with
  | zero => exact ⟨asmK_len _ _ _, asmK_ok _ _ _ hok, strF_asc _ _, strF_len _ _, by simp [apF]⟩
  | succ k ih =>
    obtain ⟨h1, h2, h3, h4, h5⟩ := ih
    simp only [apF]
    refine ⟨by rw [woB, asmK_len, h1], ?_, strF_asc _ _, by rw [woG]; exact Nat.le_trans (strF_len _ _) (by omega), by rw [rsK_len _ _ _ _ (Nat.le_refl _), h5]⟩
    have := asmK_ok (apF bs gs l k).1 (wout (apF bs gs l k).1 (apF bs gs l k).2.1 (remN (l.getD k ru0) (apF bs gs l k).1 (apF bs gs l k).2.1)) (apF bs gs l k).1.length (by rw [h1]; exact h2)
    rw [h1] at this
    simpa [woB, h1] using this

end Go.Proofs.YtkgkpcmokmhakaaGreatDoor
