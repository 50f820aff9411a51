/-
  Contract of gauge.stuck (the rule 'stuck'). Condition: a record of at most 100000 valid levels, the ends of whose gaps ascend.
-/
import Derived.Test.YtnncmaegmlaabaaGreatDoorProg
import Derived.Test.YtnncmaegmlaabaaGreatDoorMF
import Derived.Maps.AppendAt
namespace Go.Proofs.YtnncmaegmlaabaaGreatDoor
open Go.RowKit Go.Shelf
attribute [local go_sem] Oper.semAt_some
attribute [local go_sem, local simp] wide_fn

theorem box_grow {W w1 : World} {r B : Nat} {t e : TypeId} {size : Nat} {v b : Value} {k : Nat} {xs : List Value} {tmp : Obj} (h : Boxed W B t b) (hrow : W.ownsRow r e size v k xs) (hB : B < r) (hg : (W.alloc tmp).grownBy w1 v.ownBlock) : Boxed w1 B t b :=
  (h.alloc tmp).kept hg (low_not_row hrow hB)

/-- That two levels are the same. -/
def feq (a b : Nat) : Bool := FloatKind.f32.format.order a b == some .eq
/-- What stuck carries: the next index, the bits before, how many equal ones, the indices found. -/
def seq' (s : Int × Nat × Int × List Int) (x : Lv) : Int := if (decide ((x.1.1 : Int) = s.1) && feq x.1.2 s.2.1) = true then s.2.2.1 + 1 else 0
def sstep (A : Int) (s : Int × Nat × Int × List Int) (x : Lv) : Int × Nat × Int × List Int :=
  ((x.1.1 : Int) + 1, x.1.2, seq' s x, if A ≤ seq' s x then s.2.2.2 ++ [(x.1.1 : Int)] else s.2.2.2)
def sf (A : Int) (l : List Lv) : Int × Nat × Int × List Int := l.foldl (sstep A) (-1, 0, 0, [])
theorem sf_snoc (A : Int) (l : List Lv) (x : Lv) : sf A (l ++ [x]) = sstep A (sf A l) x := by simp [sf]
theorem sf_go (A : Int) : ∀ (l : List Lv) (s : Int × Nat × Int × List Int), 0 ≤ s.2.2.1 →
    0 ≤ (l.foldl (sstep A) s).2.2.1 ∧ (l.foldl (sstep A) s).2.2.1 ≤ s.2.2.1 + l.length ∧ (l.foldl (sstep A) s).2.2.2.length ≤ s.2.2.2.length + l.length
  | [], s, h1 => ⟨h1, by simp, by simp⟩
  | x :: l, s, h1 => by
    simp only [List.foldl_cons]
    have e0 : 0 ≤ seq' s x ∧ seq' s x ≤ s.2.2.1 + 1 := by unfold seq'; split <;> omega
    have e1 : (sstep A s x).2.2.1 = seq' s x := rfl
    have e2 : (sstep A s x).2.2.2.length ≤ s.2.2.2.length + 1 := by unfold sstep; simp only; split <;> simp
    obtain ⟨g1, g2, g3⟩ := sf_go A l (sstep A s x) (by rw [e1]; exact e0.1)
    rw [e1] at g2
    refine ⟨g1, ?_, ?_⟩
    · simp only [List.length_cons]; omega
    · simp only [List.length_cons]; omega
theorem sf_ok (A : Int) (l : List Lv) : 0 ≤ (sf A l).2.2.1 ∧ (sf A l).2.2.1 ≤ l.length ∧ (sf A l).2.2.2.length ≤ l.length := by
  have := sf_go A l (-1, 0, 0, []) (by decide)
  simpa [sf] using this

set_option maxRecDepth 1000000 in
set_option maxHeartbeats 8000000 in
theorem stuck_in (kd nm : ByteArray) (A B st : Int) (lv gv : Value) (bs : List Nat) (gs : List (Int × Int)) (w : World) (hl : Rd w w.heap.size lv bs.length (flc bs)) (hg : Rd w w.heap.size gv gs.length (spc gs)) (hasc : Asc gs) (hgs : gs.length ≤ 100000) (hbs : bs.length ≤ 100000) (hok : ∀ j, j < bs.length → levOK (bs.getD j 0) = true) :
    CallsIn Fence.wide 5 Tryz.prog 151 #[.agg #[.string kd, .int .i64 A, .int .i64 B], .agg #[.string nm, .int .i64 st, lv, gv]] w (OwnsIn w.heap.size (sf A (itm gs (fLv bs) bs.length)).2.2.2 w) := by
  obtain ⟨i0, hi, hz0, hz1, hz2⟩ := info_parts intInfo
  have HL := hd hl
  have HG := hd hg
  have HOK := hd (And.intro hasc (And.intro hgs (And.intro hbs (fLv_at bs hbs hok))))
  have hl2 := hl
  have hg2 := hg
  obtain ⟨A1, c1, rfl, -, -, -⟩ := hl2
  obtain ⟨A2, c2, rfl, -, -, -⟩ := hg2
  clear hl hg hasc hgs hok
  refine callsIn_of_wp_marks Tryz.func151 rfl trivial ?_ rfl
  simp only [Tryz.ntmps151, List.size_toArray, List.length_cons, List.length_nil, Nat.reduceAdd, Nat.reduceSub, Array.replicate_succ, Array.replicate_zero, List.push_toArray, List.append_toArray, List.nil_append, List.cons_append]
  gi_wp2_with (gi_at_call 79; refine (callsIn_wide.2 (recorded_any _ _ _ _ _)).mono ?_; rintro e w' ⟨rfl, rfl⟩)
  have hR0 := blk_new w #[.string kd, .int .i64 A, .int .i64 B] 53
  obtain ⟨w1, hw1⟩ : ∃ w1, w1 = w.alloc (.cells #[.string kd, .int .i64 A, .int .i64 B] 53) := ⟨_, rfl⟩
  obtain ⟨w2, hw2⟩ : ∃ w2, w2 = w1.alloc (.cells #[.string nm, .int .i64 st, .slice A1 bs.length c1, .slice A2 gs.length c2] 31) := ⟨_, rfl⟩
  obtain ⟨w3, hw3⟩ : ∃ w3, w3 = w2.alloc (.cells #[.slice none 0 0] 55) := ⟨_, rfl⟩
  obtain ⟨w4, hw4⟩ : ∃ w4, w4 = w3.alloc (.cells #[.int .i64 (-1)] 3) := ⟨_, rfl⟩
  obtain ⟨w5, hw5⟩ : ∃ w5, w5 = w4.alloc (.cells #[.float .f32 0] 65) := ⟨_, rfl⟩
  obtain ⟨w6, hw6⟩ : ∃ w6, w6 = w5.alloc (.cells #[.int .i64 0] 3) := ⟨_, rfl⟩
  obtain ⟨W0, hW0⟩ : ∃ W0, W0 = w6.alloc (.cells #[.string nm, .int .i64 st, .slice A1 bs.length c1, .slice A2 gs.length c2] 31) := ⟨_, rfl⟩
  rw [← hw1, ← hw2, ← hw3, ← hw4, ← hw5, ← hw6, ← hW0]
  have hs1 : w1.heap.size = w.heap.size + 1 := by rw [hw1]; simp
  have hs2 : w2.heap.size = w.heap.size + 2 := by rw [hw2]; simp; omega
  have hs3 : w3.heap.size = w.heap.size + 3 := by rw [hw3]; simp; omega
  have hs4 : w4.heap.size = w.heap.size + 4 := by rw [hw4]; simp; omega
  have hs5 : w5.heap.size = w.heap.size + 5 := by rw [hw5]; simp; omega
  have hs6 : w6.heap.size = w.heap.size + 6 := by rw [hw6]; simp; omega
  have hsz : W0.heap.size = w.heap.size + 7 := by rw [hW0]; simp; omega
  have hB0 : Below w.heap.size w W0 := by rw [hW0, hw6, hw5, hw4, hw3, hw2, hw1]; exact ((((((((Below.refl _ w).alloc (Nat.le_refl _) _).alloc (by simp) _).alloc (by simp; omega) _).alloc (by simp; omega) _).alloc (by simp; omega) _).alloc (by simp; omega) _).alloc (by simp; omega) _)
  have hRl : W0.heap[w.heap.size]? = some (.cells #[.string kd, .int .i64 A, .int .i64 B] 53 (0, 0)) := by
    rw [hW0, Below.heap_alloc _ _ _ (by omega), hw6, Below.heap_alloc _ _ _ (by omega), hw5, Below.heap_alloc _ _ _ (by omega), hw4, Below.heap_alloc _ _ _ (by omega), hw3, Below.heap_alloc _ _ _ (by omega), hw2, Below.heap_alloc _ _ _ (by omega), hw1]
    exact hR0
  have hBx : Boxed W0 (w.heap.size + 2) 55 (.slice none 0 0) := by
    have h1 := Boxed.new w2 55 (.slice none 0 0)
    rw [hs2] at h1
    rw [hW0, hw6, hw5, hw4, hw3]; exact (((h1.alloc _).alloc _).alloc _).alloc _
  have hBn : Boxed W0 (w.heap.size + 3) 3 (.int .i64 (-1)) := by
    have h1 := Boxed.new w3 3 (.int .i64 (-1))
    rw [hs3] at h1
    rw [hW0, hw6, hw5, hw4]; exact ((h1.alloc _).alloc _).alloc _
  have hBb : Boxed W0 (w.heap.size + 4) 65 (.float .f32 0) := by
    have h1 := Boxed.new w4 65 (.float .f32 0)
    rw [hs4] at h1
    rw [hW0, hw6, hw5]; exact (h1.alloc _).alloc _
  have hBe : Boxed W0 (w.heap.size + 5) 3 (.int .i64 0) := by
    have h1 := Boxed.new w5 3 (.int .i64 0)
    rw [hs5] at h1
    rw [hW0, hw6]; exact h1.alloc _
  have hRc : W0.heap[w.heap.size + 6]? = some (.cells #[.string nm, .int .i64 st, .slice A1 bs.length c1, .slice A2 gs.length c2] 31 (0, 0)) := by
    have h1 := blk_new w6 #[.string nm, .int .i64 st, .slice A1 bs.length c1, .slice A2 gs.length c2] 31
    rw [hs6] at h1
    rw [hW0]; exact h1
  clear hW0 hw1 hw2 hw3 hw4 hw5 hw6 hR0 hs1 hs2 hs3 hs4 hs5 hs6
  refine wpIn_rangeFunc_ownG (α := Lv) rfl (by omega) (gf := 118) (lb := #[.pointer (some ⟨w.heap.size + 6, 0, none⟩)]) rfl trivial (enters_of Tryz.func118 (by kernel_rfl) rfl)
    (rec_stops (fun x : Lv => x.1) (fLv bs) 4 (by omega) (w.heap.size + 6) w.heap.size (w.heap.size + 2) nm st _ _ bs gs HOK.out.2.2.1 HOK.out.2.1 HOK.out.1 HOK.out.2.2.2 W0 (by omega) (by omega) (by omega) hRc (HL.out.below hB0 (Nat.le_refl _)) (HG.out.below hB0 (Nat.le_refl _)))
    KpR.trans (KpR.putObj (by omega)) (Below.refl _ _) (fun _ => rfl)
    (fun pre W => (((∃ v, Boxed W (w.heap.size + 2) 55 v ∧ W.ownsRow (w.heap.size + 6) 3 1 v (sf A pre).2.2.2.length ((sf A pre).2.2.2.map (Value.int .i64)) ∧ True) ∧ W.heap[w.heap.size]? = some (.cells #[.string kd, .int .i64 A, .int .i64 B] 53 (0, 0))) ∧ (Boxed W (w.heap.size + 3) 3 (.int .i64 (sf A pre).1) ∧ Boxed W (w.heap.size + 4) 65 (.float .f32 (sf A pre).2.1) ∧ Boxed W (w.heap.size + 5) 3 (.int .i64 (sf A pre).2.2.1))) ∧ Below w.heap.size w W)
    (fun _ _ _ => False)
    (OwnFrom.and (OwnFrom.and (OwnFrom.and (Own.from (holdsRow_own (w.heap.size + 6) (w.heap.size + 2) 55 3 1 (fun pre => (sf A pre).2.2.2.length) (fun pre => (sf A pre).2.2.2.map (Value.int .i64)) (fun _ _ => True)) _) (Own.from blk_own _)) (OwnFrom.and (Own.from (boxed_own _ _ (fun pre => .int .i64 (sf A pre).1)) _) (OwnFrom.and (Own.from (boxed_own _ _ (fun pre => .float .f32 (sf A pre).2.1)) _) (Own.from (boxed_own _ _ (fun pre => .int .i64 (sf A pre).2.2.1)) _)))) (ownFrom_below (Nat.le_refl _) (by omega)))
    (fun _ _ _ _ _ hs _ _ => hs)
    ⟨⟨⟨⟨_, hBx, World.ownsRow_nil _ _ _ _, trivial⟩, hRl⟩, hBn, hBb, hBe⟩, hB0⟩
    (fun x => { tmps := #[.agg #[.string kd, .int .i64 A, .int .i64 B], .agg #[.string nm, .int .i64 st, .slice A1 bs.length c1, .slice A2 gs.length c2], .pointer (some ⟨w.heap.size, 0, none⟩), .pointer (some ⟨w.heap.size + 1, 0, none⟩), .slice none 0 0, .pointer (some ⟨w.heap.size + 2, 0, none⟩), .pointer (some ⟨w.heap.size + 3, 0, none⟩), .pointer (some ⟨w.heap.size + 4, 0, none⟩), .pointer (some ⟨w.heap.size + 5, 0, none⟩), .int .i64 (x.1.1 : Int), .float .f32 x.1.2, .agg #[.string nm, .int .i64 st, .slice A1 bs.length c1, .slice A2 gs.length c2], .func (.func 118) #[] #[.pointer (some ⟨w.heap.size + 6, 0, none⟩)], .int .i64 (x.1.1 : Int), .float .f32 x.1.2, undef, undef, undef, undef, undef, undef, undef, undef, undef, undef, undef, undef, undef, undef, undef, undef, undef, undef, undef, undef, undef, undef], defers := [] }) ?assign ?body ?done ?stop
  case assign =>
    intro l x W K hK
    gi_wp2
    exact hK
  case body =>
    rintro l pre ⟨⟨i, b⟩, hi2⟩ W ⟨⟨⟨⟨v, hv, hrow, -⟩, hrl⟩, hbn, hbb, hbe⟩, hB⟩ hlt
    obtain ⟨o1, o2, o3⟩ := sf_ok A pre
    have hJ : sf A (pre ++ [⟨(i, b), hi2⟩]) = sstep A (sf A pre) ⟨(i, b), hi2⟩ := sf_snoc _ _ _
    generalize hq : sf A pre = q at *
    obtain ⟨nx, be, eq, out⟩ := q
    simp only at o1 o2 o3 hv hrow hbn hbb hbe
    have hi3 : i < 100000 := hi2.1
    have hd0 : 1 ≤ 5 - 1 - 1 := by omega
    have H63 := hd (show out.length + 1 ≤ maxLen by unfold maxLen; omega)
    have HBY := hd (show (out.length + 1) * 8 ≤ 140737488355328 by omega)
    have hX2 : w.heap.size ≤ w.heap.size + 2 := by omega
    have HJ := hd hJ
    have hbs6 : w.heap.size + 6 ≤ W.heap.size := by have := hbe.lt; omega
    clear hJ hq
    have key : ∀ W' v' nx' be' e' out', sstep A (nx, be, eq, out) ⟨(i, b), hi2⟩ = (nx', be', e', out') → Boxed W' (w.heap.size + 2) 55 v' → W'.ownsRow (w.heap.size + 6) 3 1 v' out'.length (out'.map (Value.int .i64)) → W'.heap[w.heap.size]? = some (.cells #[.string kd, .int .i64 A, .int .i64 B] 53 (0, 0)) → Boxed W' (w.heap.size + 3) 3 (.int .i64 nx') → Boxed W' (w.heap.size + 4) 65 (.float .f32 be') → Boxed W' (w.heap.size + 5) 3 (.int .i64 e') → Below w.heap.size w W' →
        ((((∃ v, Boxed W' (w.heap.size + 2) 55 v ∧ W'.ownsRow (w.heap.size + 6) 3 1 v (sf A (pre ++ [⟨(i, b), hi2⟩])).2.2.2.length ((sf A (pre ++ [⟨(i, b), hi2⟩])).2.2.2.map (Value.int .i64)) ∧ True) ∧ W'.heap[w.heap.size]? = some (.cells #[.string kd, .int .i64 A, .int .i64 B] 53 (0, 0))) ∧ (Boxed W' (w.heap.size + 3) 3 (.int .i64 (sf A (pre ++ [⟨(i, b), hi2⟩])).1) ∧ Boxed W' (w.heap.size + 4) 65 (.float .f32 (sf A (pre ++ [⟨(i, b), hi2⟩])).2.1) ∧ Boxed W' (w.heap.size + 5) 3 (.int .i64 (sf A (pre ++ [⟨(i, b), hi2⟩])).2.2.1))) ∧ Below w.heap.size w W') := by
      intro W' v' nx' be' e' out' h1 h2 h3 h4 h5 h6 h7 h8
      rw [HJ.out, h1]
      exact ⟨⟨⟨⟨v', h2, h3, trivial⟩, h4⟩, h5, h6, h7⟩, h8⟩
    have key := hd key
    have hc := hv.cell
    have r1 := blk_cell hrl 1
    simp at r1
    have cn := hbn.cell
    have cb := hbb.cell
    have ce := hbe.cell
    have fn := hbn.frozen
    have fb := hbb.frozen
    have fe := hbe.frozen
    have HA := hd (And.intro hv (And.intro hrow (And.intro hrl (And.intro hbn (And.intro hbb (And.intro hbe hB))))))
    clear hv hrow hrl hbn hbb hbe hB
    by_cases q1 : (i : Int) = nx
    · subst q1
      cases q2 : feq b be
      · have q2' : (FloatKind.f32.format.order b be == some .eq) = false := q2
        by_cases q3 : A ≤ 0
        · have HP := hd (show sstep A (i, be, eq, out) ⟨(i, b), hi2⟩ = ((i : Int) + 1, b, 0, out ++ [(i : Int)]) by simp [sstep, seq', q2, q3])
          have q3' : decide (A ≤ 0) = true := by simpa using q3
          have Q3 := hd q3
          clear q3
          obtain ⟨hv, hrow, hrl, hbn, hbb, hbe, hB⟩ := HA.out
          have kpE := kp_set (n := w.heap.size) (X := w.heap.size + 2) (.int .i64 (0)) hbe (by omega) (by decide) (by decide)
          have HW := hd (And.intro (hv.other (show w.heap.size + 2 ≠ w.heap.size + 5 by omega) (.int .i64 (0))) (And.intro (own_set hrow (show w.heap.size + 5 < w.heap.size + 6 by omega) (.int .i64 (0))) (And.intro (blk_st hrl (show w.heap.size ≠ w.heap.size + 5 by omega) (.int .i64 (0))) (And.intro (hbn.other (show w.heap.size + 3 ≠ w.heap.size + 5 by omega) (.int .i64 (0))) (And.intro (hbb.other (show w.heap.size + 4 ≠ w.heap.size + 5 by omega) (.int .i64 (0))) (And.intro (hbe.set (.int .i64 (0))) (And.intro (hB.trans kpE.below) (And.intro (fun n0 => kf_set (n := n0) (B := w.heap.size + 5) W (.int .i64 (0))) kpE))))))))
          clear hv hrow hrl hbn hbb hbe hB kpE
          gi_wp2_with (gi_at_builtin; refine wpListIn_append_own _ rfl _ _ 55 rfl (w.heap.size + 6) 3 i0 (.int .i64 0) 1 8 Tryz.underlying55 hi hz0 hz1 hz2 rfl (by decide) _ _ _ rfl (HW.out.2.1.alloc _) ⟨W.heap.size, 0, none⟩ 1 1 [.int .i64 (i : Int)] rfl rfl (by simpa using cell_one_new (W.setCell ⟨w.heap.size + 5, 0, none⟩ (.int .i64 (0))) (.int .i64 (i : Int)) 3) (by simp [Value.oneCell']) H63.out HBY.out (by simp; omega) ?_; intro v' w1 hown' hgrow _; obtain ⟨hv, hrow, hrl, hbn, hbb, hbe, hB, hK1, hK2⟩ := HW.out; have HKA := hd (And.intro (kp_app (u := v') (owns_mono hrow (show w.heap.size ≤ w.heap.size + 6 by omega)) hB.size hX2 hgrow) (And.intro (blk_app (X := w.heap.size + 2) (u := v') hrl (by decide) hrow (by omega) hgrow) (And.intro (box_app (X := w.heap.size + 2) (u := v') hbn hrow (by omega) (by omega) hgrow) (And.intro (box_app (X := w.heap.size + 2) (u := v') hbb hrow (by omega) (by omega) hgrow) (box_app (X := w.heap.size + 2) (u := v') hbe hrow (by omega) (by omega) hgrow))))); have cn1 := (box_grow hbn hrow (by omega) hgrow).cell; have fn1 := (box_grow hbn hrow (by omega) hgrow).frozen; have cb1 := (box_grow hbb hrow (by omega) hgrow).cell; have fb1 := (box_grow hbb hrow (by omega) hgrow).frozen; obtain ⟨g', cap', hv'⟩ := ownsRow_succ hown'; subst hv'; obtain ⟨hv1, hv2, hr2, hk2, hb2⟩ := appd hv (by decide) hrow (show w.heap.size ≤ w.heap.size + 6 by omega) hB.size hX2 hown' hgrow; have hc1 := hv1.cell; have hf1 := hv1.frozen; have HR := hd (And.intro hv2 (And.intro hr2 (And.intro hk2 hb2))); have HKW := hd (And.intro hK1 (And.intro hK2 hB)); clear hown' hgrow hv2 hr2 hk2 hb2 hv1 hv hrow hrl hbn hbb hbe hB hK1 hK2)
          obtain ⟨hA1, hA2, hA3, hA4, hA5⟩ := HKA.out
          obtain ⟨hR1, hR2, hR3, hR4⟩ := HR.out
          have key1 := kp_set (n := w.heap.size) (X := w.heap.size + 2) (.int .i64 ((i : Int) + 1)) hA3 (by omega) (by decide) (by decide)
          have hbb2 := hA4.other (show w.heap.size + 4 ≠ w.heap.size + 3 by omega) (.int .i64 ((i : Int) + 1))
          have key2 := kp_set (n := w.heap.size) (X := w.heap.size + 2) (.float .f32 b) hbb2 (by omega) (by decide) (by decide)
          exact ⟨(HKW.out.1 _).trans ((hR3.from _).trans ((kf_set _ _).trans (kf_set _ _))), HKW.out.2.1.trans (hA1.trans (key1.trans key2)), (by have h := key.out _ _ _ _ _ _ HP.out ((hR1.other (by omega) _).other (by omega) _) (own_set (own_set (by simpa using hR2) (by omega) _) (by omega) _) (blk_st (blk_st hA2 (by omega) _) (by omega) _) ((hA3.set _).other (by omega) _) (hbb2.set _) ((hA5.other (by omega) _).other (by omega) _) (HKW.out.2.2.trans (hR4.trans (key1.trans key2).below)); first | exact h | exact ⟨⟨⟨h.1.1.1.imp (fun _ h => ⟨h.1, h.2.1⟩), h.1.1.2⟩, h.1.2⟩, h.2⟩)⟩
        · have HP := hd (show sstep A (i, be, eq, out) ⟨(i, b), hi2⟩ = ((i : Int) + 1, b, 0, out) by simp [sstep, seq', q2, q3])
          have q3' : decide (A ≤ 0) = false := by simpa using q3
          have Q3 := hd q3
          clear q3
          obtain ⟨hv, hrow, hrl, hbn, hbb, hbe, hB⟩ := HA.out
          have kpE := kp_set (n := w.heap.size) (X := w.heap.size + 2) (.int .i64 (0)) hbe (by omega) (by decide) (by decide)
          have HW := hd (And.intro (hv.other (show w.heap.size + 2 ≠ w.heap.size + 5 by omega) (.int .i64 (0))) (And.intro (own_set hrow (show w.heap.size + 5 < w.heap.size + 6 by omega) (.int .i64 (0))) (And.intro (blk_st hrl (show w.heap.size ≠ w.heap.size + 5 by omega) (.int .i64 (0))) (And.intro (hbn.other (show w.heap.size + 3 ≠ w.heap.size + 5 by omega) (.int .i64 (0))) (And.intro (hbb.other (show w.heap.size + 4 ≠ w.heap.size + 5 by omega) (.int .i64 (0))) (And.intro (hbe.set (.int .i64 (0))) (And.intro (hB.trans kpE.below) (And.intro (fun n0 => kf_set (n := n0) (B := w.heap.size + 5) W (.int .i64 (0))) kpE))))))))
          clear hv hrow hrl hbn hbb hbe hB kpE
          gi_wp2
          obtain ⟨hv, hrow, hrl, hbn, hbb, hbe, hB, hK1, hK2⟩ := HW.out
          have key1 := kp_set (n := w.heap.size) (X := w.heap.size + 2) (.int .i64 ((i : Int) + 1)) hbn (by omega) (by decide) (by decide)
          have hbb2 := hbb.other (show w.heap.size + 4 ≠ w.heap.size + 3 by omega) (.int .i64 ((i : Int) + 1))
          have key2 := kp_set (n := w.heap.size) (X := w.heap.size + 2) (.float .f32 b) hbb2 (by omega) (by decide) (by decide)
          exact ⟨(hK1 _).trans ((kf_set _ _).trans (kf_set _ _)), hK2.trans (key1.trans key2), (by have h := key.out _ _ _ _ _ _ HP.out ((hv.other (by omega) _).other (by omega) _) (own_set (own_set hrow (by omega) _) (by omega) _) (blk_st (blk_st hrl (by omega) _) (by omega) _) ((hbn.set _).other (by omega) _) (hbb2.set _) ((hbe.other (by omega) _).other (by omega) _) (hB.trans (key1.trans key2).below); first | exact h | exact ⟨⟨⟨h.1.1.1.imp (fun _ h => ⟨h.1, h.2.1⟩), h.1.1.2⟩, h.1.2⟩, h.2⟩)⟩
      · have q2' : (FloatKind.f32.format.order b be == some .eq) = true := q2
        by_cases q3 : A ≤ eq + 1
        · have HP := hd (show sstep A (i, be, eq, out) ⟨(i, b), hi2⟩ = ((i : Int) + 1, b, eq + 1, out ++ [(i : Int)]) by simp [sstep, seq', q2, q3])
          have q3' : decide (A ≤ eq + 1) = true := by simpa using q3
          have Q3 := hd q3
          clear q3
          obtain ⟨hv, hrow, hrl, hbn, hbb, hbe, hB⟩ := HA.out
          have kpE := kp_set (n := w.heap.size) (X := w.heap.size + 2) (.int .i64 (eq + 1)) hbe (by omega) (by decide) (by decide)
          have HW := hd (And.intro (hv.other (show w.heap.size + 2 ≠ w.heap.size + 5 by omega) (.int .i64 (eq + 1))) (And.intro (own_set hrow (show w.heap.size + 5 < w.heap.size + 6 by omega) (.int .i64 (eq + 1))) (And.intro (blk_st hrl (show w.heap.size ≠ w.heap.size + 5 by omega) (.int .i64 (eq + 1))) (And.intro (hbn.other (show w.heap.size + 3 ≠ w.heap.size + 5 by omega) (.int .i64 (eq + 1))) (And.intro (hbb.other (show w.heap.size + 4 ≠ w.heap.size + 5 by omega) (.int .i64 (eq + 1))) (And.intro (hbe.set (.int .i64 (eq + 1))) (And.intro (hB.trans kpE.below) (And.intro (fun n0 => kf_set (n := n0) (B := w.heap.size + 5) W (.int .i64 (eq + 1))) kpE))))))))
          clear hv hrow hrl hbn hbb hbe hB kpE
          gi_wp2_with (gi_at_builtin; refine wpListIn_append_own _ rfl _ _ 55 rfl (w.heap.size + 6) 3 i0 (.int .i64 0) 1 8 Tryz.underlying55 hi hz0 hz1 hz2 rfl (by decide) _ _ _ rfl (HW.out.2.1.alloc _) ⟨W.heap.size, 0, none⟩ 1 1 [.int .i64 (i : Int)] rfl rfl (by simpa using cell_one_new (W.setCell ⟨w.heap.size + 5, 0, none⟩ (.int .i64 (eq + 1))) (.int .i64 (i : Int)) 3) (by simp [Value.oneCell']) H63.out HBY.out (by simp; omega) ?_; intro v' w1 hown' hgrow _; obtain ⟨hv, hrow, hrl, hbn, hbb, hbe, hB, hK1, hK2⟩ := HW.out; have HKA := hd (And.intro (kp_app (u := v') (owns_mono hrow (show w.heap.size ≤ w.heap.size + 6 by omega)) hB.size hX2 hgrow) (And.intro (blk_app (X := w.heap.size + 2) (u := v') hrl (by decide) hrow (by omega) hgrow) (And.intro (box_app (X := w.heap.size + 2) (u := v') hbn hrow (by omega) (by omega) hgrow) (And.intro (box_app (X := w.heap.size + 2) (u := v') hbb hrow (by omega) (by omega) hgrow) (box_app (X := w.heap.size + 2) (u := v') hbe hrow (by omega) (by omega) hgrow))))); have cn1 := (box_grow hbn hrow (by omega) hgrow).cell; have fn1 := (box_grow hbn hrow (by omega) hgrow).frozen; have cb1 := (box_grow hbb hrow (by omega) hgrow).cell; have fb1 := (box_grow hbb hrow (by omega) hgrow).frozen; obtain ⟨g', cap', hv'⟩ := ownsRow_succ hown'; subst hv'; obtain ⟨hv1, hv2, hr2, hk2, hb2⟩ := appd hv (by decide) hrow (show w.heap.size ≤ w.heap.size + 6 by omega) hB.size hX2 hown' hgrow; have hc1 := hv1.cell; have hf1 := hv1.frozen; have HR := hd (And.intro hv2 (And.intro hr2 (And.intro hk2 hb2))); have HKW := hd (And.intro hK1 (And.intro hK2 hB)); clear hown' hgrow hv2 hr2 hk2 hb2 hv1 hv hrow hrl hbn hbb hbe hB hK1 hK2)
          obtain ⟨hA1, hA2, hA3, hA4, hA5⟩ := HKA.out
          obtain ⟨hR1, hR2, hR3, hR4⟩ := HR.out
          have key1 := kp_set (n := w.heap.size) (X := w.heap.size + 2) (.int .i64 ((i : Int) + 1)) hA3 (by omega) (by decide) (by decide)
          have hbb2 := hA4.other (show w.heap.size + 4 ≠ w.heap.size + 3 by omega) (.int .i64 ((i : Int) + 1))
          have key2 := kp_set (n := w.heap.size) (X := w.heap.size + 2) (.float .f32 b) hbb2 (by omega) (by decide) (by decide)
          exact ⟨(HKW.out.1 _).trans ((hR3.from _).trans ((kf_set _ _).trans (kf_set _ _))), HKW.out.2.1.trans (hA1.trans (key1.trans key2)), (by have h := key.out _ _ _ _ _ _ HP.out ((hR1.other (by omega) _).other (by omega) _) (own_set (own_set (by simpa using hR2) (by omega) _) (by omega) _) (blk_st (blk_st hA2 (by omega) _) (by omega) _) ((hA3.set _).other (by omega) _) (hbb2.set _) ((hA5.other (by omega) _).other (by omega) _) (HKW.out.2.2.trans (hR4.trans (key1.trans key2).below)); first | exact h | exact ⟨⟨⟨h.1.1.1.imp (fun _ h => ⟨h.1, h.2.1⟩), h.1.1.2⟩, h.1.2⟩, h.2⟩)⟩
        · have HP := hd (show sstep A (i, be, eq, out) ⟨(i, b), hi2⟩ = ((i : Int) + 1, b, eq + 1, out) by simp [sstep, seq', q2, q3])
          have q3' : decide (A ≤ eq + 1) = false := by simpa using q3
          have Q3 := hd q3
          clear q3
          obtain ⟨hv, hrow, hrl, hbn, hbb, hbe, hB⟩ := HA.out
          have kpE := kp_set (n := w.heap.size) (X := w.heap.size + 2) (.int .i64 (eq + 1)) hbe (by omega) (by decide) (by decide)
          have HW := hd (And.intro (hv.other (show w.heap.size + 2 ≠ w.heap.size + 5 by omega) (.int .i64 (eq + 1))) (And.intro (own_set hrow (show w.heap.size + 5 < w.heap.size + 6 by omega) (.int .i64 (eq + 1))) (And.intro (blk_st hrl (show w.heap.size ≠ w.heap.size + 5 by omega) (.int .i64 (eq + 1))) (And.intro (hbn.other (show w.heap.size + 3 ≠ w.heap.size + 5 by omega) (.int .i64 (eq + 1))) (And.intro (hbb.other (show w.heap.size + 4 ≠ w.heap.size + 5 by omega) (.int .i64 (eq + 1))) (And.intro (hbe.set (.int .i64 (eq + 1))) (And.intro (hB.trans kpE.below) (And.intro (fun n0 => kf_set (n := n0) (B := w.heap.size + 5) W (.int .i64 (eq + 1))) kpE))))))))
          clear hv hrow hrl hbn hbb hbe hB kpE
          gi_wp2
          obtain ⟨hv, hrow, hrl, hbn, hbb, hbe, hB, hK1, hK2⟩ := HW.out
          have key1 := kp_set (n := w.heap.size) (X := w.heap.size + 2) (.int .i64 ((i : Int) + 1)) hbn (by omega) (by decide) (by decide)
          have hbb2 := hbb.other (show w.heap.size + 4 ≠ w.heap.size + 3 by omega) (.int .i64 ((i : Int) + 1))
          have key2 := kp_set (n := w.heap.size) (X := w.heap.size + 2) (.float .f32 b) hbb2 (by omega) (by decide) (by decide)
          exact ⟨(hK1 _).trans ((kf_set _ _).trans (kf_set _ _)), hK2.trans (key1.trans key2), (by have h := key.out _ _ _ _ _ _ HP.out ((hv.other (by omega) _).other (by omega) _) (own_set (own_set hrow (by omega) _) (by omega) _) (blk_st (blk_st hrl (by omega) _) (by omega) _) ((hbn.set _).other (by omega) _) (hbb2.set _) ((hbe.other (by omega) _).other (by omega) _) (hB.trans (key1.trans key2).below); first | exact h | exact ⟨⟨⟨h.1.1.1.imp (fun _ h => ⟨h.1, h.2.1⟩), h.1.1.2⟩, h.1.2⟩, h.2⟩)⟩
    · have q1' : decide ((i : Int) = nx) = false := by simpa using q1
      by_cases q3 : A ≤ 0
      · have HP := hd (show sstep A (nx, be, eq, out) ⟨(i, b), hi2⟩ = ((i : Int) + 1, b, 0, out ++ [(i : Int)]) by simp [sstep, seq', q1, q3])
        have q3' : decide (A ≤ 0) = true := by simpa using q3
        have Q3 := hd q3
        clear q3
        obtain ⟨hv, hrow, hrl, hbn, hbb, hbe, hB⟩ := HA.out
        have kpE := kp_set (n := w.heap.size) (X := w.heap.size + 2) (.int .i64 (0)) hbe (by omega) (by decide) (by decide)
        have HW := hd (And.intro (hv.other (show w.heap.size + 2 ≠ w.heap.size + 5 by omega) (.int .i64 (0))) (And.intro (own_set hrow (show w.heap.size + 5 < w.heap.size + 6 by omega) (.int .i64 (0))) (And.intro (blk_st hrl (show w.heap.size ≠ w.heap.size + 5 by omega) (.int .i64 (0))) (And.intro (hbn.other (show w.heap.size + 3 ≠ w.heap.size + 5 by omega) (.int .i64 (0))) (And.intro (hbb.other (show w.heap.size + 4 ≠ w.heap.size + 5 by omega) (.int .i64 (0))) (And.intro (hbe.set (.int .i64 (0))) (And.intro (hB.trans kpE.below) (And.intro (fun n0 => kf_set (n := n0) (B := w.heap.size + 5) W (.int .i64 (0))) kpE))))))))
        clear hv hrow hrl hbn hbb hbe hB kpE
        gi_wp2_with (gi_at_builtin; refine wpListIn_append_own _ rfl _ _ 55 rfl (w.heap.size + 6) 3 i0 (.int .i64 0) 1 8 Tryz.underlying55 hi hz0 hz1 hz2 rfl (by decide) _ _ _ rfl (HW.out.2.1.alloc _) ⟨W.heap.size, 0, none⟩ 1 1 [.int .i64 (i : Int)] rfl rfl (by simpa using cell_one_new (W.setCell ⟨w.heap.size + 5, 0, none⟩ (.int .i64 (0))) (.int .i64 (i : Int)) 3) (by simp [Value.oneCell']) H63.out HBY.out (by simp; omega) ?_; intro v' w1 hown' hgrow _; obtain ⟨hv, hrow, hrl, hbn, hbb, hbe, hB, hK1, hK2⟩ := HW.out; have HKA := hd (And.intro (kp_app (u := v') (owns_mono hrow (show w.heap.size ≤ w.heap.size + 6 by omega)) hB.size hX2 hgrow) (And.intro (blk_app (X := w.heap.size + 2) (u := v') hrl (by decide) hrow (by omega) hgrow) (And.intro (box_app (X := w.heap.size + 2) (u := v') hbn hrow (by omega) (by omega) hgrow) (And.intro (box_app (X := w.heap.size + 2) (u := v') hbb hrow (by omega) (by omega) hgrow) (box_app (X := w.heap.size + 2) (u := v') hbe hrow (by omega) (by omega) hgrow))))); have cn1 := (box_grow hbn hrow (by omega) hgrow).cell; have fn1 := (box_grow hbn hrow (by omega) hgrow).frozen; have cb1 := (box_grow hbb hrow (by omega) hgrow).cell; have fb1 := (box_grow hbb hrow (by omega) hgrow).frozen; obtain ⟨g', cap', hv'⟩ := ownsRow_succ hown'; subst hv'; obtain ⟨hv1, hv2, hr2, hk2, hb2⟩ := appd hv (by decide) hrow (show w.heap.size ≤ w.heap.size + 6 by omega) hB.size hX2 hown' hgrow; have hc1 := hv1.cell; have hf1 := hv1.frozen; have HR := hd (And.intro hv2 (And.intro hr2 (And.intro hk2 hb2))); have HKW := hd (And.intro hK1 (And.intro hK2 hB)); clear hown' hgrow hv2 hr2 hk2 hb2 hv1 hv hrow hrl hbn hbb hbe hB hK1 hK2)
        obtain ⟨hA1, hA2, hA3, hA4, hA5⟩ := HKA.out
        obtain ⟨hR1, hR2, hR3, hR4⟩ := HR.out
        have key1 := kp_set (n := w.heap.size) (X := w.heap.size + 2) (.int .i64 ((i : Int) + 1)) hA3 (by omega) (by decide) (by decide)
        have hbb2 := hA4.other (show w.heap.size + 4 ≠ w.heap.size + 3 by omega) (.int .i64 ((i : Int) + 1))
        have key2 := kp_set (n := w.heap.size) (X := w.heap.size + 2) (.float .f32 b) hbb2 (by omega) (by decide) (by decide)
        exact ⟨(HKW.out.1 _).trans ((hR3.from _).trans ((kf_set _ _).trans (kf_set _ _))), HKW.out.2.1.trans (hA1.trans (key1.trans key2)), (by have h := key.out _ _ _ _ _ _ HP.out ((hR1.other (by omega) _).other (by omega) _) (own_set (own_set (by simpa using hR2) (by omega) _) (by omega) _) (blk_st (blk_st hA2 (by omega) _) (by omega) _) ((hA3.set _).other (by omega) _) (hbb2.set _) ((hA5.other (by omega) _).other (by omega) _) (HKW.out.2.2.trans (hR4.trans (key1.trans key2).below)); first | exact h | exact ⟨⟨⟨h.1.1.1.imp (fun _ h => ⟨h.1, h.2.1⟩), h.1.1.2⟩, h.1.2⟩, h.2⟩)⟩
      · have HP := hd (show sstep A (nx, be, eq, out) ⟨(i, b), hi2⟩ = ((i : Int) + 1, b, 0, out) by simp [sstep, seq', q1, q3])
        have q3' : decide (A ≤ 0) = false := by simpa using q3
        have Q3 := hd q3
        clear q3
        obtain ⟨hv, hrow, hrl, hbn, hbb, hbe, hB⟩ := HA.out
        have kpE := kp_set (n := w.heap.size) (X := w.heap.size + 2) (.int .i64 (0)) hbe (by omega) (by decide) (by decide)
        have HW := hd (And.intro (hv.other (show w.heap.size + 2 ≠ w.heap.size + 5 by omega) (.int .i64 (0))) (And.intro (own_set hrow (show w.heap.size + 5 < w.heap.size + 6 by omega) (.int .i64 (0))) (And.intro (blk_st hrl (show w.heap.size ≠ w.heap.size + 5 by omega) (.int .i64 (0))) (And.intro (hbn.other (show w.heap.size + 3 ≠ w.heap.size + 5 by omega) (.int .i64 (0))) (And.intro (hbb.other (show w.heap.size + 4 ≠ w.heap.size + 5 by omega) (.int .i64 (0))) (And.intro (hbe.set (.int .i64 (0))) (And.intro (hB.trans kpE.below) (And.intro (fun n0 => kf_set (n := n0) (B := w.heap.size + 5) W (.int .i64 (0))) kpE))))))))
        clear hv hrow hrl hbn hbb hbe hB kpE
        gi_wp2
        obtain ⟨hv, hrow, hrl, hbn, hbb, hbe, hB, hK1, hK2⟩ := HW.out
        have key1 := kp_set (n := w.heap.size) (X := w.heap.size + 2) (.int .i64 ((i : Int) + 1)) hbn (by omega) (by decide) (by decide)
        have hbb2 := hbb.other (show w.heap.size + 4 ≠ w.heap.size + 3 by omega) (.int .i64 ((i : Int) + 1))
        have key2 := kp_set (n := w.heap.size) (X := w.heap.size + 2) (.float .f32 b) hbb2 (by omega) (by decide) (by decide)
        exact ⟨(hK1 _).trans ((kf_set _ _).trans (kf_set _ _)), hK2.trans (key1.trans key2), (by have h := key.out _ _ _ _ _ _ HP.out ((hv.other (by omega) _).other (by omega) _) (own_set (own_set hrow (by omega) _) (by omega) _) (blk_st (blk_st hrl (by omega) _) (by omega) _) ((hbn.set _).other (by omega) _) (hbb2.set _) ((hbe.other (by omega) _).other (by omega) _) (hB.trans (key1.trans key2).below); first | exact h | exact ⟨⟨⟨h.1.1.1.imp (fun _ h => ⟨h.1, h.2.1⟩), h.1.1.2⟩, h.1.2⟩, h.2⟩)⟩
  case done =>
    rintro D ys W hD rfl ⟨⟨⟨⟨v, hv, hrow, -⟩, -⟩, -⟩, hB⟩ hK
    have hc := hv.cell
    gi_wp2
    refine ⟨by simp, .inl ⟨_, _, rfl, run_takeDeferred hK, ?_⟩⟩
    exact ⟨_, results_tmp rfl _ _ _, v, rfl, owns_mono (ownsRow_putObj hrow _ hK rfl) (by omega), hB.trans (belowK_b (w := w) (Nat.le_refl _) W D _ _ (by omega) hK rfl rfl)⟩
  case stop =>
    rintro D c pre W _ _ h _
    exact h.elim

end Go.Proofs.YtnncmaegmlaabaaGreatDoor
