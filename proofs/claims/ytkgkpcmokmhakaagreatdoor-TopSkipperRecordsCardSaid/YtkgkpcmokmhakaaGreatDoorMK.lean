/-
  Contracts of gauge.waters, Highs and Lows. Conditions: a valid record, a width from 1 to 4096.
  Contract of gauge.waters. Conditions: a valid record, a width from 1 to 4096, a function that compares.
  Plain words of gauge.Summary: the least and the greatest of floats that are numbers, and the fold over the recorded levels.
  Contract of gauge.Summary at a valid record with a level that is recorded.
-/

import Derived.Test.YtkgkpcmokmhakaaGreatDoorProg
import Derived.Test.YtkgkpcmokmhakaaGreatDoorME
import Derived.Test.YtkgkpcmokmhakaaGreatDoorMN
namespace Go.Proofs.YtkgkpcmokmhakaaGreatDoor
open Go.RowKit Go.Shelf
attribute [local go_sem] Oper.semAt_some
attribute [local go_sem, local simp] wide_fn

/-- The indices of the items of which p holds. -/
def selM {n : Nat} (p : Nat × Nat → Bool) (l : List (LvM n)) : List Int := (l.filter (fun x => p x.1)).map (fun x => (x.1.1 : Int))
theorem selM_yes {n : Nat} {p : Nat × Nat → Bool} {x : LvM n} (pre : List (LvM n)) (h : p x.1 = true) : selM p (pre ++ [x]) = selM p pre ++ [(x.1.1 : Int)] := by simp [selM, h]
theorem selM_no {n : Nat} {p : Nat × Nat → Bool} {x : LvM n} (pre : List (LvM n)) (h : p x.1 = false) : selM p (pre ++ [x]) = selM p pre := by simp [selM, h]
/-- That a level beats all before it within the width, and is beaten by none behind it. -/
def wat (bt : Nat → Nat → Bool) (ms : List Bool) (bs : List Nat) (wd : Nat) (x : Nat × Nat) : Bool :=
  leadF ms bs (fun y => bt x.2 y) (x.1 - wd) x.1 && leadF ms bs (fun y => !bt y x.2) (x.1 + 1) (min (x.1 + wd + 1) bs.length)

theorem kf_below {B : Nat} {W W' : World} (h : Below W.heap.size W W') : KeepsFrom B W W' := ⟨h.size, fun _ _ _ hk _ => (h.block _ (blk_lt hk)).trans hk⟩
theorem kp_below {n X : Nat} {W W' : World} (hn : n ≤ W.heap.size) (h : Below W.heap.size W W') : KpR n X W W' := ⟨h.mono hn, fun _ _ _ _ _ hk => (h.block _ (blk_lt hk)).trans hk⟩
end Go.Proofs.YtkgkpcmokmhakaaGreatDoor

namespace Go.Proofs.YtkgkpcmokmhakaaGreatDoor
open Go.RowKit Go.Shelf
attribute [local go_sem] Oper.semAt_some
attribute [local go_sem, local simp] wide_fn

/-- High or low waters, as they are handed back. -/
def Waters (bt : Nat → Nat → Bool) (bs : List Nat) (gs : List (Int × Int)) (wd : Nat) (w : World) (e : Ending) (w' : World) : Prop :=
  ∃ v, e = .returned (.tuple #[v, .int .i64 0]) ∧ w'.ownsRow w.heap.size 3 1 v (selM (wat bt (knL gs bs.length) bs wd) (itm gs (fLvM bs) bs.length)).length ((selM (wat bt (knL gs bs.length) bs wd) (itm gs (fLvM bs) bs.length)).map (Value.int .i64)) ∧ Below w.heap.size w w'

end Go.Proofs.YtkgkpcmokmhakaaGreatDoor

namespace Go.Proofs.YtkgkpcmokmhakaaGreatDoor
open Go.RowKit Go.Shelf
attribute [local go_sem] Oper.semAt_some

def isNum (b : Nat) : Bool := match FloatKind.f32.decode b with | .nan _ _ => false | _ => true
theorem order_num {a b : Nat} (ha : isNum a = true) (hb : isNum b = true) : ∃ o, FloatKind.f32.format.order a b = some o := by
  unfold isNum at ha hb
  show ∃ o, (FloatKind.f32.decode a).order (FloatKind.f32.decode b) = some o
  cases h1 : FloatKind.f32.decode a <;> rw [h1] at ha <;> cases h2 : FloatKind.f32.decode b <;> rw [h2] at hb <;> simp_all [Ieee.Datum.order]
/-- The lesser and the greater one of two floats that are numbers. -/
def fmn (x y : Nat) : Nat := match FloatKind.f32.format.order x y with
  | some .lt => x
  | some .gt => y
  | some .eq => if (FloatKind.f32.decode x).neg then x else y
  | none => x
def fmx (x y : Nat) : Nat := match FloatKind.f32.format.order x y with
  | some .lt => y
  | some .gt => x
  | some .eq => if (FloatKind.f32.decode x).neg then y else x
  | none => x
theorem run_fmn {P : Program} (w : World) (ts : Array TypeId) (t : TypeId) (x y : Nat) (ha : isNum x = true) (hb : isNum y = true) : (Builtin.min_ ts t #[.float .f32 x, .float .f32 y]).run P w = .ok (.float .f32 (fmn x y)) w := by
  obtain ⟨o, ho⟩ := order_num ha hb
  unfold fmn
  cases o <;> simp [Builtin.min_, Builtin.min2, ho]
theorem run_fmx {P : Program} (w : World) (ts : Array TypeId) (t : TypeId) (x y : Nat) (ha : isNum x = true) (hb : isNum y = true) : (Builtin.max_ ts t #[.float .f32 x, .float .f32 y]).run P w = .ok (.float .f32 (fmx x y)) w := by
  obtain ⟨o, ho⟩ := order_num ha hb
  unfold fmx
  cases o <;> simp [Builtin.max_, Builtin.max2, ho]
theorem fmn_num {x y : Nat} (ha : isNum x = true) (hb : isNum y = true) : isNum (fmn x y) = true := by
  unfold fmn; repeat' split
  all_goals assumption
theorem fmx_num {x y : Nat} (ha : isNum x = true) (hb : isNum y = true) : isNum (fmx x y) = true := by
  unfold fmx; repeat' split
  all_goals assumption
theorem levOK_num {b : Nat} (h : levOK b = true) : isNum b = true := by
  unfold levOK at h
  simp only [Bool.and_eq_true] at h
  have h := h.1
  unfold levA floatToFloatBits at h
  unfold isNum
  cases hd : FloatKind.f32.decode b <;> rw [hd] at h <;> simp_all

/-- The count, the sum, the least and the most. -/
structure SS where
  cnt : Int
  sum : Int
  lo : Nat
  hi : Nat
def sstp (s : SS) (b : Nat) : SS := ⟨s.cnt + 1, s.sum + s16 b, fmn s.lo b, fmx s.hi b⟩
def sumF {n : Nat} (l : List (LvM n)) : SS := l.foldl (fun s x => sstp s x.1.2) ⟨0, 0, 1115684864, 3263168512⟩
theorem sumF_snoc {n : Nat} (l : List (LvM n)) (x : LvM n) : sumF (l ++ [x]) = sstp (sumF l) x.1.2 := by simp [sumF, List.foldl_append]
/-- What a sum of so many levels keeps. -/
def sOK (k : Nat) (s : SS) : Prop := s.cnt = (k : Int) ∧ -(1024 * (k : Int)) ≤ s.sum ∧ s.sum ≤ 1024 * (k : Int) ∧ isNum s.lo = true ∧ isNum s.hi = true
theorem sumF_okR {n : Nat} : ∀ (l : List (LvM n)), sOK l.reverse.length (sumF l.reverse)
  | [] => ⟨rfl, by simp [sumF], by simp [sumF], show isNum 1115684864 = true by decide +kernel, show isNum 3263168512 = true by decide +kernel⟩
  | x :: l => by
    obtain ⟨h1, h2, h3, h4, h5⟩ := sumF_okR l
    obtain ⟨-, g1, g2⟩ := sixt_of x.2.2
    rw [List.reverse_cons, sumF_snoc]
    refine ⟨?_, ?_, ?_, fmn_num h4 (levOK_num x.2.2), fmx_num h5 (levOK_num x.2.2)⟩
    all_goals (simp only [sstp, List.length_append, List.length_cons, List.length_nil]; omega)
theorem sumF_ok {n : Nat} (l : List (LvM n)) : sOK l.length (sumF l) := by
  have h := sumF_okR l.reverse
  simpa using h
/-- The cells of the statistics. -/
def stc (s : SS) : Array Value := #[.int .i64 s.cnt, .int .i64 s.sum, .float .f32 s.lo, .float .f32 s.hi]
theorem blkF_own {β : Type} {g : Nat} {t : TypeId} (f : β → Array Value) : Own (fun (x : β) W => W.heap[g]? = some (.cells (f x) t (0, 0))) := by
  rintro s X Y row h hg hrow
  exact (hg.block g (blk_lt h) (fun e => by obtain ⟨o, ho, hc⟩ := hrow g e.symm; rw [h] at ho; cases ho; cases hc)).trans h

end Go.Proofs.YtkgkpcmokmhakaaGreatDoor

namespace Go.Proofs.YtkgkpcmokmhakaaGreatDoor
open Go.RowKit Go.Shelf
attribute [local go_sem] Oper.semAt_some
attribute [local go_sem, local simp] wide_fn

/-- What Summary hands back: the statistics, or the error 12 where nothing is recorded. -/
def sumR (s : SS) : Value := if s.cnt = 0 then .tuple #[.agg #[.int .i64 0, .int .i64 0, .float .f32 0, .float .f32 0], .int .i64 12] else .tuple #[.agg (stc s), .int .i64 0]

/-- Four cells stored into a block. -/
def set4 (W : World) (R : Nat) (a b c d : Value) : World := (((W.setCell ⟨R, 0, none⟩ a).setCell ⟨R, 1, none⟩ b).setCell ⟨R, 2, none⟩ c).setCell ⟨R, 3, none⟩ d
theorem set4_blk {W : World} {R : Nat} {t : TypeId} {x0 x1 x2 x3 : Value} (h : W.heap[R]? = some (.cells #[x0, x1, x2, x3] t (0, 0))) (a b c d : Value) : (set4 W R a b c d).heap[R]? = some (.cells #[a, b, c, d] t (0, 0)) := by
  have := blk_set (blk_set (blk_set (blk_set h 0 a) 1 b) 2 c) 3 d
  simpa [set4] using this
theorem set4_other (W : World) {R D : Nat} (h : D ≠ R) (a b c d : Value) : (set4 W R a b c d).heap[D]? = W.heap[D]? := by
  simp only [set4, Below.heap_setCell _ ⟨R, _, none⟩ _ D h]
theorem set4_below {n : Nat} {w W : World} {R : Nat} (h : Below n w W) (hn : n ≤ R) (a b c d : Value) : Below n w (set4 W R a b c d) :=
  (((h.setCell (p := ⟨R, 0, none⟩) hn a).setCell (p := ⟨R, 1, none⟩) hn b).setCell (p := ⟨R, 2, none⟩) hn c).setCell (p := ⟨R, 3, none⟩) hn d
theorem put_other (W : World) {R D : Nat} (h : R ≠ D) (o : Obj) : (W.putObj D o).heap[R]? = W.heap[R]? := by
  simp [World.putObj, Ne.symm h]

/-- What the stores into one block leave as it is. -/
structure SStep (n O B : Nat) (W V : World) : Prop where
  kf : KeepsFrom B W V
  kp : KpR n O W V
  res : V.heap[n + 1]? = W.heap[n + 1]?
theorem SStep.trans {n O B : Nat} {W V U : World} (h : SStep n O B W V) (k : SStep n O B V U) : SStep n O B W U := ⟨h.kf.trans k.kf, h.kp.trans k.kp, k.res.trans h.res⟩
theorem SStep.set {n O B : Nat} (W : World) (h1 : n + 1 ≠ O) (h2 : n ≤ O) (h3 : n ≤ W.heap.size) (i : Nat) (u : Value) : SStep n O B W (W.setCell ⟨O, i, none⟩ u) :=
  ⟨(KeepsOthers.setCell W _ _).from _, KpR.grown (gb_set W O i _) h3 (fun k hk => by cases hk; exact ⟨h2, .inl rfl⟩), Below.heap_setCell W ⟨O, i, none⟩ u _ h1⟩
theorem SStep.below {n O B : Nat} {W V : World} (h3 : n + 1 < W.heap.size) (h : Below W.heap.size W V) : SStep n O B W V := ⟨kf_below h, kp_below (by omega) h, h.block _ h3⟩

set_option maxRecDepth 1000000 in
set_option maxHeartbeats 8000000 in
theorem summary_in (nm : ByteArray) (st : Int) (lv gv : Value) (bs : List Nat) (gs : List (Int × Int)) (w : World) (hl : Rd w w.heap.size lv bs.length (flc bs)) (hg : Rd w w.heap.size gv gs.length (spc gs)) (V : Valid nm st bs gs) :
    CallsIn Fence.wide 5 Tryz.prog 19 #[.agg #[.string nm, .int .i64 st, lv, gv]] w (fun e w' => e = .returned (sumR (sumF (itm gs (fLvM bs) bs.length))) ∧ Below w.heap.size w w') := by
  have HL := hd hl
  have HG := hd hg
  have HV := hd V
  have hl2 := hl
  have hg2 := hg
  obtain ⟨A1, c1, rfl, hq1, hq2, -⟩ := hl2
  obtain ⟨A2, c2, rfl, -, -, -⟩ := hg2
  have hbn : bs.length ≤ 4096 := V.most
  unfold maxLen at hq2
  have hgs : gs.length ≤ 100000 := Nat.le_trans (chkSpans_ok gs V.spans).1 (by omega)
  have HAS := hd (asc_of gs V.spans)
  clear hl hg V
  refine callsIn_of_wp_marks Tryz.func19 rfl trivial ?_ rfl
  simp only [Tryz.ntmps19, List.size_toArray, List.length_cons, List.length_nil, Nat.reduceAdd, Nat.reduceSub, Array.replicate_succ, Array.replicate_zero, List.push_toArray, List.append_toArray, List.nil_append, List.cons_append]
  gi_wp2_with fail
  obtain ⟨W0, hW0⟩ : ∃ W0, W0 = (w.alloc (.cells #[.string nm, .int .i64 st, .slice A1 bs.length c1, .slice A2 gs.length c2] 35)).alloc (.cells #[.int .i64 0, .int .i64 0, .float .f32 0, .float .f32 0] 62) := ⟨_, rfl⟩
  have hsz : W0.heap.size = w.heap.size + 2 := by rw [hW0]; simp
  have hb0 : Below w.heap.size w W0 := by rw [hW0]; exact ((Below.refl _ w).alloc (Nat.le_refl _) _).alloc (by simp) _
  have HRA := hd (show W0.heap[w.heap.size]? = some (.cells #[.string nm, .int .i64 st, .slice A1 bs.length c1, .slice A2 gs.length c2] 35 (0, 0)) by
    rw [hW0, Below.heap_alloc _ _ _ (by simp)]; exact blk_new _ _ _)
  have HRB := hd (show W0.heap[w.heap.size + 1]? = some (.cells #[.int .i64 0, .int .i64 0, .float .f32 0, .float .f32 0] 62 (0, 0)) by
    have h1 := blk_new (w.alloc (.cells #[.string nm, .int .i64 st, .slice A1 bs.length c1, .slice A2 gs.length c2] 35)) #[.int .i64 0, .int .i64 0, .float .f32 0, .float .f32 0] 62
    simp only [World.size_alloc] at h1
    rw [hW0]; exact h1)
  rw [← hW0]
  clear hW0
  have HRD := hd (fun (W : World) (hB : Below w.heap.size w W) => And.intro ((HL.out.below hB (Nat.le_refl _)).mono hB.size) ((HG.out.below hB (Nat.le_refl _)).mono hB.size))
  refine (callsIn_wide.2 (chkRec_ok nm st _ _ bs gs _ (HRD.out _ hb0).1 (HRD.out _ hb0).2 HV.out)).mono ?_
  rintro e W2 ⟨rfl, hb2⟩
  have hs2 := hb2.size
  have hRA2 := (hb2.block _ (show w.heap.size < W0.heap.size by omega)).trans HRA.out
  have z0 := blk_cell hRA2 0
  have z1 := blk_cell hRA2 1
  have z2 := blk_cell hRA2 2
  have z3 := blk_cell hRA2 3
  simp at z0 z1 z2 z3
  have x0 := fun o => cell_alloc_old (o := o) z0
  have x1 := fun o => cell_alloc_old (o := o) z1
  have x2 := fun o => cell_alloc_old (o := o) z2
  have x3 := fun o => cell_alloc_old (o := o) z3
  have HB2 := hd (And.intro hb2 hRA2)
  clear hb2 hRA2 z0 z1 z2 z3
  gi_wp2_with (first | (gi_at_call 53; refine (callsIn_wide.2 (recorded_any _ _ _ _ _)).mono ?_; rintro e w' ⟨rfl, rfl⟩))
  obtain ⟨O, hO⟩ : ∃ O, O = W2.heap.size := ⟨_, rfl⟩
  obtain ⟨w3, hw3⟩ : ∃ w3, w3 = W2.alloc (.cells (stc (sumF ([] : List (LvM bs.length)))) 62) := ⟨_, rfl⟩
  obtain ⟨W3, hW3⟩ : ∃ W3, W3 = w3.alloc (.cells #[.string nm, .int .i64 st, .slice A1 bs.length c1, .slice A2 gs.length c2] 35) := ⟨_, rfl⟩
  have hs3 : w3.heap.size = O + 1 := by rw [hw3, hO]; simp
  have hsW3 : W3.heap.size = O + 2 := by rw [hW3]; simp; omega
  have hB3 : Below W0.heap.size W0 W3 := by rw [hW3, hw3]; exact (HB2.out.1.alloc hs2 _).alloc (by simp; omega) _
  have hOb : W3.heap[O]? = some (.cells (stc (sumF ([] : List (LvM bs.length)))) 62 (0, 0)) := by
    have h1 := blk_new W2 (stc (sumF ([] : List (LvM bs.length)))) 62
    rw [hW3, Below.heap_alloc _ _ _ (by omega), hw3, hO]; exact h1
  have hRc : W3.heap[O + 1]? = some (.cells #[.string nm, .int .i64 st, .slice A1 bs.length c1, .slice A2 gs.length c2] 35 (0, 0)) := by
    have h1 := blk_new w3 #[.string nm, .int .i64 st, .slice A1 bs.length c1, .slice A2 gs.length c2] 35
    rw [hs3] at h1
    rw [hW3]; exact h1
  have hRb : W3.heap[w.heap.size + 1]? = some (.cells #[.int .i64 0, .int .i64 0, .float .f32 0, .float .f32 0] 62 (0, 0)) := (hB3.block _ (by omega)).trans HRB.out
  have hbw3 : Below w.heap.size w W3 := hb0.trans (hB3.mono hb0.size)
  have hO2 : w.heap.size + 2 ≤ O := by omega
  change Code.wpIn _ _ _ _ _ _ (World.alloc (World.alloc W2 (.cells (stc (sumF ([] : List (LvM bs.length)))) 62)) _)
  rw [← hw3, ← hW3, ← hO]
  clear hw3 hW3 hB3 HB2 x0 x1 x2 x3 hs3 HRA HRB hO hs2
  refine wpIn_rangeFunc_ownG (α := LvM bs.length) rfl (by omega) (gf := 83) (lb := #[.pointer (some ⟨O + 1, 0, none⟩)]) rfl trivial (enters_of Tryz.func83 (by kernel_rfl) rfl)
    (rec_stops (fun x : LvM bs.length => x.1) (fLvM bs) 4 (by omega) (O + 1) w.heap.size O nm st _ _ bs gs (by omega) hgs HAS.out (fLvM_at bs HV.out.lev) W3 (by omega) (by omega) (by omega) hRc (HL.out.below hbw3 (Nat.le_refl _)) (HG.out.below hbw3 (Nat.le_refl _)))
    KpR.trans (KpR.putObj (by omega)) (Below.refl _ _) (fun _ => rfl)
    (fun pre W => (W.heap[O]? = some (.cells (stc (sumF pre)) 62 (0, 0)) ∧ W.heap[w.heap.size + 1]? = some (.cells #[.int .i64 0, .int .i64 0, .float .f32 0, .float .f32 0] 62 (0, 0))) ∧ Below w.heap.size w W)
    (fun _ _ _ => False)
    (OwnFrom.and (OwnFrom.and (Own.from (blkF_own (fun pre => stc (sumF pre))) _) (Own.from blk_own _)) (ownFrom_below (Nat.le_refl _) (by omega)))
    (fun _ _ _ _ _ hs _ _ => hs)
    ⟨⟨hOb, hRb⟩, hbw3⟩
    (fun x => { tmps := #[.agg #[.string nm, .int .i64 st, .slice A1 bs.length c1, .slice A2 gs.length c2], .pointer (some ⟨w.heap.size, 0, none⟩), .pointer (some ⟨w.heap.size + 1, 0, none⟩), .int .i64 0, .int .i64 0, .pointer (some ⟨O, 0, none⟩), undef, .float .f32 x.1.2, .agg #[.string nm, .int .i64 st, .slice A1 bs.length c1, .slice A2 gs.length c2], .int .i64 0, .int .i64 0, .bool false, undef, undef, .agg #[.int .i64 0, .int .i64 0, .float .f32 1115684864, .float .f32 3263168512], .agg #[.string nm, .int .i64 st, .slice A1 bs.length c1, .slice A2 gs.length c2], .func (.func 83) #[] #[.pointer (some ⟨O + 1, 0, none⟩)], .int .i64 (x.1.1 : Int), .float .f32 x.1.2, undef, undef, undef, undef, undef, undef, undef, undef, undef, undef, undef, undef, undef, undef, undef, undef, undef, undef, undef, undef, undef, undef, undef, undef, undef], defers := [] }) ?assign ?body ?done ?stop
  case assign =>
    intro l x W K hK
    gi_wp2
    exact hK
  case body =>
    rintro l pre ⟨⟨i, b⟩, hi2⟩ W ⟨⟨hob, hrb⟩, hB⟩ hlt
    have hok := sumF_ok pre
    have hsn := sumF_snoc pre ⟨(i, b), hi2⟩
    have hpl : pre.length ≤ 4096 := by omega
    obtain ⟨S, hS⟩ : ∃ S, S = sumF pre := ⟨_, rfl⟩
    rw [← hS] at hob hok hsn
    clear hS
    obtain ⟨c, s, lo, hi⟩ := S
    obtain ⟨o1, o2, o3, o4, o5⟩ := hok
    simp only at o1 o2 o3
    have hnb := levOK_num hi2.2
    have HSN := hd hsn
    have hmn := fun W ts t => run_fmn (P := Tryz.prog) W ts t lo b o4 hnb
    have hmx := fun W ts t => run_fmx (P := Tryz.prog) W ts t hi b o5 hnb
    obtain ⟨hsx, hs1, hs2'⟩ := sixt_of hi2.2
    have HS := hd hsx
    simp only [sstp] at hsn
    have c0 := blk_cell hob 0
    have c1' := blk_cell hob 1
    have c2' := blk_cell hob 2
    have c3' := blk_cell hob 3
    simp [stc] at c0 c1' c2' c3'
    have f0 := blk_frozen hob 0
    have HOB := hd (And.intro hob (And.intro hrb hB))
    have hws := hB.size
    clear hob hrb hB hsx hnb o4 o5 hsn
    gi_wp2_with fail
    obtain ⟨hob, hrb, hB⟩ := HOB.out
    have hOW := blk_lt hob
    obtain ⟨V1, hV1⟩ : ∃ V1, V1 = W.setCell ⟨O, 0, none⟩ (.int .i64 (pre.length + 1)) := ⟨_, rfl⟩
    have b1 : V1.heap[O]? = some (.cells #[.int .i64 (pre.length + 1), .int .i64 s, .float .f32 lo, .float .f32 hi] 62 (0, 0)) := by
      rw [hV1]; simpa [stc] using blk_set hob 0 (.int .i64 (pre.length + 1))
    have q1 : SStep w.heap.size O W3.heap.size W V1 := by rw [hV1]; exact SStep.set W (by omega) (by omega) hws 0 _
    have z1 : V1.heap.size = W.heap.size := by rw [hV1]; simp
    rw [← hV1]
    clear hV1 c0 c1' c2' c3' f0
    have F1 : ∀ p : Bw V1, p.out.cell? ⟨O, 1, none⟩ = some (.int .i64 s) := fun p => p.cell (by omega) (by simpa using blk_cell b1 1)
    refine wpIn_region_bw_tail_round (F := Fence.wide) 6 rfl (by kernel_rfl) (by kernel_rfl) (by kernel_rfl) ?_
    simp only [List.take_succ_cons, List.take_zero, List.drop_succ_cons, List.drop_zero]
    repeat (first | gi_big_quiet_step (first | (gi_at_call 37; exact Bw.pureIn _ (callsIn_wide.2 (sixt_any _ _ _ HS.out)))))
    refine wpQuietIn_nil ?_
    rintro ⟨V2, hB2⟩
    change wpListIn _ _ _ _ _ _ _ V2
    have b2 := (hB2.block _ (blk_lt b1)).trans b1
    have q2 : SStep w.heap.size O W3.heap.size W V2 := q1.trans (SStep.below (by omega) hB2)
    have z2 : W.heap.size ≤ V2.heap.size := by have := hB2.size; omega
    have c0 := blk_cell b2 0
    have c1' := blk_cell b2 1
    have c2' := blk_cell b2 2
    have c3' := blk_cell b2 3
    simp at c0 c1' c2' c3'
    have f1 := blk_frozen b2 1
    have f2 := blk_frozen b2 2
    have f3 := blk_frozen b2 3
    have HQ := hd (And.intro b2 q2)
    clear F1 hB2 b1 b2 q1 q2 hob hrb hB
    gi_wp2
    obtain ⟨b2, q2⟩ := HQ.out
    have q := ((q2.trans (SStep.set V2 (by omega) (by omega) (by omega) 1 (.int .i64 (s + s16 b)))).trans (SStep.set _ (by omega) (by omega) (by simp; omega) 2 (.float .f32 (fmn lo b)))).trans (SStep.set _ (by omega) (by omega) (by simp; omega) 3 (.float .f32 (fmx hi b)))
    have b5 := blk_set (blk_set (blk_set b2 1 (.int .i64 (s + s16 b))) 2 (.float .f32 (fmn lo b))) 3 (.float .f32 (fmx hi b))
    refine ⟨q.kf, q.kp, ⟨?_, q.res.trans HOB.out.2.1⟩, HOB.out.2.2.trans q.kp.below⟩
    have e := HSN.out
    simp only [sstp] at e
    rw [e, o1]
    simpa [stc] using b5
  case done =>
    rintro D ys W hD rfl ⟨⟨hob, hrb⟩, hB⟩ hK
    obtain ⟨S, hS⟩ : ∃ S, S = sumF (itm gs (fLvM bs) bs.length) := ⟨_, rfl⟩
    rw [← hS] at hob
    have HS := hd hS
    clear hS
    obtain ⟨c, s, lo, hi⟩ := S
    have hDR : w.heap.size + 1 ≠ D := by intro e; rw [← e, hrb] at hK; cases hK
    have c0 := blk_cell hob 0
    have c1' := blk_cell hob 1
    have c2' := blk_cell hob 2
    have c3' := blk_cell hob 3
    simp [stc] at c0 c1' c2' c3'
    have f0 := blk_frozen hrb 0
    have f1 := blk_frozen hrb 1
    have f2 := blk_frozen hrb 2
    have f3 := blk_frozen hrb 3
    have g0 := blk_cell hrb 0
    have g1 := blk_cell hrb 1
    have g2 := blk_cell hrb 2
    have g3 := blk_cell hrb 3
    simp at g0 g1 g2 g3
    have hws := hB.size
    have HH := hd (And.intro hrb (And.intro hB hK))
    clear hob hrb hB hK
    by_cases hc : c = 0
    · subst hc
      gi_wp2_with fail
      obtain ⟨hrb, hB, hK⟩ := HH.out
      change bodyPostM _ _ _ _ _ _ _ (set4 W (w.heap.size + 1) (.int .i64 0) (.int .i64 0) (.float .f32 0) (.float .f32 0))
      have hK4 := (set4_other W hDR.symm (.int .i64 0) (.int .i64 0) (.float .f32 0) (.float .f32 0)).trans hK
      have b4 := set4_blk hrb (.int .i64 0) (.int .i64 0) (.float .f32 0) (.float .f32 0)
      have hB4 := set4_below hB (Nat.le_succ w.heap.size) (.int .i64 0) (.int .i64 0) (.float .f32 0) (.float .f32 0)
      generalize set4 W (w.heap.size + 1) (.int .i64 0) (.int .i64 0) (.float .f32 0) (.float .f32 0) = W4 at *
      refine ⟨by simp, .inl ⟨_, _, rfl, run_takeDeferred hK4, ?_⟩⟩
      have b5 := (put_other W4 hDR (.deferred none)).trans b4
      have B5 := hB4.trans (belowK_b (w := w) (Nat.le_refl _) W4 D _ (.deferred none) (by omega) hK4 rfl rfl)
      generalize W4.putObj D (.deferred none) = W5 at *
      have y0 := blk_cell b5 0
      have y1 := blk_cell b5 1
      have y2 := blk_cell b5 2
      have y3 := blk_cell b5 3
      simp at y0 y1 y2 y3
      exact ⟨.tuple #[.agg #[.int .i64 0, .int .i64 0, .float .f32 0, .float .f32 0], .int .i64 12], by simp [results, Tryz.results19, go_sem, y0, y1, y2, y3], by rw [← HS.out]; simp [sumR], B5⟩
    · have hc' : decide (c = 0) = false := by simpa using hc
      gi_wp2_with fail
      obtain ⟨hrb, hB, hK⟩ := HH.out
      change bodyPostM _ _ _ _ _ _ _ (set4 W (w.heap.size + 1) (.int .i64 c) (.int .i64 s) (.float .f32 lo) (.float .f32 hi))
      have hK4 := (set4_other W hDR.symm (.int .i64 c) (.int .i64 s) (.float .f32 lo) (.float .f32 hi)).trans hK
      have b4 := set4_blk hrb (.int .i64 c) (.int .i64 s) (.float .f32 lo) (.float .f32 hi)
      have hB4 := set4_below hB (Nat.le_succ w.heap.size) (.int .i64 c) (.int .i64 s) (.float .f32 lo) (.float .f32 hi)
      generalize set4 W (w.heap.size + 1) (.int .i64 c) (.int .i64 s) (.float .f32 lo) (.float .f32 hi) = W4 at *
      refine ⟨by simp, .inl ⟨_, _, rfl, run_takeDeferred hK4, ?_⟩⟩
      have b5 := (put_other W4 hDR (.deferred none)).trans b4
      have B5 := hB4.trans (belowK_b (w := w) (Nat.le_refl _) W4 D _ (.deferred none) (by omega) hK4 rfl rfl)
      generalize W4.putObj D (.deferred none) = W5 at *
      have y0 := blk_cell b5 0
      have y1 := blk_cell b5 1
      have y2 := blk_cell b5 2
      have y3 := blk_cell b5 3
      simp at y0 y1 y2 y3
      exact ⟨.tuple #[.agg #[.int .i64 c, .int .i64 s, .float .f32 lo, .float .f32 hi], .int .i64 0], by simp [results, Tryz.results19, go_sem, y0, y1, y2, y3], by rw [← HS.out]; simp [sumR, stc, hc], B5⟩
  case stop =>
    rintro D c pre W _ _ h _
    exact h.elim
/-- The same outside the fence. -/
theorem summary_any (nm : ByteArray) (st : Int) (lv gv : Value) (bs : List Nat) (gs : List (Int × Int)) (w : World) (hl : Rd w w.heap.size lv bs.length (flc bs)) (hg : Rd w w.heap.size gv gs.length (spc gs)) (V : Valid nm st bs gs) :
    Calls Tryz.prog 19 #[.agg #[.string nm, .int .i64 st, lv, gv]] w (fun e w' => e = .returned (sumR (sumF (itm gs (fLvM bs) bs.length))) ∧ Below w.heap.size w w') :=
  callsIn_wide.1 (summary_in nm st lv gv bs gs w hl hg V)
end Go.Proofs.YtkgkpcmokmhakaaGreatDoor
