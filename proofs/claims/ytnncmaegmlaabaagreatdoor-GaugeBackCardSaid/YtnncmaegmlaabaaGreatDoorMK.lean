/-
  Contracts of gauge.waters, Highs and Lows. Conditions: a valid record, a width from 1 to 4096.
  Contract of gauge.waters. Conditions: a valid record, a width from 1 to 4096, a function that compares.
  Plain words of gauge.Summary: the least and the greatest of floats that are numbers, and the fold over the recorded levels.
  Contract of gauge.Summary at a valid record with a level that is recorded.
-/

import Derived.Test.YtnncmaegmlaabaaGreatDoorProg
import Derived.Test.YtnncmaegmlaabaaGreatDoorMJ
import Derived.Test.YtnncmaegmlaabaaGreatDoorK5
namespace Go.Proofs.YtnncmaegmlaabaaGreatDoor
open Go.RowKit Go.Shelf
attribute [local go_sem] Oper.semAt_some
attribute [local go_sem, local simp] wide_fn

/-- The indices of the items of which p holds. -/
def selM {n : Nat} (p : Nat × Nat → Bool) (l : List (LvM n)) : List Int := (l.filter (fun x => p x.1)).map (fun x => (x.1.1 : Int))
theorem selM_yes {n : Nat} {p : Nat × Nat → Bool} {x : LvM n} (pre : List (LvM n)) (h : p x.1 = true) : selM p (pre ++ [x]) = selM p pre ++ [(x.1.1 : Int)] := by simp [selM, h]
theorem selM_no {n : Nat} {p : Nat × Nat → Bool} {x : LvM n} (pre : List (LvM n)) (h : p x.1 = false) : selM p (pre ++ [x]) = selM p pre := by simp [selM, h]
theorem selM_len {n : Nat} (p : Nat × Nat → Bool) (pre : List (LvM n)) : (selM p pre).length ≤ pre.length := by
  unfold selM; rw [List.length_map]; exact List.length_filter_le _ _

/-- That a level beats all before it within the width, and is beaten by none behind it. -/
def wat (bt : Nat → Nat → Bool) (ms : List Bool) (bs : List Nat) (wd : Nat) (x : Nat × Nat) : Bool :=
  leadF ms bs (fun y => bt x.2 y) (x.1 - wd) x.1 && leadF ms bs (fun y => !bt y x.2) (x.1 + 1) (min (x.1 + wd + 1) bs.length)

theorem clo1_enter (args : Array Value) (w : World) : (callFunc 123 args).run Tryz.prog w = .ok (.enter 123 args) w := by kernel_rfl
theorem clo2_enter (args : Array Value) (w : World) : (callFunc 124 args).run Tryz.prog w = .ok (.enter 124 args) w := by kernel_rfl

theorem leads1 (g : Nat) (bt : Nat → Nat → Bool) (h : Beats g bt) (lev : Nat) (tB tL : Nat) (nm : ByteArray) (st : Int) (lv gv mv : Value) (bs : List Nat) (n2 : Nat) (xs2 : List Value) (ms : List Bool) (f t : Nat) (F T : Int) (hF : F = (f : Int)) (hT : T = (t : Int)) (w : World)
    (hB : Boxed w tB 147 (.func (.func g) #[] #[])) (hL : Boxed w tL 65 (.float .f32 lev))
    (hl : Rd w w.heap.size lv bs.length (flc bs)) (hg : Rd w w.heap.size gv n2 xs2) (hm : Rd w w.heap.size mv ms.length (ms.map Value.bool)) (he : ms.length = bs.length) (hft : f ≤ t) (ht : t ≤ bs.length) :
    Calls Tryz.prog 122 #[.agg #[.string nm, .int .i64 st, lv, gv], mv, .int .i64 F, .int .i64 T, .func (.func 123) #[] #[.pointer (some ⟨tB, 0, none⟩), .pointer (some ⟨tL, 0, none⟩)]] w fun e w' => e = .returned (.bool (leadF ms bs (fun y => bt lev y) f t)) ∧ Below w.heap.size w w' := by
  subst hF
  subst hT
  exact leads_any _ _ tB tL nm st lv gv mv bs n2 xs2 ms f t w clo1_enter (fun x W hW => clo1_any g bt h lev x tB tL W ((hW.cell (p := ⟨tB, 0, none⟩) hB.lt).trans hB.cell) ((hW.cell (p := ⟨tL, 0, none⟩) hL.lt).trans hL.cell)) hl hg hm he hft ht
theorem leads2 (g : Nat) (bt : Nat → Nat → Bool) (h : Beats g bt) (lev : Nat) (tB tL : Nat) (nm : ByteArray) (st : Int) (lv gv mv : Value) (bs : List Nat) (n2 : Nat) (xs2 : List Value) (ms : List Bool) (f t : Nat) (F T : Int) (hF : F = (f : Int)) (hT : T = (t : Int)) (w : World)
    (hB : Boxed w tB 147 (.func (.func g) #[] #[])) (hL : Boxed w tL 65 (.float .f32 lev))
    (hl : Rd w w.heap.size lv bs.length (flc bs)) (hg : Rd w w.heap.size gv n2 xs2) (hm : Rd w w.heap.size mv ms.length (ms.map Value.bool)) (he : ms.length = bs.length) (hft : f ≤ t) (ht : t ≤ bs.length) :
    Calls Tryz.prog 122 #[.agg #[.string nm, .int .i64 st, lv, gv], mv, .int .i64 F, .int .i64 T, .func (.func 124) #[] #[.pointer (some ⟨tB, 0, none⟩), .pointer (some ⟨tL, 0, none⟩)]] w fun e w' => e = .returned (.bool (leadF ms bs (fun y => !bt y lev) f t)) ∧ Below w.heap.size w w' := by
  subst hF
  subst hT
  exact leads_any _ _ tB tL nm st lv gv mv bs n2 xs2 ms f t w clo2_enter (fun x W hW => clo2_any g bt h lev x tB tL W ((hW.cell (p := ⟨tB, 0, none⟩) hB.lt).trans hB.cell) ((hW.cell (p := ⟨tL, 0, none⟩) hL.lt).trans hL.cell)) hl hg hm he hft ht

theorem own_app {W w1 : World} {r X B : Nat} {e e2 : TypeId} {size size2 m k : Nat} {u v kv : Value} {xs ys : List Value} {tmp : Obj} (h : W.ownsRow B e size kv m xs) (hlow : ∀ g, kv.ownBlock = some g → g < r ∧ g ≠ X) (hrow : W.ownsRow r e2 size2 v k ys) (hg : (W.alloc tmp).grownBy w1 v.ownBlock) : (w1.setCell ⟨X, 0, none⟩ u).ownsRow B e size kv m xs := by
  refine ((h.alloc tmp).kept hg ?_).kept (grownBy_setCell' w1 X u) ?_
  · cases hk : kv.ownBlock with
    | none => exact .inl rfl
    | some g => exact .inr (low_not_row hrow (hlow g hk).1)
  · cases hk : kv.ownBlock with
    | none => exact .inl rfl
    | some g => exact .inr (fun e => (hlow g hk).2 (by cases e; rfl))

/-- What holds between the rounds of waters. -/
def WI (n₀ X M R0 B5 : Nat) (w : World) (RC : Array Value) (wd : Nat) (fv KV : Value) (n : Nat) (ms : List Bool) (out : List Int) (W : World) : Prop :=
  ((((∃ v, Boxed W X 55 v ∧ W.ownsRow R0 3 1 v out.length (out.map (Value.int .i64)) ∧ True) ∧ (∃ v, Boxed W M 96 v ∧ W.ownsRow B5 4 1 v n (ms.map Value.bool) ∧ v = KV)) ∧ (W.heap[n₀]? = some (.cells RC 31 (0, 0)) ∧ Boxed W (n₀ + 1) 3 (.int .i64 wd))) ∧ Boxed W (n₀ + 2) 147 fv) ∧ Below n₀ w W
theorem WI.below {n₀ X M R0 B5 : Nat} {w : World} {RC : Array Value} {wd : Nat} {fv KV : Value} {n : Nat} {ms : List Bool} {out : List Int} {W W' : World} (hn : n₀ ≤ W.heap.size) (h : WI n₀ X M R0 B5 w RC wd fv KV n ms out W) (hb : Below W.heap.size W W') : WI n₀ X M R0 B5 w RC wd fv KV n ms out W' := by
  obtain ⟨⟨⟨⟨⟨v, h1, h2, h3⟩, kv, h4, h5, h6⟩, h7, h8⟩, h9⟩, h10⟩ := h
  exact ⟨⟨⟨⟨⟨v, (hb.block _ h1.lt).trans h1, own_bel h2 hb, h3⟩, kv, (hb.block _ h4.lt).trans h4, own_bel h5 hb, h6⟩, (hb.block _ (blk_lt h7)).trans h7, (hb.block _ h8.lt).trans h8⟩, (hb.block _ h9.lt).trans h9⟩, h10.trans (hb.mono hn)⟩
theorem WI.own {n₀ X M R0 B5 : Nat} {w : World} {RC : Array Value} {wd : Nat} {fv KV : Value} {n : Nat} {ms : List Bool} {β : Type} {out : β → List Int} {B : Nat} (hw : n₀ ≤ w.heap.size) (hB : n₀ ≤ B) : OwnFrom B (fun pre W => WI n₀ X M R0 B5 w RC wd fv KV n ms (out pre) W) :=
  OwnFrom.and (OwnFrom.and (OwnFrom.and (OwnFrom.and (Own.from (holdsRow_own R0 X 55 3 1 (fun pre => (out pre).length) (fun pre => (out pre).map (Value.int .i64)) (fun _ _ => True)) _) (Own.from (holdsRow_own B5 M 96 4 1 (fun _ => n) (fun _ => ms.map Value.bool) (fun _ v => v = KV)) _)) (OwnFrom.and (Own.from blk_own _) (Own.from (boxed_own _ _ (fun _ => .int .i64 wd)) _))) (Own.from (boxed_own _ _ (fun _ => fv)) _)) (ownFrom_below hw hB)
theorem kf_below {B : Nat} {W W' : World} (h : Below W.heap.size W W') : KeepsFrom B W W' := ⟨h.size, fun _ _ _ hk _ => (h.block _ (blk_lt hk)).trans hk⟩
theorem kp_below {n X : Nat} {W W' : World} (hn : n ≤ W.heap.size) (h : Below W.heap.size W W') : KpR n X W W' := ⟨h.mono hn, fun _ _ _ _ _ hk => (h.block _ (blk_lt hk)).trans hk⟩
end Go.Proofs.YtnncmaegmlaabaaGreatDoor

namespace Go.Proofs.YtnncmaegmlaabaaGreatDoor
open Go.RowKit Go.Shelf
attribute [local go_sem] Oper.semAt_some
attribute [local go_sem, local simp] wide_fn

set_option maxRecDepth 1000000 in
set_option maxHeartbeats 8000000 in
theorem waters_in (g : Nat) (bt : Nat → Nat → Bool) (hbt : Beats g bt) (nm : ByteArray) (st : Int) (lv gv : Value) (bs : List Nat) (gs : List (Int × Int)) (wd : Nat) (w : World) (hl : Rd w w.heap.size lv bs.length (flc bs)) (hg : Rd w w.heap.size gv gs.length (spc gs)) (V : Valid nm st bs gs) (hw1 : 1 ≤ wd) (hw2 : wd ≤ 4096) :
    CallsIn Fence.wide 5 Tryz.prog 91 #[.agg #[.string nm, .int .i64 st, lv, gv], .int .i64 (wd : Int), .func (.func g) #[] #[]] w (fun e w' => ∃ v, e = .returned (.tuple #[v, .int .i64 0]) ∧ w'.ownsRow w.heap.size 3 1 v (selM (wat bt (knL gs bs.length) bs wd) (itm gs (fLvM bs) bs.length)).length ((selM (wat bt (knL gs bs.length) bs wd) (itm gs (fLvM bs) bs.length)).map (Value.int .i64)) ∧ Below w.heap.size w w') := by
  obtain ⟨i0, hi, hz0, hz1, hz2⟩ := info_parts intInfo
  have HL := hd hl
  have HG := hd hg
  have HV := hd V
  have HBT := hd hbt
  have hl2 := hl
  have hg2 := hg
  obtain ⟨A1, c1, rfl, hq1, hq2, -⟩ := hl2
  obtain ⟨A2, c2, rfl, -, -, -⟩ := hg2
  have hbn : bs.length ≤ 4096 := V.most
  unfold maxLen at hq2
  have hz := hd (show fst0 [0, 0] = 0 by simp [fst0])
  have hrw := hd (show rng (wd : Int) 1 4096 = 0 by unfold rng; rw [if_pos ⟨by omega, by omega⟩])
  have hgs : gs.length ≤ 100000 := Nat.le_trans (chkSpans_ok gs V.spans).1 (by omega)
  have HAS := hd (asc_of gs V.spans)
  clear hl hg V hbt
  refine callsIn_of_wp_marks Tryz.func91 rfl trivial ?_ rfl
  simp only [Tryz.ntmps91, List.size_toArray, List.length_cons, List.length_nil, Nat.reduceAdd, Nat.reduceSub, Array.replicate_succ, Array.replicate_zero, List.push_toArray, List.append_toArray, List.nil_append, List.cons_append]
  gi_wp2_with fail
  obtain ⟨RC, hRC⟩ : ∃ RC, RC = #[Value.string nm, .int .i64 st, .slice A1 bs.length c1, .slice A2 gs.length c2] := ⟨_, rfl⟩
  obtain ⟨W1, hW1⟩ : ∃ W1, W1 = ((w.alloc (.cells #[.string nm, .int .i64 st, .slice A1 bs.length c1, .slice A2 gs.length c2] 31)).alloc (.cells #[.int .i64 (wd : Int)] 3)).alloc (.cells #[.func (.func g) #[] #[]] 147) := ⟨_, rfl⟩
  have hsz : W1.heap.size = w.heap.size + 3 := by rw [hW1]; simp
  have hb0 : Below w.heap.size w W1 := by rw [hW1]; exact (((Below.refl _ w).alloc (Nat.le_refl _) _).alloc (by simp) _).alloc (by simp; omega) _
  have HRA := hd (show W1.heap[w.heap.size]? = some (.cells #[.string nm, .int .i64 st, .slice A1 bs.length c1, .slice A2 gs.length c2] 31 (0, 0)) by
    rw [hW1, Below.heap_alloc _ _ _ (by simp; omega), Below.heap_alloc _ _ _ (by simp)]; exact blk_new _ _ _)
  have HWD := hd (show Boxed W1 (w.heap.size + 1) 3 (.int .i64 (wd : Int)) by
    have h1 := Boxed.new (w.alloc (.cells #[.string nm, .int .i64 st, .slice A1 bs.length c1, .slice A2 gs.length c2] 31)) 3 (.int .i64 (wd : Int))
    simp only [World.size_alloc] at h1
    rw [hW1]; exact h1.alloc _)
  have HFV := hd (show Boxed W1 (w.heap.size + 2) 147 (.func (.func g) #[] #[]) by
    have h1 := Boxed.new ((w.alloc (.cells #[.string nm, .int .i64 st, .slice A1 bs.length c1, .slice A2 gs.length c2] 31)).alloc (.cells #[.int .i64 (wd : Int)] 3)) 147 (.func (.func g) #[] #[])
    simp only [World.size_alloc] at h1
    rw [hW1]; exact h1)
  rw [← hW1]
  clear hW1
  have F0 : ∀ p : Bw W1, p.out.cell? ⟨w.heap.size, 0, none⟩ = some (.string nm) := fun p => p.cell (by omega) (by simpa using blk_cell HRA.out 0)
  have F1 : ∀ p : Bw W1, p.out.cell? ⟨w.heap.size, 1, none⟩ = some (.int .i64 st) := fun p => p.cell (by omega) (by simpa using blk_cell HRA.out 1)
  have F2 : ∀ p : Bw W1, p.out.cell? ⟨w.heap.size, 2, none⟩ = some (.slice A1 bs.length c1) := fun p => p.cell (by omega) (by simpa using blk_cell HRA.out 2)
  have F3 : ∀ p : Bw W1, p.out.cell? ⟨w.heap.size, 3, none⟩ = some (.slice A2 gs.length c2) := fun p => p.cell (by omega) (by simpa using blk_cell HRA.out 3)
  have F4 : ∀ p : Bw W1, p.out.cell? ⟨w.heap.size + 1, 0, none⟩ = some (.int .i64 (wd : Int)) := fun p => p.cell (by omega) HWD.out.cell
  have HRD := hd (fun (W : World) (hB : Below w.heap.size w W) => And.intro ((HL.out.below hB (Nat.le_refl _)).mono hB.size) ((HG.out.below hB (Nat.le_refl _)).mono hB.size))
  have HPB := hd (fun p : Bw W1 => hb0.trans (p.below.mono hb0.size))
  refine wpIn_region_bw_tail (F := Fence.wide) 4 rfl (by kernel_rfl) (by kernel_rfl) ?_
  simp only [List.take_succ_cons, List.take_zero, List.drop_succ_cons, List.drop_zero]
  repeat (first | gi_big_quiet_step (first | (gi_at_call 41; exact Bw.callIn _ (callsIn_wide.2 (chkRec_ok nm st _ _ bs gs _ (HRD.out _ (HPB.out _)).1 (HRD.out _ (HPB.out _)).2 HV.out))) | (gi_at_call 84; exact Bw.pureIn _ (callsIn_wide.2 (rng_any _ _ _ _)))))
  refine wpQuietIn_nil ?_
  rintro ⟨W2, hB2⟩
  change wpListIn _ _ _ _ _ _ _ W2
  rw [hrw.out]
  have hz1 := blk_cell ((hB2.block _ (show w.heap.size < W1.heap.size by omega)).trans HRA.out)
  have f0 := hz1 0
  have f1 := hz1 1
  have f2 := hz1 2
  have f3 := hz1 3
  simp at f0 f1 f2 f3
  have y0 := fun o => cell_alloc_old (o := o) f0
  have y1 := fun o => cell_alloc_old (o := o) f1
  have y2 := fun o => cell_alloc_old (o := o) f2
  have y3 := fun o => cell_alloc_old (o := o) f3
  have HB2 := hd hB2
  have hs2 := hB2.size
  have HB0 := hd (fun o => (hb0.trans (hB2.mono hb0.size)).alloc (Nat.le_trans hb0.size hB2.size) o)
  clear F0 F1 F2 F3 F4 hB2 hz1 f0 f1 f2 f3 HPB
  gi_wp2_with (first | (gi_at_call 49; refine (callsIn_wide.2 (first2 _ _ _ _)).mono ?_; rintro e w' ⟨rfl, rfl⟩; rw [hz.out]))
  have hB2A := HB0.out (Obj.cells #[.int .i64 0, .int .i64 0] 28)
  have hs2a : (W2.alloc (Obj.cells #[.int .i64 0, .int .i64 0] 28)).heap.size = W2.heap.size + 1 := by simp
  refine (callsIn_wide.2 (known_any nm st _ _ bs.length (flc bs) gs _ (HRD.out _ hB2A).1 (HRD.out _ hB2A).2 HAS.out hgs (by omega))).mono ?_
  rintro e w5 ⟨kv, rfl, hok, hb5⟩
  rw [hs2a] at hok
  rw [knL_len] at hok
  obtain ⟨Ak, ck, hkv, -⟩ := own_form hok
  subst hkv
  have hb5' : Below w.heap.size w w5 := hB2A.trans (hb5.mono hB2A.size)
  have hb15 : Below W1.heap.size W1 w5 := (HB2.out.alloc hs2 _).trans (hb5.mono (by simp; omega))
  have hRA5 := (hb15.block _ (show w.heap.size < W1.heap.size by omega)).trans HRA.out
  have z0 := blk_cell hRA5 0
  have z1 := blk_cell hRA5 1
  have z2 := blk_cell hRA5 2
  have z3 := blk_cell hRA5 3
  simp at z0 z1 z2 z3
  have x0 := fun o => cell_alloc_old (o := o) z0
  have x1 := fun o => cell_alloc_old (o := o) z1
  have x2 := fun o => cell_alloc_old (o := o) z2
  have x3 := fun o => cell_alloc_old (o := o) z3
  have t0 := fun o o' => cell_alloc_old (o := o') (x0 o)
  have t1 := fun o o' => cell_alloc_old (o := o') (x1 o)
  have t2 := fun o o' => cell_alloc_old (o := o') (x2 o)
  have t3 := fun o o' => cell_alloc_old (o := o') (x3 o)
  have HOK := hd (And.intro hok (And.intro hb5' (And.intro hb15 hRA5)))
  have hs5 : W2.heap.size + 1 ≤ w5.heap.size := by have := hb5.size; simp at this; exact this
  clear hok hb5 hb5' hb15 hRA5 z0 z1 z2 z3 hB2A hs2a y0 y1 y2 y3
  gi_wp2_with (first | (gi_at_call 79; refine (callsIn_wide.2 (recorded_any _ _ _ _ _)).mono ?_; rintro e w' ⟨rfl, rfl⟩))
  obtain ⟨hok, hb5, hb15, hRA5⟩ := HOK.out
  have HKL := hd hok.lt
  obtain ⟨RC, hRC⟩ : ∃ RC, RC = #[Value.string nm, .int .i64 st, .slice A1 bs.length c1, .slice A2 gs.length c2] := ⟨_, rfl⟩
  obtain ⟨KV, hKV⟩ : ∃ KV, KV = Value.slice Ak bs.length ck := ⟨_, rfl⟩
  obtain ⟨w6, hw6⟩ : ∃ w6, w6 = w5.alloc (.cells #[.slice Ak bs.length ck] 96) := ⟨_, rfl⟩
  obtain ⟨w7, hw7⟩ : ∃ w7, w7 = w6.alloc (.cells #[.slice none 0 0] 55) := ⟨_, rfl⟩
  obtain ⟨W0, hW0⟩ : ∃ W0, W0 = w7.alloc (.cells #[.string nm, .int .i64 st, .slice A1 bs.length c1, .slice A2 gs.length c2] 31) := ⟨_, rfl⟩
  have hs6 : w6.heap.size = w5.heap.size + 1 := by rw [hw6]; simp
  have hs7 : w7.heap.size = w5.heap.size + 2 := by rw [hw7]; simp; omega
  have hs0 : W0.heap.size = w5.heap.size + 3 := by rw [hW0]; simp; omega
  rw [← hw6, ← hw7, ← hW0]
  have hB50 : Below w5.heap.size w5 W0 := by rw [hW0, hw7, hw6]; exact (((Below.refl _ w5).alloc (Nat.le_refl _) _).alloc (by simp) _).alloc (by simp; omega) _
  have hB0 : Below w.heap.size w W0 := hb5.trans (hB50.mono hb5.size)
  have hM : Boxed W0 w5.heap.size 96 (.slice Ak bs.length ck) := by rw [hW0, hw7, hw6]; exact ((Boxed.new w5 _ _).alloc _).alloc _
  have hX : Boxed W0 (w5.heap.size + 1) 55 (.slice none 0 0) := by
    have h1 := Boxed.new w6 55 (.slice none 0 0)
    rw [hs6] at h1
    rw [hW0, hw7]; exact h1.alloc _
  have hRc : W0.heap[w5.heap.size + 2]? = some (.cells #[.string nm, .int .i64 st, .slice A1 bs.length c1, .slice A2 gs.length c2] 31 (0, 0)) := by
    have h1 := blk_new w7 #[.string nm, .int .i64 st, .slice A1 bs.length c1, .slice A2 gs.length c2] 31
    rw [hs7] at h1
    rw [hW0]; exact h1
  have hK0 : W0.ownsRow (W2.heap.size + 1) 4 1 (.slice Ak bs.length ck) bs.length ((knL gs bs.length).map Value.bool) := own_bel hok hB50
  have hwd0 : Boxed W0 (w.heap.size + 1) 3 (.int .i64 wd) := (hB50.block _ (show w.heap.size + 1 < w5.heap.size by omega)).trans ((hb15.block _ (show w.heap.size + 1 < W1.heap.size by omega)).trans HWD.out)
  have hfv0 : Boxed W0 (w.heap.size + 2) 147 (.func (.func g) #[] #[]) := (hB50.block _ (show w.heap.size + 2 < w5.heap.size by omega)).trans ((hb15.block _ (show w.heap.size + 2 < W1.heap.size by omega)).trans HFV.out)
  have hra0 : W0.heap[w.heap.size]? = some (.cells RC 31 (0, 0)) := by rw [hRC]; exact (hB50.block _ (show w.heap.size < w5.heap.size by omega)).trans hRA5
  have hWI : WI w.heap.size (w5.heap.size + 1) w5.heap.size (w5.heap.size + 2) (W2.heap.size + 1) w RC wd (.func (.func g) #[] #[]) (.slice Ak bs.length ck) bs.length (knL gs bs.length) (selM (wat bt (knL gs bs.length) bs wd) ([] : List (LvM bs.length))) W0 :=
    ⟨⟨⟨⟨⟨_, hX, World.ownsRow_nil _ _ _ _, trivial⟩, _, hM, hK0, rfl⟩, hra0, hwd0⟩, hfv0⟩, hB0⟩
  have HWI := hd hWI
  have HRC := hd hRC
  have hlw : w.heap.size + 3 ≤ w5.heap.size := by omega
  clear HOK hok hb5 hb15 hRA5 hw6 hw7 hW0 hB50 hM hX hK0 hwd0 hfv0 hra0 hWI x0 x1 x2 x3 t0 t1 t2 t3 HRD HB0 HB2 hs6 hs7 hRC HWD HFV HRA hb0 KV hKV
  refine wpIn_rangeFunc_ownH (α := LvM bs.length) rfl (by omega) (gf := 118) (lb := #[.pointer (some ⟨w5.heap.size + 1 + 1, 0, none⟩)]) rfl trivial (enters_of Tryz.func118 (by kernel_rfl) rfl)
    (rec_stops (fun x : LvM bs.length => x.1) (fLvM bs) 4 (by omega) (w5.heap.size + 1 + 1) w.heap.size (w5.heap.size + 1) nm st _ _ bs gs (by omega) hgs HAS.out (fLvM_at bs HV.out.lev) W0 (by omega) (by omega) (by omega) hRc (HL.out.below hB0 (Nat.le_refl _)) (HG.out.below hB0 (Nat.le_refl _)))
    KpR.trans (KpR.putObj (by omega)) (Below.refl _ _) (fun _ => rfl)
    (fun pre W => WI w.heap.size (w5.heap.size + 1) w5.heap.size (w5.heap.size + 2) (W2.heap.size + 1) w RC wd (.func (.func g) #[] #[]) (.slice Ak bs.length ck) bs.length (knL gs bs.length) (selM (wat bt (knL gs bs.length) bs wd) pre) W)
    (fun _ _ _ => False)
    (WI.own (Nat.le_refl _) (by omega))
    (fun _ _ _ _ _ hs _ _ => hs)
    HWI.out
    (fun x a' W => ∃ Bx, a' = { tmps := #[.agg #[.string nm, .int .i64 st, .slice A1 bs.length c1, .slice A2 gs.length c2], .int .i64 wd, .func (.func g) #[] #[], .pointer (some ⟨w.heap.size, 0, none⟩), .pointer (some ⟨w.heap.size + 1, 0, none⟩), .pointer (some ⟨w.heap.size + 1 + 1, 0, none⟩), .slice none 0 0, .int .i64 0, .int .i64 0, .pointer (some ⟨w5.heap.size, 0, none⟩), .pointer (some ⟨w5.heap.size + 1, 0, none⟩), .int .i64 (x.1.1 : Int), .pointer (some ⟨Bx, 0, none⟩), .agg #[.string nm, .int .i64 st, .slice A1 bs.length c1, .slice A2 gs.length c2], .int .i64 0, .int .i64 wd, .int .i64 0, .slice (some ⟨W2.heap.size, 0, none⟩) 2 2, .int .i64 0, .int .i64 0, .bool false, undef, .agg #[.string nm, .int .i64 st, .slice A1 bs.length c1, .slice A2 gs.length c2], .slice Ak bs.length ck, .agg #[.string nm, .int .i64 st, .slice A1 bs.length c1, .slice A2 gs.length c2], .func (.func 118) #[] #[.pointer (some ⟨w5.heap.size + 1 + 1, 0, none⟩)], .int .i64 (x.1.1 : Int), .float .f32 x.1.2, undef, undef, undef, undef, undef, undef, undef, undef, undef, undef, undef, undef, undef, undef, undef, undef, undef, undef, undef, undef, undef, undef, undef, undef, undef, undef, undef, undef, undef], defers := [] } ∧ Boxed W Bx 65 (.float .f32 x.1.2) ∧ w5.heap.size + 1 < Bx)
    (fun x a' s X Y row hs hg hr => by obtain ⟨Bx, e, h1, h2⟩ := hs; exact ⟨Bx, e, boxed_own _ _ (fun (_ : Unit) => .float .f32 x.1.2) () X Y row h1 hg (fun r e => (hr r e).2), h2⟩)
    ?assign ?body ?done ?stop
  case assign =>
    intro l pre x W K hI hK
    have hBs := hI.2.size
    have hXl : w5.heap.size + 1 < W.heap.size := by obtain ⟨⟨⟨⟨⟨v, hv, -⟩, -⟩, -⟩, -⟩, -⟩ := hI; exact hv.lt
    have HI := hd hI
    clear hI
    gi_wp2
    exact hK _ _ (KeepsFrom.of_grownBy (World.grownBy_alloc W _ none) (fun _ h => by cases h)) (KpR.alloc W hBs _) (HI.out.below hBs ((Below.refl _ W).alloc (Nat.le_refl _) _)) ⟨W.heap.size, rfl, Boxed.new W _ _, hXl⟩
  case body =>
    rintro l pre ⟨⟨i, b⟩, hi2⟩ a' W hlD hrec hI hAx hlt
    obtain ⟨Bx, rfl, hbx, hBx⟩ := hAx
    have hi3 : i < bs.length := by have := hi2.1; simp only at this; omega
    have hWs := hI.2.size
    have HI := hd hI
    obtain ⟨⟨⟨⟨⟨v, hv, hrow, -⟩, ⟨kv, hm, hkn, hke⟩⟩, hrl, hwdb⟩, hfv⟩, hB⟩ := hI
    subst hke
    rw [HRC.out] at hrl
    have r0 := blk_cell hrl 0
    have r1 := blk_cell hrl 1
    have r2 := blk_cell hrl 2
    have r3 := blk_cell hrl 3
    simp at r0 r1 r2 r3
    have cm := hm.cell
    have cw := hwdb.cell
    have HF := hd (And.intro hfv (And.intro hbx (And.intro hkn hB)))
    clear hv hrow hkn hfv hbx hrl hm hwdb hB hrec
    cases hr1 : leadF (knL gs bs.length) bs (fun y => bt b y) (i - wd) i
    · have HR1 := hd hr1
      have HP := hd (show wat bt (knL gs bs.length) bs wd (i, b) = false by simp only [wat]; rw [hr1]; rfl)
      clear hr1
      gi_wp2_with fail
      refine (CallsIn.inRound l (callsIn_wide.2 (leads1 g bt HBT.out b _ _ nm st _ _ _ bs _ _ (knL gs bs.length) (i - wd) i _ _ (by omega) rfl W HF.out.1 HF.out.2.1 ((HL.out.below HF.out.2.2.2 (Nat.le_refl _)).mono hWs) ((HG.out.below HF.out.2.2.2 (Nat.le_refl _)).mono hWs) (by rw [knL_len]; exact rd_of_own HF.out.2.2.1) (knL_len _ _) (by omega) (by omega)))).mono ?_
      rintro e w1 ⟨rfl, hb1⟩
      rw [HR1.out]
      have HB1 := hd hb1
      clear hb1
      gi_wp2
      exact ⟨kf_below HB1.out, kp_below hWs HB1.out, by show WI _ _ _ _ _ _ _ _ _ _ _ _ (selM (wat bt (knL gs bs.length) bs wd) (pre ++ [⟨(i, b), hi2⟩])) _; rw [selM_no pre HP.out]; exact HI.out.below hWs HB1.out⟩
    · have HR1 := hd hr1
      clear hr1
      gi_wp2_with fail
      refine (CallsIn.inRound l (callsIn_wide.2 (leads1 g bt HBT.out b _ _ nm st _ _ _ bs _ _ (knL gs bs.length) (i - wd) i _ _ (by omega) rfl W HF.out.1 HF.out.2.1 ((HL.out.below HF.out.2.2.2 (Nat.le_refl _)).mono hWs) ((HG.out.below HF.out.2.2.2 (Nat.le_refl _)).mono hWs) (by rw [knL_len]; exact rd_of_own HF.out.2.2.1) (knL_len _ _) (by omega) (by omega)))).mono ?_
      rintro e w1 ⟨rfl, hb1⟩
      rw [HR1.out]
      have HW1 := hd (HI.out.below hWs hb1)
      have hW1s : w.heap.size ≤ w1.heap.size := Nat.le_trans hWs hb1.size
      have hbx1 := (hb1.block _ HF.out.2.1.lt).trans HF.out.2.1
      have HB1 := hd hb1
      obtain ⟨⟨⟨⟨⟨v, hv, hrow, -⟩, ⟨kv, hm, hkn, hke⟩⟩, hrl, hwdb⟩, hfv⟩, hB⟩ := HW1.out
      subst hke
      rw [HRC.out] at hrl
      clear r0 r1 r2 r3 cm cw hb1 HF
      have r0 := blk_cell hrl 0
      have r1 := blk_cell hrl 1
      have r2 := blk_cell hrl 2
      have r3 := blk_cell hrl 3
      simp at r0 r1 r2 r3
      have cm := hm.cell
      have cw := hwdb.cell
      have HF := hd (And.intro hfv (And.intro hbx1 (And.intro hkn hB)))
      clear hv hrow hkn hfv hbx1 hrl hm hwdb hB
      cases hr2 : leadF (knL gs bs.length) bs (fun y => !bt y b) (i + 1) (min (i + wd + 1) bs.length)
      · have HR2 := hd hr2
        have HP := hd (show wat bt (knL gs bs.length) bs wd (i, b) = false by simp only [wat]; rw [HR1.out, hr2]; rfl)
        clear hr2
        gi_wp2_with fail
        refine (CallsIn.inRound l (callsIn_wide.2 (leads2 g bt HBT.out b _ _ nm st _ _ _ bs _ _ (knL gs bs.length) (i + 1) (min (i + wd + 1) bs.length) _ _ (by omega) (by omega) w1 HF.out.1 HF.out.2.1 ((HL.out.below HF.out.2.2.2 (Nat.le_refl _)).mono hW1s) ((HG.out.below HF.out.2.2.2 (Nat.le_refl _)).mono hW1s) (by rw [knL_len]; exact rd_of_own HF.out.2.2.1) (knL_len _ _) (by omega) (by omega)))).mono ?_
        rintro e w2 ⟨rfl, hb2⟩
        rw [HR2.out]
        have HB2 := hd (HB1.out.trans (hb2.mono HB1.out.size))
        clear hb2
        gi_wp2
        exact ⟨kf_below HB2.out, kp_below hWs HB2.out, by show WI _ _ _ _ _ _ _ _ _ _ _ _ (selM (wat bt (knL gs bs.length) bs wd) (pre ++ [⟨(i, b), hi2⟩])) _; rw [selM_no pre HP.out]; exact HI.out.below hWs HB2.out⟩
      · have HR2 := hd hr2
        have HP := hd (show wat bt (knL gs bs.length) bs wd (i, b) = true by simp only [wat]; rw [HR1.out, hr2]; rfl)
        clear hr2
        gi_wp2_with fail
        refine (CallsIn.inRound l (callsIn_wide.2 (leads2 g bt HBT.out b _ _ nm st _ _ _ bs _ _ (knL gs bs.length) (i + 1) (min (i + wd + 1) bs.length) _ _ (by omega) (by omega) w1 HF.out.1 HF.out.2.1 ((HL.out.below HF.out.2.2.2 (Nat.le_refl _)).mono hW1s) ((HG.out.below HF.out.2.2.2 (Nat.le_refl _)).mono hW1s) (by rw [knL_len]; exact rd_of_own HF.out.2.2.1) (knL_len _ _) (by omega) (by omega)))).mono ?_
        rintro e w2 ⟨rfl, hb2⟩
        rw [HR2.out]
        have HB2 := hd (HB1.out.trans (hb2.mono HB1.out.size))
        have HI2 := hd (HI.out.below hWs HB2.out)
        have hW2s : w.heap.size ≤ w2.heap.size := Nat.le_trans hWs HB2.out.size
        clear hb2 r0 r1 r2 r3 cm cw HF HW1 HB1
        obtain ⟨⟨⟨⟨⟨v, hv, hrow, -⟩, ⟨kv, hm, hkn, hke⟩⟩, hrl, hwdb⟩, hfv⟩, hB⟩ := HI2.out
        subst hke
        have hc := hv.cell
        have hsl := selM_len (wat bt (knL gs bs.length) bs wd) pre
        have H63 := hd (show (selM (wat bt (knL gs bs.length) bs wd) pre).length + 1 ≤ maxLen by unfold maxLen; omega)
        have HBY := hd (show ((selM (wat bt (knL gs bs.length) bs wd) pre).length + 1) * 8 ≤ 140737488355328 by omega)
        have hX2 : w.heap.size ≤ w5.heap.size + 1 := by omega
        have HG2 := hd (And.intro hm (And.intro hkn (And.intro hrl (And.intro hwdb (And.intro hfv hB)))))
        have HSY := hd (selM_yes pre (x := ⟨(i, b), hi2⟩) HP.out)
        clear hm hkn hrl hwdb hfv HI2 hB hsl
        gi_wp2_with (gi_at_builtin; refine wpListIn_append_own _ rfl _ _ 55 rfl (w5.heap.size + 2) 3 i0 (.int .i64 0) 1 8 Tryz.underlying55 hi hz0 hz1 hz2 rfl (by decide) _ _ _ rfl (hrow.alloc _) ⟨w2.heap.size, 0, none⟩ 1 1 [.int .i64 (i : Int)] rfl rfl (cell_one_new _ _ _) (by simp [Value.oneCell']) H63.out HBY.out (by have := hv.lt; simp; omega) ?_; intro v' w3 hown' hgrow _; have HKA := hd (And.intro (kp_app (u := v') (owns_mono hrow (show w.heap.size ≤ w5.heap.size + 2 by omega)) hW2s hX2 hgrow) (And.intro (blk_app (X := w5.heap.size + 1) (u := v') HG2.out.2.2.1 (by decide) hrow (by omega) hgrow) (And.intro (box_app (X := w5.heap.size + 1) (u := v') HG2.out.1 hrow (by omega) (by omega) hgrow) (And.intro (box_app (X := w5.heap.size + 1) (u := v') HG2.out.2.2.2.1 hrow (by omega) (by omega) hgrow) (And.intro (box_app (X := w5.heap.size + 1) (u := v') HG2.out.2.2.2.2.1 hrow (by omega) (by omega) hgrow) (own_app (X := w5.heap.size + 1) (u := v') HG2.out.2.1 (fun gg hgg => by have := (HKL.out gg hgg).2; constructor <;> omega) hrow hgrow)))))); obtain ⟨g', cap', hv'⟩ := ownsRow_succ hown'; subst hv'; obtain ⟨hv1, hv2, hr2, hk2, hb2⟩ := appd hv (by decide) hrow (show w.heap.size ≤ w5.heap.size + 2 by omega) hW2s hX2 hown' hgrow; have hc1 := hv1.cell; have hf1 := hv1.frozen; have HR := hd (And.intro hv2 (And.intro hr2 (And.intro hk2 hb2))); clear hown' hgrow hv2 hr2 hk2 hb2)
        refine ⟨(kf_below HB2.out).trans (HR.out.2.2.1.from _), (kp_below hWs HB2.out).trans HKA.out.1, ?_⟩
        show WI _ _ _ _ _ _ _ _ _ _ _ _ (selM (wat bt (knL gs bs.length) bs wd) (pre ++ [⟨(i, b), hi2⟩])) _
        rw [HSY.out]
        exact ⟨⟨⟨⟨⟨_, HR.out.1, by simpa using HR.out.2.1, trivial⟩, _, HKA.out.2.2.1, HKA.out.2.2.2.2.2, rfl⟩, HKA.out.2.1, HKA.out.2.2.2.1⟩, HKA.out.2.2.2.2.1⟩, HG2.out.2.2.2.2.2.trans HR.out.2.2.2⟩
  case done =>
    rintro D ys W hD rfl ⟨⟨⟨⟨⟨v, hv, hrow, -⟩, -⟩, -⟩, -⟩, hB⟩ hK
    have hc := hv.cell
    have HRW := hd hrow
    have HBB := hd hB
    clear hrow hB
    gi_wp2
    refine ⟨by simp, .inl ⟨_, _, rfl, run_takeDeferred hK, ?_⟩⟩
    exact ⟨_, results_tmp2 rfl _ _ _, v, rfl, owns_mono (ownsRow_putObj HRW.out _ hK rfl) (by omega), HBB.out.trans (belowK_b (w := w) (Nat.le_refl _) W D _ _ (by omega) hK rfl rfl)⟩
  case stop =>
    rintro D c pre W _ _ h _
    exact h.elim

theorem waters_any (g : Nat) (bt : Nat → Nat → Bool) (hbt : Beats g bt) (nm : ByteArray) (st : Int) (lv gv : Value) (bs : List Nat) (gs : List (Int × Int)) (wd : Nat) (w : World) (hl : Rd w w.heap.size lv bs.length (flc bs)) (hg : Rd w w.heap.size gv gs.length (spc gs)) (V : Valid nm st bs gs) (hw1 : 1 ≤ wd) (hw2 : wd ≤ 4096) :
    Calls Tryz.prog 91 #[.agg #[.string nm, .int .i64 st, lv, gv], .int .i64 (wd : Int), .func (.func g) #[] #[]] w (fun e w' => ∃ v, e = .returned (.tuple #[v, .int .i64 0]) ∧ w'.ownsRow w.heap.size 3 1 v (selM (wat bt (knL gs bs.length) bs wd) (itm gs (fLvM bs) bs.length)).length ((selM (wat bt (knL gs bs.length) bs wd) (itm gs (fLvM bs) bs.length)).map (Value.int .i64)) ∧ Below w.heap.size w w') :=
  callsIn_wide.1 (waters_in g bt hbt nm st lv gv bs gs wd w hl hg V hw1 hw2)

/-- High or low waters, as they are handed back. -/
def Waters (bt : Nat → Nat → Bool) (bs : List Nat) (gs : List (Int × Int)) (wd : Nat) (w : World) (e : Ending) (w' : World) : Prop :=
  ∃ v, e = .returned (.tuple #[v, .int .i64 0]) ∧ w'.ownsRow w.heap.size 3 1 v (selM (wat bt (knL gs bs.length) bs wd) (itm gs (fLvM bs) bs.length)).length ((selM (wat bt (knL gs bs.length) bs wd) (itm gs (fLvM bs) bs.length)).map (Value.int .i64)) ∧ Below w.heap.size w w'

set_option maxRecDepth 1000000 in
theorem highs_any (nm : ByteArray) (st : Int) (lv gv : Value) (bs : List Nat) (gs : List (Int × Int)) (wd : Nat) (w : World) (hl : Rd w w.heap.size lv bs.length (flc bs)) (hg : Rd w w.heap.size gv gs.length (spc gs)) (V : Valid nm st bs gs) (hw1 : 1 ≤ wd) (hw2 : wd ≤ 4096) :
    Calls Tryz.prog 36 #[.agg #[.string nm, .int .i64 st, lv, gv], .int .i64 (wd : Int)] w (Waters fgt bs gs wd w) := by
  have H := hd (fun W (hB : Below w.heap.size w W) => waters_any 92 fgt beats_hi nm st lv gv bs gs wd W ((hl.below hB (Nat.le_refl _)).mono hB.size) ((hg.below hB (Nat.le_refl _)).mono hB.size) V hw1 hw2)
  have hB := (Below.refl w.heap.size w).alloc (Nat.le_refl _) (Obj.cells #[.string nm, .int .i64 st, lv, gv] 31)
  have HB := hd hB
  clear hl hg V hB
  go_enter Tryz.func36, Tryz.ntmps36
  go_wp2_with fail
  refine (H.out _ HB.out).mono ?_
  rintro e w1 ⟨v, rfl, hv, hw⟩
  have HV := hd (And.intro (owns_mono hv HB.out.size) (HB.out.trans (hw.mono HB.out.size)))
  clear hv hw
  go_wp2
  go_returns
  exact ⟨v, rfl, HV.out⟩
set_option maxRecDepth 1000000 in
theorem lows_any (nm : ByteArray) (st : Int) (lv gv : Value) (bs : List Nat) (gs : List (Int × Int)) (wd : Nat) (w : World) (hl : Rd w w.heap.size lv bs.length (flc bs)) (hg : Rd w w.heap.size gv gs.length (spc gs)) (V : Valid nm st bs gs) (hw1 : 1 ≤ wd) (hw2 : wd ≤ 4096) :
    Calls Tryz.prog 37 #[.agg #[.string nm, .int .i64 st, lv, gv], .int .i64 (wd : Int)] w (Waters flt bs gs wd w) := by
  have H := hd (fun W (hB : Below w.heap.size w W) => waters_any 93 flt beats_lo nm st lv gv bs gs wd W ((hl.below hB (Nat.le_refl _)).mono hB.size) ((hg.below hB (Nat.le_refl _)).mono hB.size) V hw1 hw2)
  have hB := (Below.refl w.heap.size w).alloc (Nat.le_refl _) (Obj.cells #[.string nm, .int .i64 st, lv, gv] 31)
  have HB := hd hB
  clear hl hg V hB
  go_enter Tryz.func37, Tryz.ntmps37
  go_wp2_with fail
  refine (H.out _ HB.out).mono ?_
  rintro e w1 ⟨v, rfl, hv, hw⟩
  have HV := hd (And.intro (owns_mono hv HB.out.size) (HB.out.trans (hw.mono HB.out.size)))
  clear hv hw
  go_wp2
  go_returns
  exact ⟨v, rfl, HV.out⟩

end Go.Proofs.YtnncmaegmlaabaaGreatDoor

namespace Go.Proofs.YtnncmaegmlaabaaGreatDoor
open Go.RowKit Go.Shelf
attribute [local go_sem] Oper.semAt_some

def isNum (b : Nat) : Bool := match FloatKind.f32.decode b with | .nan _ _ => false | _ => true
theorem order_num {a b : Nat} (ha : isNum a = true) (hb : isNum b = true) : ∃ o, FloatKind.f32.format.order a b = some o := by
  unfold isNum at ha hb
  show ∃ o, (FloatKind.f32.decode a).order (FloatKind.f32.decode b) = some o
  cases h1 : FloatKind.f32.decode a <;> rw [h1] at ha <;> cases h2 : FloatKind.f32.decode b <;> rw [h2] at hb <;> simp_all [Ieee.Datum.order]
/-- The lesser and the greater one of two floats that are numbers. -/
def fmn (x y : Nat) : Nat := match FloatKind.f32.format.order x y with
  | some .lt => x
  | some .gt => y
  | some .eq => if (FloatKind.f32.decode x).neg then x else y
  | none => x
def fmx (x y : Nat) : Nat := match FloatKind.f32.format.order x y with
  | some .lt => y
  | some .gt => x
  | some .eq => if (FloatKind.f32.decode x).neg then y else x
  | none => x
theorem run_fmn {P : Program} (w : World) (ts : Array TypeId) (t : TypeId) (x y : Nat) (ha : isNum x = true) (hb : isNum y = true) : (Builtin.min_ ts t #[.float .f32 x, .float .f32 y]).run P w = .ok (.float .f32 (fmn x y)) w := by
  obtain ⟨o, ho⟩ := order_num ha hb
  unfold fmn
  cases o <;> simp [Builtin.min_, Builtin.min2, ho]
theorem run_fmx {P : Program} (w : World) (ts : Array TypeId) (t : TypeId) (x y : Nat) (ha : isNum x = true) (hb : isNum y = true) : (Builtin.max_ ts t #[.float .f32 x, .float .f32 y]).run P w = .ok (.float .f32 (fmx x y)) w := by
  obtain ⟨o, ho⟩ := order_num ha hb
  unfold fmx
  cases o <;> simp [Builtin.max_, Builtin.max2, ho]
theorem fmn_num {x y : Nat} (ha : isNum x = true) (hb : isNum y = true) : isNum (fmn x y) = true := by
  unfold fmn; repeat' split
  all_goals assumption
theorem fmx_num {x y : Nat} (ha : isNum x = true) (hb : isNum y = true) : isNum (fmx x y) = true := by
  unfold fmx; repeat' split
  all_goals assumption
theorem levOK_num {b : Nat} (h : levOK b = true) : isNum b = true := by
  unfold levOK at h
  simp only [Bool.and_eq_true] at h
  have h := h.1
  unfold levA floatToFloatBits at h
  unfold isNum
  cases hd : FloatKind.f32.decode b <;> rw [hd] at h <;> simp_all

/-- The count, the sum, the least and the most. -/
structure SS where
  cnt : Int
  sum : Int
  lo : Nat
  hi : Nat
def sstp (s : SS) (b : Nat) : SS := ⟨s.cnt + 1, s.sum + s16 b, fmn s.lo b, fmx s.hi b⟩
def sumF {n : Nat} (l : List (LvM n)) : SS := l.foldl (fun s x => sstp s x.1.2) ⟨0, 0, 1115684864, 3263168512⟩
theorem sumF_snoc {n : Nat} (l : List (LvM n)) (x : LvM n) : sumF (l ++ [x]) = sstp (sumF l) x.1.2 := by simp [sumF, List.foldl_append]
/-- What a sum of so many levels keeps. -/
def sOK (k : Nat) (s : SS) : Prop := s.cnt = (k : Int) ∧ -(1024 * (k : Int)) ≤ s.sum ∧ s.sum ≤ 1024 * (k : Int) ∧ isNum s.lo = true ∧ isNum s.hi = true
theorem sumF_okR {n : Nat} : ∀ (l : List (LvM n)), sOK l.reverse.length (sumF l.reverse)
  | [] => ⟨rfl, by simp [sumF], by simp [sumF], show isNum 1115684864 = true by decide +kernel, show isNum 3263168512 = true by decide +kernel⟩
  | x :: l => by
    obtain ⟨h1, h2, h3, h4, h5⟩ := sumF_okR l
    obtain ⟨-, g1, g2⟩ := sixt_of x.2.2
    rw [List.reverse_cons, sumF_snoc]
    refine ⟨?_, ?_, ?_, fmn_num h4 (levOK_num x.2.2), fmx_num h5 (levOK_num x.2.2)⟩
    all_goals (simp only [sstp, List.length_append, List.length_cons, List.length_nil]; omega)
theorem sumF_ok {n : Nat} (l : List (LvM n)) : sOK l.length (sumF l) := by
  have h := sumF_okR l.reverse
  simpa using h
/-- The cells of the statistics. -/
def stc (s : SS) : Array Value := #[.int .i64 s.cnt, .int .i64 s.sum, .float .f32 s.lo, .float .f32 s.hi]
theorem blkF_own {β : Type} {g : Nat} {t : TypeId} (f : β → Array Value) : Own (fun (x : β) W => W.heap[g]? = some (.cells (f x) t (0, 0))) := by
  rintro s X Y row h hg hrow
  exact (hg.block g (blk_lt h) (fun e => by obtain ⟨o, ho, hc⟩ := hrow g e.symm; rw [h] at ho; cases ho; cases hc)).trans h

end Go.Proofs.YtnncmaegmlaabaaGreatDoor

namespace Go.Proofs.YtnncmaegmlaabaaGreatDoor
open Go.RowKit Go.Shelf
attribute [local go_sem] Oper.semAt_some
attribute [local go_sem, local simp] wide_fn

/-- What Summary hands back: the statistics, or the error 12 where nothing is recorded. -/
def sumR (s : SS) : Value := if s.cnt = 0 then .tuple #[.agg #[.int .i64 0, .int .i64 0, .float .f32 0, .float .f32 0], .int .i64 12] else .tuple #[.agg (stc s), .int .i64 0]

/-- Four cells stored into a block. -/
def set4 (W : World) (R : Nat) (a b c d : Value) : World := (((W.setCell ⟨R, 0, none⟩ a).setCell ⟨R, 1, none⟩ b).setCell ⟨R, 2, none⟩ c).setCell ⟨R, 3, none⟩ d
theorem set4_blk {W : World} {R : Nat} {t : TypeId} {x0 x1 x2 x3 : Value} (h : W.heap[R]? = some (.cells #[x0, x1, x2, x3] t (0, 0))) (a b c d : Value) : (set4 W R a b c d).heap[R]? = some (.cells #[a, b, c, d] t (0, 0)) := by
  have := blk_set (blk_set (blk_set (blk_set h 0 a) 1 b) 2 c) 3 d
  simpa [set4] using this
theorem set4_other (W : World) {R D : Nat} (h : D ≠ R) (a b c d : Value) : (set4 W R a b c d).heap[D]? = W.heap[D]? := by
  simp only [set4, Below.heap_setCell _ ⟨R, _, none⟩ _ D h]
theorem set4_below {n : Nat} {w W : World} {R : Nat} (h : Below n w W) (hn : n ≤ R) (a b c d : Value) : Below n w (set4 W R a b c d) :=
  (((h.setCell (p := ⟨R, 0, none⟩) hn a).setCell (p := ⟨R, 1, none⟩) hn b).setCell (p := ⟨R, 2, none⟩) hn c).setCell (p := ⟨R, 3, none⟩) hn d
theorem put_other (W : World) {R D : Nat} (h : R ≠ D) (o : Obj) : (W.putObj D o).heap[R]? = W.heap[R]? := by
  simp [World.putObj, Ne.symm h]

/-- What the stores into one block leave as it is. -/
structure SStep (n O B : Nat) (W V : World) : Prop where
  kf : KeepsFrom B W V
  kp : KpR n O W V
  res : V.heap[n + 1]? = W.heap[n + 1]?
theorem SStep.trans {n O B : Nat} {W V U : World} (h : SStep n O B W V) (k : SStep n O B V U) : SStep n O B W U := ⟨h.kf.trans k.kf, h.kp.trans k.kp, k.res.trans h.res⟩
theorem SStep.set {n O B : Nat} (W : World) (h1 : n + 1 ≠ O) (h2 : n ≤ O) (h3 : n ≤ W.heap.size) (i : Nat) (u : Value) : SStep n O B W (W.setCell ⟨O, i, none⟩ u) :=
  ⟨(KeepsOthers.setCell W _ _).from _, KpR.grown (gb_set W O i _) h3 (fun k hk => by cases hk; exact ⟨h2, .inl rfl⟩), Below.heap_setCell W ⟨O, i, none⟩ u _ h1⟩
theorem SStep.below {n O B : Nat} {W V : World} (h3 : n + 1 < W.heap.size) (h : Below W.heap.size W V) : SStep n O B W V := ⟨kf_below h, kp_below (by omega) h, h.block _ h3⟩

set_option maxRecDepth 1000000 in
set_option maxHeartbeats 8000000 in
theorem summary_in (nm : ByteArray) (st : Int) (lv gv : Value) (bs : List Nat) (gs : List (Int × Int)) (w : World) (hl : Rd w w.heap.size lv bs.length (flc bs)) (hg : Rd w w.heap.size gv gs.length (spc gs)) (V : Valid nm st bs gs) :
    CallsIn Fence.wide 5 Tryz.prog 27 #[.agg #[.string nm, .int .i64 st, lv, gv]] w (fun e w' => e = .returned (sumR (sumF (itm gs (fLvM bs) bs.length))) ∧ Below w.heap.size w w') := by
  have HL := hd hl
  have HG := hd hg
  have HV := hd V
  have hl2 := hl
  have hg2 := hg
  obtain ⟨A1, c1, rfl, hq1, hq2, -⟩ := hl2
  obtain ⟨A2, c2, rfl, -, -, -⟩ := hg2
  have hbn : bs.length ≤ 4096 := V.most
  unfold maxLen at hq2
  have hgs : gs.length ≤ 100000 := Nat.le_trans (chkSpans_ok gs V.spans).1 (by omega)
  have HAS := hd (asc_of gs V.spans)
  clear hl hg V
  refine callsIn_of_wp_marks Tryz.func27 rfl trivial ?_ rfl
  simp only [Tryz.ntmps27, List.size_toArray, List.length_cons, List.length_nil, Nat.reduceAdd, Nat.reduceSub, Array.replicate_succ, Array.replicate_zero, List.push_toArray, List.append_toArray, List.nil_append, List.cons_append]
  gi_wp2_with fail
  obtain ⟨W0, hW0⟩ : ∃ W0, W0 = (w.alloc (.cells #[.string nm, .int .i64 st, .slice A1 bs.length c1, .slice A2 gs.length c2] 31)).alloc (.cells #[.int .i64 0, .int .i64 0, .float .f32 0, .float .f32 0] 67) := ⟨_, rfl⟩
  have hsz : W0.heap.size = w.heap.size + 2 := by rw [hW0]; simp
  have hb0 : Below w.heap.size w W0 := by rw [hW0]; exact ((Below.refl _ w).alloc (Nat.le_refl _) _).alloc (by simp) _
  have HRA := hd (show W0.heap[w.heap.size]? = some (.cells #[.string nm, .int .i64 st, .slice A1 bs.length c1, .slice A2 gs.length c2] 31 (0, 0)) by
    rw [hW0, Below.heap_alloc _ _ _ (by simp)]; exact blk_new _ _ _)
  have HRB := hd (show W0.heap[w.heap.size + 1]? = some (.cells #[.int .i64 0, .int .i64 0, .float .f32 0, .float .f32 0] 67 (0, 0)) by
    have h1 := blk_new (w.alloc (.cells #[.string nm, .int .i64 st, .slice A1 bs.length c1, .slice A2 gs.length c2] 31)) #[.int .i64 0, .int .i64 0, .float .f32 0, .float .f32 0] 67
    simp only [World.size_alloc] at h1
    rw [hW0]; exact h1)
  rw [← hW0]
  clear hW0
  have HRD := hd (fun (W : World) (hB : Below w.heap.size w W) => And.intro ((HL.out.below hB (Nat.le_refl _)).mono hB.size) ((HG.out.below hB (Nat.le_refl _)).mono hB.size))
  refine (callsIn_wide.2 (chkRec_ok nm st _ _ bs gs _ (HRD.out _ hb0).1 (HRD.out _ hb0).2 HV.out)).mono ?_
  rintro e W2 ⟨rfl, hb2⟩
  have hs2 := hb2.size
  have hRA2 := (hb2.block _ (show w.heap.size < W0.heap.size by omega)).trans HRA.out
  have z0 := blk_cell hRA2 0
  have z1 := blk_cell hRA2 1
  have z2 := blk_cell hRA2 2
  have z3 := blk_cell hRA2 3
  simp at z0 z1 z2 z3
  have x0 := fun o => cell_alloc_old (o := o) z0
  have x1 := fun o => cell_alloc_old (o := o) z1
  have x2 := fun o => cell_alloc_old (o := o) z2
  have x3 := fun o => cell_alloc_old (o := o) z3
  have HB2 := hd (And.intro hb2 hRA2)
  clear hb2 hRA2 z0 z1 z2 z3
  gi_wp2_with (first | (gi_at_call 79; refine (callsIn_wide.2 (recorded_any _ _ _ _ _)).mono ?_; rintro e w' ⟨rfl, rfl⟩))
  obtain ⟨O, hO⟩ : ∃ O, O = W2.heap.size := ⟨_, rfl⟩
  obtain ⟨w3, hw3⟩ : ∃ w3, w3 = W2.alloc (.cells (stc (sumF ([] : List (LvM bs.length)))) 67) := ⟨_, rfl⟩
  obtain ⟨W3, hW3⟩ : ∃ W3, W3 = w3.alloc (.cells #[.string nm, .int .i64 st, .slice A1 bs.length c1, .slice A2 gs.length c2] 31) := ⟨_, rfl⟩
  have hs3 : w3.heap.size = O + 1 := by rw [hw3, hO]; simp
  have hsW3 : W3.heap.size = O + 2 := by rw [hW3]; simp; omega
  have hB3 : Below W0.heap.size W0 W3 := by rw [hW3, hw3]; exact (HB2.out.1.alloc hs2 _).alloc (by simp; omega) _
  have hOb : W3.heap[O]? = some (.cells (stc (sumF ([] : List (LvM bs.length)))) 67 (0, 0)) := by
    have h1 := blk_new W2 (stc (sumF ([] : List (LvM bs.length)))) 67
    rw [hW3, Below.heap_alloc _ _ _ (by omega), hw3, hO]; exact h1
  have hRc : W3.heap[O + 1]? = some (.cells #[.string nm, .int .i64 st, .slice A1 bs.length c1, .slice A2 gs.length c2] 31 (0, 0)) := by
    have h1 := blk_new w3 #[.string nm, .int .i64 st, .slice A1 bs.length c1, .slice A2 gs.length c2] 31
    rw [hs3] at h1
    rw [hW3]; exact h1
  have hRb : W3.heap[w.heap.size + 1]? = some (.cells #[.int .i64 0, .int .i64 0, .float .f32 0, .float .f32 0] 67 (0, 0)) := (hB3.block _ (by omega)).trans HRB.out
  have hbw3 : Below w.heap.size w W3 := hb0.trans (hB3.mono hb0.size)
  have hO2 : w.heap.size + 2 ≤ O := by omega
  change Code.wpIn _ _ _ _ _ _ (World.alloc (World.alloc W2 (.cells (stc (sumF ([] : List (LvM bs.length)))) 67)) _)
  rw [← hw3, ← hW3, ← hO]
  clear hw3 hW3 hB3 HB2 x0 x1 x2 x3 hs3 HRA HRB hO hs2
  refine wpIn_rangeFunc_ownG (α := LvM bs.length) rfl (by omega) (gf := 118) (lb := #[.pointer (some ⟨O + 1, 0, none⟩)]) rfl trivial (enters_of Tryz.func118 (by kernel_rfl) rfl)
    (rec_stops (fun x : LvM bs.length => x.1) (fLvM bs) 4 (by omega) (O + 1) w.heap.size O nm st _ _ bs gs (by omega) hgs HAS.out (fLvM_at bs HV.out.lev) W3 (by omega) (by omega) (by omega) hRc (HL.out.below hbw3 (Nat.le_refl _)) (HG.out.below hbw3 (Nat.le_refl _)))
    KpR.trans (KpR.putObj (by omega)) (Below.refl _ _) (fun _ => rfl)
    (fun pre W => (W.heap[O]? = some (.cells (stc (sumF pre)) 67 (0, 0)) ∧ W.heap[w.heap.size + 1]? = some (.cells #[.int .i64 0, .int .i64 0, .float .f32 0, .float .f32 0] 67 (0, 0))) ∧ Below w.heap.size w W)
    (fun _ _ _ => False)
    (OwnFrom.and (OwnFrom.and (Own.from (blkF_own (fun pre => stc (sumF pre))) _) (Own.from blk_own _)) (ownFrom_below (Nat.le_refl _) (by omega)))
    (fun _ _ _ _ _ hs _ _ => hs)
    ⟨⟨hOb, hRb⟩, hbw3⟩
    (fun x => { tmps := #[.agg #[.string nm, .int .i64 st, .slice A1 bs.length c1, .slice A2 gs.length c2], .pointer (some ⟨w.heap.size, 0, none⟩), .pointer (some ⟨w.heap.size + 1, 0, none⟩), .int .i64 0, .int .i64 0, .pointer (some ⟨O, 0, none⟩), undef, .float .f32 x.1.2, .agg #[.string nm, .int .i64 st, .slice A1 bs.length c1, .slice A2 gs.length c2], .int .i64 0, .int .i64 0, .bool false, undef, undef, .agg #[.int .i64 0, .int .i64 0, .float .f32 1115684864, .float .f32 3263168512], .agg #[.string nm, .int .i64 st, .slice A1 bs.length c1, .slice A2 gs.length c2], .func (.func 118) #[] #[.pointer (some ⟨O + 1, 0, none⟩)], .int .i64 (x.1.1 : Int), .float .f32 x.1.2, undef, undef, undef, undef, undef, undef, undef, undef, undef, undef, undef, undef, undef, undef, undef, undef, undef, undef, undef, undef, undef, undef, undef, undef, undef], defers := [] }) ?assign ?body ?done ?stop
  case assign =>
    intro l x W K hK
    gi_wp2
    exact hK
  case body =>
    rintro l pre ⟨⟨i, b⟩, hi2⟩ W ⟨⟨hob, hrb⟩, hB⟩ hlt
    have hok := sumF_ok pre
    have hsn := sumF_snoc pre ⟨(i, b), hi2⟩
    have hpl : pre.length ≤ 4096 := by omega
    obtain ⟨S, hS⟩ : ∃ S, S = sumF pre := ⟨_, rfl⟩
    rw [← hS] at hob hok hsn
    clear hS
    obtain ⟨c, s, lo, hi⟩ := S
    obtain ⟨o1, o2, o3, o4, o5⟩ := hok
    simp only at o1 o2 o3
    have hnb := levOK_num hi2.2
    have HSN := hd hsn
    have hmn := fun W ts t => run_fmn (P := Tryz.prog) W ts t lo b o4 hnb
    have hmx := fun W ts t => run_fmx (P := Tryz.prog) W ts t hi b o5 hnb
    obtain ⟨hsx, hs1, hs2'⟩ := sixt_of hi2.2
    have HS := hd hsx
    simp only [sstp] at hsn
    have c0 := blk_cell hob 0
    have c1' := blk_cell hob 1
    have c2' := blk_cell hob 2
    have c3' := blk_cell hob 3
    simp [stc] at c0 c1' c2' c3'
    have f0 := blk_frozen hob 0
    have HOB := hd (And.intro hob (And.intro hrb hB))
    have hws := hB.size
    clear hob hrb hB hsx hnb o4 o5 hsn
    gi_wp2_with fail
    obtain ⟨hob, hrb, hB⟩ := HOB.out
    have hOW := blk_lt hob
    obtain ⟨V1, hV1⟩ : ∃ V1, V1 = W.setCell ⟨O, 0, none⟩ (.int .i64 (pre.length + 1)) := ⟨_, rfl⟩
    have b1 : V1.heap[O]? = some (.cells #[.int .i64 (pre.length + 1), .int .i64 s, .float .f32 lo, .float .f32 hi] 67 (0, 0)) := by
      rw [hV1]; simpa [stc] using blk_set hob 0 (.int .i64 (pre.length + 1))
    have q1 : SStep w.heap.size O W3.heap.size W V1 := by rw [hV1]; exact SStep.set W (by omega) (by omega) hws 0 _
    have z1 : V1.heap.size = W.heap.size := by rw [hV1]; simp
    rw [← hV1]
    clear hV1 c0 c1' c2' c3' f0
    have F1 : ∀ p : Bw V1, p.out.cell? ⟨O, 1, none⟩ = some (.int .i64 s) := fun p => p.cell (by omega) (by simpa using blk_cell b1 1)
    refine wpIn_region_bw_tail_round (F := Fence.wide) 6 rfl (by kernel_rfl) (by kernel_rfl) (by kernel_rfl) ?_
    simp only [List.take_succ_cons, List.take_zero, List.drop_succ_cons, List.drop_zero]
    repeat (first | gi_big_quiet_step (first | (gi_at_call 45; exact Bw.pureIn _ (callsIn_wide.2 (sixt_any _ _ _ HS.out)))))
    refine wpQuietIn_nil ?_
    rintro ⟨V2, hB2⟩
    change wpListIn _ _ _ _ _ _ _ V2
    have b2 := (hB2.block _ (blk_lt b1)).trans b1
    have q2 : SStep w.heap.size O W3.heap.size W V2 := q1.trans (SStep.below (by omega) hB2)
    have z2 : W.heap.size ≤ V2.heap.size := by have := hB2.size; omega
    have c0 := blk_cell b2 0
    have c1' := blk_cell b2 1
    have c2' := blk_cell b2 2
    have c3' := blk_cell b2 3
    simp at c0 c1' c2' c3'
    have f1 := blk_frozen b2 1
    have f2 := blk_frozen b2 2
    have f3 := blk_frozen b2 3
    have HQ := hd (And.intro b2 q2)
    clear F1 hB2 b1 b2 q1 q2 hob hrb hB
    gi_wp2
    obtain ⟨b2, q2⟩ := HQ.out
    have q := ((q2.trans (SStep.set V2 (by omega) (by omega) (by omega) 1 (.int .i64 (s + s16 b)))).trans (SStep.set _ (by omega) (by omega) (by simp; omega) 2 (.float .f32 (fmn lo b)))).trans (SStep.set _ (by omega) (by omega) (by simp; omega) 3 (.float .f32 (fmx hi b)))
    have b5 := blk_set (blk_set (blk_set b2 1 (.int .i64 (s + s16 b))) 2 (.float .f32 (fmn lo b))) 3 (.float .f32 (fmx hi b))
    refine ⟨q.kf, q.kp, ⟨?_, q.res.trans HOB.out.2.1⟩, HOB.out.2.2.trans q.kp.below⟩
    have e := HSN.out
    simp only [sstp] at e
    rw [e, o1]
    simpa [stc] using b5
  case done =>
    rintro D ys W hD rfl ⟨⟨hob, hrb⟩, hB⟩ hK
    obtain ⟨S, hS⟩ : ∃ S, S = sumF (itm gs (fLvM bs) bs.length) := ⟨_, rfl⟩
    rw [← hS] at hob
    have HS := hd hS
    clear hS
    obtain ⟨c, s, lo, hi⟩ := S
    have hDR : w.heap.size + 1 ≠ D := by intro e; rw [← e, hrb] at hK; cases hK
    have c0 := blk_cell hob 0
    have c1' := blk_cell hob 1
    have c2' := blk_cell hob 2
    have c3' := blk_cell hob 3
    simp [stc] at c0 c1' c2' c3'
    have f0 := blk_frozen hrb 0
    have f1 := blk_frozen hrb 1
    have f2 := blk_frozen hrb 2
    have f3 := blk_frozen hrb 3
    have g0 := blk_cell hrb 0
    have g1 := blk_cell hrb 1
    have g2 := blk_cell hrb 2
    have g3 := blk_cell hrb 3
    simp at g0 g1 g2 g3
    have hws := hB.size
    have HH := hd (And.intro hrb (And.intro hB hK))
    clear hob hrb hB hK
    by_cases hc : c = 0
    · subst hc
      gi_wp2_with fail
      obtain ⟨hrb, hB, hK⟩ := HH.out
      change bodyPostM _ _ _ _ _ _ _ (set4 W (w.heap.size + 1) (.int .i64 0) (.int .i64 0) (.float .f32 0) (.float .f32 0))
      have hK4 := (set4_other W hDR.symm (.int .i64 0) (.int .i64 0) (.float .f32 0) (.float .f32 0)).trans hK
      have b4 := set4_blk hrb (.int .i64 0) (.int .i64 0) (.float .f32 0) (.float .f32 0)
      have hB4 := set4_below hB (Nat.le_succ w.heap.size) (.int .i64 0) (.int .i64 0) (.float .f32 0) (.float .f32 0)
      generalize set4 W (w.heap.size + 1) (.int .i64 0) (.int .i64 0) (.float .f32 0) (.float .f32 0) = W4 at *
      refine ⟨by simp, .inl ⟨_, _, rfl, run_takeDeferred hK4, ?_⟩⟩
      have b5 := (put_other W4 hDR (.deferred none)).trans b4
      have B5 := hB4.trans (belowK_b (w := w) (Nat.le_refl _) W4 D _ (.deferred none) (by omega) hK4 rfl rfl)
      generalize W4.putObj D (.deferred none) = W5 at *
      have y0 := blk_cell b5 0
      have y1 := blk_cell b5 1
      have y2 := blk_cell b5 2
      have y3 := blk_cell b5 3
      simp at y0 y1 y2 y3
      exact ⟨.tuple #[.agg #[.int .i64 0, .int .i64 0, .float .f32 0, .float .f32 0], .int .i64 12], by simp [results, Tryz.results27, go_sem, y0, y1, y2, y3], by rw [← HS.out]; simp [sumR], B5⟩
    · have hc' : decide (c = 0) = false := by simpa using hc
      gi_wp2_with fail
      obtain ⟨hrb, hB, hK⟩ := HH.out
      change bodyPostM _ _ _ _ _ _ _ (set4 W (w.heap.size + 1) (.int .i64 c) (.int .i64 s) (.float .f32 lo) (.float .f32 hi))
      have hK4 := (set4_other W hDR.symm (.int .i64 c) (.int .i64 s) (.float .f32 lo) (.float .f32 hi)).trans hK
      have b4 := set4_blk hrb (.int .i64 c) (.int .i64 s) (.float .f32 lo) (.float .f32 hi)
      have hB4 := set4_below hB (Nat.le_succ w.heap.size) (.int .i64 c) (.int .i64 s) (.float .f32 lo) (.float .f32 hi)
      generalize set4 W (w.heap.size + 1) (.int .i64 c) (.int .i64 s) (.float .f32 lo) (.float .f32 hi) = W4 at *
      refine ⟨by simp, .inl ⟨_, _, rfl, run_takeDeferred hK4, ?_⟩⟩
      have b5 := (put_other W4 hDR (.deferred none)).trans b4
      have B5 := hB4.trans (belowK_b (w := w) (Nat.le_refl _) W4 D _ (.deferred none) (by omega) hK4 rfl rfl)
      generalize W4.putObj D (.deferred none) = W5 at *
      have y0 := blk_cell b5 0
      have y1 := blk_cell b5 1
      have y2 := blk_cell b5 2
      have y3 := blk_cell b5 3
      simp at y0 y1 y2 y3
      exact ⟨.tuple #[.agg #[.int .i64 c, .int .i64 s, .float .f32 lo, .float .f32 hi], .int .i64 0], by simp [results, Tryz.results27, go_sem, y0, y1, y2, y3], by rw [← HS.out]; simp [sumR, stc, hc], B5⟩
  case stop =>
    rintro D c pre W _ _ h _
    exact h.elim
/-- The same outside the fence. -/
theorem summary_any (nm : ByteArray) (st : Int) (lv gv : Value) (bs : List Nat) (gs : List (Int × Int)) (w : World) (hl : Rd w w.heap.size lv bs.length (flc bs)) (hg : Rd w w.heap.size gv gs.length (spc gs)) (V : Valid nm st bs gs) :
    Calls Tryz.prog 27 #[.agg #[.string nm, .int .i64 st, lv, gv]] w (fun e w' => e = .returned (sumR (sumF (itm gs (fLvM bs) bs.length))) ∧ Below w.heap.size w w') :=
  callsIn_wide.1 (summary_in nm st lv gv bs gs w hl hg V)
end Go.Proofs.YtnncmaegmlaabaaGreatDoor
