/-
  Contracts of gauge.recorded and its iterator. Conditions: the record's slices are read; the ends of its gaps ascend; at most 100000 levels and gaps; a round keeps marks and records.
  Contract of gauge.outside (the rule 'range'). Condition: a record of at most 100000 valid levels, the ends of whose gaps ascend.
  A region that draws, inside a round of an iterator's loop: one walk of the lexical order serves every order (the library's law wants no round).
  Contract of gauge.jumps (the rule 'jump'). Condition: a record of at most 100000 valid levels, the ends of whose gaps ascend.
-/
import Derived.Test.YtkgkpcmokmhakaaGreatDoorProg
import Derived.Test.YtkgkpcmokmhakaaGreatDoorMD
import Derived.RangeFuncNested
import Derived.RangeFuncBound
import Derived.RangeFuncCalls
import Derived.RangeFuncLeaves
import Derived.RangeFuncBox
import Derived.Shelf.Abstract
import Derived.Shelf.RegionOpen
import Derived.OwnWalkIn
import Derived.TacticsInMore
import Derived.LoopNIn
import Derived.LoopIn
import Derived.Maps.AppendAt
import Derived.Sort.BigQuietIn

namespace Go.Proofs.YtkgkpcmokmhakaaGreatDoor
open Go.RowKit Go.Shelf
attribute [local go_sem] Oper.semAt_some

/-- What a round keeps: what lay below n, the blocks of marks (but block X), and those of records. -/
structure KpR (n X : Nat) (W W' : World) : Prop where
  below : Below n W W'
  keep : ∀ k cs t, k ≠ X → (t = 4 ∨ t = 35) → W.heap[k]? = some (.cells cs t (0, 0)) → W'.heap[k]? = some (.cells cs t (0, 0))

theorem KpR.refl (n X : Nat) (W : World) : KpR n X W W := ⟨Below.refl _ _, fun _ _ _ _ _ h => h⟩
theorem KpR.trans {n X : Nat} {A B C : World} (h : KpR n X A B) (k : KpR n X B C) : KpR n X A C := ⟨h.below.trans k.below, fun i cs t hi ht hh => k.keep i cs t hi ht (h.keep i cs t hi ht hh)⟩
theorem KpR.putObj {n X : Nat} {w : World} (hn : n ≤ w.heap.size) (W : World) (l : Nat) (o o' : Obj) (hl : w.heap.size ≤ l) (h : W.heap[l]? = some o) (hc : o.isCells = false) (hw : o.isWalk = false) : KpR n X W (W.putObj l o') :=
  ⟨belowK_b hn W l o o' hl h hc hw, fun k cs t _ _ hk => by
    have hne : k ≠ l := fun e => by subst e; rw [hk] at h; cases h; cases hc
    exact ((grownBy_putObj' W l o').block k (blk_lt hk) (by simpa using hne)).trans hk⟩
/-- A step that turns one block at most, from n on, of another kind. -/
theorem KpR.grown {n X : Nat} {W W' : World} {row : Option Nat} (hg : W.grownBy W' row) (hn : n ≤ W.heap.size) (hr : ∀ k, row = some k → n ≤ k ∧ (k = X ∨ ∃ cs t fr, t ≠ 4 ∧ t ≠ 35 ∧ W.heap[k]? = some (.cells cs t fr))) : KpR n X W W' :=
  ⟨gb_below hg hn (fun k hk => (hr k hk).1), fun k cs t hX ht hk => (hg.block k (blk_lt hk) (fun e => by
    obtain ⟨-, rfl | ⟨cs', t', fr, h1, h2, h3⟩⟩ := hr k e.symm
    · exact hX rfl
    · rw [hk] at h3; cases h3; rcases ht with h | h
      · exact h1 h
      · exact h2 h)).trans hk⟩
theorem KpR.alloc {n X : Nat} (W : World) (hn : n ≤ W.heap.size) (o : Obj) : KpR n X W (W.alloc o) := KpR.grown (World.grownBy_alloc W o none) hn (fun _ h => by cases h)

/-- What the iterator gives in its first k steps: f of the recorded indices. -/
def itm {α : Type} (gs : List (Int × Int)) (f : Nat → α) (k : Nat) : List α := ((List.range k).filter (fun i : Nat => !cov gs (i : Int))).map f
section
variable {α : Type}
theorem itm_yes (gs : List (Int × Int)) (f : Nat → α) (k : Nat) (h : cov gs (k : Int) = false) : itm gs f (k + 1) = itm gs f k ++ [f k] := by
  simp [itm, List.range_succ, h]
theorem itm_no (gs : List (Int × Int)) (f : Nat → α) (k : Nat) (h : cov gs (k : Int) = true) : itm gs f (k + 1) = itm gs f k := by
  simp [itm, List.range_succ, h]
theorem itm_len (gs : List (Int × Int)) (f : Nat → α) (k : Nat) : (itm gs f k).length ≤ k := by
  unfold itm
  rw [List.length_map]
  exact Nat.le_trans (List.length_filter_le _ _) (by simp)
end

theorem own_kp {n X B : Nat} {e : TypeId} {size : Nat} {W W' : World} {v : Value} {m : Nat} {xs : List Value} (h : W.ownsRow B e size v m xs) (hk : KpR n X W W') (hX : X < B) (he : e = 4 ∨ e = 35) : W'.ownsRow B e size v m xs := by
  obtain ⟨h1, h2⟩ := h
  refine ⟨h1, ?_⟩
  rcases h2 with h2 | ⟨g, cap, cur, hv, hg, hh, r⟩
  · exact .inl h2
  · exact .inr ⟨g, cap, cur, hv, hg, hk.keep g cur e (by omega) he hh, r⟩

abbrev encI (x : Nat × Nat) : Array Value := #[.int .i64 (x.1 : Int), .float .f32 x.2]

set_option maxRecDepth 1000000 in
set_option maxHeartbeats 4000000 in
theorem rec1_in {α : Type} (pr : α → Nat × Nat) (f : Nat → α) (n : Nat) (hn : 1 ≤ n) (l Bs n₀ X : Nat) (nm : ByteArray) (st : Int) (lv gv : Value) (bs : List Nat) (gs : List (Int × Int)) (hbs : bs.length ≤ 100000) (hgs : gs.length ≤ 100000) (hasc : Asc gs) (hf : ∀ i, i < bs.length → pr (f i) = (i, bs[i]?.getD 0)) (J Jx : List α → World → Prop) (W : World) (hX : X < W.heap.size) (hn₀ : n₀ ≤ W.heap.size) (hBX : Bs ≠ X)
    (hJ : AbidesFrom W.heap.size J)
    (hY : ∀ pre x W1, J pre W1 → pre.length < bs.length → YieldAt Fence.wide (n - 1) Tryz.prog l (encI (pr x)) W1 fun e W' =>
      (e = .returned (.bool true) ∧ J (pre ++ [x]) W' ∧ KpR n₀ X W1 W') ∨ (e = .returned (.bool false) ∧ Jx (pre ++ [x]) W'))
    (hBs : W.heap[Bs]? = some (.cells #[.string nm, .int .i64 st, lv, gv] 35 (0, 0)))
    (hl : Rd W n₀ lv bs.length (flc bs)) (hg : Rd W n₀ gv gs.length (spc gs)) (h0 : J [] W) :
    CallsIn Fence.wide n Tryz.prog 83 #[.func (.yield l) #[] #[], .pointer (some ⟨Bs, 0, none⟩)] W fun e W' => (∃ v, e = .returned v) ∧
      ((∃ ys, ys = itm gs f bs.length ∧ J ys W') ∨ (∃ pre, (∃ k, k ≤ bs.length ∧ pre = itm gs f k) ∧ Jx pre W')) := by
  have hl2 := hl
  obtain ⟨A, c, rfl, hc1, hc2, hcl⟩ := hl2
  have hg2 := hg
  obtain ⟨A2, c2, rfl, hc3, hc4, -⟩ := hg2
  unfold maxLen at hc2 hc4
  have x0 := blk_cell hBs 0
  have x1 := blk_cell hBs 1
  have x2 := blk_cell hBs 2
  have x3 := blk_cell hBs 3
  simp at x0 x1 x2 x3
  have HKn := hd (known_any nm st _ _ bs.length (flc bs) gs W (hl.mono hn₀) (hg.mono hn₀) hasc hgs hbs)
  have HBs := hd hBs
  have HCL := hd hcl
  have HY := hd hY
  have HF := hd hf
  clear hl hg hasc hBs hcl hY hgs hf
  refine callsIn_of_wp Tryz.func83 rfl trivial ?_ rfl
  simp only [Tryz.ntmps83, List.size_toArray, List.length_cons, List.length_nil, Nat.reduceAdd, Nat.reduceSub, Array.replicate_succ, Array.replicate_zero, List.push_toArray, List.append_toArray, List.nil_append, List.cons_append]
  gi_wp2_with (refine ⟨trivial, ?_⟩; gi_at_call 36; refine (callsIn_wide.2 HKn.out).mono ?_; rintro e W1 ⟨kv, rfl, hok, hb1⟩; rw [knL_len] at hok; obtain ⟨Ak, ck, hkv, hAk⟩ := own_form hok; subst hkv)
  have HOK := hd hok
  have HAK := hd hAk
  have hJ1 : J [] W1 := hJ _ _ _ none h0 (below_gb hb1 none) (fun _ h => by cases h)
  have HB1 := hd hb1
  have HB2 := hd ((hb1.block _ (blk_lt HBs.out)).trans HBs.out)
  clear hok hAk hb1 h0 hJ x0 x1 x2 x3
  gi_wp2
  gi_loopw [8] (fun i wr => ∃ k : Nat, k ≤ bs.length ∧ i = .int .i64 k ∧ J (itm gs f k) wr ∧ KpR n₀ X W1 wr) (fun i _ => bs.length - (intOf i).toNat)
  case atStart => exact ⟨0, Nat.zero_le _, rfl, hJ1, KpR.refl _ _ _⟩
  case round =>
    obtain ⟨k, hk, rfl, hJs, hkp⟩ := hrel
    by_cases hlt : k < bs.length
    · have HKP := hd hkp
      obtain ⟨gk, rfl⟩ := HAK.out (by omega)
      obtain ⟨b, off, rfl, hbb, hcell⟩ := HCL.out (by omega)
      have hx : wr.cell? ⟨b, off + k, none⟩ = some (.float .f32 (bs[k]?.getD 0)) := by
        have h1 : wr.cell? ⟨b, off + k, none⟩ = W1.cell? ⟨b, off + k, none⟩ := hkp.below.cell (p := ⟨b, _, none⟩) hbb
        have h2 : W1.cell? ⟨b, off + k, none⟩ = W.cell? ⟨b, off + k, none⟩ := HB1.out.cell (p := ⟨b, _, none⟩) (by show b < _; omega)
        rw [h1, h2, hcell k (by simpa [flc] using hlt)]
        simp [flc, hlt]
      have hkn := (own_kp HOK.out hkp hX (.inl rfl)).cellAt k (by omega)
      rw [show ((knL gs bs.length).map Value.bool)[k]? = some (.bool (!cov gs (k : Int))) by simp [knL, hlt]] at hkn
      have hbx := blk_cell (hkp.keep Bs _ _ hBX (.inr rfl) HB2.out) 2
      simp at hbx
      have HI := hd (And.intro (itm_yes gs f k) (itm_no gs f k))
      have hfk := HF.out k hlt
      generalize bs[k]?.getD 0 = x at hx hfk
      have HFK := hd hfk
      clear hfk
      clear hcell hkp
      by_cases hc : cov gs (k : Int) = true
      · rw [hc] at hkn
        have HC := hd hc
        clear hc
        gi_wp2
        refine ⟨fun _ h => (by cases h), ?_⟩
        gi_wp2
        go_roundw
        case rel => exact ⟨k + 1, by omega, by go_num, by rw [HI.out.2 HC.out]; exact hJs, HKP.out⟩
        case measure => simp [intOf]; omega
      · have hc' : cov gs (k : Int) = false := by simpa using hc
        rw [hc'] at hkn
        have HC := hd hc'
        obtain ⟨fn, tmps, assign, body, hy, hR⟩ := HY.out _ (f k) wr hJs (Nat.lt_of_le_of_lt (itm_len gs f k) hlt)
        rw [HFK.out] at hy
        dsimp only [encI] at hy
        clear hc hc' hJs
        gi_wp2
        refine hR.mono ?_
        rintro e W3 (⟨rfl, hJ3, hk3⟩ | ⟨rfl, hJx3⟩)
        · have HK3 := hd (HKP.out.trans hk3)
          have HJ3 := hd hJ3
          clear hy hR hk3 hJ3
          gi_wp2
          go_roundw
          case rel => exact ⟨k + 1, by omega, by go_num, by rw [HI.out.1 HC.out]; exact HJ3.out, HK3.out⟩
          case measure => simp [intOf]; omega
        · have HJX := hd hJx3
          clear hy hR hJx3
          gi_wp2
          refine bodyPost_ret (results_none rfl _ _ _) rfl ?_
          exact ⟨⟨_, rfl⟩, .inr ⟨_, ⟨k + 1, by omega, (HI.out.1 HC.out).symm⟩, HJX.out⟩⟩
    · obtain rfl : k = bs.length := by omega
      gi_wp2
      go_end0
      exact ⟨⟨_, rfl⟩, .inl ⟨_, rfl, hJs⟩⟩

theorem recorded_any (nm : ByteArray) (st : Int) (lv gv : Value) (w : World) :
    Calls Tryz.prog 53 #[.agg #[.string nm, .int .i64 st, lv, gv]] w fun e w' => e = .returned (.func (.func 83) #[] #[.pointer (some ⟨w.heap.size, 0, none⟩)]) ∧ w' = w.alloc (.cells #[.string nm, .int .i64 st, lv, gv] 35) := by
  go_enter Tryz.func53, Tryz.ntmps53
  go_wp2
  go_ret
  exact ⟨rfl, rfl⟩

/-- The iterator as the loops take it. -/
theorem rec_stops {α : Type} (pr : α → Nat × Nat) (f : Nat → α) (n : Nat) (hn : 1 ≤ n) (Bs n₀ X : Nat) (nm : ByteArray) (st : Int) (lv gv : Value) (bs : List Nat) (gs : List (Int × Int)) (hbs : bs.length ≤ 100000) (hgs : gs.length ≤ 100000) (hasc : Asc gs) (hf : ∀ i, i < bs.length → pr (f i) = (i, bs[i]?.getD 0)) (w : World) (hX : X < w.heap.size) (hn₀ : n₀ ≤ w.heap.size) (hBX : Bs ≠ X)
    (hBs : w.heap[Bs]? = some (.cells #[.string nm, .int .i64 st, lv, gv] 35 (0, 0))) (hl : Rd w n₀ lv bs.length (flc bs)) (hg : Rd w n₀ gv gs.length (spc gs)) :
    SeqStopsK Fence.wide n Tryz.prog 83 #[.pointer (some ⟨Bs, 0, none⟩)] (fun x => encI (pr x)) (KpR n₀ X) (fun ys => ys = itm gs f bs.length) (fun pre => ∃ k, k ≤ bs.length ∧ pre = itm gs f k) bs.length w := fun l J Jx W hW hJ _ hY h0 =>
  rec1_in pr f n hn l Bs n₀ X nm st lv gv bs gs hbs hgs hasc hf J Jx W (Nat.lt_of_lt_of_le hX hW.size) (Nat.le_trans hn₀ hW.size) hBX hJ hY ((hW.block _ (blk_lt hBs)).trans hBs) (hl.below hW hn₀) (hg.below hW hn₀) h0

end Go.Proofs.YtkgkpcmokmhakaaGreatDoor

namespace Go.Proofs.YtkgkpcmokmhakaaGreatDoor
open Go.RowKit Go.Shelf
attribute [local go_sem] Oper.semAt_some

theorem intInfo : (Tryz.prog.info? 3).map (fun i => (i.zero, i.size, i.bytes)) = some (some (.int .i64 0), 1, 8) := by kernel_rfl

/-- An index with the bits of a valid level. -/
abbrev Lv := { x : Nat × Nat // x.1 < 100000 ∧ levOK x.2 = true }
theorem lv0 : levOK 0 = true := by decide +kernel
def fLv (bs : List Nat) (i : Nat) : Lv := if h : i < 100000 ∧ levOK (bs[i]?.getD 0) = true then ⟨(i, bs[i]?.getD 0), h⟩ else ⟨(0, 0), by omega, lv0⟩
theorem fLv_at (bs : List Nat) (hn : bs.length ≤ 100000) (hok : ∀ j, j < bs.length → levOK (bs.getD j 0) = true) : ∀ i, i < bs.length → (fLv bs i).1 = (i, bs[i]?.getD 0) := fun i hi => by
  have h : i < 100000 ∧ levOK (bs[i]?.getD 0) = true := ⟨by omega, by have := hok i hi; rwa [List.getD_eq_getElem?_getD] at this⟩
  simp [fLv, h]

/-- A value that owns integers from base on. -/
def OwnsIn (base : Nat) (l : List Int) (w : World) (e : Ending) (w' : World) : Prop :=
  ∃ v, e = .returned v ∧ w'.ownsRow base 3 1 v l.length (l.map (Value.int .i64)) ∧ Below base w w'

/-- The indices of the items of which p holds. -/
def sel (p : Lv → Bool) (l : List Lv) : List Int := (l.filter p).map (fun x => (x.1.1 : Int))
theorem sel_yes {p : Lv → Bool} {x : Lv} (pre : List Lv) (h : p x = true) : sel p (pre ++ [x]) = sel p pre ++ [(x.1.1 : Int)] := by simp [sel, h]
theorem sel_no {p : Lv → Bool} {x : Lv} (pre : List Lv) (h : p x = false) : sel p (pre ++ [x]) = sel p pre := by simp [sel, h]
theorem sel_len (p : Lv → Bool) (pre : List Lv) : (sel p pre).length ≤ pre.length := by
  unfold sel; rw [List.length_map]; exact List.length_filter_le _ _

def outP (A B : Int) (x : Lv) : Bool := decide (s16 x.1.2 < A) || decide (B < s16 x.1.2)

/-- A block of known cells abides what turns no cells. -/
theorem blk_own {β : Type} {g : Nat} {cs : Array Value} {t : TypeId} : Own (fun (_ : β) W => W.heap[g]? = some (.cells cs t (0, 0))) := by
  rintro s X Y row h hg hrow
  exact (hg.block g (blk_lt h) (fun e => by obtain ⟨o, ho, hc⟩ := hrow g e.symm; rw [h] at ho; cases ho; cases hc)).trans h

/-- An append onto integers of the call's own, stored back into box X. -/
theorem kp_app {n X : Nat} {W w1 : World} {v u : Value} {k : Nat} {xs : List Value} {tmp : Obj} (hrow : W.ownsRow n 3 1 v k xs) (hn : n ≤ W.heap.size) (hX : n ≤ X) (hg : (W.alloc tmp).grownBy w1 v.ownBlock) : KpR n X W (w1.setCell ⟨X, 0, none⟩ u) := by
  have hs := hg.size
  simp only [World.size_alloc] at hs
  refine (KpR.alloc W hn tmp).trans ((KpR.grown hg (by simp; omega) (fun j hj => ⟨(hrow.lt j hj).1, .inr ?_⟩)).trans (KpR.grown (grownBy_setCell' w1 X u) (by omega) (fun j hj => by cases hj; exact ⟨hX, .inl rfl⟩)))
  rcases hrow.2 with ⟨rfl, _⟩ | ⟨g, cap, cur, rfl, _, hh, _⟩
  · simp [Value.ownBlock] at hj
  · obtain rfl : g = j := by simpa [Value.ownBlock] using hj
    exact ⟨cur, 3, (0, 0), by decide, by decide, (Below.heap_alloc W tmp g (blk_lt hh)).trans hh⟩

theorem blk_not_row {W : World} {g : Nat} {cs : Array Value} {t e : TypeId} (h : W.heap[g]? = some (.cells cs t (0, 0))) (hte : t ≠ e) {base size k : Nat} {v : Value} {xs : List Value} (hr : W.ownsRow base e size v k xs) : some g ≠ v.ownBlock := by
  rcases hr.2 with ⟨rfl, _⟩ | ⟨g', cap, cur, rfl, _, hgb, _⟩
  · simp [Value.ownBlock]
  · intro e'
    obtain rfl : g = g' := by simpa [Value.ownBlock] using e'
    rw [h] at hgb; cases hgb; exact hte rfl
theorem blk_app {n X g : Nat} {W w1 : World} {v u : Value} {k : Nat} {xs : List Value} {tmp : Obj} {cs : Array Value} {t : TypeId} (h : W.heap[g]? = some (.cells cs t (0, 0))) (ht : t ≠ 3) (hrow : W.ownsRow n 3 1 v k xs) (hX : g ≠ X) (hg : (W.alloc tmp).grownBy w1 v.ownBlock) : (w1.setCell ⟨X, 0, none⟩ u).heap[g]? = some (.cells cs t (0, 0)) :=
  (Below.heap_setCell w1 ⟨X, 0, none⟩ u g hX).trans ((hg.block g (by have := blk_lt h; simp; omega) (blk_not_row h ht hrow)).trans ((Below.heap_alloc W tmp g (blk_lt h)).trans h))

set_option maxRecDepth 1000000 in
set_option maxHeartbeats 8000000 in
theorem outside_in (kd nm : ByteArray) (A B st : Int) (lv gv : Value) (bs : List Nat) (gs : List (Int × Int)) (w : World) (hl : Rd w w.heap.size lv bs.length (flc bs)) (hg : Rd w w.heap.size gv gs.length (spc gs)) (hasc : Asc gs) (hgs : gs.length ≤ 100000) (hbs : bs.length ≤ 100000) (hok : ∀ j, j < bs.length → levOK (bs.getD j 0) = true) :
    CallsIn Fence.wide 5 Tryz.prog 93 #[.agg #[.string kd, .int .i64 A, .int .i64 B], .agg #[.string nm, .int .i64 st, lv, gv]] w (OwnsIn w.heap.size (sel (outP A B) (itm gs (fLv bs) bs.length)) w) := by
  obtain ⟨i0, hi, hz0, hz1, hz2⟩ := info_parts intInfo
  have HL := hd hl
  have HG := hd hg
  have HOK := hd (And.intro hasc (And.intro hgs (And.intro hbs (fLv_at bs hbs hok))))
  have hl2 := hl
  have hg2 := hg
  obtain ⟨A1, c1, rfl, -, -, -⟩ := hl2
  obtain ⟨A2, c2, rfl, -, -, -⟩ := hg2
  clear hl hg hasc hgs hok
  refine callsIn_of_wp_marks Tryz.func93 rfl trivial ?_ rfl
  simp only [Tryz.ntmps93, List.size_toArray, List.length_cons, List.length_nil, Nat.reduceAdd, Nat.reduceSub, Array.replicate_succ, Array.replicate_zero, List.push_toArray, List.append_toArray, List.nil_append, List.cons_append]
  gi_wp2_with (refine ⟨trivial, ?_⟩; gi_at_call 53; refine (callsIn_wide.2 (recorded_any _ _ _ _ _)).mono ?_; rintro e w' ⟨rfl, rfl⟩)
  have hR0 := blk_new w #[.string kd, .int .i64 A, .int .i64 B] 34
  obtain ⟨W0, hW0⟩ : ∃ W0, W0 = (((w.alloc (.cells #[.string kd, .int .i64 A, .int .i64 B] 34)).alloc (.cells #[.string nm, .int .i64 st, .slice A1 bs.length c1, .slice A2 gs.length c2] 35)).alloc (.cells #[.slice none 0 0] 41)).alloc (.cells #[.string nm, .int .i64 st, .slice A1 bs.length c1, .slice A2 gs.length c2] 35) := ⟨_, rfl⟩
  have hsz : W0.heap.size = w.heap.size + 4 := by rw [hW0]; simp
  have hB0 : Below w.heap.size w W0 := by rw [hW0]; exact ((((Below.refl _ w).alloc (Nat.le_refl _) _).alloc (by simp) _).alloc (by simp; omega) _).alloc (by simp; omega) _
  have hRl : W0.heap[w.heap.size]? = some (.cells #[.string kd, .int .i64 A, .int .i64 B] 34 (0, 0)) := by
    rw [hW0, Below.heap_alloc _ _ _ (by simp; omega), Below.heap_alloc _ _ _ (by simp; omega), Below.heap_alloc _ _ _ (by simp)]
    exact hR0
  have hBx : Boxed W0 (w.heap.size + 2) 41 (.slice none 0 0) := by
    have h1 := Boxed.new ((w.alloc (.cells #[.string kd, .int .i64 A, .int .i64 B] 34)).alloc (.cells #[.string nm, .int .i64 st, .slice A1 bs.length c1, .slice A2 gs.length c2] 35)) 41 (.slice none 0 0)
    simp only [World.size_alloc] at h1
    rw [hW0]; exact h1.alloc _
  have hRc : W0.heap[w.heap.size + 3]? = some (.cells #[.string nm, .int .i64 st, .slice A1 bs.length c1, .slice A2 gs.length c2] 35 (0, 0)) := by
    have h1 := blk_new (((w.alloc (.cells #[.string kd, .int .i64 A, .int .i64 B] 34)).alloc (.cells #[.string nm, .int .i64 st, .slice A1 bs.length c1, .slice A2 gs.length c2] 35)).alloc (.cells #[.slice none 0 0] 41)) #[.string nm, .int .i64 st, .slice A1 bs.length c1, .slice A2 gs.length c2] 35
    simp only [World.size_alloc] at h1
    rw [hW0]; exact h1
  try simp only [World.size_alloc]
  rw [← hW0]
  clear hW0 hR0
  refine wpIn_rangeFunc_ownG (α := Lv) rfl (by omega) (gf := 83) (lb := #[.pointer (some ⟨w.heap.size + 3, 0, none⟩)]) rfl trivial (enters_of Tryz.func83 (by kernel_rfl) rfl)
    (rec_stops (fun x : Lv => x.1) (fLv bs) 4 (by omega) (w.heap.size + 3) w.heap.size (w.heap.size + 2) nm st _ _ bs gs HOK.out.2.2.1 HOK.out.2.1 HOK.out.1 HOK.out.2.2.2 W0 (by omega) (by omega) (by omega) hRc (HL.out.below hB0 (Nat.le_refl _)) (HG.out.below hB0 (Nat.le_refl _)))
    KpR.trans (KpR.putObj (by omega)) (Below.refl _ _) (fun _ => rfl)
    (fun pre W => ((∃ v, Boxed W (w.heap.size + 2) 41 v ∧ W.ownsRow w.heap.size 3 1 v (sel (outP A B) pre).length ((sel (outP A B) pre).map (Value.int .i64)) ∧ True) ∧ W.heap[w.heap.size]? = some (.cells #[.string kd, .int .i64 A, .int .i64 B] 34 (0, 0))) ∧ Below w.heap.size w W)
    (fun _ _ _ => False)
    (OwnFrom.and (OwnFrom.and (Own.from (holdsRow_own w.heap.size (w.heap.size + 2) 41 3 1 (fun pre => (sel (outP A B) pre).length) (fun pre => (sel (outP A B) pre).map (Value.int .i64)) (fun _ _ => True)) _) (Own.from blk_own _)) (ownFrom_below (Nat.le_refl _) (by omega)))
    (fun _ _ _ _ _ hs _ _ => hs)
    ⟨⟨⟨_, hBx, World.ownsRow_nil _ _ _ _, trivial⟩, hRl⟩, hB0⟩
    (fun x => { tmps := #[.agg #[.string kd, .int .i64 A, .int .i64 B], .agg #[.string nm, .int .i64 st, .slice A1 bs.length c1, .slice A2 gs.length c2], .pointer (some ⟨w.heap.size, 0, none⟩), .pointer (some ⟨w.heap.size + 1, 0, none⟩), .slice none 0 0, .pointer (some ⟨w.heap.size + 2, 0, none⟩), .int .i64 (x.1.1 : Int), .float .f32 x.1.2, undef, .agg #[.string nm, .int .i64 st, .slice A1 bs.length c1, .slice A2 gs.length c2], .func (.func 83) #[] #[.pointer (some ⟨w.heap.size + 3, 0, none⟩)], .int .i64 (x.1.1 : Int), .float .f32 x.1.2, undef, undef, undef, undef, undef, undef, undef, undef, undef, undef, undef, undef, undef, undef, undef, undef, undef], defers := [] }) ?assign ?body ?done ?stop
  case assign =>
    intro l x W K hK
    gi_wp2
    exact hK
  case body =>
    rintro l pre ⟨⟨i, b⟩, hi2⟩ W ⟨⟨⟨v, hv, hrow, -⟩, hrl⟩, hB⟩ hlt
    have hd0 : 1 ≤ 5 - 1 - 1 := by omega
    have hc := hv.cell
    have r1 := blk_cell hrl 1
    have r2 := blk_cell hrl 2
    simp at r1 r2
    have HS := hd (sixt_of hi2.2)
    have hsl := sel_len (outP A B) pre
    have H63 := hd (show (sel (outP A B) pre).length + 1 ≤ maxLen by unfold maxLen; omega)
    have HBY := hd (show ((sel (outP A B) pre).length + 1) * 8 ≤ 140737488355328 by omega)
    have hX2 : w.heap.size ≤ w.heap.size + 2 := by omega
    have HRL := hd hrl
    have hbb := hB.size
    have HN := hd (show outP A B ⟨(i, b), hi2⟩ = (decide (s16 b < A) || decide (B < s16 b)) from rfl)
    clear hsl hrl
    have key : Hid (∀ u W', (Boxed W' (w.heap.size + 2) 41 u ∧ W'.ownsRow w.heap.size 3 1 u ((sel (outP A B) pre).length + 1) ((sel (outP A B) pre).map (Value.int .i64) ++ [.int .i64 (i : Int)])) ∧ W'.heap[w.heap.size]? = some (.cells #[.string kd, .int .i64 A, .int .i64 B] 34 (0, 0)) ∧ Below w.heap.size w W' → outP A B ⟨(i, b), hi2⟩ = true →
        (((∃ v, Boxed W' (w.heap.size + 2) 41 v ∧ W'.ownsRow w.heap.size 3 1 v (sel (outP A B) (pre ++ [⟨(i, b), hi2⟩])).length ((sel (outP A B) (pre ++ [⟨(i, b), hi2⟩])).map (Value.int .i64)) ∧ True) ∧ W'.heap[w.heap.size]? = some (.cells #[.string kd, .int .i64 A, .int .i64 B] 34 (0, 0))) ∧ Below w.heap.size w W')) := fun u W' h hp => ⟨⟨⟨u, h.1.1, by rw [sel_yes pre hp]; simpa using h.1.2, trivial⟩, h.2.1⟩, h.2.2⟩
    by_cases q1 : s16 b < A
    · have HP := hd (show outP A B ⟨(i, b), hi2⟩ = true by rw [HN.out]; simp [q1])
      gi_wp2_with (first | (refine ⟨trivial, ?_⟩; gi_at_call 37; refine (CallsIn.inRound l (callsIn_wide.2 (sixt_any _ _ _ HS.out.1))).mono ?_; rintro e w' ⟨rfl, rfl⟩) | (gi_at_builtin; refine wpListIn_append_own _ rfl _ _ 41 rfl w.heap.size 3 i0 (.int .i64 0) 1 8 Tryz.underlying41 hi hz0 hz1 hz2 rfl (by decide) _ _ _ rfl (hrow.alloc _) ⟨W.heap.size, 0, none⟩ 1 1 [.int .i64 (i : Int)] rfl rfl (cell_one_new _ _ _) (by simp [Value.oneCell']) H63.out HBY.out (by have := hB.size; simp; omega) ?_; intro v' w1 hown' hgrow _; have HKA := hd (And.intro (kp_app (u := v') hrow hB.size hX2 hgrow) (blk_app (X := w.heap.size + 2) (u := v') HRL.out (by decide) hrow (by omega) hgrow)); obtain ⟨g', cap', hv'⟩ := ownsRow_succ hown'; subst hv'; obtain ⟨hv1, hv2, hr2, hk2, hb2⟩ := hv.appended (by decide) hrow hB.size hX2 hown' hgrow; have hc1 := hv1.cell; have hf1 := hv1.frozen; have HR := hd (And.intro hv2 (And.intro hr2 (And.intro hk2 hb2))); clear hown' hgrow hv2 hr2 hk2 hb2))
      exact ⟨HR.out.2.2.1.from _, HKA.out.1, key.out _ _ ⟨⟨HR.out.1, HR.out.2.1⟩, HKA.out.2, hB.trans HR.out.2.2.2⟩ HP.out⟩
    · have q1' : decide (s16 b < A) = false := by simpa using q1
      by_cases q2 : B < s16 b
      · have HP := hd (show outP A B ⟨(i, b), hi2⟩ = true by rw [HN.out]; simp [q2])
        gi_wp2_with (first | (refine ⟨trivial, ?_⟩; gi_at_call 37; refine (CallsIn.inRound l (callsIn_wide.2 (sixt_any _ _ _ HS.out.1))).mono ?_; rintro e w' ⟨rfl, rfl⟩) | (gi_at_builtin; refine wpListIn_append_own _ rfl _ _ 41 rfl w.heap.size 3 i0 (.int .i64 0) 1 8 Tryz.underlying41 hi hz0 hz1 hz2 rfl (by decide) _ _ _ rfl (hrow.alloc _) ⟨W.heap.size, 0, none⟩ 1 1 [.int .i64 (i : Int)] rfl rfl (cell_one_new _ _ _) (by simp [Value.oneCell']) H63.out HBY.out (by have := hB.size; simp; omega) ?_; intro v' w1 hown' hgrow _; have HKA := hd (And.intro (kp_app (u := v') hrow hB.size hX2 hgrow) (blk_app (X := w.heap.size + 2) (u := v') HRL.out (by decide) hrow (by omega) hgrow)); obtain ⟨g', cap', hv'⟩ := ownsRow_succ hown'; subst hv'; obtain ⟨hv1, hv2, hr2, hk2, hb2⟩ := hv.appended (by decide) hrow hB.size hX2 hown' hgrow; have hc1 := hv1.cell; have hf1 := hv1.frozen; have HR := hd (And.intro hv2 (And.intro hr2 (And.intro hk2 hb2))); clear hown' hgrow hv2 hr2 hk2 hb2))
        exact ⟨HR.out.2.2.1.from _, HKA.out.1, key.out _ _ ⟨⟨HR.out.1, HR.out.2.1⟩, HKA.out.2, hB.trans HR.out.2.2.2⟩ HP.out⟩
      · have HP := hd (show outP A B ⟨(i, b), hi2⟩ = false by rw [HN.out]; simp [q1, q2])
        have HRW := hd hrow
        have HV := hd hv
        clear hrow hv
        gi_wp2_with (first | (refine ⟨trivial, ?_⟩; gi_at_call 37; refine (CallsIn.inRound l (callsIn_wide.2 (sixt_any _ _ _ HS.out.1))).mono ?_; rintro e w' ⟨rfl, rfl⟩))
        exact ⟨KeepsFrom.refl _ _, KpR.refl _ _ _, ⟨⟨v, HV.out, by rw [sel_no pre HP.out]; exact HRW.out, trivial⟩, HRL.out⟩, hB⟩
  case done =>
    rintro D ys W hD rfl ⟨⟨⟨v, hv, hrow, -⟩, -⟩, hB⟩ hK
    have hc := hv.cell
    gi_wp2
    refine ⟨by simp, .inl ⟨_, _, rfl, run_takeDeferred hK, ?_⟩⟩
    exact ⟨_, results_tmp rfl _ _ _, v, rfl, ownsRow_putObj hrow _ hK rfl, hB.trans (belowK_b (w := w) (Nat.le_refl _) W D _ _ (by omega) hK rfl rfl)⟩
  case stop =>
    rintro D c pre W _ _ h _
    exact h.elim

end Go.Proofs.YtkgkpcmokmhakaaGreatDoor

namespace Go.Proofs.YtkgkpcmokmhakaaGreatDoor
open Go.RowKit Go.Shelf

theorem op_round {F : Fence} {n : Nat} {P : Program} {o : Oper} {a : Act} {w : World} {K : Act → World → Prop} {Q : Exit → Act → World → Prop} (l : Nat) (hro : F.round = none) (hd : ∀ c, o.op ≠ .defer c)
    (h : o.wpIn F n P a w K Q) : o.wpIn (F.inRound l) n P a w K Q := by
  unfold Oper.wpIn at *
  rw [hro, Oper.semAt_none] at h
  rw [Fence.inRound_round, Oper.semAt_eq _ _ _ hd]
  exact h

theorem ops_round {F : Fence} {n : Nat} {P : Program} {ops : Array Oper} {Q : Exit → Act → World → Prop} (l : Nat) (hro : F.round = none) (hd : ∀ (i : Nat) (o : Oper), ops[i]? = some o → ∀ c, o.op ≠ .defer c) :
    ∀ (L : List Nat) (a : Act) (w : World), wpOpsIn F n P ops Q L a w → wpOpsIn (F.inRound l) n P ops Q L a w
  | [], _, _, h => h
  | i :: rest, a, w, h => by
    rw [wpOpsIn_cons] at h ⊢
    unfold wpOpIn at h ⊢
    cases ho : ops[i]? with
    | none => simp only [ho] at h ⊢; exact ops_round l hro hd rest a w h
    | some o =>
      simp only [ho] at h ⊢
      split at h
      · rename_i hw
        rw [if_pos hw]
        exact op_round l hro (hd i o ho) (Oper.wpIn_mono (fun a w => ops_round l hro hd rest a w) h)
      · rename_i hw
        rw [if_neg hw]
        exact ⟨h.1, ops_round l hro hd rest _ _ h.2⟩

def noDefer (L : List Oper) : Bool := L.all fun o => match o.op with | .defer _ => false | _ => true
theorem noDefer_at {L : List Oper} (h : noDefer L = true) : ∀ (i : Nat) (o : Oper), L.toArray[i]? = some o → ∀ c, o.op ≠ .defer c := by
  intro i o ho c hc
  have hm : o ∈ L := by
    have := Array.mem_of_getElem? ho
    simpa using this
  have := List.all_eq_true.1 h o hm
  rw [hc] at this
  cases this

theorem wpIn_region_quiet_round {F : Fence} {n : Nat} {P : Program} {id l : Nat} {Q : Exit → Act → World → Prop} {a : Act} {w : World} {L : List Oper} (hro : F.round = none) (hm : P.follows .mixedOrders = true) (hB : Region.lexB .any L.toArray = true) (hnd : noDefer L = true)
    (h : wpQuietIn F n P L.toArray (fun w' => ∃ m, w' = w.drewN m) (fun a' => ∀ w', (∃ m, w' = w.drewN m) → Q .normal a' w') L a) : (Code.region id L.toArray true).wpIn (F.inRound l) n P Q a w := by
  simp only [Region.lexB, Bool.and_eq_true] at hB
  refine wpIn_region_draw fun t => ?_
  simp only [Region.schedule, hm, Bool.true_or, if_true]
  refine ops_round l hro (noDefer_at hnd) _ _ _ (wpAnyIn_sound L.toArray.size t _ a _ (wpAnyIn_of_quiet (C := fun w' => ∃ m, w' = w.drewN m) (Q := fun a' => ∀ w', (∃ m, w' = w.drewN m) → Q .normal a' w') hro (fun _ w' hw' h => h w' hw') _ _ _ _ ⟨1, rfl⟩ ?_))
  have := wpAnyQIn_lex (F := F) (n := n) (C := fun w' => ∃ m, w' = w.drewN m) (md := .any) hB.1 L 0 (Array.replicate L.toArray.size false) a (by simp) (by simpa using hB.2) h
  simpa using this

end Go.Proofs.YtkgkpcmokmhakaaGreatDoor

namespace Go.Proofs.YtkgkpcmokmhakaaGreatDoor
open Go.RowKit Go.Shelf
attribute [local go_sem] Oper.semAt_some
theorem wide_fn (f : FuncId) : Fence.wide.fn f = True := rfl
attribute [local go_sem, local simp] wide_fn

theorem owns_mono {W : World} {b b' : Nat} {e : TypeId} {size k : Nat} {v : Value} {xs : List Value} (h : W.ownsRow b e size v k xs) (hb : b' ≤ b) : W.ownsRow b' e size v k xs := by
  refine ⟨h.1, ?_⟩
  rcases h.2 with h2 | ⟨g, cap, cur, h1, h2, h3⟩
  · exact .inl h2
  · exact .inr ⟨g, cap, cur, h1, Nat.le_trans hb h2, h3⟩

/-- A block below the row is none of the row's. -/
theorem low_not_row {W : World} {b g : Nat} {e : TypeId} {size k : Nat} {v : Value} {xs : List Value} (h : W.ownsRow b e size v k xs) (hg : g < b) : some g ≠ v.ownBlock := by
  rcases h.2 with ⟨rfl, _⟩ | ⟨g', cap, cur, rfl, hb, _⟩
  · simp [Value.ownBlock]
  · intro e'
    obtain rfl : g = g' := by simpa [Value.ownBlock] using e'
    omega

theorem appd {W w1 : World} {n r B : Nat} {t e : TypeId} {size : Nat} {v v' : Value} {k m : Nat} {xs ys : List Value} {tmp : Obj}
    (hv : Boxed W B t v) (hte : t ≠ e) (hrow : W.ownsRow r e size v k xs) (hr : n ≤ r) (hn : n ≤ W.heap.size) (hB : n ≤ B)
    (hown' : w1.ownsRow r e size v' m ys) (hgrow : (W.alloc tmp).grownBy w1 v.ownBlock) :
    Boxed w1 B t v ∧ Boxed (w1.setCell ⟨B, 0, none⟩ v') B t v' ∧ (w1.setCell ⟨B, 0, none⟩ v').ownsRow r e size v' m ys ∧ KeepsOthers W (w1.setCell ⟨B, 0, none⟩ v') ∧ Below n W (w1.setCell ⟨B, 0, none⟩ v') := by
  obtain ⟨h1, h2, -, h4, h5⟩ := hv.appended hte (owns_mono hrow hr) hn hB (owns_mono hown' hr) hgrow
  exact ⟨h1, h2, hown'.kept (grownBy_setCell' w1 B v') (.inr (h1.not_row hte hown').symm), h4, h5⟩
/-- A variable's box below the row, behind an append that is stored into another box. -/
theorem box_app {W w1 : World} {r X B : Nat} {t e : TypeId} {size : Nat} {v u b : Value} {k : Nat} {xs : List Value} {tmp : Obj} (h : Boxed W B t b) (hrow : W.ownsRow r e size v k xs) (hB : B < r) (hX : B ≠ X) (hg : (W.alloc tmp).grownBy w1 v.ownBlock) : Boxed (w1.setCell ⟨X, 0, none⟩ u) B t b :=
  ((h.alloc tmp).kept hg (low_not_row hrow hB)).other hX u
theorem kp_set {n X B : Nat} {W : World} {t : TypeId} {u : Value} (v : Value) (h : Boxed W B t u) (hn : n ≤ B) (h1 : t ≠ 4) (h2 : t ≠ 35) : KpR n X W (W.setCell ⟨B, 0, none⟩ v) :=
  KpR.grown (grownBy_setCell' W B v) (Nat.le_trans hn (Nat.le_of_lt h.lt)) (fun k hk => by cases hk; exact ⟨hn, .inr ⟨_, _, _, h1, h2, h⟩⟩)
theorem own_set {W : World} {r B : Nat} {e : TypeId} {size : Nat} {v : Value} {k : Nat} {xs : List Value} (h : W.ownsRow r e size v k xs) (hB : B < r) (u : Value) : (W.setCell ⟨B, 0, none⟩ u).ownsRow r e size v k xs :=
  h.kept (grownBy_setCell' W B u) (.inr (low_not_row h hB).symm)
theorem blk_st {W : World} {g B : Nat} {cs : Array Value} {t : TypeId} (h : W.heap[g]? = some (.cells cs t (0, 0))) (hg : g ≠ B) (u : Value) : (W.setCell ⟨B, 0, none⟩ u).heap[g]? = some (.cells cs t (0, 0)) :=
  (Below.heap_setCell W ⟨B, 0, none⟩ u g hg).trans h
theorem kf_set {n B : Nat} (W : World) (u : Value) : KeepsFrom n W (W.setCell ⟨B, 0, none⟩ u) := (KeepsOthers.setCell W _ u).from n

theorem bel_dn {n m : Nat} {w W : World} (h : Below n w W) : Below n w (W.drewN m) := by
  obtain ⟨a, b⟩ := h
  constructor <;> assumption
theorem kp_dn {n X m : Nat} (W : World) : KpR n X W (W.drewN m) := ⟨bel_dn (Below.refl _ _), fun _ _ _ _ _ h => h⟩

/-- What jumps carries: the next index, the bits before, the indices found. -/
def jstep (A : Int) (s : Int × Nat × List Int) (x : Lv) : Int × Nat × List Int :=
  if (decide ((x.1.1 : Int) = s.1) && decide (A < max (s16 x.1.2 - s16 s.2.1) (s16 s.2.1 - s16 x.1.2))) = true then (s.1, s.2.1, s.2.2 ++ [(x.1.1 : Int)]) else ((x.1.1 : Int) + 1, x.1.2, s.2.2)
def jf (A : Int) (l : List Lv) : Int × Nat × List Int := l.foldl (jstep A) (-1, 0, [])
theorem jf_snoc (A : Int) (l : List Lv) (x : Lv) : jf A (l ++ [x]) = jstep A (jf A l) x := by simp [jf]
theorem jf_go (A : Int) : ∀ (l : List Lv) (s : Int × Nat × List Int), levOK s.2.1 = true → -1 ≤ s.1 → s.1 ≤ 100000 →
    levOK (l.foldl (jstep A) s).2.1 = true ∧ -1 ≤ (l.foldl (jstep A) s).1 ∧ (l.foldl (jstep A) s).1 ≤ 100000 ∧ (l.foldl (jstep A) s).2.2.length ≤ s.2.2.length + l.length
  | [], s, h1, h2, h3 => ⟨h1, h2, h3, by simp⟩
  | x :: l, s, h1, h2, h3 => by
    have hx := x.2.1
    simp only [List.foldl_cons]
    obtain ⟨g1, g2, g3, g4⟩ := jf_go A l (jstep A s x) (by unfold jstep; split; exact h1; exact x.2.2) (by unfold jstep; split <;> simp <;> omega) (by unfold jstep; split <;> simp <;> omega)
    refine ⟨g1, g2, g3, Nat.le_trans g4 ?_⟩
    have : (jstep A s x).2.2.length ≤ s.2.2.length + 1 := by unfold jstep; split <;> simp
    simp only [List.length_cons]; omega
theorem jf_ok (A : Int) (l : List Lv) : levOK (jf A l).2.1 = true ∧ -1 ≤ (jf A l).1 ∧ (jf A l).1 ≤ 100000 ∧ (jf A l).2.2.length ≤ l.length := by
  have := jf_go A l (-1, 0, []) lv0 (by decide) (by decide)
  simpa [jf] using this

set_option maxRecDepth 1000000 in
set_option maxHeartbeats 8000000 in
theorem jumps_in (kd nm : ByteArray) (A B st : Int) (lv gv : Value) (bs : List Nat) (gs : List (Int × Int)) (w : World) (hl : Rd w w.heap.size lv bs.length (flc bs)) (hg : Rd w w.heap.size gv gs.length (spc gs)) (hasc : Asc gs) (hgs : gs.length ≤ 100000) (hbs : bs.length ≤ 100000) (hok : ∀ j, j < bs.length → levOK (bs.getD j 0) = true) :
    CallsIn Fence.wide 5 Tryz.prog 95 #[.agg #[.string kd, .int .i64 A, .int .i64 B], .agg #[.string nm, .int .i64 st, lv, gv]] w (OwnsIn w.heap.size (jf A (itm gs (fLv bs) bs.length)).2.2 w) := by
  obtain ⟨i0, hi, hz0, hz1, hz2⟩ := info_parts intInfo
  have HL := hd hl
  have HG := hd hg
  have HOK := hd (And.intro hasc (And.intro hgs (And.intro hbs (fLv_at bs hbs hok))))
  have hl2 := hl
  have hg2 := hg
  obtain ⟨A1, c1, rfl, -, -, -⟩ := hl2
  obtain ⟨A2, c2, rfl, -, -, -⟩ := hg2
  clear hl hg hasc hgs hok
  refine callsIn_of_wp_marks Tryz.func95 rfl trivial ?_ rfl
  simp only [Tryz.ntmps95, List.size_toArray, List.length_cons, List.length_nil, Nat.reduceAdd, Nat.reduceSub, Array.replicate_succ, Array.replicate_zero, List.push_toArray, List.append_toArray, List.nil_append, List.cons_append]
  gi_wp2_with (gi_at_call 53; refine (callsIn_wide.2 (recorded_any _ _ _ _ _)).mono ?_; rintro e w' ⟨rfl, rfl⟩)
  have hR0 := blk_new w #[.string kd, .int .i64 A, .int .i64 B] 34
  obtain ⟨w1, hw1⟩ : ∃ w1, w1 = w.alloc (.cells #[.string kd, .int .i64 A, .int .i64 B] 34) := ⟨_, rfl⟩
  obtain ⟨w2, hw2⟩ : ∃ w2, w2 = w1.alloc (.cells #[.string nm, .int .i64 st, .slice A1 bs.length c1, .slice A2 gs.length c2] 35) := ⟨_, rfl⟩
  obtain ⟨w3, hw3⟩ : ∃ w3, w3 = w2.alloc (.cells #[.slice none 0 0] 41) := ⟨_, rfl⟩
  obtain ⟨w4, hw4⟩ : ∃ w4, w4 = w3.alloc (.cells #[.int .i64 (-1)] 3) := ⟨_, rfl⟩
  obtain ⟨w5, hw5⟩ : ∃ w5, w5 = w4.alloc (.cells #[.float .f32 0] 60) := ⟨_, rfl⟩
  obtain ⟨W0, hW0⟩ : ∃ W0, W0 = w5.alloc (.cells #[.string nm, .int .i64 st, .slice A1 bs.length c1, .slice A2 gs.length c2] 35) := ⟨_, rfl⟩
  rw [← hw1, ← hw2, ← hw3, ← hw4, ← hw5, ← hW0]
  have hs1 : w1.heap.size = w.heap.size + 1 := by rw [hw1]; simp
  have hs2 : w2.heap.size = w.heap.size + 2 := by rw [hw2]; simp; omega
  have hs3 : w3.heap.size = w.heap.size + 3 := by rw [hw3]; simp; omega
  have hs4 : w4.heap.size = w.heap.size + 4 := by rw [hw4]; simp; omega
  have hs5 : w5.heap.size = w.heap.size + 5 := by rw [hw5]; simp; omega
  have hsz : W0.heap.size = w.heap.size + 6 := by rw [hW0]; simp; omega
  have hB0 : Below w.heap.size w W0 := by rw [hW0, hw5, hw4, hw3, hw2, hw1]; exact (((((((Below.refl _ w).alloc (Nat.le_refl _) _).alloc (by simp) _).alloc (by simp; omega) _).alloc (by simp; omega) _).alloc (by simp; omega) _).alloc (by simp; omega) _)
  have hRl : W0.heap[w.heap.size]? = some (.cells #[.string kd, .int .i64 A, .int .i64 B] 34 (0, 0)) := by
    rw [hW0, Below.heap_alloc _ _ _ (by omega), hw5, Below.heap_alloc _ _ _ (by omega), hw4, Below.heap_alloc _ _ _ (by omega), hw3, Below.heap_alloc _ _ _ (by omega), hw2, Below.heap_alloc _ _ _ (by omega), hw1]
    exact hR0
  have hBx : Boxed W0 (w.heap.size + 2) 41 (.slice none 0 0) := by
    have h1 := Boxed.new w2 41 (.slice none 0 0)
    rw [hs2] at h1
    rw [hW0, hw5, hw4, hw3]; exact ((h1.alloc _).alloc _).alloc _
  have hBn : Boxed W0 (w.heap.size + 3) 3 (.int .i64 (-1)) := by
    have h1 := Boxed.new w3 3 (.int .i64 (-1))
    rw [hs3] at h1
    rw [hW0, hw5, hw4]; exact (h1.alloc _).alloc _
  have hBb : Boxed W0 (w.heap.size + 4) 60 (.float .f32 0) := by
    have h1 := Boxed.new w4 60 (.float .f32 0)
    rw [hs4] at h1
    rw [hW0, hw5]; exact h1.alloc _
  have hRc : W0.heap[w.heap.size + 5]? = some (.cells #[.string nm, .int .i64 st, .slice A1 bs.length c1, .slice A2 gs.length c2] 35 (0, 0)) := by
    have h1 := blk_new w5 #[.string nm, .int .i64 st, .slice A1 bs.length c1, .slice A2 gs.length c2] 35
    rw [hs5] at h1
    rw [hW0]; exact h1
  clear hW0 hw1 hw2 hw3 hw4 hw5 hR0 hs1 hs2 hs3 hs4 hs5
  refine wpIn_rangeFunc_ownG (α := Lv) rfl (by omega) (gf := 83) (lb := #[.pointer (some ⟨w.heap.size + 5, 0, none⟩)]) rfl trivial (enters_of Tryz.func83 (by kernel_rfl) rfl)
    (rec_stops (fun x : Lv => x.1) (fLv bs) 4 (by omega) (w.heap.size + 5) w.heap.size (w.heap.size + 2) nm st _ _ bs gs HOK.out.2.2.1 HOK.out.2.1 HOK.out.1 HOK.out.2.2.2 W0 (by omega) (by omega) (by omega) hRc (HL.out.below hB0 (Nat.le_refl _)) (HG.out.below hB0 (Nat.le_refl _)))
    KpR.trans (KpR.putObj (by omega)) (Below.refl _ _) (fun _ => rfl)
    (fun pre W => (((∃ v, Boxed W (w.heap.size + 2) 41 v ∧ W.ownsRow (w.heap.size + 5) 3 1 v (jf A pre).2.2.length ((jf A pre).2.2.map (Value.int .i64)) ∧ True) ∧ W.heap[w.heap.size]? = some (.cells #[.string kd, .int .i64 A, .int .i64 B] 34 (0, 0))) ∧ (Boxed W (w.heap.size + 3) 3 (.int .i64 (jf A pre).1) ∧ Boxed W (w.heap.size + 4) 60 (.float .f32 (jf A pre).2.1))) ∧ Below w.heap.size w W)
    (fun _ _ _ => False)
    (OwnFrom.and (OwnFrom.and (OwnFrom.and (Own.from (holdsRow_own (w.heap.size + 5) (w.heap.size + 2) 41 3 1 (fun pre => (jf A pre).2.2.length) (fun pre => (jf A pre).2.2.map (Value.int .i64)) (fun _ _ => True)) _) (Own.from blk_own _)) (OwnFrom.and (Own.from (boxed_own _ _ (fun pre => .int .i64 (jf A pre).1)) _) (Own.from (boxed_own _ _ (fun pre => .float .f32 (jf A pre).2.1)) _))) (ownFrom_below (Nat.le_refl _) (by omega)))
    (fun _ _ _ _ _ hs _ _ => hs)
    ⟨⟨⟨⟨_, hBx, World.ownsRow_nil _ _ _ _, trivial⟩, hRl⟩, hBn, hBb⟩, hB0⟩
    (fun x => { tmps := #[.agg #[.string kd, .int .i64 A, .int .i64 B], .agg #[.string nm, .int .i64 st, .slice A1 bs.length c1, .slice A2 gs.length c2], .pointer (some ⟨w.heap.size, 0, none⟩), .pointer (some ⟨w.heap.size + 1, 0, none⟩), .slice none 0 0, .pointer (some ⟨w.heap.size + 2, 0, none⟩), .pointer (some ⟨w.heap.size + 3, 0, none⟩), .pointer (some ⟨w.heap.size + 4, 0, none⟩), .int .i64 (x.1.1 : Int), .float .f32 x.1.2, .agg #[.string nm, .int .i64 st, .slice A1 bs.length c1, .slice A2 gs.length c2], .func (.func 83) #[] #[.pointer (some ⟨w.heap.size + 5, 0, none⟩)], .int .i64 (x.1.1 : Int), .float .f32 x.1.2, undef, undef, undef, undef, undef, undef, undef, undef, undef, undef, undef, undef, undef, undef, undef, undef, undef, undef, undef], defers := [] }) ?assign ?body ?done ?stop
  case assign =>
    intro l x W K hK
    gi_wp2
    exact hK
  case body =>
    rintro l pre ⟨⟨i, b⟩, hi2⟩ W ⟨⟨⟨⟨v, hv, hrow, -⟩, hrl⟩, hbn, hbb⟩, hB⟩ hlt
    obtain ⟨o1, o2, o3, o4⟩ := jf_ok A pre
    have hJ : jf A (pre ++ [⟨(i, b), hi2⟩]) = jstep A (jf A pre) ⟨(i, b), hi2⟩ := jf_snoc _ _ _
    generalize hq : jf A pre = q at *
    obtain ⟨nx, be, out⟩ := q
    simp only at o1 o2 o3 o4 hv hrow hbn hbb
    have hi3 : i < 100000 := hi2.1
    have hd0 : 1 ≤ 5 - 1 - 1 := by omega
    have hc := hv.cell
    have r1 := blk_cell hrl 1
    have r2 := blk_cell hrl 2
    simp at r1 r2
    have cn := hbn.cell
    have cb := hbb.cell
    have fn := hbn.frozen
    have fb := hbb.frozen
    have HS := hd (sixt_of hi2.2)
    have HT := hd (sixt_of o1)
    have H63 := hd (show out.length + 1 ≤ maxLen by unfold maxLen; omega)
    have HBY := hd (show (out.length + 1) * 8 ≤ 140737488355328 by omega)
    have hX2 : w.heap.size ≤ w.heap.size + 2 := by omega
    have HRL := hd hrl
    have HBN := hd hbn
    have HBB := hd hbb
    have HJ := hd hJ
    have hbs6 : w.heap.size + 5 ≤ W.heap.size := by have := hbb.lt; omega
    clear hrl hbn hbb hJ hq
    have key : ∀ W' v' nx' be' out', jstep A (nx, be, out) ⟨(i, b), hi2⟩ = (nx', be', out') → Boxed W' (w.heap.size + 2) 41 v' → W'.ownsRow (w.heap.size + 5) 3 1 v' out'.length (out'.map (Value.int .i64)) → W'.heap[w.heap.size]? = some (.cells #[.string kd, .int .i64 A, .int .i64 B] 34 (0, 0)) → Boxed W' (w.heap.size + 3) 3 (.int .i64 nx') → Boxed W' (w.heap.size + 4) 60 (.float .f32 be') → Below w.heap.size w W' →
        ((((∃ v, Boxed W' (w.heap.size + 2) 41 v ∧ W'.ownsRow (w.heap.size + 5) 3 1 v (jf A (pre ++ [⟨(i, b), hi2⟩])).2.2.length ((jf A (pre ++ [⟨(i, b), hi2⟩])).2.2.map (Value.int .i64)) ∧ True) ∧ W'.heap[w.heap.size]? = some (.cells #[.string kd, .int .i64 A, .int .i64 B] 34 (0, 0))) ∧ (Boxed W' (w.heap.size + 3) 3 (.int .i64 (jf A (pre ++ [⟨(i, b), hi2⟩])).1) ∧ Boxed W' (w.heap.size + 4) 60 (.float .f32 (jf A (pre ++ [⟨(i, b), hi2⟩])).2.1))) ∧ Below w.heap.size w W') := by
      intro W' v' nx' be' out' h1 h2 h3 h4 h5 h6 h7
      rw [HJ.out, h1]
      exact ⟨⟨⟨⟨v', h2, h3, trivial⟩, h4⟩, h5, h6⟩, h7⟩
    have key := hd key
    by_cases q1 : (i : Int) = nx
    · by_cases q2 : A < max (s16 b - s16 be) (s16 be - s16 b)
      · have HP := hd (show jstep A (nx, be, out) ⟨(i, b), hi2⟩ = (nx, be, out ++ [(i : Int)]) by simp [jstep, q1, q2])
        subst q1
        have q2' : decide (A < max (s16 b - s16 be) (s16 be - s16 b)) = true := by simpa using q2
        have Q := hd q2
        clear q2
        gi_wp2_with fail
        refine wpIn_region_quiet_round (F := Fence.wide) rfl (by kernel_rfl) (by kernel_rfl) (by kernel_rfl) ?_
        repeat (gi_big_quiet_step (first | (gi_at_call 88; exact CallsIn.quiet_of_same (callsIn_wide.2 ((dist_any _ _ _ _ _ HS.out.1 HT.out.1 (by have := HS.out.2; omega) (by have := HT.out.2; omega)).mono (fun _ _ h => ⟨h.1, h.2.symm⟩))))))
        refine wpQuietIn_nil ?_
        intro W2 hW2
        have hS2 : Hid (Boxed W2 (w.heap.size + 2) 41 v ∧ W2.ownsRow (w.heap.size + 5) 3 1 v out.length (out.map (Value.int .i64)) ∧ W2.heap[w.heap.size]? = some (.cells #[.string kd, .int .i64 A, .int .i64 B] 34 (0, 0)) ∧ Boxed W2 (w.heap.size + 3) 3 (.int .i64 i) ∧ Boxed W2 (w.heap.size + 4) 60 (.float .f32 be) ∧ Below w.heap.size w W2 ∧ w.heap.size + 5 ≤ W2.heap.size ∧ KeepsFrom W0.heap.size W W2 ∧ KpR w.heap.size (w.heap.size + 2) W W2) := by
          obtain ⟨m, rfl⟩ := hW2
          exact hd ⟨hv, hrow, HRL.out, HBN.out, HBB.out, bel_dn hB, hbs6, ⟨Nat.le_refl _, fun _ _ _ h _ => h⟩, kp_dn _⟩
        clear hW2 hv hrow HRL HBN HBB hB hc r1 r2 cn cb fn fb hbs6
        obtain ⟨hv, hrow, hrl, hbn, hbb, hB, hbs6, hKK⟩ := hS2.out
        have HRL := hd hrl
        have HBN := hd hbn
        have HBB := hd hbb
        have HK2 := hd hKK
        have hc := hv.cell
        clear hrl hbn hbb hKK hS2
        gi_wp2_with (gi_at_builtin; refine wpListIn_append_own _ rfl _ _ 41 rfl (w.heap.size + 5) 3 i0 (.int .i64 0) 1 8 Tryz.underlying41 hi hz0 hz1 hz2 rfl (by decide) _ _ _ rfl (hrow.alloc _) ⟨W2.heap.size, 0, none⟩ 1 1 [.int .i64 (i : Int)] rfl rfl (cell_one_new _ _ _) (by simp [Value.oneCell']) H63.out HBY.out (by simp; omega) ?_; intro v' w1 hown' hgrow _; have HKA := hd (And.intro (kp_app (u := v') (owns_mono hrow (show w.heap.size ≤ w.heap.size + 5 by omega)) hB.size hX2 hgrow) (And.intro (blk_app (X := w.heap.size + 2) (u := v') HRL.out (by decide) hrow (by omega) hgrow) (And.intro (box_app (X := w.heap.size + 2) (u := v') HBN.out hrow (by omega) (by omega) hgrow) (box_app (X := w.heap.size + 2) (u := v') HBB.out hrow (by omega) (by omega) hgrow)))); obtain ⟨g', cap', hv'⟩ := ownsRow_succ hown'; subst hv'; obtain ⟨hv1, hv2, hr2, hk2, hb2⟩ := appd hv (by decide) hrow (show w.heap.size ≤ w.heap.size + 5 by omega) hB.size hX2 hown' hgrow; have hc1 := hv1.cell; have hf1 := hv1.frozen; have HR := hd (And.intro hv2 (And.intro hr2 (And.intro hk2 hb2))); clear hown' hgrow hv2 hr2 hk2 hb2)
        exact ⟨HK2.out.1.trans (HR.out.2.2.1.from _), HK2.out.2.trans HKA.out.1, key.out _ _ _ _ _ HP.out HR.out.1 (by simpa using HR.out.2.1) HKA.out.2.1 HKA.out.2.2.1 HKA.out.2.2.2 (hB.trans HR.out.2.2.2)⟩
      · have HP := hd (show jstep A (i, be, out) ⟨(i, b), hi2⟩ = ((i : Int) + 1, b, out) by simp [jstep, q2])
        subst q1
        have q2' : decide (A < max (s16 b - s16 be) (s16 be - s16 b)) = false := by simpa using q2
        clear q2
        gi_wp2_with fail
        refine wpIn_region_quiet_round (F := Fence.wide) rfl (by kernel_rfl) (by kernel_rfl) (by kernel_rfl) ?_
        repeat (gi_big_quiet_step (first | (gi_at_call 88; exact CallsIn.quiet_of_same (callsIn_wide.2 ((dist_any _ _ _ _ _ HS.out.1 HT.out.1 (by have := HS.out.2; omega) (by have := HT.out.2; omega)).mono (fun _ _ h => ⟨h.1, h.2.symm⟩))))))
        refine wpQuietIn_nil ?_
        intro W2 hW2
        have hS2 : Hid (Boxed W2 (w.heap.size + 2) 41 v ∧ W2.ownsRow (w.heap.size + 5) 3 1 v out.length (out.map (Value.int .i64)) ∧ W2.heap[w.heap.size]? = some (.cells #[.string kd, .int .i64 A, .int .i64 B] 34 (0, 0)) ∧ Boxed W2 (w.heap.size + 3) 3 (.int .i64 i) ∧ Boxed W2 (w.heap.size + 4) 60 (.float .f32 be) ∧ Below w.heap.size w W2 ∧ w.heap.size + 5 ≤ W2.heap.size ∧ KeepsFrom W0.heap.size W W2 ∧ KpR w.heap.size (w.heap.size + 2) W W2) := by
          obtain ⟨m, rfl⟩ := hW2
          exact hd ⟨hv, hrow, HRL.out, HBN.out, HBB.out, bel_dn hB, hbs6, ⟨Nat.le_refl _, fun _ _ _ h _ => h⟩, kp_dn _⟩
        clear hW2 hv hrow HRL HBN HBB hB hc r1 r2 cn cb fn fb hbs6
        obtain ⟨hv, hrow, hrl, hbn, hbb, hB, hbs6, hKK⟩ := hS2.out
        have cn := hbn.cell
        have cb := hbb.cell
        have fn := hbn.frozen
        have fb := hbb.frozen
        have HA := hd (And.intro hv (And.intro hrow (And.intro hrl (And.intro hbn (And.intro hbb (And.intro hB hKK))))))
        clear hv hrow hrl hbn hbb hB hKK hS2
        gi_wp2
        obtain ⟨hv, hrow, hrl, hbn, hbb, hB, hK1, hK2⟩ := HA.out
        have key1 := kp_set (n := w.heap.size) (X := w.heap.size + 2) (.int .i64 ((i : Int) + 1)) hbn (by omega) (by decide) (by decide)
        have hbb2 := hbb.other (show w.heap.size + 4 ≠ w.heap.size + 3 by omega) (.int .i64 ((i : Int) + 1))
        have key2 := kp_set (n := w.heap.size) (X := w.heap.size + 2) (.float .f32 b) hbb2 (by omega) (by decide) (by decide)
        exact ⟨hK1.trans ((kf_set _ _).trans (kf_set _ _)), hK2.trans (key1.trans key2), key.out _ _ _ _ _ HP.out ((hv.other (by omega) _).other (by omega) _) (own_set (own_set hrow (by omega) _) (by omega) _) (blk_st (blk_st hrl (by omega) _) (by omega) _) ((hbn.set _).other (by omega) _) (hbb2.set _) (hB.trans (key1.trans key2).below)⟩
    · have HP := hd (show jstep A (nx, be, out) ⟨(i, b), hi2⟩ = ((i : Int) + 1, b, out) by simp [jstep, q1])
      have q1' : decide ((i : Int) = nx) = false := by simpa using q1
      have q1b : ((i : Int) == nx) = false := by simpa using q1
      gi_wp2_with fail
      refine wpIn_region_quiet_round (F := Fence.wide) rfl (by kernel_rfl) (by kernel_rfl) (by kernel_rfl) ?_
      repeat (gi_big_quiet_step (first | (gi_at_call 88; exact CallsIn.quiet_of_same (callsIn_wide.2 ((dist_any _ _ _ _ _ HS.out.1 HT.out.1 (by have := HS.out.2; omega) (by have := HT.out.2; omega)).mono (fun _ _ h => ⟨h.1, h.2.symm⟩))))))
      refine wpQuietIn_nil ?_
      intro W2 hW2
      have hS2 : Hid (Boxed W2 (w.heap.size + 2) 41 v ∧ W2.ownsRow (w.heap.size + 5) 3 1 v out.length (out.map (Value.int .i64)) ∧ W2.heap[w.heap.size]? = some (.cells #[.string kd, .int .i64 A, .int .i64 B] 34 (0, 0)) ∧ Boxed W2 (w.heap.size + 3) 3 (.int .i64 nx) ∧ Boxed W2 (w.heap.size + 4) 60 (.float .f32 be) ∧ Below w.heap.size w W2 ∧ w.heap.size + 5 ≤ W2.heap.size ∧ KeepsFrom W0.heap.size W W2 ∧ KpR w.heap.size (w.heap.size + 2) W W2) := by
        obtain ⟨m, rfl⟩ := hW2
        exact hd ⟨hv, hrow, HRL.out, HBN.out, HBB.out, bel_dn hB, hbs6, ⟨Nat.le_refl _, fun _ _ _ h _ => h⟩, kp_dn _⟩
      clear hW2 hv hrow HRL HBN HBB hB hc r1 r2 cn cb fn fb hbs6
      obtain ⟨hv, hrow, hrl, hbn, hbb, hB, hbs6, hKK⟩ := hS2.out
      have cn := hbn.cell
      have cb := hbb.cell
      have fn := hbn.frozen
      have fb := hbb.frozen
      have HA := hd (And.intro hv (And.intro hrow (And.intro hrl (And.intro hbn (And.intro hbb (And.intro hB hKK))))))
      clear hv hrow hrl hbn hbb hB hKK hS2
      gi_wp2
      obtain ⟨hv, hrow, hrl, hbn, hbb, hB, hK1, hK2⟩ := HA.out
      have key1 := kp_set (n := w.heap.size) (X := w.heap.size + 2) (.int .i64 ((i : Int) + 1)) hbn (by omega) (by decide) (by decide)
      have hbb2 := hbb.other (show w.heap.size + 4 ≠ w.heap.size + 3 by omega) (.int .i64 ((i : Int) + 1))
      have key2 := kp_set (n := w.heap.size) (X := w.heap.size + 2) (.float .f32 b) hbb2 (by omega) (by decide) (by decide)
      exact ⟨hK1.trans ((kf_set _ _).trans (kf_set _ _)), hK2.trans (key1.trans key2), key.out _ _ _ _ _ HP.out ((hv.other (by omega) _).other (by omega) _) (own_set (own_set hrow (by omega) _) (by omega) _) (blk_st (blk_st hrl (by omega) _) (by omega) _) ((hbn.set _).other (by omega) _) (hbb2.set _) (hB.trans (key1.trans key2).below)⟩
  case done =>
    rintro D ys W hD rfl ⟨⟨⟨⟨v, hv, hrow, -⟩, -⟩, -⟩, hB⟩ hK
    have hc := hv.cell
    gi_wp2
    refine ⟨by simp, .inl ⟨_, _, rfl, run_takeDeferred hK, ?_⟩⟩
    exact ⟨_, results_tmp rfl _ _ _, v, rfl, owns_mono (ownsRow_putObj hrow _ hK rfl) (by omega), hB.trans (belowK_b (w := w) (Nat.le_refl _) W D _ _ (by omega) hK rfl rfl)⟩
  case stop =>
    rintro D c pre W _ _ h _
    exact h.elim

end Go.Proofs.YtkgkpcmokmhakaaGreatDoor
