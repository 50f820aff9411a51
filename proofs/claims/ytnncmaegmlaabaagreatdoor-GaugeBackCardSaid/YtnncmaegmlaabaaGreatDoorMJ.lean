/-
  Regions that draw their order, inside a fence and inside a round: a head that is quiet in a class of worlds, then a tail in one forced order (the plain words: Reg). No condition.
  Contract of gauge.Above. Conditions: a valid record, a valid level.
  Contracts of the functions that gauge.waters hands on: the two comparisons, the two closures, gauge.leads. Conditions: what the closures hold is read; from and to are indices.
-/

import Derived.Test.YtnncmaegmlaabaaGreatDoorProg
import Derived.Test.YtnncmaegmlaabaaGreatDoorMA
import Derived.Test.YtnncmaegmlaabaaGreatDoorMF
namespace Go.Proofs.YtnncmaegmlaabaaGreatDoor
open Go Go.RowKit

section
variable {F : Fence} {r : Nat} {P : Program} {ops : Array Oper} {md : Region.Mode} {C : World → Prop}

/-- Whatever order is picked of the first n operations, at whose end L holds. -/
def anyHeadIn (F : Fence) (r : Nat) (P : Program) (md : Region.Mode) (ops : Array Oper) (C : World → Prop) (n : Nat) (L : Array Bool → Act → Prop) : Nat → Array Bool → Act → Prop
  | 0, listed, a => L listed a
  | f + 1, listed, a => Region.ready md ops listed ≠ [] ∧ ∀ i ∈ Region.ready md ops listed, i < n ∧ qOpIn F r P ops C i (anyHeadIn F r P md ops C n L f (listed.setIfInBounds i true)) a

theorem any_of_anyHeadIn {n g : Nat} (hro : F.round = none) {L : Array Bool → Act → Prop} {Q : Exit → Act → World → Prop} (hL : ∀ listed a w, C w → L listed a → wpAnyIn F r P md ops Q g listed a w) :
    ∀ (f : Nat) (listed : Array Bool) (a : Act) (w : World), C w → anyHeadIn F r P md ops C n L f listed a → wpAnyIn F r P md ops Q (f + g) listed a w
  | 0, _, _, _, hw, h => by rw [Nat.zero_add]; exact hL _ _ _ hw h
  | f + 1, _, _, _, hw, h => by
    rw [show f + 1 + g = (f + g) + 1 by omega]
    exact ⟨fun h0 => absurd h0 h.1, fun i hi => wpOpIn_of_qOpIn hro hw (fun a' w' hw' h' => any_of_anyHeadIn hro hL f _ a' w' hw' h') (h.2 i hi).2⟩

theorem anyHeadIn_first {n i : Nat} {oi : Oper} {v : Value} {L : Array Bool → Act → Prop} (hi : ops[i]? = some oi) (hsel : ∀ (j : Nat) (o : Oper) cs b, ops[j]? = some o → o.op ≠ .select cs b)
    (hs : Region.sinkB md ops n = true) (hc : Region.chainB md ops n = true) (hn : n < ops.size) (hin : i < n)
    (hdone : ∀ listed a, L listed a → ∀ j ∈ Region.ready md ops listed, n ≤ j) :
    ∀ (f : Nat) (listed : Array Bool) (a : Act), HeadInv md ops n listed →
      (∀ j oj, ops[j]? = some oj → j ≠ i → listed.getD j true = false → (∀ e ∈ oj.after, Region.binds md e = true → e.on ≠ i) → oi.apart ops oj = true) →
      i ∈ Region.ready md ops listed → YieldsQuiet F r P ops C oi v a →
      anyHeadIn F r P md ops C n L f (listed.setIfInBounds i true) (a.put oi.dst v) → anyHeadIn F r P md ops C n L (f + 1) listed a := by
  intro f
  induction f with
  | zero =>
    intro listed a inv _ hr hy H
    have hun := (mem_ready.1 hr).1
    refine ⟨fun h => (by rw [h] at hr; cases hr), fun j hj => ?_⟩
    have hjn : j < n := by
      rcases Nat.lt_or_ge j n with h | h
      · exact h
      · exact absurd hj (tail_waits hs hc hn inv _ i rfl hin hun j h)
    refine ⟨hjn, ?_⟩
    by_cases hji : j = i
    · subst hji; exact hy.qOpIn hi H
    · have := hdone _ _ H j (ready_mono hj hji)
      omega
  | succ f ih =>
    intro listed a inv hfree hr hy H
    have hun := (mem_ready.1 hr).1
    refine ⟨fun h => (by rw [h] at hr; cases hr), fun j hj => ?_⟩
    have hjn : j < n := by
      rcases Nat.lt_or_ge j n with h | h
      · exact h
      · exact absurd hj (tail_waits hs hc hn inv _ i rfl hin hun j h)
    refine ⟨hjn, ?_⟩
    by_cases hji : j = i
    · subst hji; exact hy.qOpIn hi H
    · have h1 := (H.2 j (ready_mono hj hji)).2
      obtain ⟨hjun, oj, hoj, hall⟩ := mem_ready.1 hj
      have hnot : ∀ e ∈ oj.after, Region.binds md e = true → e.on ≠ i := fun e he hb heq => by
        have h1 := hall e he hb
        rw [heq, getD_both hun] at h1
        cases h1
      have h2 := qOpIn_put hoj (hfree j oj hoj hji hjun hnot) (fun cs b => hsel i oi cs b hi) (fun cs b => hsel j oj cs b hoj) hy h1
      have hfree' : ∀ k ok, ops[k]? = some ok → k ≠ i → (listed.setIfInBounds j true).getD k true = false →
          (∀ e ∈ ok.after, Region.binds md e = true → e.on ≠ i) → oi.apart ops ok = true := fun k ok hk hki hun hno => by
        refine hfree k ok hk hki ?_ hno
        by_cases hjk : j = k
        · subst hjk; exact hjun
        · rw [getD_set_ne true hjk] at hun; exact hun
      refine qOpIn_mono (fun a' h3 => ih (listed.setIfInBounds j true) a' (inv.set hj hjn) hfree' (ready_mono hr (Ne.symm hji)) h3.1 ?_) h2
      rw [Array.setIfInBounds_comm _ _ hji]
      exact h3.2

theorem anyHeadIn_lex {n g : Nat} {Lq : Act → Prop} (hsel : Region.noSelect ops = true) (hs : Region.sinkB md ops n = true) (hc : Region.chainB md ops n = true) (hn : n < ops.size) :
    ∀ (l : List Oper) (k : Nat) (listed : Array Bool) (a : Act), (∀ j, j < l.length → l[j]? = ops[k + j]?) → k + l.length = n → HeadInv md ops n listed →
    Region.lexHead md ops g l.length k listed = true → wpQuietIn F r P ops C Lq l a →
    anyHeadIn F r P md ops C n (fun listed' a' => Region.seqB md ops g n listed' = true ∧ Lq a') l.length listed a
  | [], k, listed, a, _, hk, _, hB, h => by
    have : k = n := by simpa using hk
    subst this
    exact ⟨by simpa [Region.lexHead] using hB, h⟩
  | o :: l, k, listed, a, hl, hk, inv, hB, h => by
    have h0 : ops[k]? = some o := by simpa using (hl 0 (by simp)).symm
    simp only [List.length_cons, Region.lexHead, Bool.and_eq_true] at hB
    obtain ⟨⟨hr, hf⟩, hB'⟩ := hB
    have hkn : k < n := by simp only [List.length_cons] at hk; omega
    have hr' : k ∈ Region.ready md ops listed := by simpa using hr
    have hst : qOpIn F r P ops C k (wpQuietIn F r P ops C Lq l) a := by unfold qOpIn; simp only [h0]; exact h
    obtain ⟨v, hy, hK⟩ := yieldsQuiet_of_qOpIn h0 hst
    exact anyHeadIn_first h0 (Region.noSelect_spec hsel) hs hc hn hkn (fun listed' a' hL => seqB_ready hL.1) l.length listed a inv (Region.free_spec h0 hf) hr' hy
      (anyHeadIn_lex hsel hs hc hn l (k + 1) _ _ (fun j hj => by have := hl (j + 1) (by simp; omega); simpa [Nat.add_assoc, Nat.add_comm 1 j] using this) (by simp only [List.length_cons] at hk; omega) (inv.set hr' hkn) hB' hK)

theorem wpAnyIn_of_seq {Q' : Exit → Act → World → Prop} : ∀ (l : List Oper) (k : Nat) (listed : Array Bool) (a : Act) (w : World), (∀ j, l[j]? = ops[k + j]?) →
    Region.seqB md ops l.length k listed = true → wpListIn F r P ops Q' l a w → wpAnyIn F r P md ops Q' l.length listed a w
  | [], _, _, _, _, _, hB, h => ⟨by simpa [Region.seqB] using hB, h⟩
  | o :: l, k, listed, a, w, hl, hB, h => by
    have h0 : ops[k]? = some o := by simpa using (hl 0).symm
    simp only [List.length_cons, Region.seqB, Bool.and_eq_true, decide_eq_true_eq] at hB
    refine ⟨fun h1 => (by rw [hB.1] at h1; cases h1), fun i hi => ?_⟩
    rw [hB.1] at hi
    have hik : i = k := by simpa using hi
    subst hik
    have hw : wpOpIn F r P ops Q' i (wpListIn F r P ops Q' l) a w := by unfold wpOpIn; simp only [h0]; exact h
    exact wpOpIn_mono (fun a' w' h' => wpAnyIn_of_seq l (i + 1) _ a' w' (fun j => by have := hl (j + 1); simpa [Nat.add_assoc, Nat.add_comm 1 j] using this) hB.2 h') hw

/-- A region whose first n operations are quiet in the class C, and whose others come in their own order behind them. -/
theorem any_head {Q : Exit → Act → World → Prop} {a : Act} {w : World} {l : List Oper} (n : Nat) (hro : F.round = none) (hB : Region.lexTailB .any l.toArray n = true)
    (hC : C { w with drawn := w.drawn + 1 })
    (h : wpQuietIn F r P l.toArray C (fun a' => ∀ w', C w' → wpListIn F r P l.toArray Q (l.drop n) a' w') (l.take n) a) : wpAnyIn F r P .any l.toArray Q l.toArray.size (Array.replicate l.toArray.size false) a { w with drawn := w.drawn + 1 } := by
  simp only [Region.lexTailB, Bool.and_eq_true, decide_eq_true_eq] at hB
  obtain ⟨⟨⟨⟨hsel, hn⟩, hs⟩, hc⟩, hlex⟩ := hB
  have hn' : n < l.length := by simpa using hn
  have htl : (l.take n).length = n := by simp; omega
  have hdl : (l.drop n).length = l.toArray.size - n := by simp
  have inv0 : HeadInv .any l.toArray n (Array.replicate l.toArray.size false) :=
    ⟨by simp, fun j oj _ hl => (by rw [getD_replicate_false] at hl; cases hl), fun t _ ht => getD_in (by simpa using ht) (getD_replicate_false _ _)⟩
  have H := anyHeadIn_lex (md := .any) (g := l.toArray.size - n) hsel hs hc hn (l.take n) 0 _ a (fun j hj => by
    have hj' : j < n := by rw [htl] at hj; exact hj
    simp [hj']) (by simpa using htl) inv0 (by rw [htl]; exact hlex) h
  have := any_of_anyHeadIn (Q := Q) (hro := hro) (g := l.toArray.size - n) (fun listed a' w' hw' hL => by
    have := wpAnyIn_of_seq (md := .any) (Q' := Q) (l.drop n) n listed a' w' (fun j => by simp [List.getElem?_drop]) (by rw [hdl]; exact hL.1) (hL.2 w' hw')
    rwa [hdl] at this) _ _ _ _ hC H
  rw [htl, show n + (l.toArray.size - n) = l.toArray.size by omega] at this
  exact this


theorem quiet_bw {w : World} {l : List Oper} {Q : Act → World → Prop} {L : List Oper} {a : Act} (h : wpQuietIn F r P l.toArray (fun x => ∃ p : Bw w, x = p.out) (fun a' => ∀ p : Bw w, Q a' p.out) L a) : wpQuietIn F r P l.toArray (fun x => ∃ p : Bw w, x = p.out) (fun a' => ∀ w', (∃ p : Bw w, w' = p.out) → Q a' w') L a := by
  have e : (fun a' => ∀ w', (∃ p : Bw w, w' = p.out) → Q a' w') = fun a' => ∀ p : Bw w, Q a' p.out := by
    funext a'
    exact propext ⟨fun h p => h _ ⟨p, rfl⟩, fun h w' ⟨p, hp⟩ => hp ▸ h p⟩
  rw [e]; exact h
theorem bw_drew (w : World) : ∃ p : Bw w, { w with drawn := w.drawn + 1 } = p.out := ⟨⟨{ w with drawn := w.drawn + 1 }, (Below.refl _ w).drew⟩, rfl⟩

/-- A quiet head, then a tail in its own order, in the class of the worlds that are as w below its size: inside a fence. -/
theorem wpIn_region_bw_tail {id : Nat} {Q : Exit → Act → World → Prop} {a : Act} {w : World} {l : List Oper} (n : Nat) (hro : F.round = none) (hm : P.follows .mixedOrders = true) (hB : Region.lexTailB .any l.toArray n = true)
    (h : wpQuietIn F r P l.toArray (fun x => ∃ p : Bw w, x = p.out) (fun a' => ∀ p : Bw w, wpListIn F r P l.toArray Q (l.drop n) a' p.out) (l.take n) a) : (Code.region id l.toArray true).wpIn F r P Q a w :=
  wpIn_region_any hm (any_head (C := fun x => ∃ p : Bw w, x = p.out) n hro hB (bw_drew w) (quiet_bw h))
/-- The same inside a round. -/
theorem wpIn_region_bw_tail_round {id k : Nat} {Q : Exit → Act → World → Prop} {a : Act} {w : World} {l : List Oper} (n : Nat) (hro : F.round = none) (hm : P.follows .mixedOrders = true) (hB : Region.lexTailB .any l.toArray n = true) (hnd : noDefer l = true)
    (h : wpQuietIn F r P l.toArray (fun x => ∃ p : Bw w, x = p.out) (fun a' => ∀ p : Bw w, wpListIn F r P l.toArray Q (l.drop n) a' p.out) (l.take n) a) : (Code.region id l.toArray true).wpIn (F.inRound k) r P Q a w := by
  refine wpIn_region_draw fun t => ?_
  simp only [Region.schedule, hm, Bool.true_or, if_true]
  exact ops_round k hro (noDefer_at hnd) _ _ _ (wpAnyIn_sound l.toArray.size t _ a _ (any_head (C := fun x => ∃ p : Bw w, x = p.out) n hro hB (bw_drew w) (quiet_bw h)))
theorem Bw.callIn {f : FuncId} {args : Array Value} {w : World} {v : Value} (p : Bw w)
    (h : CallsIn F r P f args p.out fun e w' => e = .returned v ∧ Below p.out.heap.size p.out w') : CallsIn F r P f args p.out fun e w'' => e = .returned v ∧ ∃ q : Bw w, w'' = q.out :=
  h.mono fun _ w'' ⟨he, hb⟩ => ⟨he, ⟨w'', p.below.trans (hb.mono p.below.size)⟩, rfl⟩
theorem Bw.pureIn {f : FuncId} {args : Array Value} {w : World} {v : Value} (p : Bw w)
    (h : CallsIn F r P f args p.out fun e w' => e = .returned v ∧ p.out = w') : CallsIn F r P f args p.out fun e w'' => e = .returned v ∧ ∃ q : Bw w, w'' = q.out :=
  h.mono fun _ _ ⟨he, hb⟩ => ⟨he, p, hb.symm⟩
end
end Go.Proofs.YtnncmaegmlaabaaGreatDoor

namespace Go.Proofs.YtnncmaegmlaabaaGreatDoor
open Go.RowKit Go.Shelf
attribute [local go_sem] Oper.semAt_some
attribute [local go_sem, local simp] wide_fn

theorem wpListIn_make_full {F : Fence} {r : Nat} {P : Program} (w : World) {ops : Array Oper} {rest : List Oper} {o : Oper} {a : Act} {Q : Exit → Act → World → Prop}
    (hg : o.guard = none) (l c : Operand) (t : TypeId) (hop : o.op = Op.makeSlice t l c)
    (base : Nat) (e : TypeId) (i : TypeInfo) (z : Value) (size : Nat) (h1 : P.underlying t = some (.slice e)) (h2 : P.info? e = some i) (h3 : i.zero = some z) (h4 : i.size = size)
    (kl kc : IntKind) (L C : Int) (n : Nat) (hl : a.eval l = .int kl L) (hc : a.eval c = .int kc C) (hL : L = (n : Int)) (hC : C = (n : Int)) (b2 : i.bytes * n ≤ 281474976710656) (b3 : n ≤ maxLen) (b4 : base ≤ w.heap.size)
    (hK : ∀ w', w'.ownsRow base e size (.slice (some ⟨w.heap.size, 0, none⟩) n n) n (madeCells z.cells (n * size)).toList → w.grownBy w' none → wpListIn F r P ops Q rest (a.put o.dst (.slice (some ⟨w.heap.size, 0, none⟩) n n)) w') :
    wpListIn F r P ops Q (o :: rest) a w := by
  refine wpListIn_plain hg fun K hK' => ?_
  obtain ⟨w', hrun, r1, r2⟩ := run_make_full (P := P) w base t e i z size h1 h2 h3 h4 kl kc n b2 b3 b4
  subst hL
  subst hC
  unfold Oper.wpIn
  refine ⟨?_, ?_⟩
  · simp [Oper.about, hop]
  · rw [Oper.semAt_plain F _ _ (by rw [hop]; intro c hc'; cases hc')]
    simp [execOp, hop, hl, hc, hrun, Result.andThen]
    exact hK' _ _ (hK w' r1 r2)

/-- An index of n levels with the bits of a valid level. -/
abbrev LvM (n : Nat) := { x : Nat × Nat // x.1 < max n 1 ∧ levOK x.2 = true }
def fLvM (bs : List Nat) (i : Nat) : LvM bs.length := if h : i < bs.length ∧ levOK (bs[i]?.getD 0) = true then ⟨(i, bs[i]?.getD 0), by simp only; omega, h.2⟩ else ⟨(0, 0), by simp only; omega, lv0⟩
theorem fLvM_at (bs : List Nat) (hok : ∀ j, j < bs.length → levOK (bs.getD j 0) = true) : ∀ i, i < bs.length → (fLvM bs i).1 = (i, bs[i]?.getD 0) := fun i hi => by
  have h : i < bs.length ∧ levOK (bs[i]?.getD 0) = true := ⟨hi, by have := hok i hi; rwa [List.getD_eq_getElem?_getD] at this⟩
  unfold fLvM
  rw [dif_pos h]

def fgt (a b : Nat) : Bool := FloatKind.f32.format.order a b == some .gt
/-- The marks of the levels above one. -/
def abK {n : Nat} (lev : Nat) (pre : List (LvM n)) : List Bool := pre.foldl (fun m x => m.set x.1.1 (fgt x.1.2 lev)) (List.replicate n false)
theorem abK_snoc {n : Nat} (lev : Nat) (pre : List (LvM n)) (x : LvM n) : abK lev (pre ++ [x]) = (abK lev pre).set x.1.1 (fgt x.1.2 lev) := by simp [abK]
theorem abK_go {n : Nat} (lev : Nat) : ∀ (pre : List (LvM n)) (m : List Bool), (pre.foldl (fun m x => m.set x.1.1 (fgt x.1.2 lev)) m).length = m.length
  | [], _ => rfl
  | x :: l, m => by rw [List.foldl_cons, abK_go lev l, List.length_set]
theorem abK_len {n : Nat} (lev : Nat) (pre : List (LvM n)) : (abK lev pre).length = n := by rw [abK, abK_go]; simp

set_option maxRecDepth 1000000 in
set_option maxHeartbeats 8000000 in
theorem above_in (nm : ByteArray) (st : Int) (lev : Nat) (lv gv : Value) (bs : List Nat) (gs : List (Int × Int)) (w : World) (hl : Rd w w.heap.size lv bs.length (flc bs)) (hg : Rd w w.heap.size gv gs.length (spc gs)) (V : Valid nm st bs gs) (hv : levOK lev = true) :
    CallsIn Fence.wide 5 Tryz.prog 38 #[.agg #[.string nm, .int .i64 st, lv, gv], .float .f32 lev] w (fun e w' => ∃ v, e = .returned (.tuple #[v, .int .i64 0]) ∧ w'.ownsRow w.heap.size 63 2 v (strF (abK lev (itm gs (fLvM bs) bs.length)) bs.length).length (spc (strF (abK lev (itm gs (fLvM bs) bs.length)) bs.length)) ∧ Below w.heap.size w w') := by
  obtain ⟨i0, hi, hz0, hz1, hz2⟩ := info_parts boolInfo
  have HL := hd hl
  have HG := hd hg
  have HV := hd V
  have HLV := hd hv
  have hl2 := hl
  have hg2 := hg
  obtain ⟨A1, c1, rfl, hq1, hq2, -⟩ := hl2
  obtain ⟨A2, c2, rfl, -, -, -⟩ := hg2
  have hbn : bs.length ≤ 4096 := V.most
  unfold maxLen at hq2
  clear hl hg V hv
  refine callsIn_of_wp_marks Tryz.func38 rfl trivial ?_ rfl
  simp only [Tryz.ntmps38, List.size_toArray, List.length_cons, List.length_nil, Nat.reduceAdd, Nat.reduceSub, Array.replicate_succ, Array.replicate_zero, List.push_toArray, List.append_toArray, List.nil_append, List.cons_append]
  gi_wp2_with fail
  obtain ⟨W1, hW1⟩ : ∃ W1, W1 = (w.alloc (.cells #[.string nm, .int .i64 st, .slice A1 bs.length c1, .slice A2 gs.length c2] 31)).alloc (.cells #[.float .f32 lev] 65) := ⟨_, rfl⟩
  have hsz : W1.heap.size = w.heap.size + 2 := by rw [hW1]; simp
  have hb0 : Below w.heap.size w W1 := by rw [hW1]; exact ((Below.refl _ w).alloc (Nat.le_refl _) _).alloc (by simp) _
  have HRA := hd (show W1.heap[w.heap.size]? = some (.cells #[.string nm, .int .i64 st, .slice A1 bs.length c1, .slice A2 gs.length c2] 31 (0, 0)) by
    rw [hW1, Below.heap_alloc _ _ _ (by simp)]; exact blk_new _ _ _)
  have HLB := hd (show Boxed W1 (w.heap.size + 1) 65 (.float .f32 lev) by
    have h1 := Boxed.new (w.alloc (.cells #[.string nm, .int .i64 st, .slice A1 bs.length c1, .slice A2 gs.length c2] 31)) 65 (.float .f32 lev)
    simp only [World.size_alloc] at h1
    rw [hW1]; exact h1)
  rw [← hW1]
  clear hW1
  have F0 : ∀ p : Bw W1, p.out.cell? ⟨w.heap.size, 0, none⟩ = some (.string nm) := fun p => p.cell (by omega) (by simpa using blk_cell HRA.out 0)
  have F1 : ∀ p : Bw W1, p.out.cell? ⟨w.heap.size, 1, none⟩ = some (.int .i64 st) := fun p => p.cell (by omega) (by simpa using blk_cell HRA.out 1)
  have F2 : ∀ p : Bw W1, p.out.cell? ⟨w.heap.size, 2, none⟩ = some (.slice A1 bs.length c1) := fun p => p.cell (by omega) (by simpa using blk_cell HRA.out 2)
  have F3 : ∀ p : Bw W1, p.out.cell? ⟨w.heap.size, 3, none⟩ = some (.slice A2 gs.length c2) := fun p => p.cell (by omega) (by simpa using blk_cell HRA.out 3)
  have F4 : ∀ p : Bw W1, p.out.cell? ⟨w.heap.size + 1, 0, none⟩ = some (.float .f32 lev) := fun p => p.cell (by omega) HLB.out.cell
  have HRD := hd (fun (W : World) (hB : Below w.heap.size w W) => And.intro ((HL.out.below hB (Nat.le_refl _)).mono hB.size) ((HG.out.below hB (Nat.le_refl _)).mono hB.size))
  have HPB := hd (fun p : Bw W1 => hb0.trans (p.below.mono hb0.size))
  refine wpIn_region_bw_tail (F := Fence.wide) 4 rfl (by kernel_rfl) (by kernel_rfl) ?_
  simp only [List.take_succ_cons, List.take_zero, List.drop_succ_cons, List.drop_zero]
  repeat (first | gi_big_quiet_step (first | (gi_at_call 41; exact Bw.callIn _ (callsIn_wide.2 (chkRec_ok nm st _ _ bs gs _ (HRD.out _ (HPB.out _)).1 (HRD.out _ (HPB.out _)).2 HV.out))) | (gi_at_call 94; exact Bw.pureIn _ (callsIn_wide.2 (chkLevel_ok _ _ HLV.out)))))
  refine wpQuietIn_nil ?_
  rintro ⟨W2, hB2⟩
  change wpListIn _ _ _ _ _ _ _ W2
  have hz := hd (show fst0 [0, 0] = 0 by simp [fst0])
  have k2 := fun o => cell_alloc_old (o := o) (F2 ⟨W2, hB2⟩)
  have HBY := hd (show i0.bytes * bs.length ≤ 281474976710656 by rw [hz2]; omega)
  have HMX := hd (show bs.length ≤ maxLen by unfold maxLen; omega)
  have hs2 := hB2.size
  have HB2 := hd hB2
  dsimp only at k2
  clear F0 F1 F2 F3 F4 hB2
  gi_wp2_with (first | (gi_at_call 49; refine (callsIn_wide.2 (first2 _ _ _ _)).mono ?_; rintro e w' ⟨rfl, rfl⟩; rw [hz.out]) | (gi_at_make; refine wpListIn_make_full _ rfl (.tmp 21) (.tmp 21) 96 rfl W1.heap.size 4 i0 (.bool false) 1 Tryz.underlying96 hi hz0 hz1 .i64 .i64 (bs.length : Int) (bs.length : Int) bs.length rfl rfl rfl rfl HBY.out HMX.out (by simp; omega) ?_; intro w5 hown5 hgrow5; have hb5 := (HB2.out.alloc hs2 _).grown hgrow5 (by simp; omega) (fun _ h => by cases h); have hRA5 := (hb5.block _ (show w.heap.size < W1.heap.size by omega)).trans HRA.out; have z0 := blk_cell hRA5 0; have z1 := blk_cell hRA5 1; have z2 := blk_cell hRA5 2; have z3 := blk_cell hRA5 3; simp at z0 z1 z2 z3; have y0 := fun o => cell_alloc_old (o := o) z0; have y1 := fun o => cell_alloc_old (o := o) z1; have y2 := fun o => cell_alloc_old (o := o) z2; have y3 := fun o => cell_alloc_old (o := o) z3; have HO5 := hd (And.intro hown5 (And.intro hgrow5 hb5)); clear hown5 hgrow5 hb5 hRA5 z0 z1 z2 z3) | (gi_at_call 79; refine (callsIn_wide.2 (recorded_any _ _ _ _ _)).mono ?_; rintro e w' ⟨rfl, rfl⟩))
  obtain ⟨hown5, hgrow5, hb5⟩ := HO5.out
  have hs5 : W2.heap.size + 1 < w5.heap.size := by have := (hown5.lt _ rfl).2; simpa using this
  obtain ⟨X, hX⟩ : ∃ X, X = W2.heap.size + 1 := ⟨_, rfl⟩
  obtain ⟨RV, hRV⟩ : ∃ RV, RV = Value.slice (some ⟨X, 0, none⟩) bs.length bs.length := ⟨_, rfl⟩
  have hown6 : w5.ownsRow W1.heap.size 4 1 RV bs.length ((abK (n := bs.length) lev []).map Value.bool) := by
    have e : (madeCells (Value.bool false).cells (bs.length * 1)).toList = List.replicate bs.length (Value.bool false) := by
      rw [show (Value.bool false).cells = #[Value.bool false] from rfl, toList_madeCells_one]; simp
    rw [hRV, hX, show abK (n := bs.length) lev [] = List.replicate bs.length false from rfl, List.map_replicate, ← e]; simpa using hown5
  obtain ⟨w6, hw6⟩ : ∃ w6, w6 = w5.alloc (.cells #[RV] 96) := ⟨_, rfl⟩
  obtain ⟨W0, hW0⟩ : ∃ W0, W0 = w6.alloc (.cells #[.string nm, .int .i64 st, .slice A1 bs.length c1, .slice A2 gs.length c2] 31) := ⟨_, rfl⟩
  have hs6 : w6.heap.size = w5.heap.size + 1 := by rw [hw6]; simp
  have hs0 : W0.heap.size = w5.heap.size + 2 := by rw [hW0]; simp; omega
  have hB6 : Below W1.heap.size W1 W0 := by rw [hW0, hw6]; exact (hb5.alloc hb5.size _).alloc (by have := hb5.size; simp; omega) _
  have hrow0 : W0.ownsRow W1.heap.size 4 1 RV bs.length ((abK (n := bs.length) lev []).map Value.bool) := by rw [hW0, hw6]; exact (hown6.alloc _).alloc _
  have hBT : Boxed W0 w5.heap.size 96 RV := by rw [hW0, hw6]; exact (Boxed.new w5 _ _).alloc _
  have hRc : W0.heap[w5.heap.size + 1]? = some (.cells #[.string nm, .int .i64 st, .slice A1 bs.length c1, .slice A2 gs.length c2] 31 (0, 0)) := by
    have h1 := blk_new w6 #[.string nm, .int .i64 st, .slice A1 bs.length c1, .slice A2 gs.length c2] 31
    rw [hs6] at h1
    rw [hW0]; exact h1
  have hLB0 : Boxed W0 (w.heap.size + 1) 65 (.float .f32 lev) := (hB6.block _ (show w.heap.size + 1 < W1.heap.size by omega)).trans HLB.out
  have hB0 : Below w.heap.size w W0 := hb0.trans (hB6.mono hb0.size)
  have hX1 : W1.heap.size ≤ X := by omega
  have hXl : X < w5.heap.size := by omega
  have hgs : gs.length ≤ 100000 := Nat.le_trans (chkSpans_ok gs HV.out.spans).1 (by omega)
  rw [← hX, ← hRV, ← hw6, ← hW0]
  have HRV := hd hRV
  have hXT : X ≠ w5.heap.size := by omega
  clear hown5 hgrow5 hb5 hown6 hw6 hW0 HO5 k2 HBY HMX HB2 hz HPB HRD y0 y1 y2 y3 hs6 hB6 hX hRV
  refine wpIn_rangeFunc_ownG (α := LvM bs.length) rfl (by omega) (gf := 118) (lb := #[.pointer (some ⟨w5.heap.size + 1, 0, none⟩)]) rfl trivial (enters_of Tryz.func118 (by kernel_rfl) rfl)
    (rec_stops (fun x : LvM bs.length => x.1) (fLvM bs) 4 (by omega) (w5.heap.size + 1) w.heap.size X nm st _ _ bs gs (by omega) hgs (asc_of gs HV.out.spans) (fLvM_at bs HV.out.lev) W0 (by omega) (by omega) (by omega) hRc (HL.out.below hB0 (Nat.le_refl _)) (HG.out.below hB0 (Nat.le_refl _)))
    KpR.trans (KpR.putObj (by omega)) (Below.refl _ _) (fun _ => rfl)
    (fun pre W => ((∃ v, Boxed W w5.heap.size 96 v ∧ W.ownsRow W1.heap.size 4 1 v bs.length ((abK lev pre).map Value.bool) ∧ v = RV) ∧ Boxed W (w.heap.size + 1) 65 (.float .f32 lev)) ∧ Below w.heap.size w W)
    (fun _ _ _ => False)
    (OwnFrom.and (OwnFrom.and (Own.from (holdsRow_own W1.heap.size w5.heap.size 96 4 1 (fun _ => bs.length) (fun pre => (abK lev pre).map Value.bool) (fun _ v => v = RV)) _) (Own.from (boxed_own _ _ (fun _ => .float .f32 lev)) _)) (ownFrom_below (Nat.le_refl _) (by omega)))
    (fun _ _ _ _ _ hs _ _ => hs)
    ⟨⟨⟨_, hBT, hrow0, rfl⟩, hLB0⟩, hB0⟩
    (fun x => { tmps := #[.agg #[.string nm, .int .i64 st, .slice A1 bs.length c1, .slice A2 gs.length c2], .float .f32 lev, .pointer (some ⟨w.heap.size, 0, none⟩), .pointer (some ⟨w.heap.size + 1, 0, none⟩), .slice none 0 0, .int .i64 0, .int .i64 0, .pointer (some ⟨w5.heap.size, 0, none⟩), .int .i64 (x.1.1 : Int), .float .f32 x.1.2, .agg #[.string nm, .int .i64 st, .slice A1 bs.length c1, .slice A2 gs.length c2], .int .i64 0, .float .f32 lev, .int .i64 0, .slice (some ⟨W2.heap.size, 0, none⟩) 2 2, .int .i64 0, .int .i64 0, .bool false, undef, .pointer (some ⟨w.heap.size, 2, none⟩), .slice A1 bs.length c1, .int .i64 (bs.length : Int), RV, .agg #[.string nm, .int .i64 st, .slice A1 bs.length c1, .slice A2 gs.length c2], .func (.func 118) #[] #[.pointer (some ⟨w5.heap.size + 1, 0, none⟩)], .int .i64 (x.1.1 : Int), .float .f32 x.1.2, undef, undef, undef, undef, undef, undef, undef, undef], defers := [] }) ?assign ?body ?done ?stop
  case assign =>
    intro l x W K hK
    gi_wp2
    exact hK
  case body =>
    rintro l pre ⟨⟨i, b⟩, hi2⟩ W ⟨⟨⟨v, hv, hrow, hve⟩, hlb⟩, hB⟩ hlt
    have hi3 : i < bs.length := by have := hi2.1; simp only at this; omega
    have hA := abK_snoc lev pre ⟨(i, b), hi2⟩
    have hal := abK_len lev pre
    rw [hve, HRV.out] at hv hrow
    clear hve
    have hc := hv.cell
    have hlc := hlb.cell
    have r1 := hrow.cellAt i (by omega)
    have r2 := hrow.frozenAt i
    rw [show ((abK lev pre).map Value.bool)[i]? = some (.bool ((abK lev pre).getD i false)) by simp [hal, hi3]] at r1
    generalize (abK lev pre).getD i false = y1 at r1
    have hst := hrow.stored i (.bool (fgt b lev))
    have HIN := hd (And.intro hv (And.intro hst (And.intro hlb (And.intro hB hA))))
    clear hv hrow hst hlb hB hA hal
    gi_wp2
    obtain ⟨hv, hst, hlb, hB, hA⟩ := HIN.out
    have hrow2 : (W.setCell ⟨X, i, none⟩ (.bool (fgt b lev))).ownsRow W1.heap.size 4 1 RV bs.length ((abK lev (pre ++ [⟨(i, b), hi2⟩])).map Value.bool) := by rw [hA, List.map_set, HRV.out]; exact hst.1
    rw [hsz] at hrow2
    have hv2 : Boxed (W.setCell ⟨X, i, none⟩ (.bool (fgt b lev))) w5.heap.size 96 RV := by rw [HRV.out]; exact hv.kept (gb_set W X i _) (by simp; omega)
    have hlb2 : Boxed (W.setCell ⟨X, i, none⟩ (.bool (fgt b lev))) (w.heap.size + 1) 65 (.float .f32 lev) := hlb.kept (gb_set W X i _) (by simp; omega)
    have hX0 : w.heap.size ≤ X := by omega
    exact ⟨(KeepsOthers.setCell W _ _).from _, KpR.grown (gb_set W X i _) hB.size (fun k hk => by cases hk; exact ⟨hX0, .inl rfl⟩), ⟨⟨hv2, hrow2⟩, hlb2⟩, hB.setCell (p := ⟨X, i, none⟩) hX0 _⟩
  case done =>
    rintro D ys W hD rfl ⟨⟨⟨v, hv, hrow, hve⟩, -⟩, hB⟩ hK
    rw [hve, HRV.out] at hv hrow
    clear hve v
    have hc := hv.cell
    have hal := abK_len lev (itm gs (fLvM bs) bs.length)
    have HS := hd (stretches_any (.slice (some ⟨X, 0, none⟩) bs.length bs.length) (abK lev (itm gs (fLvM bs) bs.length)) W (by rw [hal]; exact rd_of_own hrow) (by rw [hal]; omega))
    have HAL := hd hal
    have HB := hd hB
    have HK := hd hK
    clear hrow hal hB hK hv
    gi_wp2_with (gi_at_call 95; refine (callsIn_wide.2 HS.out).mono ?_; rintro e w9 ⟨gv, rfl, hog, hb9⟩; have HOG := hd (And.intro hog hb9); clear hog hb9)
    obtain ⟨hog, hb9⟩ := HOG.out
    rw [HAL.out] at hog
    have hK9 := (hb9.block D (blk_lt HK.out)).trans HK.out
    refine ⟨by simp, .inl ⟨_, _, rfl, run_takeDeferred hK9, ?_⟩⟩
    exact ⟨_, results_tmp2 rfl _ _ _, gv, rfl, ownsRow_putObj (own_base hog HB.out.size) _ hK9 rfl, (HB.out.trans (hb9.mono HB.out.size)).trans (belowK_b (w := w) (Nat.le_refl _) w9 D _ _ (by omega) hK9 rfl rfl)⟩
  case stop =>
    rintro D c pre W _ _ h _
    exact h.elim

end Go.Proofs.YtnncmaegmlaabaaGreatDoor

namespace Go.Proofs.YtnncmaegmlaabaaGreatDoor
open Go.RowKit

def flt (a b : Nat) : Bool := FloatKind.f32.format.order a b == some .lt
theorem hi_any (a b : Nat) (w : World) : Calls Tryz.prog 92 #[.float .f32 a, .float .f32 b] w fun e w' => e = .returned (.bool (fgt a b)) ∧ w = w' := by
  go_enter Tryz.func92, Tryz.ntmps92
  go_wp2
  go_ret
  exact ⟨rfl, rfl⟩
theorem lo_any (a b : Nat) (w : World) : Calls Tryz.prog 93 #[.float .f32 a, .float .f32 b] w fun e w' => e = .returned (.bool (flt a b)) ∧ w = w' := by
  go_enter Tryz.func93, Tryz.ntmps93
  go_wp2
  go_ret
  exact ⟨rfl, rfl⟩

/-- A function that compares two levels. -/
structure Beats (g : Nat) (bt : Nat → Nat → Bool) : Prop where
  enter : ∀ (args : Array Value) (w : World), (callFunc g args).run Tryz.prog w = .ok (.enter g args) w
  any : ∀ (a b : Nat) (w : World), Calls Tryz.prog g #[.float .f32 a, .float .f32 b] w fun e w' => e = .returned (.bool (bt a b)) ∧ w = w'
theorem beats_hi : Beats 92 fgt := ⟨fun args w => by kernel_rfl, hi_any⟩
theorem beats_lo : Beats 93 flt := ⟨fun args w => by kernel_rfl, lo_any⟩

set_option maxRecDepth 100000 in
theorem clo1_any (g : Nat) (bt : Nat → Nat → Bool) (h : Beats g bt) (lev x tB tL : Nat) (w : World) (hB : w.cell? ⟨tB, 0, none⟩ = some (.func (.func g) #[] #[])) (hL : w.cell? ⟨tL, 0, none⟩ = some (.float .f32 lev)) :
    Calls Tryz.prog 123 #[.float .f32 x, .pointer (some ⟨tB, 0, none⟩), .pointer (some ⟨tL, 0, none⟩)] w fun e w' => e = .returned (.bool (bt lev x)) ∧ w = w' := by
  have he := h.enter
  have HA := hd h.any
  clear h
  go_enter Tryz.func123, Tryz.ntmps123
  go_wp2_with fail
  refine (HA.out _ _ _).mono ?_
  rintro e w' ⟨rfl, rfl⟩
  go_wp2
  go_ret
  exact ⟨rfl, rfl⟩
set_option maxRecDepth 100000 in
theorem clo2_any (g : Nat) (bt : Nat → Nat → Bool) (h : Beats g bt) (lev x tB tL : Nat) (w : World) (hB : w.cell? ⟨tB, 0, none⟩ = some (.func (.func g) #[] #[])) (hL : w.cell? ⟨tL, 0, none⟩ = some (.float .f32 lev)) :
    Calls Tryz.prog 124 #[.float .f32 x, .pointer (some ⟨tB, 0, none⟩), .pointer (some ⟨tL, 0, none⟩)] w fun e w' => e = .returned (.bool (!bt x lev)) ∧ w = w' := by
  have he := h.enter
  have HA := hd h.any
  clear h
  go_enter Tryz.func124, Tryz.ntmps124
  go_wp2_with fail
  refine (HA.out _ _ _).mono ?_
  rintro e w' ⟨rfl, rfl⟩
  go_wp2
  go_ret
  exact ⟨rfl, rfl⟩

def leadAt (ms : List Bool) (bs : List Nat) (sh : Nat → Bool) (i : Nat) : Bool := !ms.getD i false || sh (bs.getD i 0)
def leadF (ms : List Bool) (bs : List Nat) (sh : Nat → Bool) (f t : Nat) : Bool := (List.range t).all fun i => decide (i < f) || leadAt ms bs sh i
theorem leadF_yes (ms : List Bool) (bs : List Nat) (sh : Nat → Bool) (f t : Nat) (h : ∀ j, f ≤ j → j < t → leadAt ms bs sh j = true) : leadF ms bs sh f t = true := by
  unfold leadF
  rw [List.all_eq_true]
  intro i hi
  have hi2 : i < t := by simpa using hi
  rcases Nat.lt_or_ge i f with h1 | h1
  · simp [h1]
  · rw [h i h1 hi2]; simp
theorem leadF_no (ms : List Bool) (bs : List Nat) (sh : Nat → Bool) (f t k : Nat) (h1 : f ≤ k) (h2 : k < t) (h : leadAt ms bs sh k = false) : leadF ms bs sh f t = false := by
  unfold leadF
  rw [List.all_eq_false]
  exact ⟨k, by simpa using h2, by rw [h]; simp; omega⟩

set_option maxRecDepth 1000000 in
set_option maxHeartbeats 2000000 in
theorem leads_any (c : Nat) (sh : Nat → Bool) (tB tL : Nat) (nm : ByteArray) (st : Int) (lv gv mv : Value) (bs : List Nat) (n2 : Nat) (xs2 : List Value) (ms : List Bool) (f t : Nat) (w : World)
    (hent : ∀ (args : Array Value) (w : World), (callFunc c args).run Tryz.prog w = .ok (.enter c args) w)
    (hc : ∀ (x : Nat) (W : World), Below w.heap.size w W → Calls Tryz.prog c #[.float .f32 x, .pointer (some ⟨tB, 0, none⟩), .pointer (some ⟨tL, 0, none⟩)] W fun e w' => e = .returned (.bool (sh x)) ∧ W = w')
    (hl : Rd w w.heap.size lv bs.length (flc bs)) (hg : Rd w w.heap.size gv n2 xs2) (hm : Rd w w.heap.size mv ms.length (ms.map Value.bool)) (he : ms.length = bs.length) (hft : f ≤ t) (ht : t ≤ bs.length) :
    Calls Tryz.prog 122 #[.agg #[.string nm, .int .i64 st, lv, gv], mv, .int .i64 f, .int .i64 t, .func (.func c) #[] #[.pointer (some ⟨tB, 0, none⟩), .pointer (some ⟨tL, 0, none⟩)]] w fun e w' => e = .returned (.bool (leadF ms bs sh f t)) ∧ Below w.heap.size w w' := by
  have HL := hd hl
  have HM := hd hm
  have hl2 := hl
  have hm2 := hm
  obtain ⟨A1, c1, rfl, hq1, hq2, -⟩ := hl2
  obtain ⟨A2, c2, rfl, -, -, -⟩ := hg
  obtain ⟨A3, c3, rfl, hq3, hq4, -⟩ := hm2
  have HE := hd he
  have HCL := hd hc
  unfold maxLen at hq2 hq4
  clear hl hm hc he
  go_enter Tryz.func122, Tryz.ntmps122
  go_wp2
  obtain ⟨W1, hW1⟩ : ∃ W1, W1 = w.alloc (.cells #[.string nm, .int .i64 st, .slice A1 bs.length c1, .slice A2 n2 c2] 31) := ⟨_, rfl⟩
  have hb1 : Below w.heap.size w W1 := by rw [hW1]; exact (Below.refl _ w).alloc (Nat.le_refl _) _
  have x2 : W1.cell? ⟨w.heap.size, 2, none⟩ = some (.slice A1 bs.length c1) := by
    rw [hW1]; have := blk_cell (blk_new w #[.string nm, .int .i64 st, .slice A1 bs.length c1, .slice A2 n2 c2] 31) 2; simp only [List.getElem?_toArray, List.getElem?_cons_succ, List.getElem?_cons_zero] at this; exact this
  have HL1 := hd (HL.out.below hb1 (Nat.le_refl _))
  have HM1 := hd (HM.out.below hb1 (Nat.le_refl _))
  have HB1 := hd hb1
  rw [← hW1]
  clear hW1 hb1 HL HM
  go_loop [11] (fun i => ∃ k : Nat, f ≤ k ∧ k ≤ t ∧ i = .int .i64 k ∧ Hid (∀ j, f ≤ j → j < k → leadAt ms bs sh j = true)) (fun i => t - (intOf i).toNat)
  case atStart => exact ⟨f, Nat.le_refl _, hft, rfl, hd (fun j h1 h2 => absurd h2 (by omega))⟩
  case round =>
    obtain ⟨k, hk1, hk2, rfl, HZ⟩ := hrel
    by_cases hlt : k < t
    · obtain ⟨A', c', e1, -, -, hcm⟩ := HL1.out
      cases e1
      obtain ⟨b, off, rfl, _, hcell⟩ := hcm (by omega)
      obtain ⟨A'', c'', e2, -, -, hcm2⟩ := HM1.out
      cases e2
      obtain ⟨b2, off2, rfl, _, hcell2⟩ := hcm2 (by have := HE.out; omega)
      have hx : W1.cell? ⟨b, off + k, none⟩ = some (.float .f32 (bs.getD k 0)) := by rw [hcell k (by simp [flc]; omega)]; simp [flc, show k < bs.length by omega]
      have hy : W1.cell? ⟨b2, off2 + k, none⟩ = some (.bool (ms.getD k false)) := by rw [hcell2 k (by have := HE.out; simp; omega)]; simp [show k < ms.length by have := HE.out; omega]
      have HAT := hd (show leadAt ms bs sh k = (!ms.getD k false || sh (bs.getD k 0)) from rfl)
      have hkb : k < bs.length := by omega
      have hkm : k < ms.length := by have := HE.out; omega
      clear hcell hcell2 hcm hcm2
      generalize bs.getD k 0 = x at hx HAT
      cases hmk : ms.getD k false
      · rw [hmk] at hy HAT
        clear hmk
        go_wp2
        go_round
        case rel => exact ⟨k + 1, by omega, by omega, by go_num, hd (fun j h1 h2 => if e : j = k then by rw [e, HAT.out]; rfl else HZ.out j h1 (by omega))⟩
        case measure => simp [intOf]; omega
      · rw [hmk] at hy HAT
        clear hmk
        cases hs : sh x
        · have HS := hd hs
          clear hs
          go_wp2_with fail
          refine (HCL.out x W1 HB1.out).mono ?_
          rintro e w' ⟨rfl, rfl⟩
          rw [HS.out]
          go_wp2
          go_ret
          exact ⟨by rw [leadF_no ms bs sh f t k hk1 hlt (by rw [HAT.out, HS.out]; rfl)]; rfl, HB1.out⟩
        · have HS := hd hs
          clear hs
          go_wp2_with fail
          refine (HCL.out x W1 HB1.out).mono ?_
          rintro e w' ⟨rfl, rfl⟩
          rw [HS.out]
          go_wp2
          go_round
          case rel => exact ⟨k + 1, by omega, by omega, by go_num, hd (fun j h1 h2 => if e : j = k then by rw [e, HAT.out, HS.out]; rfl else HZ.out j h1 (by omega))⟩
          case measure => simp [intOf]; omega
    · go_wp2
      go_ret
      exact ⟨by rw [leadF_yes ms bs sh f t (fun j h1 h2 => HZ.out j h1 (by omega))]; rfl, HB1.out⟩

end Go.Proofs.YtnncmaegmlaabaaGreatDoor
