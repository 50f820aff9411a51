/-
  Plain words on memory, without the program: a slice that reads as a list of cells; small laws on worlds. No condition.
  Plain words on regions that draw their order: a head that is quiet in a class of worlds (here: all worlds that are as w below its size), then a tail in one forced order. No condition.
  Contracts of package checks: First, Unless, Range, Most. No condition but that the arguments are read.
  Contracts of gauge: CheckSpan, CheckSpans. No condition but that the arguments are read.
  Contracts of gauge: extend, common, stretches. Conditions: the list is the call's own, and not longer than 100000.
  Contracts of gauge: stretches, common. Conditions: at most 100000 marks.
-/
import Derived.Test.YtkgkpcmokmhakaaGreatDoorProg
import Derived.WalkKit
import Derived.Handy
import Derived.StillTail
import Derived.BigQuiet
import Derived.Deep.QuietTactic
import Derived.Deep.RegionWith
import Derived.Deep.Cut
import Derived.Outline
import Derived.Deep.DeepCutAuto

namespace Go.Proofs.YtkgkpcmokmhakaaGreatDoor
open Go.RowKit

/-- A fact kept from the walk. -/
theorem hd {p : Prop} (h : p) : Hid p := h

/-- The slice value 'sl' has n elements, whose cells (one behind the other) are xs; it lies below block B. -/
def Rd (w : World) (B : Nat) (sl : Value) (n : Nat) (xs : List Value) : Prop :=
  ∃ (A : Option Addr) (c : Nat), sl = .slice A n c ∧ n ≤ c ∧ c ≤ maxLen ∧
    (0 < n → ∃ b off : Nat, A = some ⟨b, off, none⟩ ∧ b < B ∧ ∀ j, j < xs.length → w.cell? ⟨b, off + j, none⟩ = xs[j]?)

theorem Rd.nil (w : World) (B : Nat) : Rd w B (.slice none 0 0) 0 [] := ⟨none, 0, rfl, Nat.le_refl _, Nat.zero_le _, fun h => absurd h (by omega)⟩

theorem Rd.keep {w w' : World} {B n : Nat} {sl : Value} {xs : List Value} (h : Rd w B sl n xs) (hk : ∀ b o, b < B → w'.cell? ⟨b, o, none⟩ = w.cell? ⟨b, o, none⟩) : Rd w' B sl n xs := by
  obtain ⟨A, c, h1, h2, h3, h4⟩ := h
  refine ⟨A, c, h1, h2, h3, fun hn => ?_⟩
  obtain ⟨b, off, e, hb, hc⟩ := h4 hn
  exact ⟨b, off, e, hb, fun j hj => (hk b _ hb).trans (hc j hj)⟩

theorem Rd.below {w w' : World} {B B' n : Nat} {sl : Value} {xs : List Value} (h : Rd w B sl n xs) (hb : Below B' w w') (hB : B ≤ B') : Rd w' B sl n xs :=
  h.keep fun b o hlt => hb.cell (p := ⟨b, o, none⟩) (Nat.lt_of_lt_of_le hlt hB)

theorem Rd.mono {w : World} {B B' n : Nat} {sl : Value} {xs : List Value} (h : Rd w B sl n xs) (hB : B ≤ B') : Rd w B' sl n xs := by
  obtain ⟨A, c, h1, h2, h3, h4⟩ := h
  refine ⟨A, c, h1, h2, h3, fun hn => ?_⟩
  obtain ⟨b, off, e, hb, hc⟩ := h4 hn
  exact ⟨b, off, e, by omega, hc⟩

/-- A slice over a new block, all of it. -/
theorem Rd.new (w : World) (cs : Array Value) (t : TypeId) (n : Nat) (xs : List Value) (hx : cs.toList = xs) (hm : n ≤ maxLen) : Rd (w.alloc (.cells cs t)) (w.alloc (.cells cs t)).heap.size (.slice (some ⟨w.heap.size, 0, none⟩) n n) n xs := by
  subst hx
  refine ⟨_, _, rfl, Nat.le_refl _, hm, fun _ => ⟨_, _, rfl, by simp, fun j hj => ?_⟩⟩
  rw [Nat.zero_add, World.cell?_alloc_new]
  simp

@[go_sem] theorem run_store_float {P : Program} {w : World} {a : Addr} {m : Mode} (k : FloatKind) (b : Nat) : (store a (.float k b) m).run P w = stored P w a (.float k b) m := run_store P w a _ m rfl

end Go.Proofs.YtkgkpcmokmhakaaGreatDoor

namespace Go.Proofs.YtkgkpcmokmhakaaGreatDoor
open Go Go.RowKit

/-- A world that below w's size is as w. -/
structure Bw (w : World) where
  out : World
  below : Below w.heap.size w out

instance (w : World) : Inhabited (Bw w) := ⟨⟨w, Below.refl _ _⟩⟩
theorem Bw.cell {w : World} (p : Bw w) {b o : Nat} {v : Value} (hb : b < w.heap.size) (h : w.cell? ⟨b, o, none⟩ = some v) : p.out.cell? ⟨b, o, none⟩ = some v :=
  (p.below.cell (p := ⟨b, o, none⟩) hb).trans h
theorem Bw.call {P : Program} {f : FuncId} {args : Array Value} {w : World} {v : Value} (p : Bw w)
    (h : Calls P f args p.out fun e w' => e = .returned v ∧ Below p.out.heap.size p.out w') : Calls P f args p.out fun e w'' => e = .returned v ∧ ∃ q : Bw w, w'' = q.out :=
  h.mono fun _ w'' ⟨he, hb⟩ => ⟨he, ⟨w'', p.below.trans (hb.mono p.below.size)⟩, rfl⟩
theorem Bw.pure {P : Program} {f : FuncId} {args : Array Value} {w : World} {v : Value} (p : Bw w)
    (h : Calls P f args p.out fun e w' => e = .returned v ∧ p.out = w') : Calls P f args p.out fun e w'' => e = .returned v ∧ ∃ q : Bw w, w'' = q.out :=
  h.mono fun _ _ ⟨he, hb⟩ => ⟨he, p, hb.symm⟩

section
variable {P : Program} {ops : Array Oper} {md : Region.Mode} {C : World → Prop}

/-- Whatever order is picked of the first n operations, at whose end L holds. -/
def anyHead (P : Program) (md : Region.Mode) (ops : Array Oper) (C : World → Prop) (n : Nat) (L : Array Bool → Act → Prop) : Nat → Array Bool → Act → Prop
  | 0, listed, a => L listed a
  | f + 1, listed, a => Region.ready md ops listed ≠ [] ∧ ∀ i ∈ Region.ready md ops listed, i < n ∧ qOp P ops C i (anyHead P md ops C n L f (listed.setIfInBounds i true)) a

theorem any_of_anyHead {n g : Nat} {L : Array Bool → Act → Prop} {Q : Exit → Act → World → Prop} (hL : ∀ listed a w, C w → L listed a → wpAny P md ops Q g listed a w) :
    ∀ (f : Nat) (listed : Array Bool) (a : Act) (w : World), C w → anyHead P md ops C n L f listed a → wpAny P md ops Q (f + g) listed a w
  | 0, _, _, _, hw, h => by rw [Nat.zero_add]; exact hL _ _ _ hw h
  | f + 1, _, _, _, hw, h => by
    rw [show f + 1 + g = (f + g) + 1 by omega]
    exact ⟨fun h0 => absurd h0 h.1, fun i hi => wpOp_of_qOp hw (fun a' w' hw' h' => any_of_anyHead hL f _ a' w' hw' h') (h.2 i hi).2⟩

theorem anyHead_first {n i : Nat} {oi : Oper} {v : Value} {L : Array Bool → Act → Prop} (hi : ops[i]? = some oi) (hsel : ∀ (j : Nat) (o : Oper) cs b, ops[j]? = some o → o.op ≠ .select cs b)
    (hs : Region.sinkB md ops n = true) (hc : Region.chainB md ops n = true) (hn : n < ops.size) (hin : i < n)
    (hdone : ∀ listed a, L listed a → ∀ j ∈ Region.ready md ops listed, n ≤ j) :
    ∀ (f : Nat) (listed : Array Bool) (a : Act), HeadInv md ops n listed →
      (∀ j oj, ops[j]? = some oj → j ≠ i → listed.getD j true = false → (∀ e ∈ oj.after, Region.binds md e = true → e.on ≠ i) → oi.apart ops oj = true) →
      i ∈ Region.ready md ops listed → YieldsIn P ops C oi v a →
      anyHead P md ops C n L f (listed.setIfInBounds i true) (a.put oi.dst v) → anyHead P md ops C n L (f + 1) listed a := by
  intro f
  induction f with
  | zero =>
    intro listed a inv _ hr hy H
    have hun := (mem_ready.1 hr).1
    refine ⟨fun h => (by rw [h] at hr; cases hr), fun j hj => ?_⟩
    have hjn : j < n := by
      rcases Nat.lt_or_ge j n with h | h
      · exact h
      · exact absurd hj (tail_waits hs hc hn inv _ i rfl hin hun j h)
    refine ⟨hjn, ?_⟩
    by_cases hji : j = i
    · subst hji; exact hy.qOp hi H
    · have := hdone _ _ H j (ready_mono hj hji)
      omega
  | succ f ih =>
    intro listed a inv hfree hr hy H
    have hun := (mem_ready.1 hr).1
    refine ⟨fun h => (by rw [h] at hr; cases hr), fun j hj => ?_⟩
    have hjn : j < n := by
      rcases Nat.lt_or_ge j n with h | h
      · exact h
      · exact absurd hj (tail_waits hs hc hn inv _ i rfl hin hun j h)
    refine ⟨hjn, ?_⟩
    by_cases hji : j = i
    · subst hji; exact hy.qOp hi H
    · have h1 := (H.2 j (ready_mono hj hji)).2
      obtain ⟨hjun, oj, hoj, hall⟩ := mem_ready.1 hj
      have hnot : ∀ e ∈ oj.after, Region.binds md e = true → e.on ≠ i := fun e he hb heq => by
        have h1 := hall e he hb
        rw [heq, getD_both hun] at h1
        cases h1
      have h2 := qOp_put hoj (hfree j oj hoj hji hjun hnot) (fun cs b => hsel i oi cs b hi) (fun cs b => hsel j oj cs b hoj) hy h1
      have hfree' : ∀ k ok, ops[k]? = some ok → k ≠ i → (listed.setIfInBounds j true).getD k true = false →
          (∀ e ∈ ok.after, Region.binds md e = true → e.on ≠ i) → oi.apart ops ok = true := fun k ok hk hki hun hno => by
        refine hfree k ok hk hki ?_ hno
        by_cases hjk : j = k
        · subst hjk; exact hjun
        · rw [getD_set_ne true hjk] at hun; exact hun
      refine qOp_mono (fun a' h3 => ih (listed.setIfInBounds j true) a' (inv.set hj hjn) hfree' (ready_mono hr (Ne.symm hji)) h3.1 ?_) h2
      rw [Array.setIfInBounds_comm _ _ hji]
      exact h3.2

theorem anyHead_lex {n g : Nat} {Lq : Act → Prop} (hsel : Region.noSelect ops = true) (hs : Region.sinkB md ops n = true) (hc : Region.chainB md ops n = true) (hn : n < ops.size) :
    ∀ (l : List Oper) (k : Nat) (listed : Array Bool) (a : Act), (∀ j, j < l.length → l[j]? = ops[k + j]?) → k + l.length = n → HeadInv md ops n listed →
    Region.lexHead md ops g l.length k listed = true → wpQuiet P ops C Lq l a →
    anyHead P md ops C n (fun listed' a' => Region.seqB md ops g n listed' = true ∧ Lq a') l.length listed a
  | [], k, listed, a, _, hk, _, hB, h => by
    have : k = n := by simpa using hk
    subst this
    exact ⟨by simpa [Region.lexHead] using hB, h⟩
  | o :: l, k, listed, a, hl, hk, inv, hB, h => by
    have h0 : ops[k]? = some o := by simpa using (hl 0 (by simp)).symm
    simp only [List.length_cons, Region.lexHead, Bool.and_eq_true] at hB
    obtain ⟨⟨hr, hf⟩, hB'⟩ := hB
    have hkn : k < n := by simp only [List.length_cons] at hk; omega
    have hr' : k ∈ Region.ready md ops listed := by simpa using hr
    have hst : qOp P ops C k (wpQuiet P ops C Lq l) a := by unfold qOp; simp only [h0]; exact h
    obtain ⟨v, hy, hK⟩ := yieldsIn_of_qOp h0 hst
    exact anyHead_first h0 (Region.noSelect_spec hsel) hs hc hn hkn (fun listed' a' hL => seqB_ready hL.1) l.length listed a inv (Region.free_spec h0 hf) hr' hy
      (anyHead_lex hsel hs hc hn l (k + 1) _ _ (fun j hj => by have := hl (j + 1) (by simp; omega); simpa [Nat.add_assoc, Nat.add_comm 1 j] using this) (by simp only [List.length_cons] at hk; omega) (inv.set hr' hkn) hB' hK)

/-- A region whose first n operations are quiet in the class C, and whose others come in their own order behind them. -/
theorem wp_region_head {id : Nat} {Q : Exit → Act → World → Prop} {a : Act} {w : World} {l : List Oper} (n : Nat) (hm : P.follows .mixedOrders = true) (hB : Region.lexTailB .any l.toArray n = true)
    (hC : C { w with drawn := w.drawn + 1 })
    (h : wpQuiet P l.toArray C (fun a' => ∀ w', C w' → wpList P l.toArray Q (l.drop n) a' w') (l.take n) a) : (Code.region id l.toArray true).wp P Q a w := by
  simp only [Region.lexTailB, Bool.and_eq_true, decide_eq_true_eq] at hB
  obtain ⟨⟨⟨⟨hsel, hn⟩, hs⟩, hc⟩, hlex⟩ := hB
  have hn' : n < l.length := by simpa using hn
  have htl : (l.take n).length = n := by simp; omega
  have hdl : (l.drop n).length = l.toArray.size - n := by simp
  have inv0 : HeadInv .any l.toArray n (Array.replicate l.toArray.size false) :=
    ⟨by simp, fun j oj _ hl => (by rw [getD_replicate_false] at hl; cases hl), fun t _ ht => getD_in (by simpa using ht) (getD_replicate_false _ _)⟩
  have H := anyHead_lex (md := .any) (g := l.toArray.size - n) hsel hs hc hn (l.take n) 0 _ a (fun j hj => by
    have hj' : j < n := by rw [htl] at hj; exact hj
    simp [hj']) (by simpa using htl) inv0 (by rw [htl]; exact hlex) h
  refine wp_region_any hm ?_
  have := any_of_anyHead (Q := Q) (g := l.toArray.size - n) (fun listed a' w' hw' hL => by
    have := wpAny_of_seq (md := .any) (Q' := Q) (l.drop n) n listed a' w' (fun j => by simp [List.getElem?_drop]) (by rw [hdl]; exact hL.1) (hL.2 w' hw')
    rwa [hdl] at this) _ _ _ _ hC H
  rw [htl, show n + (l.toArray.size - n) = l.toArray.size by omega] at this
  exact this

/-- The same at the class of the worlds that are as w below its size: behind it p.out, p such a world. -/
theorem wp_region_bw_tail {id : Nat} {Q : Exit → Act → World → Prop} {a : Act} {w : World} {l : List Oper} (n : Nat) (hm : P.follows .mixedOrders = true) (hB : Region.lexTailB .any l.toArray n = true)
    (h : wpQuiet P l.toArray (fun x => ∃ p : Bw w, x = p.out) (fun a' => ∀ p : Bw w, wpList P l.toArray Q (l.drop n) a' p.out) (l.take n) a) : (Code.region id l.toArray true).wp P Q a w := by
  have e : (fun a' => ∀ w', (∃ p : Bw w, w' = p.out) → wpList P l.toArray Q (l.drop n) a' w') = fun a' => ∀ p : Bw w, wpList P l.toArray Q (l.drop n) a' p.out := by
    funext a'
    exact propext ⟨fun h p => h _ ⟨p, rfl⟩, fun h w' ⟨p, hp⟩ => hp ▸ h p⟩
  exact wp_region_head (C := fun x => ∃ p : Bw w, x = p.out) n hm hB ⟨⟨{ w with drawn := w.drawn + 1 }, (Below.refl _ w).drew⟩, rfl⟩ (by rw [e]; exact h)

/-- All operations quiet in that class. -/
theorem wp_region_bw {id : Nat} {Q : Exit → Act → World → Prop} {a : Act} {w : World} {l : List Oper} (hm : P.follows .mixedOrders = true) (hB : Region.lexB .any l.toArray = true)
    (h : wpQuiet P l.toArray (fun x => ∃ p : Bw w, x = p.out) (fun a' => ∀ p : Bw w, Q .normal a' p.out) l a) : (Code.region id l.toArray true).wp P Q a w := by
  refine wp_region_quiet (C := fun x => ∃ p : Bw w, x = p.out) hm hB ⟨⟨{ w with drawn := w.drawn + 1 }, (Below.refl _ w).drew⟩, rfl⟩ ?_
  have e : (fun a' => ∀ w', (∃ p : Bw w, w' = p.out) → Q .normal a' w') = fun a' => ∀ p : Bw w, Q .normal a' p.out := by
    funext a'
    exact propext ⟨fun h p => h _ ⟨p, rfl⟩, fun h w' ⟨p, hp⟩ => hp ▸ h p⟩
  rw [e]
  simpa using h
end
end Go.Proofs.YtkgkpcmokmhakaaGreatDoor

namespace Go.Proofs.YtkgkpcmokmhakaaGreatDoor
open Go.RowKit

def unl (b : Bool) (e : Int) : Int := if b then 0 else e
theorem unl_any (b : Bool) (e : Int) (w : World) : Calls Tryz.prog 40 #[.bool b, .int .i64 e] w fun x w' => x = .returned (.int .i64 (unl b e)) ∧ w = w' := by
  cases b
  · go_enter Tryz.func40, Tryz.ntmps40
    go_wp2
    go_ret
    exact ⟨rfl, rfl⟩
  · go_enter Tryz.func40, Tryz.ntmps40
    go_wp2
    go_ret
    exact ⟨rfl, rfl⟩

def rng (x lo hi : Int) : Int := if lo ≤ x ∧ x ≤ hi then 0 else 3
theorem rng_any (x lo hi : Int) (w : World) : Calls Tryz.prog 59 #[.int .i64 x, .int .i64 lo, .int .i64 hi] w fun e w' => e = .returned (.int .i64 (rng x lo hi)) ∧ w = w' := by
  by_cases h1 : lo ≤ x
  · by_cases h2 : x ≤ hi
    · have e : rng x lo hi = 0 := by simp [rng, h1, h2]
      have E : Hid (rng x lo hi = 0) := e
      clear e
      go_enter Tryz.func59, Tryz.ntmps59
      go_wp2_with (go_at_call 40; refine (unl_any _ _ _).mono ?_; rintro e w' ⟨rfl, rfl⟩)
      go_ret
      exact ⟨by rw [E.out]; simp [unl], rfl⟩
    · have E : Hid (rng x lo hi = 3) := by unfold Hid; simp [rng, h2]
      go_enter Tryz.func59, Tryz.ntmps59
      go_wp2_with (go_at_call 40; refine (unl_any _ _ _).mono ?_; rintro e w' ⟨rfl, rfl⟩)
      go_ret
      exact ⟨by rw [E.out]; simp [unl], rfl⟩
  · have E : Hid (rng x lo hi = 3) := by unfold Hid; simp [rng, h1]
    go_enter Tryz.func59, Tryz.ntmps59
    go_wp2_with (go_at_call 40; refine (unl_any _ _ _).mono ?_; rintro e w' ⟨rfl, rfl⟩)
    go_ret
    exact ⟨by rw [E.out]; simp [unl], rfl⟩

def most (n m : Int) : Int := if n ≤ m then 0 else 5
theorem most_any (n m : Int) (w : World) : Calls Tryz.prog 47 #[.int .i64 n, .int .i64 m] w fun e w' => e = .returned (.int .i64 (most n m)) ∧ w = w' := by
  by_cases h1 : n ≤ m
  · have E : Hid (most n m = 0) := by unfold Hid; simp [most, h1]
    go_enter Tryz.func47, Tryz.ntmps47
    go_wp2_with (go_at_call 40; refine (unl_any _ _ _).mono ?_; rintro e w' ⟨rfl, rfl⟩)
    go_ret
    exact ⟨by rw [E.out]; simp [unl], rfl⟩
  · have E : Hid (most n m = 5) := by unfold Hid; simp [most, h1]
    go_enter Tryz.func47, Tryz.ntmps47
    go_wp2_with (go_at_call 40; refine (unl_any _ _ _).mono ?_; rintro e w' ⟨rfl, rfl⟩)
    go_ret
    exact ⟨by rw [E.out]; simp [unl], rfl⟩

/-- The first number that is not 0, or 0. -/
def fst0 : List Int → Int
  | [] => 0
  | x :: l => if x = 0 then fst0 l else x
theorem fst0_skip (l : List Int) (k : Nat) (h : ∀ j, j < k → l.getD j 0 = 0) : fst0 l = fst0 (l.drop k) := by
  induction k generalizing l with
  | zero => rfl
  | succ k ih =>
    cases l with
    | nil => rfl
    | cons x l =>
      have h0 : x = 0 := by simpa using h 0 (by omega)
      rw [fst0, if_pos h0, List.drop_succ_cons]
      exact ih l fun j hj => by simpa using h (j + 1) (by omega)
theorem fst0_at (l : List Int) (k : Nat) (hk : k < l.length) (h : ∀ j, j < k → l.getD j 0 = 0) (hx : l.getD k 0 ≠ 0) : fst0 l = l.getD k 0 := by
  rw [fst0_skip l k h, List.drop_eq_getElem_cons hk, fst0, if_neg]
  · simp [hk]
  · simpa [hk] using hx
theorem fst0_none (l : List Int) (h : ∀ j, j < l.length → l.getD j 0 = 0) : fst0 l = 0 := by
  rw [fst0_skip l l.length h, List.drop_length, fst0]

set_option maxHeartbeats 400000 in
theorem first_any (sl : Value) (l : List Int) (w : World) (h : Rd w w.heap.size sl l.length (l.map (Value.int .i64))) :
    Calls Tryz.prog 39 #[sl] w fun e w' => e = .returned (.int .i64 (fst0 l)) ∧ w = w' := by
  obtain ⟨A, c, rfl, hc1, hc2, hc⟩ := h
  unfold maxLen at hc2
  have HC := hd hc
  clear hc
  go_enter Tryz.func39, Tryz.ntmps39
  go_wp2
  go_loop [4, 7] (fun _ i => ∃ k : Nat, k ≤ l.length ∧ i = .int .i64 k ∧ ∀ j, j < k → l.getD j 0 = 0) (fun _ i => l.length - (intOf i).toNat)
  case atStart => exact ⟨0, Nat.zero_le _, rfl, fun j hj => absurd hj (by omega)⟩
  case round =>
    obtain ⟨k, hk, rfl, hz⟩ := hrel
    have HZ := hd hz
    clear hz
    by_cases hlt : k < l.length
    · obtain ⟨b, off, rfl, _, hcell⟩ := HC.out (by omega)
      have hx : w.cell? ⟨b, off + k, none⟩ = some (.int .i64 (l.getD k 0)) := by rw [hcell k (by simpa using hlt)]; simp [hlt]
      clear hcell
      obtain ⟨x, hxx⟩ : ∃ x, l.getD k 0 = x := ⟨_, rfl⟩
      rw [hxx] at hx
      have HX := hd hxx
      clear hxx
      by_cases h0 : x = 0
      · subst h0
        go_wp2
        go_round
        case rel => exact ⟨k + 1, by omega, by go_num, fun j hj => if e : j = k then by rw [e]; exact HX.out else HZ.out j (by omega)⟩
        case measure => simp [intOf]; omega
      · have hb : (x != 0) = true := by simpa using h0
        go_wp2
        go_ret
        exact ⟨by rw [fst0_at l k hlt HZ.out (by rw [HX.out]; exact h0), HX.out]; rfl, rfl⟩
    · go_wp2
      go_ret
      have hke : k = l.length := by omega
      exact ⟨by rw [fst0_none l (fun j hj => HZ.out j (by omega))]; rfl, rfl⟩

theorem first2 (x0 x1 : Int) (T : TypeId) (w : World) : Calls Tryz.prog 39 #[.slice (some ⟨w.heap.size, 0, none⟩) 2 2] (w.alloc (.cells #[.int .i64 x0, .int .i64 x1] T)) fun e w' => e = .returned (.int .i64 (fst0 [x0, x1])) ∧ (w.alloc (.cells #[.int .i64 x0, .int .i64 x1] T)) = w' :=
  first_any _ [x0, x1] _ (Rd.new w #[.int .i64 x0, .int .i64 x1] T 2 _ rfl (by decide))

theorem first3 (x0 x1 x2 : Int) (T : TypeId) (w : World) : Calls Tryz.prog 39 #[.slice (some ⟨w.heap.size, 0, none⟩) 3 3] (w.alloc (.cells #[.int .i64 x0, .int .i64 x1, .int .i64 x2] T)) fun e w' => e = .returned (.int .i64 (fst0 [x0, x1, x2])) ∧ (w.alloc (.cells #[.int .i64 x0, .int .i64 x1, .int .i64 x2] T)) = w' :=
  first_any _ [x0, x1, x2] _ (Rd.new w #[.int .i64 x0, .int .i64 x1, .int .i64 x2] T 3 _ rfl (by decide))

theorem first5 (x0 x1 x2 x3 x4 : Int) (T : TypeId) (w : World) : Calls Tryz.prog 39 #[.slice (some ⟨w.heap.size, 0, none⟩) 5 5] (w.alloc (.cells #[.int .i64 x0, .int .i64 x1, .int .i64 x2, .int .i64 x3, .int .i64 x4] T)) fun e w' => e = .returned (.int .i64 (fst0 [x0, x1, x2, x3, x4])) ∧ (w.alloc (.cells #[.int .i64 x0, .int .i64 x1, .int .i64 x2, .int .i64 x3, .int .i64 x4] T)) = w' :=
  first_any _ [x0, x1, x2, x3, x4] _ (Rd.new w #[.int .i64 x0, .int .i64 x1, .int .i64 x2, .int .i64 x3, .int .i64 x4] T 5 _ rfl (by decide))

end Go.Proofs.YtkgkpcmokmhakaaGreatDoor

namespace Go.Proofs.YtkgkpcmokmhakaaGreatDoor
open Go.RowKit

def chkSpan (f t : Int) : Int := if 0 ≤ f ∧ f < t ∧ t ≤ 100000 then 0 else 14
theorem chkSpan_any (f t : Int) (w : World) : Calls Tryz.prog 100 #[.agg #[.int .i64 f, .int .i64 t]] w fun e w' => e = .returned (.int .i64 (chkSpan f t)) ∧ Below w.heap.size w w' := by
  by_cases h1 : 0 ≤ f
  · by_cases h2 : f < t
    · by_cases h3 : t ≤ 100000
      · have E : Hid (chkSpan f t = 0) := by unfold Hid; simp [chkSpan, h1, h2, h3]
        go_enter Tryz.func100, Tryz.ntmps100
        go_wp2_with (go_at_call 40; refine (unl_any _ _ _).mono ?_; rintro e w' ⟨rfl, rfl⟩)
        go_ret
        exact ⟨by rw [E.out]; simp [unl], by go_grown⟩
      · have E : Hid (chkSpan f t = 14) := by unfold Hid; simp [chkSpan, h3]
        go_enter Tryz.func100, Tryz.ntmps100
        go_wp2_with (go_at_call 40; refine (unl_any _ _ _).mono ?_; rintro e w' ⟨rfl, rfl⟩)
        go_ret
        exact ⟨by rw [E.out]; simp [unl], by go_grown⟩
    · have E : Hid (chkSpan f t = 14) := by unfold Hid; simp [chkSpan, h2]
      go_enter Tryz.func100, Tryz.ntmps100
      go_wp2_with (go_at_call 40; refine (unl_any _ _ _).mono ?_; rintro e w' ⟨rfl, rfl⟩)
      go_ret
      exact ⟨by rw [E.out]; simp [unl], by go_grown⟩
  · have E : Hid (chkSpan f t = 14) := by unfold Hid; simp [chkSpan, h1]
    go_enter Tryz.func100, Tryz.ntmps100
    go_wp2_with (go_at_call 40; refine (unl_any _ _ _).mono ?_; rintro e w' ⟨rfl, rfl⟩)
    go_ret
    exact ⟨by rw [E.out]; simp [unl], by go_grown⟩

/-- The cells of a list of spans. -/
def spc (l : List (Int × Int)) : List Value := l.flatMap fun s => [.int .i64 s.1, .int .i64 s.2]
theorem spc_len (l : List (Int × Int)) : (spc l).length = 2 * l.length := by
  induction l with
  | nil => rfl
  | cons s l ih => simp only [spc, List.flatMap_cons, List.length_append, List.length_cons, List.length_nil] at ih ⊢; omega
theorem spc_at (l : List (Int × Int)) (k : Nat) (hk : k < l.length) : (spc l)[k * 2]? = some (.int .i64 (l[k]).1) ∧ (spc l)[k * 2 + 1]? = some (.int .i64 (l[k]).2) := by
  induction l generalizing k with
  | nil => simp at hk
  | cons s l ih =>
    cases k with
    | zero => simp [spc]
    | succ k =>
      have := ih k (by simpa using hk)
      simp only [spc, List.flatMap_cons] at this ⊢
      rw [show (k + 1) * 2 = k * 2 + 2 by omega, show k * 2 + 2 + 1 = k * 2 + 1 + 2 by omega]
      simpa using this

def chkFrom (e : Int) : List (Int × Int) → Int
  | [] => 0
  | s :: l => if chkSpan s.1 s.2 ≠ 0 then chkSpan s.1 s.2 else if e < s.1 then chkFrom s.2 l else 11
def chkSpans (l : List (Int × Int)) : Int := if 2048 < l.length then 5 else chkFrom (-1) l

set_option maxHeartbeats 1000000 in
theorem chkSpans_any (sl : Value) (l : List (Int × Int)) (w : World) (h : Rd w w.heap.size sl l.length (spc l)) :
    Calls Tryz.prog 72 #[sl] w fun e w' => e = .returned (.int .i64 (chkSpans l)) ∧ Below w.heap.size w w' := by
  obtain ⟨A, c, rfl, hc1, hc2, hc⟩ := h
  unfold maxLen at hc2
  have HC := hd hc
  clear hc
  by_cases hmany : 2048 < l.length
  · have hm' : (2048 : Int) < (l.length : Int) := by omega
    go_enter Tryz.func72, Tryz.ntmps72
    go_wp2
    go_ret
    exact ⟨by rw [chkSpans, if_pos hmany]; rfl, Below.refl _ _⟩
  · have hm' : ¬ (2048 : Int) < (l.length : Int) := by omega
    go_enter Tryz.func72, Tryz.ntmps72
    go_wp2
    go_loopw [3, 12] (fun e i wr => ∃ (k : Nat) (m : Int), k ≤ l.length ∧ i = .int .i64 k ∧ e = .int .i64 m ∧ chkFrom (-1) l = chkFrom m (l.drop k) ∧ Below w.heap.size w wr) (fun _ i _ => l.length - (intOf i).toNat)
    case atStart => exact ⟨0, -1, Nat.zero_le _, rfl, rfl, rfl, Below.refl _ _⟩
    case round =>
      obtain ⟨k, m, hk, rfl, rfl, hz, hb⟩ := hrel
      have HZ := hd hz
      clear hz
      by_cases hlt : k < l.length
      · obtain ⟨b, off, rfl, hbb, hcell⟩ := HC.out (by omega)
        obtain ⟨g1, g2⟩ := spc_at l k hlt
        have hs0 : wr.cell? ⟨b, off + k * 2, none⟩ = some (.int .i64 (l[k]).1) := (hb.cell (p := ⟨b, _, none⟩) hbb).trans ((hcell (k * 2) (by rw [spc_len]; omega)).trans g1)
        have hs1 : wr.cell? ⟨b, off + k * 2 + 1, none⟩ = some (.int .i64 (l[k]).2) := (hb.cell (p := ⟨b, _, none⟩) hbb).trans ((hcell (k * 2 + 1) (by rw [spc_len]; omega)).trans g2)
        have hL : l.drop k = l[k] :: l.drop (k + 1) := List.drop_eq_getElem_cons hlt
        have HL := hd hL
        clear hcell g1 g2 hL
        generalize hf : (l[k]).1 = f at hs0
        generalize ht : (l[k]).2 = t at hs1
        have HF := hd hf
        have HT := hd ht
        clear hf ht
        go_wp2
        have c0 := World.cell?_alloc_new wr #[Value.int .i64 f, Value.int .i64 t] 50 0
        have c1 := World.cell?_alloc_new wr #[Value.int .i64 f, Value.int .i64 t] 50 1
        have hsz : wr.heap.size < (wr.alloc (Obj.cells #[Value.int .i64 f, Value.int .i64 t] 50)).heap.size := by simp
        have hb1 : Below w.heap.size w (wr.alloc (Obj.cells #[Value.int .i64 f, Value.int .i64 t] 50)) := hb.alloc hb.size _
        generalize (wr.alloc (Obj.cells #[Value.int .i64 f, Value.int .i64 t] 50)) = W1 at c0 c1 hsz hb1 ⊢
        have F0 : ∀ p : Bw W1, p.out.cell? ⟨wr.heap.size, 0, none⟩ = some (.int .i64 f) := fun p => p.cell hsz (by simpa using c0)
        have F1 : ∀ p : Bw W1, p.out.cell? ⟨wr.heap.size, 1, none⟩ = some (.int .i64 t) := fun p => p.cell hsz (by simpa using c1)
        refine wp_region_bw_tail 7 (by kernel_rfl) (by kernel_rfl) ?_
        simp only [List.take_succ_cons, List.take_zero, List.drop_succ_cons, List.drop_zero]
        repeat (first | go_big_quiet_step (first | (go_at_call 100; exact Bw.call _ (chkSpan_any _ _ _)) | (go_at_call 40; exact Bw.pure _ (unl_any _ _ _))))
        refine wpQuiet_nil ?_
        rintro ⟨W2, hB2⟩
        change wpList _ _ _ _ _ W2
        have hbW : Below w.heap.size w W2 := hb1.trans (hB2.mono hb1.size)
        have d1 : W2.cell? ⟨wr.heap.size, 1, none⟩ = some (.int .i64 t) := F1 ⟨W2, hB2⟩
        have hsz2 : wr.heap.size < W2.heap.size := by have := hB2.size; omega
        clear F0 F1 hB2 hb1
        have hfs : chkSpan f t = 0 ∨ chkSpan f t = 14 := by unfold chkSpan; split <;> simp
        have hstep : chkFrom m (l.drop k) = if chkSpan f t ≠ 0 then chkSpan f t else if m < f then chkFrom t (l.drop (k + 1)) else 11 := by rw [HL.out, chkFrom, HF.out, HT.out]
        have HSt := hd hstep
        clear hstep
        by_cases hcs : chkSpan f t = 0
        · by_cases hlt2 : m < f
          · have HZ2 := hd (show fst0 [chkSpan f t, unl true 11] = 0 by simp [fst0, hcs, unl])
            have HC2 := hd hcs
            clear hcs
            go_wp2_with (go_at_call 39; (refine (first2 _ _ _ _).mono ?_; rintro e w' ⟨rfl, rfl⟩; rw [HZ2.out]))
            go_roundw
            case rel => exact ⟨k + 1, t, by omega, by go_num, rfl, by rw [HZ.out, HSt.out, if_neg (by rw [HC2.out]; simp), if_pos hlt2], hbW.alloc hbW.size _⟩
            case measure => simp [intOf]; omega
          · have HZ2 := hd (show fst0 [chkSpan f t, unl false 11] = 11 by simp [fst0, hcs, unl])
            have HC2 := hd hcs
            clear hcs
            go_wp2_with (go_at_call 39; (refine (first2 _ _ _ _).mono ?_; rintro e w' ⟨rfl, rfl⟩; rw [HZ2.out]))
            go_ret
            exact ⟨by rw [chkSpans, if_neg hmany, HZ.out, HSt.out, if_neg (by rw [HC2.out]; simp), if_neg (by omega)]; rfl, hbW.alloc hbW.size _⟩
        · have h14 : chkSpan f t = 14 := by rcases hfs with h | h; exact absurd h hcs; exact h
          have HZ2 := hd (fun x => show fst0 [chkSpan f t, x] = 14 by simp [fst0, h14])
          have HC2 := hd h14
          clear hcs h14 hfs
          go_wp2_with (go_at_call 39; (refine (first2 _ _ _ _).mono ?_; rintro e w' ⟨rfl, rfl⟩; rw [HZ2.out]))
          go_ret
          exact ⟨by rw [chkSpans, if_neg hmany, HZ.out, HSt.out, HC2.out, if_pos (by decide)]; rfl, hbW.alloc hbW.size _⟩
      · go_wp2
        go_ret
        have hke : k = l.length := by omega
        exact ⟨by rw [chkSpans, if_neg hmany, HZ.out, hke, List.drop_length]; rfl, hb⟩

end Go.Proofs.YtkgkpcmokmhakaaGreatDoor

namespace Go.Proofs.YtkgkpcmokmhakaaGreatDoor
open Go.RowKit

theorem spanInfo : (Tryz.prog.info? 50).map (fun i => (i.zero, i.size, i.bytes)) = some (some (.agg #[.int .i64 0, .int .i64 0]), 2, 16) := by kernel_rfl

def ext (l : List (Int × Int)) (f t : Int) : List (Int × Int) :=
  match l.getLast? with
  | none => [(f, t)]
  | some s => if s.2 = f then l.dropLast ++ [(s.1, t)] else l ++ [(f, t)]

theorem ext_nil (f t : Int) : ext [] f t = [(f, t)] := rfl
theorem ext_snoc (l : List (Int × Int)) (a b f t : Int) : ext (l ++ [(a, b)]) f t = if b = f then l ++ [(a, t)] else l ++ [(a, b)] ++ [(f, t)] := by
  simp [ext]
theorem spc_append (l m : List (Int × Int)) : spc (l ++ m) = spc l ++ spc m := by simp [spc]
theorem ext_len (l : List (Int × Int)) (f t : Int) : (ext l f t).length ≤ l.length + 1 := by
  unfold ext
  split
  · simp
  · split
    · simp
    · simp
theorem one_spc (l : List (Int × Int)) : ∀ u ∈ spc l, u.oneCell' = true := by
  intro u hu
  simp only [spc, List.mem_flatMap, List.mem_cons, List.not_mem_nil, or_false] at hu
  obtain ⟨s, _, rfl | rfl⟩ := hu <;> rfl
theorem new_two (w : World) (a b : Value) (T : TypeId) : ∀ j u, [a, b][j]? = some u → (w.alloc (.cells #[a, b] T)).cell? ((⟨w.heap.size, 0, none⟩ : Addr).add j) = some u := by
  intro j u hj
  match j, hj with
  | 0, hj => simp at hj; subst hj; simp [Addr.add, World.cell?_alloc_new]
  | 1, hj => simp at hj; subst hj; simp [Addr.add, World.cell?_alloc_new]

/-- What extend leaves: a value that owns the longer list; nothing but its own row has turned. -/
def Extd (base : Nat) (l : List (Int × Int)) (f t : Int) (v : Value) (w : World) (e : Ending) (w' : World) : Prop :=
  ∃ v', e = .returned v' ∧ w'.ownsRow base 50 2 v' (ext l f t).length (spc (ext l f t)) ∧ w.grownBy w' v.ownBlock ∧ v' ≠ .slice none 0 0

theorem gb_trans {w W w' : World} {row : Option Nat} (h : w.grownBy W row) (h' : W.grownBy w' row) : w.grownBy w' row :=
  ⟨h'.os.trans h.os, h'.tape.trans h.tape, h'.output.trans h.output, Nat.le_trans h.size h'.size, fun k hk hne => (h'.block k (Nat.lt_of_lt_of_le hk h.size) hne).trans (h.block k hk hne)⟩
theorem size_drewN (w : World) (n : Nat) : (w.drewN n).heap.size = w.heap.size := rfl
theorem gb_drewN (w : World) (n : Nat) (row : Option Nat) : w.grownBy (w.drewN n) row := ⟨rfl, rfl, rfl, Nat.le_refl _, fun _ _ _ => rfl⟩

theorem cell_alloc_old {w : World} {b i : Nat} {u : Value} {o : Obj} (h : w.cell? ⟨b, i, none⟩ = some u) : (w.alloc o).cell? ⟨b, i, none⟩ = some u := by
  rw [World.cell?_alloc_lt w o ⟨b, i, none⟩ (World.block_lt_of_cell? _ _ h)]; exact h
/-- The state in which extend appends. -/
theorem ext_fin {base : Nat} {l : List (Int × Int)} {f t : Int} {v v' : Value} {w w' : World} {o o' : Obj} {nq : Nat} (he : ext l f t = l ++ [(f, t)])
    (hown' : w'.ownsRow base 50 2 v' (l.length + 1) (spc l ++ [.int .i64 f, .int .i64 t])) (hg : (((w.alloc o).drewN nq).alloc o').grownBy w' v.ownBlock) (hne : v' ≠ .slice none 0 0) :
    Extd base l f t v w (.returned v') w' :=
  ⟨v', rfl, by rw [he]; simpa [spc] using hown', gb_trans (gb_trans (World.grownBy_alloc w o _) (gb_trans (gb_drewN _ nq _) (World.grownBy_alloc _ o' _))) hg, hne⟩

set_option maxRecDepth 100000 in
set_option maxHeartbeats 1000000 in
theorem ext_grow (base : Nat) (l : List (Int × Int)) (f t : Int) (A : Option Addr) (c : Nat) (w : World) (hown : w.ownsRow base 50 2 (.slice A l.length c) l.length (spc l)) (hb : base ≤ w.heap.size) (hlen : l.length ≤ 100000)
    (he : ext l f t = l ++ [(f, t)]) (hcase : l.length = 0 ∨ ∃ g x, A = some ⟨g, 0, none⟩ ∧ l.length ≤ c ∧ c ≤ maxLen ∧ 0 < l.length ∧ w.cell? ⟨g, (l.length - 1) * 2 + 1, none⟩ = some (.int .i64 x) ∧ x ≠ f ∧ g < w.heap.size) :
    Calls Tryz.prog 52 #[.slice A l.length c, .agg #[.int .i64 f, .int .i64 t]] w (Extd base l f t (.slice A l.length c) w) := by
  obtain ⟨i0, hi, hz0, hz1, hz2⟩ := info_parts spanInfo
  have h63 : l.length + 1 ≤ maxLen := by unfold maxLen; omega
  have hby : (l.length + 1) * 16 ≤ 140737488355328 := by omega
  have h48 : l.length ≤ 4611686018427387904 := by omega
  have H63 := hd h63
  have HBY := hd hby
  have HE := hd he
  have HO := hd hown
  have new2 := fun nq => new_two ((w.alloc (.cells #[Value.int .i64 f, Value.int .i64 t] 50)).drewN nq) (.int .i64 f) (.int .i64 t) 50
  simp only [size_drewN, World.size_alloc] at new2
  have N2 := hd new2
  clear hlen he h63 hby hown new2
  rcases hcase with h0 | ⟨g, x, rfl, hc1, hc2, hpos, hx, hxf, hg⟩
  · have hl0 : l = [] := List.eq_nil_of_length_eq_zero h0
    subst hl0
    clear h0 h48
    change Calls _ _ #[.slice A 0 c, _] w _
    go_enter Tryz.func52, Tryz.ntmps52
    go_wp2
    go_quiet (fail)
    go_wp2_with (at_builtin; refine wpList_append_own _ rfl (.tmp 28) (.tmp 30) 23 rfl base 50 i0 (.agg #[.int .i64 0, .int .i64 0]) 2 16 Tryz.underlying23 hi hz0 hz1 hz2 rfl (by decide) (.slice A 0 c) 0 [] rfl ?c0 ⟨w.heap.size + 1, 0, none⟩ 1 1 [.int .i64 f, .int .i64 t] rfl rfl ?c1 ?c2 ?c3 ?c4 ?c5 ?_)
    case c0 => exact World.ownsRow.alloc (w := (w.alloc _).drewN nq) (World.ownsRow.alloc HO.out _) _
    case c1 => exact N2.out nq
    case c2 => exact one_spc [(f, t)]
    case c3 => exact H63.out
    case c4 => exact HBY.out
    case c5 => simp; omega
    · intro v' w' hown' hgrow hne
      go_wp2
      go_ret
      exact ext_fin HE.out hown' hgrow hne
  · have hlast : (0 : Int) ≤ (l.length : Int) - 1 := by omega
    have hl1 : (1 : Int) ≤ (l.length : Int) := by omega
    have hg1 : decide ((1 : Int) ≤ (l.length : Int)) = true := by simp; omega
    have hg2 : decide ((0 : Int) ≤ (l.length : Int) - 1) = true := by simp; omega
    have hg3 : decide (1 ≤ l.length) = true := by simp; omega
    have hlast2 : (l.length : Int) - 1 < (l.length : Int) := by omega
    unfold maxLen at hc2
    have hxb : (x == f) = false := by simpa using hxf
    have hx1 := cell_alloc_old (o := .cells #[Value.int .i64 f, Value.int .i64 t] 50) hx
    clear hx
    go_enter Tryz.func52, Tryz.ntmps52
    go_wp2
    go_quiet (fail)
    go_wp2_with (at_builtin; refine wpList_append_own _ rfl (.tmp 28) (.tmp 30) 23 rfl base 50 i0 (.agg #[.int .i64 0, .int .i64 0]) 2 16 Tryz.underlying23 hi hz0 hz1 hz2 rfl (by decide) (.slice (some ⟨g, 0, none⟩) l.length c) l.length (spc l) rfl ?c0 ⟨w.heap.size + 1, 0, none⟩ 1 1 [.int .i64 f, .int .i64 t] rfl rfl ?c1 ?c2 ?c3 ?c4 ?c5 ?_)
    case c0 => exact World.ownsRow.alloc (w := (w.alloc _).drewN nq) (World.ownsRow.alloc HO.out _) _
    case c1 => exact N2.out nq
    case c2 => exact one_spc [(f, t)]
    case c3 => exact H63.out
    case c4 => exact HBY.out
    case c5 => simp; omega
    · intro v' w' hown' hgrow hne
      have hne' : v' ≠ .slice none 0 0 := by simpa using hne
      clear hne
      go_wp2
      go_ret
      exact ext_fin HE.out hown' hgrow hne'

theorem spc_set (m : List (Int × Int)) (a b t : Int) : spc (m ++ [(a, t)]) = (spc (m ++ [(a, b)])).set (m.length * 2 + 1) (.int .i64 t) := by
  rw [spc_append, spc_append, List.set_append_right _ _ (by rw [spc_len]; omega), spc_len, show m.length * 2 + 1 - 2 * m.length = 1 by omega]
  rfl
theorem gb_set (w : World) (g o : Nat) (u : Value) : w.grownBy (w.setCell ⟨g, o, none⟩ u) (some g) :=
  ⟨rfl, rfl, rfl, by simp, fun k _ hne => Below.heap_setCell w ⟨g, o, none⟩ u k (fun e => hne (by rw [e]))⟩

set_option maxRecDepth 100000 in
set_option maxHeartbeats 1000000 in
theorem ext_touch (base : Nat) (m : List (Int × Int)) (a f t : Int) (g c : Nat) (w : World) (hown : w.ownsRow base 50 2 (.slice (some ⟨g, 0, none⟩) (m.length + 1) c) (m.length + 1) (spc (m ++ [(a, f)]))) (hc1 : m.length + 1 ≤ c) (hc2 : c ≤ maxLen) (hg : g < w.heap.size) :
    Calls Tryz.prog 52 #[.slice (some ⟨g, 0, none⟩) (m.length + 1 : Nat) c, .agg #[.int .i64 f, .int .i64 t]] w (Extd base (m ++ [(a, f)]) f t (.slice (some ⟨g, 0, none⟩) (m.length + 1 : Nat) c) w) := by
  have hx : w.cell? ⟨g, m.length * 2 + 1, none⟩ = some (.int .i64 f) := by
    rw [hown.cellAt _ (by omega), spc_append, List.getElem?_append_right (by rw [spc_len]; omega), spc_len, show m.length * 2 + 1 - 2 * m.length = 1 by omega]
    rfl
  have hfz : w.frozen? ⟨g, m.length * 2 + 1, none⟩ = false := hown.frozenAt _
  have HO := hd hown
  unfold maxLen at hc2
  have hx1 := cell_alloc_old (o := .cells #[Value.int .i64 f, Value.int .i64 t] 50) hx
  have hl1 : (0 : Int) ≤ (m.length : Int) := by omega
  have hg1 : decide ((0 : Int) ≤ (m.length : Int)) = true := by simp
  have hlast2 : (m.length : Int) < (m.length : Int) + 1 := by omega
  clear hx hown
  go_enter Tryz.func52, Tryz.ntmps52
  go_wp2
  go_quiet (fail)
  go_wp2
  go_ret
  have e : ext (m ++ [(a, f)]) f t = m ++ [(a, t)] := by rw [ext_snoc, if_pos rfl]
  refine ⟨_, rfl, ?_, ?_, by simp⟩
  · rw [e, spc_set m a f t]
    have := World.ownsRow.stored (w := (w.alloc (.cells #[Value.int .i64 f, Value.int .i64 t] 50)).drewN nq) (HO.out.alloc _) (m.length * 2 + 1) (.int .i64 t)
    simpa using this.1
  · exact gb_trans (gb_trans (World.grownBy_alloc w _ _) (gb_drewN _ nq _)) (gb_set _ _ _ _)

/-- extend, of a list of the call's own. -/
theorem ext_any (base : Nat) (l : List (Int × Int)) (f t : Int) (v : Value) (w : World) (hown : w.ownsRow base 50 2 v l.length (spc l)) (hb : base ≤ w.heap.size) (hlen : l.length ≤ 100000) :
    Calls Tryz.prog 52 #[v, .agg #[.int .i64 f, .int .i64 t]] w (Extd base l f t v w) := by
  have hlt := hown.lt
  rcases hown.2 with ⟨rfl, h0⟩ | ⟨g, cap, cur, rfl, hgb, hh, hc1, hc2, _, _⟩
  · obtain rfl : l = [] := List.eq_nil_of_length_eq_zero h0
    exact ext_grow base [] f t none 0 w hown hb hlen rfl (.inl rfl)
  · have hg : g < w.heap.size := (hlt g rfl).2
    rcases List.eq_nil_or_concat l with rfl | ⟨m, ⟨a, b⟩, rfl⟩
    · exact ext_grow base [] f t _ cap w hown hb hlen rfl (.inl rfl)
    · simp only [List.concat_eq_append] at *
      have hl : (m ++ [(a, b)]).length = m.length + 1 := by simp
      by_cases hbf : b = f
      · subst hbf
        rw [hl] at hown hc1 ⊢
        exact ext_touch base m a b t g cap w hown hc1 hc2 hg
      · refine ext_grow base _ f t _ cap w hown hb hlen (by rw [ext_snoc, if_neg hbf]) (.inr ⟨g, b, rfl, hc1, hc2, by omega, ?_, hbf, hg⟩)
        rw [hown.cellAt _ (by omega), hl, spc_append, List.getElem?_append_right (by rw [spc_len]; omega), spc_len, show (m.length + 1 - 1) * 2 + 1 - 2 * m.length = 1 by omega]
        rfl

end Go.Proofs.YtkgkpcmokmhakaaGreatDoor

namespace Go.Proofs.YtkgkpcmokmhakaaGreatDoor
open Go.RowKit

/-- The stretches of the first k marks. -/
def strF (bs : List Bool) : Nat → List (Int × Int)
  | 0 => []
  | k + 1 => if bs.getD k false then ext (strF bs k) k (k + 1) else strF bs k
theorem strF_len (bs : List Bool) (k : Nat) : (strF bs k).length ≤ k := by
  induction k with
  | zero => simp [strF]
  | succ k ih =>
    rw [strF]
    split
    · exact Nat.le_trans (ext_len _ _ _) (by omega)
    · omega

/-- A value that owns a list of spans from base on; nothing below base has turned. -/
def OwnsSp (base : Nat) (l : List (Int × Int)) (w : World) (e : Ending) (w' : World) : Prop :=
  ∃ v, e = .returned v ∧ w'.ownsRow base 50 2 v l.length (spc l) ∧ Below base w w'

theorem gb_below {B : Nat} {w w' : World} {row : Option Nat} (h : w.grownBy w' row) (hB : B ≤ w.heap.size) (hr : ∀ k, row = some k → B ≤ k) : Below B w w' := (Below.refl B w).grown h hB hr

set_option maxRecDepth 100000 in
set_option maxHeartbeats 1000000 in
theorem stretches_any (sl : Value) (bs : List Bool) (w : World) (h : Rd w w.heap.size sl bs.length (bs.map Value.bool)) (hn : bs.length ≤ 100000) :
    Calls Tryz.prog 89 #[sl] w (OwnsSp w.heap.size (strF bs bs.length) w) := by
  obtain ⟨A, c, rfl, hc1, hc2, hc⟩ := h
  unfold maxLen at hc2
  have HC := hd hc
  have HN := hd hn
  clear hc hn
  go_enter Tryz.func89, Tryz.ntmps89
  go_wp2
  go_loopw [3, 8] (fun v i wr => ∃ k : Nat, k ≤ bs.length ∧ i = .int .i64 k ∧ wr.ownsRow w.heap.size 50 2 v (strF bs k).length (spc (strF bs k)) ∧ Below w.heap.size w wr) (fun _ i _ => bs.length - (intOf i).toNat)
  case atStart => exact ⟨0, Nat.zero_le _, rfl, World.ownsRow_nil _ _ _ _, Below.refl _ _⟩
  case round =>
    obtain ⟨k, hk, rfl, hown, hb⟩ := hrel
    by_cases hlt : k < bs.length
    · obtain ⟨b, off, rfl, hbb, hcell⟩ := HC.out (by omega)
      have hx : wr.cell? ⟨b, off + k, none⟩ = some (.bool bs[k]) := by rw [hb.cell (p := ⟨b, _, none⟩) hbb, hcell k (by simpa using hlt)]; simp [hlt]
      have hget : bs.getD k false = bs[k] := by simp [hlt]
      have HG := hd hget
      have hl := strF_len bs k
      have HL := hd (show (strF bs k).length ≤ 100000 by have := HN.out; omega)
      have HO := hd hown
      clear hcell hget hl hown
      cases hbk : bs[k]
      · rw [hbk] at hx HG
        go_wp2
        go_roundw
        case rel => exact ⟨k + 1, by omega, by go_num, by rw [strF, HG.out]; exact HO.out, hb⟩
        case measure => simp [intOf]; omega
      · rw [hbk] at hx HG
        have HB := hd hbk
        clear hbk
        go_wp2_with (go_at_call 52; refine (ext_any w.heap.size (strF bs k) _ _ _ _ HO.out hb.size HL.out).mono ?_; rintro e w' ⟨v', rfl, hown', hg, _⟩)
        have hb' : Below w.heap.size w w' := hb.grown hg hb.size (fun j hj => (HO.out.lt j hj).1)
        go_roundw
        case rel => exact ⟨k + 1, by omega, by go_num, by rw [strF, HG.out]; exact hown', hb'⟩
        case measure => simp [intOf]; omega
    · go_wp2
      go_ret
      have hke : k = bs.length := by omega
      exact ⟨_, rfl, by rw [← hke]; exact hown, hb⟩

end Go.Proofs.YtkgkpcmokmhakaaGreatDoor
