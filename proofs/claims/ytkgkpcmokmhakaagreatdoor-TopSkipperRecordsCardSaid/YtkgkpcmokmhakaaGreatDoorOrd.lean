/-
  Regions that draw their order, in a round: loads of cells that no store of the region meets may be taken first. Plain words, in the make of the library's laws on orders.
-/
import Derived.Test.YtkgkpcmokmhakaaGreatDoorProg
import Derived.Test.YtkgkpcmokmhakaaGreatDoorME
namespace Go.Proofs.YtkgkpcmokmhakaaGreatDoor
open Go Go.RowKit

section
variable {F : Fence} {n : Nat} {P : Program} {ops : Array Oper} {Q : Exit → Act → World → Prop} {S : World → Prop}

/-- In every world of the class S, o leaves v and no more. -/
def YS (P : Program) (ops : Array Oper) (S : World → Prop) (o : Oper) (v : Value) (a : Act) : Prop :=
  Region.wanted o (yielded ops a.tmps) = true ∧ ∀ w, S w → o.about P w a.eval = none ∧ (execOp a.eval o).run P w = .ok (.value v) w

theorem YS.op {i : Nat} {o : Oper} {v : Value} {a : Act} {K : Act → World → Prop} {w : World} (hro : F.round = none) (hi : ops[i]? = some o) (hy : YS P ops S o v a) (hS : S w) (h : K (a.put o.dst v) w) : wpOpIn F n P ops Q i K a w := by
  have h2 := hy.2 w hS
  unfold wpOpIn
  simp only [hi, hy.1, if_true]
  unfold Oper.wpIn
  rw [hro, Oper.semAt_none, h2.2]
  exact ⟨fun f hf => (by rw [h2.1] at hf; cases hf), h⟩

theorem YS.far {o : Oper} {v u : Value} {a : Act} {d : Option Tmp} (hs : ∀ cs b, o.op ≠ .select cs b) (h3 : ∀ t, d = some t → t ∉ o.looksAt ops) (hy : YS P ops S o v a) : YS P ops S o v (a.put d u) :=
  ⟨by rw [wanted_put o a d u h3]; exact hy.1, fun w hw => by rw [about_put o w a d u h3, execOp_put o hs a d u h3]; exact hy.2 w hw⟩

/-- Behind each operation the world is of the class, whatever order is picked. -/
def anyS (F : Fence) (n : Nat) (P : Program) (ops : Array Oper) (Q : Exit → Act → World → Prop) (S : World → Prop) : Nat → Array Bool → Act → World → Prop
  | 0, l, a, w => Region.ready .any ops l = [] ∧ Q .normal a w
  | g + 1, l, a, w => (Region.ready .any ops l = [] → Q .normal a w) ∧ ∀ i ∈ Region.ready .any ops l, wpOpIn F n P ops Q i (fun a' w' => S w' ∧ anyS F n P ops Q S g (l.setIfInBounds i true) a' w') a w

theorem anyS_any : ∀ (g : Nat) (l : Array Bool) (a : Act) (w : World), anyS F n P ops Q S g l a w → wpAnyIn F n P .any ops Q g l a w
  | 0, _, _, _, h => h
  | g + 1, _, _, _, h => ⟨h.1, fun i hi => wpOpIn_mono (fun a' w' h' => anyS_any g _ a' w' h'.2) (h.2 i hi)⟩

theorem op_putS {j : Nat} {oi oj : Oper} {v : Value} {K : Act → World → Prop} {a : Act} {w : World} (hro : F.round = none) (hj : ops[j]? = some oj) (hap : oi.apart ops oj = true)
    (hsi : ∀ cs b, oi.op ≠ .select cs b) (hsj : ∀ cs b, oj.op ≠ .select cs b) (hQ : ∀ c a w, ¬ Q (.panic c) a w)
    (hy : YS P ops S oi v a) (h : wpOpIn F n P ops Q j K (a.put oi.dst v) w) : wpOpIn F n P ops Q j (fun a' w' => YS P ops S oi v a' ∧ K (a'.put oi.dst v) w') a w := by
  obtain ⟨h1, h2, h3⟩ := Oper.apart_spec hap
  have far : ∀ u, YS P ops S oi v (a.put oj.dst u) := fun u => hy.far hsi h3
  unfold wpOpIn at h ⊢
  simp only [hj] at h ⊢
  rw [wanted_put oj a oi.dst v h1, about_put oj w a oi.dst v h1] at h
  by_cases hw : Region.wanted oj (yielded ops a.tmps) = true
  · rw [if_pos hw] at h ⊢
    unfold Oper.wpIn at h ⊢
    rw [about_put oj w a oi.dst v h1, hro, Oper.semAt_none, execOp_put oj hsj a oi.dst v h1] at h
    rw [hro, Oper.semAt_none]
    refine ⟨h.1, ?_⟩
    have h := h.2
    revert h
    cases (execOp a.eval oj).run P w with
    | ok x w' =>
      cases x with
      | value u => exact fun h => ⟨far u, by rw [← Act.put_comm a v u h2]; exact h⟩
      | skip => exact fun h => ⟨far _, by rw [← Act.put_comm a v undef h2]; exact h⟩
      | defer d =>
        intro h
        refine ⟨?_, ?_⟩
        · exact YS.far (a := { a with defers := d :: a.defers }) hsi h3 hy
        · show K ((({ a with defers := d :: a.defers } : Act).put oj.dst undef).put oi.dst v) w'
          rw [← Act.put_comm _ v undef h2, ← Act.put_defers]; exact h
      | enter f args =>
        refine fun h => ⟨h.1, CallsIn.mono h.2 fun e w'' he => ?_⟩
        cases e with
        | returned u => exact ⟨far u, by rw [← Act.put_comm a v u h2]; exact he⟩
        | panicked c => exact absurd he (hQ _ _ _)
        | outgrown => exact he
      | row r args => exact fun h => ⟨h.1, RowsIn.mono h.2 fun u w'' he => ⟨far u, by rw [← Act.put_comm a v u h2]; exact he⟩⟩
      | round l f tmps asg body =>
        refine fun h => ⟨h.1, RoundIn.mono h.2 fun e w'' he => ?_⟩
        cases e with
        | returned u => exact ⟨far u, by rw [← Act.put_comm a v u h2]; exact he⟩
        | panicked c => exact absurd he (hQ _ _ _)
        | outgrown => exact he
      | _ => exact fun h => h
    | halt x w' =>
      cases x with
      | panic u => exact fun h => absurd h (hQ _ _ _)
      | _ => exact fun h => h
  · rw [if_neg hw] at h ⊢
    exact ⟨h.1, far _, by rw [← Act.put_comm a v undef h2]; exact h.2⟩

theorem anyS_first {i : Nat} {oi : Oper} {v : Value} (hro : F.round = none) (hi : ops[i]? = some oi) (hsel : ∀ (j : Nat) (o : Oper) cs b, ops[j]? = some o → o.op ≠ .select cs b) (hQ : ∀ c a w, ¬ Q (.panic c) a w) :
    ∀ (g : Nat) (l : Array Bool) (a : Act) (w : World),
      (∀ j oj, ops[j]? = some oj → j ≠ i → l.getD j true = false → (∀ e ∈ oj.after, Region.binds .any e = true → e.on ≠ i) → oi.apart ops oj = true) →
      i ∈ Region.ready .any ops l → YS P ops S oi v a → S w → anyS F n P ops Q S g (l.setIfInBounds i true) (a.put oi.dst v) w → anyS F n P ops Q S (g + 1) l a w
  | 0, l, a, w, _, hr, hy, hS, H => by
    refine ⟨fun h => (by rw [h] at hr; cases hr), fun j hj => ?_⟩
    by_cases hji : j = i
    · subst hji; exact hy.op hro hi hS ⟨hS, H⟩
    · have := ready_mono hj hji; rw [H.1] at this; cases this
  | g + 1, l, a, w, hfree, hr, hy, hS, H => by
    refine ⟨fun h => (by rw [h] at hr; cases hr), fun j hj => ?_⟩
    by_cases hji : j = i
    · subst hji; exact hy.op hro hi hS ⟨hS, H⟩
    · obtain ⟨hun, oj, hoj, hall⟩ := mem_ready.1 hj
      have hno : ∀ e ∈ oj.after, Region.binds .any e = true → e.on ≠ i := fun e he hb heq => by
        have e1 := hall e he hb
        rw [heq, getD_both (mem_ready.1 hr).1] at e1
        cases e1
      have h2 := op_putS (S := S) hro hoj (hfree j oj hoj hji hun hno) (fun cs b => hsel i oi cs b hi) (fun cs b => hsel j oj cs b hoj) hQ hy (H.2 j (ready_mono hj hji))
      refine wpOpIn_mono (fun a' w' h3 => ⟨h3.2.1, anyS_first hro hi hsel hQ g (l.setIfInBounds j true) a' w' (fun k ok hk hki hun' hno' => hfree k ok hk hki ?_ hno') (ready_mono hr (Ne.symm hji)) h3.1 h3.2.1 ?_⟩) h2
      · by_cases hjk : j = k
        · subst hjk; exact hun
        · rw [getD_set_ne true hjk] at hun'; exact hun'
      · rw [Array.setIfInBounds_comm _ _ hji]; exact h3.2.2

/-- Take number i first. -/
theorem anyS_take {i : Nat} {oi : Oper} {v : Value} {g : Nat} {l : Array Bool} {a : Act} {w : World} (hro : F.round = none) (hi : ops[i]? = some oi) (hs : Region.noSelect ops = true) (hf : Region.free .any ops l i = true) (hr : (Region.ready .any ops l).contains i = true)
    (hQ : ∀ c a w, ¬ Q (.panic c) a w) (hy : YS P ops S oi v a) (hS : S w) (h : anyS F n P ops Q S g (l.setIfInBounds i true) (a.put oi.dst v) w) : anyS F n P ops Q S (g + 1) l a w :=
  anyS_first hro hi (Region.noSelect_spec hs) hQ g l a w (Region.free_spec hi hf) (by simpa using hr) hy hS h

/-- One operation alone may come up: it writes. -/
theorem anyS_one {i : Nat} {oi : Oper} {g : Nat} {l : Array Bool} {a : Act} {w w' : World} (hro : F.round = none) (hi : ops[i]? = some oi) (hr : Region.ready .any ops l = [i])
    (hw : Region.wanted oi (yielded ops a.tmps) = true) (hab : oi.about P w a.eval = none) (hrun : (execOp a.eval oi).run P w = .ok .skip w') (hS : S w') (h : anyS F n P ops Q S g (l.setIfInBounds i true) (a.put oi.dst undef) w') : anyS F n P ops Q S (g + 1) l a w := by
  refine ⟨fun h0 => (by rw [hr] at h0; cases h0), fun j hj => ?_⟩
  rw [hr, List.mem_singleton] at hj
  subst hj
  unfold wpOpIn
  simp only [hi, hw, if_true]
  unfold Oper.wpIn
  rw [hro, Oper.semAt_none, hrun]
  exact ⟨fun f hf => (by rw [hab] at hf; cases hf), hS, h⟩

theorem LetsOut_mono {Q Q' : Exit → Act → World → Prop} (hQ : ∀ e a w, Q e a w → Q' e a w) (h : LetsOut Q) : LetsOut Q' := by
  obtain ⟨a, w, h⟩ := h
  exact ⟨a, w, hQ _ _ _ h⟩
theorem op_monoQ {Q' : Exit → Act → World → Prop} {o : Oper} {a : Act} {w : World} {K : Act → World → Prop} (hQ : ∀ e a w, Q e a w → Q' e a w) (h : o.wpIn F n P a w K Q) : o.wpIn F n P a w K Q' := by
  unfold Oper.wpIn at h ⊢
  refine ⟨h.1, ?_⟩
  have h := h.2
  revert h
  cases (o.semAt F.round a.eval).run P w with
  | ok x w' =>
    cases x with
    | enter f args => exact fun h => ⟨h.1, CallsIn.mono h.2 fun e w'' he => by cases e with | returned u => exact he | panicked c => exact hQ _ _ _ he | outgrown => exact LetsOut_mono hQ he⟩
    | round l f tmps asg body => exact fun h => ⟨h.1, RoundIn.mono h.2 fun e w'' he => by cases e with | returned u => exact he | panicked c => exact hQ _ _ _ he | outgrown => exact LetsOut_mono hQ he⟩
    | _ => exact fun h => h
  | halt x w' =>
    cases x with
    | panic u => exact fun h => hQ _ _ _ h
    | _ => exact fun h => h
theorem ops_monoQ {Q' : Exit → Act → World → Prop} (hQ : ∀ e a w, Q e a w → Q' e a w) : ∀ (L : List Nat) (a : Act) (w : World), wpOpsIn F n P ops Q L a w → wpOpsIn F n P ops Q' L a w
  | [], a, w, h => hQ _ a w h
  | i :: rest, a, w, h => by
    rw [wpOpsIn_cons] at h ⊢
    have h := wpOpIn_mono (fun a w => ops_monoQ hQ rest a w) h
    unfold wpOpIn at h ⊢
    cases ho : ops[i]? with
    | none => simp only [ho] at h ⊢; exact h
    | some o =>
      simp only [ho] at h ⊢
      split at h
      · rename_i hw; rw [if_pos hw]; exact op_monoQ hQ h
      · rename_i hw; rw [if_neg hw]; exact h

/-- The region in a round, out of the plain fence's orders. -/
theorem wpIn_region_S_round {id k : Nat} {a : Act} {w : World} {L : List Oper} (hro : F.round = none) (hm : P.follows .mixedOrders = true) (hnd : noDefer L = true)
    (h : anyS F n P L.toArray (fun e a w => e = .normal ∧ Q .normal a w) S L.toArray.size (Array.replicate L.toArray.size false) a { w with drawn := w.drawn + 1 }) : (Code.region id L.toArray true).wpIn (F.inRound k) n P Q a w := by
  refine wpIn_region_draw fun t => ?_
  simp only [Region.schedule, hm, Bool.true_or, if_true]
  exact ops_round k hro (noDefer_at hnd) _ _ _ (ops_monoQ (fun e a w hq => by obtain ⟨rfl, hq⟩ := hq; exact hq) _ _ _ (wpAnyIn_sound L.toArray.size t _ a _ (anyS_any _ _ _ _ h)))
end
end Go.Proofs.YtkgkpcmokmhakaaGreatDoor
