/-
  Regions that draw their order, inside a fence and inside a round: a head that is quiet in a class of worlds, then a tail in one forced order (the plain words: Reg). No condition.
  Contract of gauge.Above. Conditions: a valid record, a valid level.
  Contracts of the functions that gauge.waters hands on: the two comparisons, the two closures, gauge.leads. Conditions: what the closures hold is read; from and to are indices.
  Contracts of the three choices of Join, Meet and Minus, and of gauge.fit. No condition but that the records are slices.
  Contract of gauge.kinds (a map of three names to functions), and what a look-up in its map finds. No condition.
  Contracts of gauge.checkRange, checkJump, checkStuck, of the closure of CheckRules, of checks.Each over rules, and of CheckRules. No condition but that the rules are read.
  Contracts of checks.Each over rules, and of gauge.CheckRules. No condition but that the rules are read.
-/
import Derived.Test.YtkgkpcmokmhakaaGreatDoorProg
import Derived.Test.YtkgkpcmokmhakaaGreatDoorMA
import Derived.Test.YtkgkpcmokmhakaaGreatDoorMF
import Derived.Test.YtkgkpcmokmhakaaGreatDoorMD
import Derived.WideMake

namespace Go.Proofs.YtkgkpcmokmhakaaGreatDoor
open Go Go.RowKit

section
variable {F : Fence} {r : Nat} {P : Program} {ops : Array Oper} {md : Region.Mode} {C : World → Prop}

/-- Whatever order is picked of the first n operations, at whose end L holds. -/
def anyHeadIn (F : Fence) (r : Nat) (P : Program) (md : Region.Mode) (ops : Array Oper) (C : World → Prop) (n : Nat) (L : Array Bool → Act → Prop) : Nat → Array Bool → Act → Prop
  | 0, listed, a => L listed a
  | f + 1, listed, a => Region.ready md ops listed ≠ [] ∧ ∀ i ∈ Region.ready md ops listed, i < n ∧ qOpIn F r P ops C i (anyHeadIn F r P md ops C n L f (listed.setIfInBounds i true)) a

theorem any_of_anyHeadIn {n g : Nat} (hro : F.round = none) {L : Array Bool → Act → Prop} {Q : Exit → Act → World → Prop} (hL : ∀ listed a w, C w → L listed a → wpAnyIn F r P md ops Q g listed a w) :
    ∀ (f : Nat) (listed : Array Bool) (a : Act) (w : World), C w → anyHeadIn F r P md ops C n L f listed a → wpAnyIn F r P md ops Q (f + g) listed a w
  | 0, _, _, _, hw, h => by rw [Nat.zero_add]; exact hL _ _ _ hw h
  | f + 1, _, _, _, hw, h => by
    rw [show f + 1 + g = (f + g) + 1 by omega]
    exact ⟨fun h0 => absurd h0 h.1, fun i hi => wpOpIn_of_qOpIn hro hw (fun a' w' hw' h' => any_of_anyHeadIn hro hL f _ a' w' hw' h') (h.2 i hi).2⟩

theorem anyHeadIn_first {n i : Nat} {oi : Oper} {v : Value} {L : Array Bool → Act → Prop} (hi : ops[i]? = some oi) (hsel : ∀ (j : Nat) (o : Oper) cs b, ops[j]? = some o → o.op ≠ .select cs b)
    (hs : Region.sinkB md ops n = true) (hc : Region.chainB md ops n = true) (hn : n < ops.size) (hin : i < n)
    (hdone : ∀ listed a, L listed a → ∀ j ∈ Region.ready md ops listed, n ≤ j) :
    ∀ (f : Nat) (listed : Array Bool) (a : Act), HeadInv md ops n listed →
      (∀ j oj, ops[j]? = some oj → j ≠ i → listed.getD j true = false → (∀ e ∈ oj.after, Region.binds md e = true → e.on ≠ i) → oi.apart ops oj = true) →
      i ∈ Region.ready md ops listed → YieldsQuiet F r P ops C oi v a →
      anyHeadIn F r P md ops C n L f (listed.setIfInBounds i true) (a.put oi.dst v) → anyHeadIn F r P md ops C n L (f + 1) listed a := by
  intro f
  induction f with
  | zero =>
    intro listed a inv _ hr hy H
    have hun := (mem_ready.1 hr).1
    refine ⟨fun h => (by rw [h] at hr; cases hr), fun j hj => ?_⟩
    have hjn : j < n := by
      rcases Nat.lt_or_ge j n with h | h
      · exact h
      · exact absurd hj (tail_waits hs hc hn inv _ i rfl hin hun j h)
    refine ⟨hjn, ?_⟩
    by_cases hji : j = i
    · subst hji; exact hy.qOpIn hi H
    · have := hdone _ _ H j (ready_mono hj hji)
      omega
  | succ f ih =>
    intro listed a inv hfree hr hy H
    have hun := (mem_ready.1 hr).1
    refine ⟨fun h => (by rw [h] at hr; cases hr), fun j hj => ?_⟩
    have hjn : j < n := by
      rcases Nat.lt_or_ge j n with h | h
      · exact h
      · exact absurd hj (tail_waits hs hc hn inv _ i rfl hin hun j h)
    refine ⟨hjn, ?_⟩
    by_cases hji : j = i
    · subst hji; exact hy.qOpIn hi H
    · have h1 := (H.2 j (ready_mono hj hji)).2
      obtain ⟨hjun, oj, hoj, hall⟩ := mem_ready.1 hj
      have hnot : ∀ e ∈ oj.after, Region.binds md e = true → e.on ≠ i := fun e he hb heq => by
        have h1 := hall e he hb
        rw [heq, getD_both hun] at h1
        cases h1
      have h2 := qOpIn_put hoj (hfree j oj hoj hji hjun hnot) (fun cs b => hsel i oi cs b hi) (fun cs b => hsel j oj cs b hoj) hy h1
      have hfree' : ∀ k ok, ops[k]? = some ok → k ≠ i → (listed.setIfInBounds j true).getD k true = false →
          (∀ e ∈ ok.after, Region.binds md e = true → e.on ≠ i) → oi.apart ops ok = true := fun k ok hk hki hun hno => by
        refine hfree k ok hk hki ?_ hno
        by_cases hjk : j = k
        · subst hjk; exact hjun
        · rw [getD_set_ne true hjk] at hun; exact hun
      refine qOpIn_mono (fun a' h3 => ih (listed.setIfInBounds j true) a' (inv.set hj hjn) hfree' (ready_mono hr (Ne.symm hji)) h3.1 ?_) h2
      rw [Array.setIfInBounds_comm _ _ hji]
      exact h3.2

theorem anyHeadIn_lex {n g : Nat} {Lq : Act → Prop} (hsel : Region.noSelect ops = true) (hs : Region.sinkB md ops n = true) (hc : Region.chainB md ops n = true) (hn : n < ops.size) :
    ∀ (l : List Oper) (k : Nat) (listed : Array Bool) (a : Act), (∀ j, j < l.length → l[j]? = ops[k + j]?) → k + l.length = n → HeadInv md ops n listed →
    Region.lexHead md ops g l.length k listed = true → wpQuietIn F r P ops C Lq l a →
    anyHeadIn F r P md ops C n (fun listed' a' => Region.seqB md ops g n listed' = true ∧ Lq a') l.length listed a
  | [], k, listed, a, _, hk, _, hB, h => by
    have : k = n := by simpa using hk
    subst this
    exact ⟨by simpa [Region.lexHead] using hB, h⟩
  | o :: l, k, listed, a, hl, hk, inv, hB, h => by
    have h0 : ops[k]? = some o := by simpa using (hl 0 (by simp)).symm
    simp only [List.length_cons, Region.lexHead, Bool.and_eq_true] at hB
    obtain ⟨⟨hr, hf⟩, hB'⟩ := hB
    have hkn : k < n := by simp only [List.length_cons] at hk; omega
    have hr' : k ∈ Region.ready md ops listed := by simpa using hr
    have hst : qOpIn F r P ops C k (wpQuietIn F r P ops C Lq l) a := by unfold qOpIn; simp only [h0]; exact h
    obtain ⟨v, hy, hK⟩ := yieldsQuiet_of_qOpIn h0 hst
    exact anyHeadIn_first h0 (Region.noSelect_spec hsel) hs hc hn hkn (fun listed' a' hL => seqB_ready hL.1) l.length listed a inv (Region.free_spec h0 hf) hr' hy
      (anyHeadIn_lex hsel hs hc hn l (k + 1) _ _ (fun j hj => by have := hl (j + 1) (by simp; omega); simpa [Nat.add_assoc, Nat.add_comm 1 j] using this) (by simp only [List.length_cons] at hk; omega) (inv.set hr' hkn) hB' hK)

theorem wpAnyIn_of_seq {Q' : Exit → Act → World → Prop} : ∀ (l : List Oper) (k : Nat) (listed : Array Bool) (a : Act) (w : World), (∀ j, l[j]? = ops[k + j]?) →
    Region.seqB md ops l.length k listed = true → wpListIn F r P ops Q' l a w → wpAnyIn F r P md ops Q' l.length listed a w
  | [], _, _, _, _, _, hB, h => ⟨by simpa [Region.seqB] using hB, h⟩
  | o :: l, k, listed, a, w, hl, hB, h => by
    have h0 : ops[k]? = some o := by simpa using (hl 0).symm
    simp only [List.length_cons, Region.seqB, Bool.and_eq_true, decide_eq_true_eq] at hB
    refine ⟨fun h1 => (by rw [hB.1] at h1; cases h1), fun i hi => ?_⟩
    rw [hB.1] at hi
    have hik : i = k := by simpa using hi
    subst hik
    have hw : wpOpIn F r P ops Q' i (wpListIn F r P ops Q' l) a w := by unfold wpOpIn; simp only [h0]; exact h
    exact wpOpIn_mono (fun a' w' h' => wpAnyIn_of_seq l (i + 1) _ a' w' (fun j => by have := hl (j + 1); simpa [Nat.add_assoc, Nat.add_comm 1 j] using this) hB.2 h') hw

/-- A region whose first n operations are quiet in the class C, and whose others come in their own order behind them. -/
theorem any_head {Q : Exit → Act → World → Prop} {a : Act} {w : World} {l : List Oper} (n : Nat) (hro : F.round = none) (hB : Region.lexTailB .any l.toArray n = true)
    (hC : C { w with drawn := w.drawn + 1 })
    (h : wpQuietIn F r P l.toArray C (fun a' => ∀ w', C w' → wpListIn F r P l.toArray Q (l.drop n) a' w') (l.take n) a) : wpAnyIn F r P .any l.toArray Q l.toArray.size (Array.replicate l.toArray.size false) a { w with drawn := w.drawn + 1 } := by
  simp only [Region.lexTailB, Bool.and_eq_true, decide_eq_true_eq] at hB
  obtain ⟨⟨⟨⟨hsel, hn⟩, hs⟩, hc⟩, hlex⟩ := hB
  have hn' : n < l.length := by simpa using hn
  have htl : (l.take n).length = n := by simp; omega
  have hdl : (l.drop n).length = l.toArray.size - n := by simp
  have inv0 : HeadInv .any l.toArray n (Array.replicate l.toArray.size false) :=
    ⟨by simp, fun j oj _ hl => (by rw [getD_replicate_false] at hl; cases hl), fun t _ ht => getD_in (by simpa using ht) (getD_replicate_false _ _)⟩
  have H := anyHeadIn_lex (md := .any) (g := l.toArray.size - n) hsel hs hc hn (l.take n) 0 _ a (fun j hj => by
    have hj' : j < n := by rw [htl] at hj; exact hj
    simp [hj']) (by simpa using htl) inv0 (by rw [htl]; exact hlex) h
  have := any_of_anyHeadIn (Q := Q) (hro := hro) (g := l.toArray.size - n) (fun listed a' w' hw' hL => by
    have := wpAnyIn_of_seq (md := .any) (Q' := Q) (l.drop n) n listed a' w' (fun j => by simp [List.getElem?_drop]) (by rw [hdl]; exact hL.1) (hL.2 w' hw')
    rwa [hdl] at this) _ _ _ _ hC H
  rw [htl, show n + (l.toArray.size - n) = l.toArray.size by omega] at this
  exact this


theorem quiet_bw {w : World} {l : List Oper} {Q : Act → World → Prop} {L : List Oper} {a : Act} (h : wpQuietIn F r P l.toArray (fun x => ∃ p : Bw w, x = p.out) (fun a' => ∀ p : Bw w, Q a' p.out) L a) : wpQuietIn F r P l.toArray (fun x => ∃ p : Bw w, x = p.out) (fun a' => ∀ w', (∃ p : Bw w, w' = p.out) → Q a' w') L a := by
  have e : (fun a' => ∀ w', (∃ p : Bw w, w' = p.out) → Q a' w') = fun a' => ∀ p : Bw w, Q a' p.out := by
    funext a'
    exact propext ⟨fun h p => h _ ⟨p, rfl⟩, fun h w' ⟨p, hp⟩ => hp ▸ h p⟩
  rw [e]; exact h
theorem bw_drew (w : World) : ∃ p : Bw w, { w with drawn := w.drawn + 1 } = p.out := ⟨⟨{ w with drawn := w.drawn + 1 }, (Below.refl _ w).drew⟩, rfl⟩

/-- The same inside a round. -/
theorem wpIn_region_bw_tail_round {id k : Nat} {Q : Exit → Act → World → Prop} {a : Act} {w : World} {l : List Oper} (n : Nat) (hro : F.round = none) (hm : P.follows .mixedOrders = true) (hB : Region.lexTailB .any l.toArray n = true) (hnd : noDefer l = true)
    (h : wpQuietIn F r P l.toArray (fun x => ∃ p : Bw w, x = p.out) (fun a' => ∀ p : Bw w, wpListIn F r P l.toArray Q (l.drop n) a' p.out) (l.take n) a) : (Code.region id l.toArray true).wpIn (F.inRound k) r P Q a w := by
  refine wpIn_region_draw fun t => ?_
  simp only [Region.schedule, hm, Bool.true_or, if_true]
  exact ops_round k hro (noDefer_at hnd) _ _ _ (wpAnyIn_sound l.toArray.size t _ a _ (any_head (C := fun x => ∃ p : Bw w, x = p.out) n hro hB (bw_drew w) (quiet_bw h)))
theorem Bw.pureIn {f : FuncId} {args : Array Value} {w : World} {v : Value} (p : Bw w)
    (h : CallsIn F r P f args p.out fun e w' => e = .returned v ∧ p.out = w') : CallsIn F r P f args p.out fun e w'' => e = .returned v ∧ ∃ q : Bw w, w'' = q.out :=
  h.mono fun _ _ ⟨he, hb⟩ => ⟨he, p, hb.symm⟩
end
end Go.Proofs.YtkgkpcmokmhakaaGreatDoor

namespace Go.Proofs.YtkgkpcmokmhakaaGreatDoor
open Go.RowKit Go.Shelf
attribute [local go_sem] Oper.semAt_some
attribute [local go_sem, local simp] wide_fn

theorem wpListIn_make_full {F : Fence} {r : Nat} {P : Program} (w : World) {ops : Array Oper} {rest : List Oper} {o : Oper} {a : Act} {Q : Exit → Act → World → Prop}
    (hg : o.guard = none) (l c : Operand) (t : TypeId) (hop : o.op = Op.makeSlice t l c)
    (base : Nat) (e : TypeId) (i : TypeInfo) (z : Value) (size : Nat) (h1 : P.underlying t = some (.slice e)) (h2 : P.info? e = some i) (h3 : i.zero = some z) (h4 : i.size = size)
    (kl kc : IntKind) (L C : Int) (n : Nat) (hl : a.eval l = .int kl L) (hc : a.eval c = .int kc C) (hL : L = (n : Int)) (hC : C = (n : Int)) (b2 : i.bytes * n ≤ 281474976710656) (b3 : n ≤ maxLen) (b4 : base ≤ w.heap.size)
    (hK : ∀ w', w'.ownsRow base e size (.slice (some ⟨w.heap.size, 0, none⟩) n n) n (madeCells z.cells (n * size)).toList → w.grownBy w' none → wpListIn F r P ops Q rest (a.put o.dst (.slice (some ⟨w.heap.size, 0, none⟩) n n)) w') :
    wpListIn F r P ops Q (o :: rest) a w := by
  refine wpListIn_plain hg fun K hK' => ?_
  obtain ⟨w', hrun, r1, r2⟩ := run_make_full (P := P) w base t e i z size h1 h2 h3 h4 kl kc n b2 b3 b4
  subst hL
  subst hC
  unfold Oper.wpIn
  refine ⟨?_, ?_⟩
  · simp [Oper.about, hop]
  · rw [Oper.semAt_plain F _ _ (by rw [hop]; intro c hc'; cases hc')]
    simp [execOp, hop, hl, hc, hrun, Result.andThen]
    exact hK' _ _ (hK w' r1 r2)

/-- An index of n levels with the bits of a valid level. -/
abbrev LvM (n : Nat) := { x : Nat × Nat // x.1 < max n 1 ∧ levOK x.2 = true }
def fLvM (bs : List Nat) (i : Nat) : LvM bs.length := if h : i < bs.length ∧ levOK (bs[i]?.getD 0) = true then ⟨(i, bs[i]?.getD 0), by simp only; omega, h.2⟩ else ⟨(0, 0), by simp only; omega, lv0⟩
theorem fLvM_at (bs : List Nat) (hok : ∀ j, j < bs.length → levOK (bs.getD j 0) = true) : ∀ i, i < bs.length → (fLvM bs i).1 = (i, bs[i]?.getD 0) := fun i hi => by
  have h : i < bs.length ∧ levOK (bs[i]?.getD 0) = true := ⟨hi, by have := hok i hi; rwa [List.getD_eq_getElem?_getD] at this⟩
  unfold fLvM
  rw [dif_pos h]

end Go.Proofs.YtkgkpcmokmhakaaGreatDoor

namespace Go.Proofs.YtkgkpcmokmhakaaGreatDoor
open Go.RowKit

def leadAt (ms : List Bool) (bs : List Nat) (sh : Nat → Bool) (i : Nat) : Bool := !ms.getD i false || sh (bs.getD i 0)
def leadF (ms : List Bool) (bs : List Nat) (sh : Nat → Bool) (f t : Nat) : Bool := (List.range t).all fun i => decide (i < f) || leadAt ms bs sh i
end Go.Proofs.YtkgkpcmokmhakaaGreatDoor

namespace Go.Proofs.YtkgkpcmokmhakaaGreatDoor
open Go.RowKit

set_option maxRecDepth 100000 in
theorem fit_any (nm nm2 : ByteArray) (st st2 : Int) (A1 A2 A3 A4 : Option Addr) (n c n2 c2 n3 c3 n4 c4 : Nat) (w : World) :
    Calls Tryz.prog 61 #[.agg #[.string nm, .int .i64 st, .slice A1 n c, .slice A2 n2 c2], .agg #[.string nm2, .int .i64 st2, .slice A3 n3 c3, .slice A4 n4 c4]] w fun e w' => e = .returned (.bool (decide (st = st2) && decide (n = n3))) ∧ Below w.heap.size w w' := by
  by_cases h1 : st = st2
  · subst h1
    by_cases h2 : n = n3
    · subst h2
      go_enter Tryz.func61, Tryz.ntmps61
      go_wp2
      go_ret
      exact ⟨by simp, by go_grown⟩
    · have E := hd (show decide (n = n3) = false by simp [h2])
      have h2' : ((n : Int) == (n3 : Int)) = false := by simp; omega
      go_enter Tryz.func61, Tryz.ntmps61
      go_wp2
      go_ret
      exact ⟨by simp [E.out], by go_grown⟩
  · have E := hd (show (decide (st = st2) && decide (n = n3)) = false by simp [h1])
    have h1' : (st == st2) = false := by simpa using h1
    go_enter Tryz.func61, Tryz.ntmps61
    go_wp2
    go_ret
    exact ⟨by rw [E.out]; rfl, by go_grown⟩

end Go.Proofs.YtkgkpcmokmhakaaGreatDoor

namespace Go.Proofs.YtkgkpcmokmhakaaGreatDoor
open Go.RowKit

@[go_sem] theorem run_store_nilFunc {P : Program} {w : World} {a : Addr} {m : Mode} : (store a .nilFunc m).run P w = stored P w a .nilFunc m := run_store P w a _ m rfl
@[go_sem] theorem run_store_func {P : Program} {w : World} {a : Addr} {m : Mode} (f : Fn) (x y : Array Value) : (store a (.func f x y) m).run P w = stored P w a (.func f x y) m := run_store P w a _ m rfl
theorem under_string : Tryz.prog.underlying 9 = some .string := by kernel_rfl

/-- A store of a new string key into a map. -/
theorem run_map_push {P : Program} (w : World) (mty kt et : TypeId) (r clock : Nat) (es : Array MapEntry) (s : ByteArray) (val : Value) (hm : P.underlying mty = some (.map kt et)) (hk : P.underlying kt = some .string) (hb : w.heap[r]? = some (.map es clock))
    (hf : Instr.findNow .string (.string s) es.toList 0 = some none) :
    (Instr.mapUpdate mty (.map (some r)) (.string s) val).run P w = .ok () { w with heap := w.heap.setIfInBounds r (.map (es.push { key := .string s, val := val, born := clock }) (clock + 1)) } := by
  have hc : (Instr.checkKey false 10000 kt (.string s)).run P w = .ok () w := MapKept.run_checkKey (k := .string s) hk (by simp [MapKept.IsKey]) false 9999
  simp [Instr.mapUpdate, run_underlying hm, MapKept.run_getObj_map hb, hc, MapKept.run_findKey hk hf, MapKept.run_setObj_map _ hb, Result.andThen]

theorem run_map_look {P : Program} (w : World) (mty kt et : TypeId) (r clock : Nat) (es : Array MapEntry) (s : ByteArray) (a : Option (Nat × Value)) (z : Value) (ok : Bool) (hm : P.underlying mty = some (.map kt et)) (hk : P.underlying kt = some .string) (hb : w.heap[r]? = some (.map es clock))
    (hz : (zeroValue et).run P w = .ok z w) (hf : Instr.findNow .string (.string s) es.toList 0 = some a) :
    (Instr.lookup mty (.map (some r)) (.string s) ok).run P w = .ok (if ok then .tuple #[(a.map (·.2)).getD z, .bool a.isSome] else (a.map (·.2)).getD z) w := by
  have hc : (Instr.checkKey es.isEmpty 10000 kt (.string s)).run P w = .ok () w := MapKept.run_checkKey (k := .string s) hk (by simp [MapKept.IsKey]) es.isEmpty 9999
  cases a with
  | none => simp [Instr.lookup, run_underlying hm, MapKept.run_getObj_map hb, hc, MapKept.run_findKey hk hf, hz, Result.andThen]
  | some p => simp [Instr.lookup, run_underlying hm, MapKept.run_getObj_map hb, hc, MapKept.run_findKey hk hf, Result.andThen]

def sRange : ByteArray := ⟨#[114, 97, 110, 103, 101]⟩
def sJump : ByteArray := ⟨#[106, 117, 109, 112]⟩
def sStuck : ByteArray := ⟨#[115, 116, 117, 99, 107]⟩
def kv (f g : Nat) : Value := .agg #[.func (.func f) #[] #[], .func (.func g) #[] #[]]
def kEs1 : Array MapEntry := #[{ key := .string sRange, val := kv 92 93, born := 0 }]
def kEs2 : Array MapEntry := kEs1.push { key := .string sJump, val := kv 94 95, born := 1 }
def kEs : Array MapEntry := kEs2.push { key := .string sStuck, val := kv 96 97, born := 2 }

def kLook (s : ByteArray) : Option (Nat × Value) :=
  bif s == sRange then some (0, kv 92 93) else bif s == sJump then some (1, kv 94 95) else bif s == sStuck then some (2, kv 96 97) else none
theorem find_kEs (s : ByteArray) : Instr.findNow .string (.string s) kEs.toList 0 = some (kLook s) := by
  show Instr.findNow .string (.string s) [_, _, _] 0 = _
  simp only [Instr.findNow, Instr.sameNow, kLook]
  cases h1 : s == sRange <;> cases h2 : s == sJump <;> cases h3 : s == sStuck <;> rfl

set_option maxRecDepth 100000 in
theorem kinds_any (w : World) : Calls Tryz.prog 67 #[] w fun e w' => e = .returned (.map (some w.heap.size)) ∧ w'.heap[w.heap.size]? = some (.map kEs 3) ∧ Below w.heap.size w w' := by
  have hb0 := (MapKept.heap_alloc w (.map #[] 0)).1
  obtain ⟨W0, hW0⟩ : ∃ W0, W0 = w.alloc (.map #[] 0) := ⟨_, rfl⟩
  rw [← hW0] at hb0
  have e0 : (Instr.makeMap 135 none).run Tryz.prog w = .ok (.map (some w.heap.size)) W0 := by rw [hW0]; exact run_makeMap_plain w _
  have e1 := run_map_push (P := Tryz.prog) W0 135 9 141 w.heap.size 0 #[] sRange (kv 92 93) (by kernel_rfl) under_string hb0 rfl
  obtain ⟨W1, hW1⟩ : ∃ W1, W1 = { W0 with heap := W0.heap.setIfInBounds w.heap.size (.map (#[].push { key := .string sRange, val := kv 92 93, born := 0 }) (0 + 1)) } := ⟨_, rfl⟩
  rw [← hW1] at e1
  have hb1 : W1.heap[w.heap.size]? = some (.map kEs1 1) := by rw [hW1]; exact (MapKept.heap_set hb0).1
  have e2 := run_map_push (P := Tryz.prog) W1 135 9 141 w.heap.size 1 kEs1 sJump (kv 94 95) (by kernel_rfl) under_string hb1 (by kernel_rfl)
  obtain ⟨W2, hW2⟩ : ∃ W2, W2 = { W1 with heap := W1.heap.setIfInBounds w.heap.size (.map (kEs1.push { key := .string sJump, val := kv 94 95, born := 1 }) (1 + 1)) } := ⟨_, rfl⟩
  rw [← hW2] at e2
  have hb2 : W2.heap[w.heap.size]? = some (.map kEs2 2) := by rw [hW2]; exact (MapKept.heap_set hb1).1
  have e3 := run_map_push (P := Tryz.prog) W2 135 9 141 w.heap.size 2 kEs2 sStuck (kv 96 97) (by kernel_rfl) under_string hb2 (by kernel_rfl)
  obtain ⟨W3, hW3⟩ : ∃ W3, W3 = { W2 with heap := W2.heap.setIfInBounds w.heap.size (.map (kEs2.push { key := .string sStuck, val := kv 96 97, born := 2 }) (2 + 1)) } := ⟨_, rfl⟩
  rw [← hW3] at e3
  have hb3 : W3.heap[w.heap.size]? = some (.map kEs 3) := by rw [hW3]; exact (MapKept.heap_set hb2).1
  have hB : Below w.heap.size w W3 := by
    refine ⟨by rw [hW3, hW2, hW1, hW0]; rfl, by rw [hW3, hW2, hW1, hW0]; rfl, by rw [hW3, hW2, hW1, hW0]; rfl, by rw [hW3, hW2, hW1, hW0]; simp, fun k hk => ?_⟩
    rw [hW3, (MapKept.heap_set hb2).2 k (by omega), hW2, (MapKept.heap_set hb1).2 k (by omega), hW1, (MapKept.heap_set hb0).2 k (by omega), hW0, (MapKept.heap_alloc w _).2 k hk]
  have HB := hd (And.intro hb3 hB)
  simp only [sRange, sJump, sStuck, kv] at e1 e2 e3
  have HW0 := hd hW0
  clear hb0 hb1 hb2 hb3 hB hW1 hW2 hW3 hW0
  go_enter Tryz.func67, Tryz.ntmps67
  go_wp2
  go_ret
  exact ⟨rfl, HB.out⟩

end Go.Proofs.YtkgkpcmokmhakaaGreatDoor

namespace Go.Proofs.YtkgkpcmokmhakaaGreatDoor
open Go.RowKit

def chkRg (A B : Int) : Int := fst0 [rng A (-1024) 1024, rng B A 1024]
def chkJp (A B : Int) : Int := fst0 [rng A 0 2048, rng B 0 0]
def chkSt (A B : Int) : Int := fst0 [rng A 1 4096, rng B 0 0]

set_option maxRecDepth 1000000 in
theorem checkRange_any (kd : ByteArray) (A B : Int) (w : World) : Calls Tryz.prog 92 #[.agg #[.string kd, .int .i64 A, .int .i64 B]] w fun e w' => e = .returned (.int .i64 (chkRg A B)) ∧ Below w.heap.size w w' := by
  go_enter Tryz.func92, Tryz.ntmps92
  go_wp2
  have c1 := World.cell?_alloc_new w #[.string kd, .int .i64 A, .int .i64 B] 34 1
  have c2 := World.cell?_alloc_new w #[.string kd, .int .i64 A, .int .i64 B] 34 2
  have hsz : w.heap.size < (w.alloc (Obj.cells #[.string kd, .int .i64 A, .int .i64 B] 34)).heap.size := by simp
  have hb1 : Below w.heap.size w (w.alloc (Obj.cells #[.string kd, .int .i64 A, .int .i64 B] 34)) := (Below.refl _ w).alloc (Nat.le_refl _) _
  generalize (w.alloc (Obj.cells #[.string kd, .int .i64 A, .int .i64 B] 34)) = W1 at c1 c2 hsz hb1 ⊢
  have F1 : ∀ p : Bw W1, p.out.cell? ⟨w.heap.size, 1, none⟩ = some (.int .i64 A) := fun p => p.cell hsz (by simpa using c1)
  have F2 : ∀ p : Bw W1, p.out.cell? ⟨w.heap.size, 2, none⟩ = some (.int .i64 B) := fun p => p.cell hsz (by simpa using c2)
  clear c1 c2
  refine wp_region_bw_tail 8 (by kernel_rfl) (by kernel_rfl) ?_
  simp only [List.take_succ_cons, List.take_zero, List.drop_succ_cons, List.drop_zero]
  repeat (first | go_big_quiet_step (first | (go_at_call 59; exact Bw.pure _ (rng_any _ _ _ _))))
  refine wpQuiet_nil ?_
  rintro ⟨W2, hB2⟩
  change wpList _ _ _ _ _ W2
  go_wp2_with (go_at_call 39; refine (first2 _ _ _ _).mono ?_; rintro e w' ⟨rfl, rfl⟩)
  go_ret
  exact ⟨rfl, hb1.trans ((hB2.alloc hB2.size _).mono hb1.size)⟩

set_option maxRecDepth 1000000 in
theorem checkJump_any (kd : ByteArray) (A B : Int) (w : World) : Calls Tryz.prog 94 #[.agg #[.string kd, .int .i64 A, .int .i64 B]] w fun e w' => e = .returned (.int .i64 (chkJp A B)) ∧ Below w.heap.size w w' := by
  go_enter Tryz.func94, Tryz.ntmps94
  go_wp2
  have c1 := World.cell?_alloc_new w #[.string kd, .int .i64 A, .int .i64 B] 34 1
  have c2 := World.cell?_alloc_new w #[.string kd, .int .i64 A, .int .i64 B] 34 2
  have hsz : w.heap.size < (w.alloc (Obj.cells #[.string kd, .int .i64 A, .int .i64 B] 34)).heap.size := by simp
  have hb1 : Below w.heap.size w (w.alloc (Obj.cells #[.string kd, .int .i64 A, .int .i64 B] 34)) := (Below.refl _ w).alloc (Nat.le_refl _) _
  generalize (w.alloc (Obj.cells #[.string kd, .int .i64 A, .int .i64 B] 34)) = W1 at c1 c2 hsz hb1 ⊢
  have F1 : ∀ p : Bw W1, p.out.cell? ⟨w.heap.size, 1, none⟩ = some (.int .i64 A) := fun p => p.cell hsz (by simpa using c1)
  have F2 : ∀ p : Bw W1, p.out.cell? ⟨w.heap.size, 2, none⟩ = some (.int .i64 B) := fun p => p.cell hsz (by simpa using c2)
  clear c1 c2
  refine wp_region_bw_tail 6 (by kernel_rfl) (by kernel_rfl) ?_
  simp only [List.take_succ_cons, List.take_zero, List.drop_succ_cons, List.drop_zero]
  repeat (first | go_big_quiet_step (first | (go_at_call 59; exact Bw.pure _ (rng_any _ _ _ _))))
  refine wpQuiet_nil ?_
  rintro ⟨W2, hB2⟩
  change wpList _ _ _ _ _ W2
  go_wp2_with (go_at_call 39; refine (first2 _ _ _ _).mono ?_; rintro e w' ⟨rfl, rfl⟩)
  go_ret
  exact ⟨rfl, hb1.trans ((hB2.alloc hB2.size _).mono hb1.size)⟩

set_option maxRecDepth 1000000 in
theorem checkStuck_any (kd : ByteArray) (A B : Int) (w : World) : Calls Tryz.prog 96 #[.agg #[.string kd, .int .i64 A, .int .i64 B]] w fun e w' => e = .returned (.int .i64 (chkSt A B)) ∧ Below w.heap.size w w' := by
  go_enter Tryz.func96, Tryz.ntmps96
  go_wp2
  have c1 := World.cell?_alloc_new w #[.string kd, .int .i64 A, .int .i64 B] 34 1
  have c2 := World.cell?_alloc_new w #[.string kd, .int .i64 A, .int .i64 B] 34 2
  have hsz : w.heap.size < (w.alloc (Obj.cells #[.string kd, .int .i64 A, .int .i64 B] 34)).heap.size := by simp
  have hb1 : Below w.heap.size w (w.alloc (Obj.cells #[.string kd, .int .i64 A, .int .i64 B] 34)) := (Below.refl _ w).alloc (Nat.le_refl _) _
  generalize (w.alloc (Obj.cells #[.string kd, .int .i64 A, .int .i64 B] 34)) = W1 at c1 c2 hsz hb1 ⊢
  have F1 : ∀ p : Bw W1, p.out.cell? ⟨w.heap.size, 1, none⟩ = some (.int .i64 A) := fun p => p.cell hsz (by simpa using c1)
  have F2 : ∀ p : Bw W1, p.out.cell? ⟨w.heap.size, 2, none⟩ = some (.int .i64 B) := fun p => p.cell hsz (by simpa using c2)
  clear c1 c2
  refine wp_region_bw_tail 6 (by kernel_rfl) (by kernel_rfl) ?_
  simp only [List.take_succ_cons, List.take_zero, List.drop_succ_cons, List.drop_zero]
  repeat (first | go_big_quiet_step (first | (go_at_call 59; exact Bw.pure _ (rng_any _ _ _ _))))
  refine wpQuiet_nil ?_
  rintro ⟨W2, hB2⟩
  change wpList _ _ _ _ _ W2
  go_wp2_with (go_at_call 39; refine (first2 _ _ _ _).mono ?_; rintro e w' ⟨rfl, rfl⟩)
  go_ret
  exact ⟨rfl, hb1.trans ((hB2.alloc hB2.size _).mono hb1.size)⟩


/-- The error of a rule. -/
def chkRule (kd : ByteArray) (A B : Int) : Int := bif kd == sRange then chkRg A B else bif kd == sJump then chkJp A B else bif kd == sStuck then chkSt A B else 13

theorem look_kEs (w : World) (r : Nat) (s : ByteArray) (ok : Bool) (z : Value) (hz : (zeroValue 141).run Tryz.prog w = .ok z w) (hb : w.heap[r]? = some (.map kEs 3)) :
    (Instr.lookup 135 (.map (some r)) (.string s) ok).run Tryz.prog w = .ok (if ok then .tuple #[((kLook s).map (·.2)).getD z, .bool (kLook s).isSome] else ((kLook s).map (·.2)).getD z) w :=
  run_map_look w _ 9 141 r 3 kEs s _ z ok (by kernel_rfl) under_string hb hz (find_kEs s)
theorem zeroKind (w : World) : (zeroValue 141).run Tryz.prog w = .ok (.agg #[.nilFunc, .nilFunc]) w := by kernel_rfl

set_option maxRecDepth 1000000 in
set_option maxHeartbeats 1000000 in
/-- The closure of CheckRules: the table's variable lies in block T, the map in block r. -/
theorem ruleClo_any (kd : ByteArray) (A B : Int) (T r : Nat) (w : World) (hT : w.cell? ⟨T, 0, none⟩ = some (.map (some r))) (hr : w.heap[r]? = some (.map kEs 3)) :
    Calls Tryz.prog 91 #[.agg #[.string kd, .int .i64 A, .int .i64 B], .pointer (some ⟨T, 0, none⟩)] w fun e w' => e = .returned (.int .i64 (chkRule kd A B)) ∧ Below w.heap.size w w' := by
  have hTlt : T < w.heap.size := World.block_lt_of_cell? _ _ hT
  have hrlt : r < w.heap.size := (Array.getElem?_eq_some_iff.1 hr).1
  have hlk := look_kEs (w.alloc (Obj.cells #[.string kd, .int .i64 A, .int .i64 B] 34)) r kd true _ (zeroKind _) (by rw [Below.heap_alloc _ _ _ hrlt]; exact hr)
  have cT := fun o => cell_alloc_old (o := o) hT
  have HB := hd (fun o o' => ((Below.refl _ w).alloc (Nat.le_refl _) o).alloc (by simp) o')
  have hne : ¬ T = w.heap.size := by omega
  clear hT hr
  cases h1 : kd == sRange
  · cases h2 : kd == sJump
    · cases h3 : kd == sStuck
      · have HC := hd (show chkRule kd A B = 13 by simp [chkRule, h1, h2, h3])
        simp [kLook, kv, h1, h2, h3] at hlk
        clear h1 h2 h3
        go_enter Tryz.func91, Tryz.ntmps91
        go_wp2
        go_ret
        exact ⟨by rw [HC.out]; rfl, HB.out _ _⟩
      · have HC := hd (show chkRule kd A B = chkSt A B by simp [chkRule, h1, h2, h3])
        simp [kLook, kv, h1, h2, h3] at hlk
        clear h1 h2 h3
        go_enter Tryz.func91, Tryz.ntmps91
        go_wp2_with (go_at_call 96; refine (checkStuck_any _ _ _ _).mono ?_; rintro e w' ⟨rfl, hb2⟩)
        go_ret
        exact ⟨by rw [HC.out]; rfl, (HB.out _ _).trans (hb2.mono (HB.out _ _).size)⟩
    · have HC := hd (show chkRule kd A B = chkJp A B by simp [chkRule, h1, h2])
      simp [kLook, kv, h1, h2] at hlk
      clear h1 h2
      go_enter Tryz.func91, Tryz.ntmps91
      go_wp2_with (go_at_call 94; refine (checkJump_any _ _ _ _).mono ?_; rintro e w' ⟨rfl, hb2⟩)
      go_ret
      exact ⟨by rw [HC.out]; rfl, (HB.out _ _).trans (hb2.mono (HB.out _ _).size)⟩
  · have HC := hd (show chkRule kd A B = chkRg A B by simp [chkRule, h1])
    simp [kLook, kv, h1] at hlk
    clear h1
    go_enter Tryz.func91, Tryz.ntmps91
    go_wp2_with (go_at_call 92; refine (checkRange_any _ _ _ _).mono ?_; rintro e w' ⟨rfl, hb2⟩)
    go_ret
    exact ⟨by rw [HC.out]; rfl, (HB.out _ _).trans (hb2.mono (HB.out _ _).size)⟩

end Go.Proofs.YtkgkpcmokmhakaaGreatDoor

namespace Go.Proofs.YtkgkpcmokmhakaaGreatDoor
open Go.RowKit

abbrev Ru := ByteArray × Int × Int
def ru0 : Ru := (⟨#[]⟩, 0, 0)
/-- The cells of a list of rules. -/
def ruc (l : List Ru) : List Value := l.flatMap fun x => [.string x.1, .int .i64 x.2.1, .int .i64 x.2.2]
theorem ruc_len (l : List Ru) : (ruc l).length = 3 * l.length := by
  induction l with
  | nil => rfl
  | cons s l ih => simp only [ruc, List.flatMap_cons, List.length_append, List.length_cons, List.length_nil] at ih ⊢; omega
theorem ruc_getD (l : List Ru) (k : Nat) (hk : k < l.length) : (ruc l)[k * 3]? = some (.string (l.getD k ru0).1) ∧ (ruc l)[k * 3 + 1]? = some (.int .i64 (l.getD k ru0).2.1) ∧ (ruc l)[k * 3 + 2]? = some (.int .i64 (l.getD k ru0).2.2) := by
  induction l generalizing k with
  | nil => simp at hk
  | cons s l ih =>
    cases k with
    | zero => simp [ruc]
    | succ k =>
      have := ih k (by simpa using hk)
      simp only [ruc, List.flatMap_cons] at this ⊢
      rw [show (k + 1) * 3 = k * 3 + 3 by omega, show k * 3 + 3 + 1 = k * 3 + 1 + 3 by omega, show k * 3 + 3 + 2 = k * 3 + 2 + 3 by omega]
      simpa using this

def ruErr (l : List Ru) : List Int := l.map fun x => chkRule x.1 x.2.1 x.2.2
def chkRules (l : List Ru) : Int := if 8 < l.length then 5 else fst0 (ruErr l)
theorem ruErr_at (l : List Ru) (k : Nat) (hk : k < l.length) : (ruErr l).getD k 0 = chkRule (l.getD k ru0).1 (l.getD k ru0).2.1 (l.getD k ru0).2.2 := by
  simp [ruErr, hk]

set_option maxRecDepth 1000000 in
set_option maxHeartbeats 1000000 in
theorem eachRule_any (sl : Value) (l : List Ru) (T r : Nat) (w : World) (h : Rd w w.heap.size sl l.length (ruc l)) (hT : w.cell? ⟨T, 0, none⟩ = some (.map (some r))) (hr : w.heap[r]? = some (.map kEs 3)) :
    Calls Tryz.prog 90 #[sl, .func (.func 91) #[] #[.pointer (some ⟨T, 0, none⟩)]] w fun e w' => e = .returned (.int .i64 (fst0 (ruErr l))) ∧ Below w.heap.size w w' := by
  obtain ⟨A, c, rfl, hc1, hc2, hc⟩ := h
  have hTlt : T < w.heap.size := World.block_lt_of_cell? _ _ hT
  have hrlt : r < w.heap.size := (Array.getElem?_eq_some_iff.1 hr).1
  unfold maxLen at hc2
  have HC := hd hc
  have HR := hd hr
  clear hc hr
  go_enter Tryz.func90, Tryz.ntmps90
  go_wp2
  go_loopw [4, 10] (fun _ i wr => ∃ k : Nat, k ≤ l.length ∧ i = .int .i64 k ∧ Below w.heap.size w wr ∧ Hid (∀ j, j < k → (ruErr l).getD j 0 = 0)) (fun _ i _ => l.length - (intOf i).toNat)
  case atStart => exact ⟨0, Nat.zero_le _, rfl, Below.refl _ _, hd (fun j hj => absurd hj (by omega))⟩
  case round =>
    obtain ⟨k, hk, rfl, hb, HZ⟩ := hrel
    by_cases hlt : k < l.length
    · obtain ⟨b, off, rfl, hbb, hcell⟩ := HC.out (by omega)
      obtain ⟨q0, q1, q2⟩ := ruc_getD l k hlt
      have hs0 := (hb.cell (p := ⟨b, _, none⟩) hbb).trans ((hcell (k * 3) (by rw [ruc_len]; omega)).trans q0)
      have hs1 := (hb.cell (p := ⟨b, _, none⟩) hbb).trans ((hcell (k * 3 + 1) (by rw [ruc_len]; omega)).trans q1)
      have hs2 := (hb.cell (p := ⟨b, _, none⟩) hbb).trans ((hcell (k * 3 + 2) (by rw [ruc_len]; omega)).trans q2)
      rw [← Nat.add_assoc] at hs1 hs2
      have HE := hd (ruErr_at l k hlt)
      have K0 := hd (fun o => cell_alloc_old (o := o) ((hb.cell (p := ⟨T, 0, none⟩) hTlt).trans hT))
      have K1 := hd (fun o => (Below.heap_alloc wr o r (by have := hb.size; omega)).trans ((hb.block r hrlt).trans HR.out))
      clear hcell q0 q1 q2 hT
      generalize (l.getD k ru0).1 = kd at *
      generalize (l.getD k ru0).2.1 = A at *
      generalize (l.getD k ru0).2.2 = B at *
      by_cases h0 : chkRule kd A B = 0
      · have H0 := hd h0
        clear h0
        go_wp2_with (go_at_call 91; refine (ruleClo_any _ _ _ T r _ (K0.out _) (K1.out _)).mono ?_; rintro e w' ⟨rfl, hb2⟩; rw [H0.out])
        go_roundw
        case rel => exact ⟨k + 1, by omega, by go_num, (hb.alloc hb.size _).trans (hb2.mono (by have := hb.size; simp; omega)), hd (fun j hj => if e : j = k then by rw [e, HE.out, H0.out] else HZ.out j (by omega))⟩
        case measure => simp [intOf]; omega
      · have H1 : (chkRule kd A B != 0) = true := by simpa using h0
        have H0 := hd h0
        clear h0
        go_wp2_with (go_at_call 91; refine (ruleClo_any _ _ _ T r _ (K0.out _) (K1.out _)).mono ?_; rintro e w' ⟨rfl, hb2⟩)
        go_ret
        exact ⟨by rw [fst0_at (ruErr l) k (by simpa [ruErr] using hlt) HZ.out (by rw [HE.out]; exact H0.out), HE.out]; rfl, (hb.alloc hb.size _).trans (hb2.mono (by have := hb.size; simp; omega))⟩
    · go_wp2
      go_ret
      have hke : k = l.length := by omega
      exact ⟨by rw [fst0_none (ruErr l) (fun j hj => HZ.out j (by simp [ruErr] at hj; omega))]; rfl, hb⟩

set_option maxRecDepth 1000000 in
theorem chkRules_any (sl : Value) (l : List Ru) (w : World) (h : Rd w w.heap.size sl l.length (ruc l)) :
    Calls Tryz.prog 66 #[sl] w fun e w' => e = .returned (.int .i64 (chkRules l)) ∧ Below w.heap.size w w' := by
  have h2 := h
  obtain ⟨A, c, rfl, hc1, hc2, -⟩ := h2
  have HH := hd h
  unfold maxLen at hc2
  clear h
  by_cases h8 : 8 < l.length
  · have HC := hd (show chkRules l = 5 by simp [chkRules, h8])
    go_enter Tryz.func66, Tryz.ntmps66
    go_wp2
    go_ret
    exact ⟨by rw [HC.out]; rfl, Below.refl _ _⟩
  · have HC := hd (show chkRules l = fst0 (ruErr l) by simp [chkRules, h8])
    go_enter Tryz.func66, Tryz.ntmps66
    go_wp2_with (first | (go_at_call 67; refine (kinds_any _).mono ?_; rintro e w1 ⟨rfl, hm1, hb1⟩; have HM1 := hd (And.intro hm1 hb1); clear hm1 hb1))
    obtain ⟨hm1, hb1⟩ := HM1.out
    have hb2 := hb1.alloc hb1.size (Obj.cells #[.map (some w.heap.size)] 135)
    refine (eachRule_any _ l w1.heap.size w.heap.size _ ((HH.out.below hb2 (Nat.le_refl _)).mono hb2.size) (by simp) ((Below.heap_alloc w1 _ _ (Array.getElem?_eq_some_iff.1 hm1).1).trans hm1)).mono ?_
    rintro e w2 ⟨rfl, hb3⟩
    have HB := hd (hb2.trans (hb3.mono hb2.size))
    clear hm1 hb1 hb2 hb3
    go_wp2
    go_ret
    exact ⟨by rw [HC.out]; rfl, HB.out⟩

end Go.Proofs.YtkgkpcmokmhakaaGreatDoor
