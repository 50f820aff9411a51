/-
  Plain words of GaugeKeeps: what the rules have left has nothing that one of them removes. No program.
  Plain words of GaugeKeeps: a cleaned record is valid, and what the law asks of each of its levels. No program.
  Plain words: the lines of a text, as both sides read them. No program.
-/
import Derived.Test.YtnncmaegmlaabaaGreatDoorEK
import Derived.Test.YtnncmaegmlaabaaGreatDoorP0
import Derived.Test.YtnncmaegmlaabaaGreatDoorY4
import Derived.Test.YtnncmaegmlaabaaGreatDoorYA

namespace Go.Proofs.YtnncmaegmlaabaaGreatDoor
open Go.RowKit

/-- That a rule finds nothing to remove, of those that are there. -/
def Calm (x : Ru) (bs : List Nat) (T : List Bool) : Prop := ∀ i, T.getD i false = true → rmB x bs T T i = false
section
variable (bs : List Nat) (gs : List (Int × Int)) (l : List Ru)
end
theorem calm_range {x : Ru} {bs : List Nat} {T : List Bool} (h : Calm x bs T) (hx : (x.1 == sRange) = true) {i : Nat} (hi : T.getD i false = true) : x.2.1 ≤ s16 (bs.getD i 0) ∧ s16 (bs.getD i 0) ≤ x.2.2 := by
  have := h i hi
  unfold rmB at this
  rw [hx] at this
  simp only [cond_true, Bool.or_eq_false_iff, decide_eq_false_iff_not] at this
  omega
end Go.Proofs.YtnncmaegmlaabaaGreatDoor

namespace Go.Proofs.YtnncmaegmlaabaaGreatDoor
open Go.RowKit

theorem can_count : ∀ (l : List (Int × Int)) (lo hi : Int), Can l → (∀ s ∈ l, lo ≤ s.1 ∧ s.2 ≤ hi) → l ≠ [] → lo + 2 * (l.length : Int) ≤ hi + 1
  | [], _, _, _, _, h => absurd rfl h
  | [s], lo, hi, hC, hb, _ => by
    have h1 := hb s (List.mem_cons_self ..)
    have h2 := hC.2 s (List.mem_cons_self ..)
    simp only [List.length_cons, List.length_nil]
    omega
  | s :: r :: l, lo, hi, hC, hb, _ => by
    obtain ⟨c1, c2, c3⟩ := can_tail hC
    have h1 := hb s (List.mem_cons_self ..)
    have ih := can_count (r :: l) (s.2 + 1) hi c1 (fun x hx => ⟨by have := c2 x hx; omega, (hb x (List.mem_cons_of_mem _ hx)).2⟩) (by simp)
    simp only [List.length_cons] at ih ⊢
    push_cast at ih ⊢
    omega
theorem str_few (bs : List Bool) (n : Nat) (hn : n ≤ 4096) : (strF bs n).length ≤ 2048 := by
  by_cases h : strF bs n = []
  · rw [h]; simp
  · obtain ⟨h1, h2, -⟩ := str_can bs n
    have := can_count _ 0 (n : Int) h1 h2 h
    omega
theorem lev_zeroK : chkLev 0 = 0 := by decide +kernel
theorem asm_levK (bs : List Nat) (T : List Bool) (hl : ∀ i, i < bs.length → chkLev (bs.getD i 0) = 0) (j : Nat) (hj : j < bs.length) : chkLev ((asmK bs T bs.length).getD j 0) = 0 := by
  rw [asmK_at bs T j hj]
  split
  · exact hl j hj
  · exact lev_zeroK
/-- In the gaps of what has been cleaned there is nothing. -/
theorem str_has (bs : List Nat) (T : List Bool) (hT : T.length = bs.length) (j : Nat) (hj : j < bs.length) : hasL (strF (T.map (!·)) bs.length) (j : Int) = !T.getD j false := by
  have h3 := (str_can (T.map (!·)) bs.length).2.2 (j : Int)
  have e1 : decide ((0 : Int) ≤ (j : Int)) = true := by simp
  have e2 : decide ((j : Int) < (bs.length : Int)) = true := by simp; omega
  rw [e1, e2, Int.toNat_natCast, not_getD _ j (by omega)] at h3
  simpa using h3
theorem asm_len (bs : List Nat) (T : List Bool) : (asmK bs T bs.length).length = bs.length := by rw [asmK_len]
theorem fst0_all : ∀ (l : List Int), (∀ j, j < l.length → l.getD j 0 = 0) → fst0 l = 0
  | [], _ => rfl
  | x :: l, h => by
    have h0 := h 0 (by simp)
    have : x = 0 := by simpa using h0
    unfold fst0
    rw [if_pos this]
    exact fst0_all l (fun j hj => by have := h (j + 1) (by simpa using hj); simpa using this)
theorem cleaned_ok (nm : ByteArray) (st : Int) (bs : List Nat) (gs : List (Int × Int)) (T : List Bool) (hT : T.length = bs.length) (hn : bs.length ≤ 4096) (h : chkRec nm st bs gs = 0) (hl : ∀ i, i < bs.length → chkLev (bs.getD i 0) = 0) :
    chkRec nm st (asmK bs T bs.length) (strF (T.map (!·)) bs.length) = 0 := by
  have h1 : rec1 nm st bs.length = 0 := by
    unfold chkRec at h
    by_cases h1 : rec1 nm st bs.length = 0
    · exact h1
    · rw [if_neg h1] at h; exact absurd h h1
  obtain ⟨c1, c2, -⟩ := str_can (T.map (!·)) bs.length
  have hch : chkSpans (strF (T.map (!·)) bs.length) = 0 := chk_can _ c1 (fun s hs => ⟨(c2 s hs).1, by have := (c2 s hs).2; omega⟩) (str_few _ _ hn)
  have hlev : fst0 (levErr (asmK bs T bs.length)) = 0 := by
    apply fst0_all
    intro j hj
    have hj : j < (asmK bs T bs.length).length := by simpa [levErr] using hj
    rw [levErr_at _ j hj]
    exact asm_levK bs T hl j (by rwa [asm_len] at hj)
  have hend : ∀ j, j < (strF (T.map (!·)) bs.length).length → ((strF (T.map (!·)) bs.length).getD j (0, 0)).2 ≤ ((asmK bs T bs.length).length : Int) := fun j hj => by
    rw [asm_len]
    exact (c2 _ (getD_mem _ j hj)).2
  have h2 := rec2_fine hlev hch hend
  have h3 : silB (asmK bs T bs.length) (strF (T.map (!·)) bs.length) = true := by
    refine (silB_true _ _ (fun s hs => by rw [asm_len]; exact (c2 s hs).2)).2 ?_
    intro j hj i hi1 hi2
    have hm := getD_mem (strF (T.map (!·)) bs.length) j hj
    have hb := c2 _ hm
    have hi : i < bs.length := by omega
    have hh : hasL (strF (T.map (!·)) bs.length) (i : Int) = true := hasL_true.2 ⟨_, hm, hi1, hi2⟩
    rw [str_has bs T hT i hi] at hh
    rw [asmK_at bs T i hi, if_neg (by simpa using hh)]
    decide +kernel
  unfold chkRec
  rw [asm_len, if_pos h1, if_pos h2, h3]
  rfl
end Go.Proofs.YtnncmaegmlaabaaGreatDoor

namespace Go.Proofs.YtnncmaegmlaabaaGreatDoor
open Go.RowKit

theorem prt_nil (s : ByteArray) (c : Nat) : ∀ k, prt s c k = [] → frm s c k = 0
  | 0, _ => rfl
  | k + 1, h => by
    rw [prt] at h
    by_cases hq : bAt s k = c
    · rw [if_pos hq] at h; simp at h
    · rw [if_neg hq] at h; rw [frm, if_neg hq]; exact prt_nil s c k h
theorem prt_some (s : ByteArray) (c : Nat) : ∀ k, prt s c k ≠ [] → ∃ i, i < k ∧ bAt s i = c
  | 0, h => absurd rfl h
  | k + 1, h => by
    by_cases hq : bAt s k = c
    · exact ⟨k, by omega, hq⟩
    · rw [prt, if_neg hq] at h
      obtain ⟨i, h1, h2⟩ := prt_some s c k h
      exact ⟨i, by omega, h2⟩
theorem spl_cnt (s : ByteArray) (c : Nat) : (spl s c).length = (prt s c s.size).length + 1 := by unfold spl; simp
theorem spl_one {s : ByteArray} {c : Nat} (h : (spl s c).length - 1 = 0) : (spl s c).headD ⟨#[]⟩ = s := by
  rw [spl_cnt] at h
  have hp : prt s c s.size = [] := List.eq_nil_of_length_eq_zero (by omega)
  have hf := prt_nil s c s.size hp
  unfold spl
  rw [hp, hf]
  show s.extract 0 s.size = s
  simp
theorem spl_more {s : ByteArray} {c : Nat} (h : ¬ (spl s c).length - 1 = 0) : ∃ i, i < s.size ∧ bAt s i = c := by
  rw [spl_cnt] at h
  exact prt_some s c s.size (fun e => by rw [e] at h; exact h rfl)
theorem digs_no {u : ByteArray} {i : Nat} (hi : i < u.size) (hb : bAt u i = 32) : digs u = false := by
  unfold digs
  exact List.all_eq_false.2 ⟨i, by simpa using hi, by rw [hb]; decide⟩
theorem numB_no {u : ByteArray} (h : digs u = false) : numB u = none := by
  unfold numB
  rw [h]; simp
theorem sgnB_blank {t : ByteArray} {i : Nat} (hi : i < t.size) (hb : bAt t i = 32) : sgnB t = none := by
  by_cases hc : 1 < t.size ∧ bAt t 0 = 45
  · have h0 : i ≠ 0 := fun e => by rw [e] at hb; omega
    have hz : (t.extract 1 t.size).size = t.size - 1 := by simp
    have hx : bAt (t.extract 1 t.size) (i - 1) = 32 := by rw [bAt_ext t 1 t.size (i - 1) (by omega), show 1 + (i - 1) = i by omega, hb]
    rw [sgnB_neg hc, numB_no (digs_no (i := i - 1) (by omega) hx)]
  · rw [sgnB_pos hc, numB_no (digs_no hi hb)]; rfl
/-- The line of a gap. -/
def dsh (t : ByteArray) : Bool := t.toList == [45]
theorem dsh_yes {t : ByteArray} (h : dsh t = true) : t.size = 1 ∧ bAt t 0 = 45 := by
  unfold dsh at h
  have h1 : t.toList = [45] := by simpa using h
  rw [ByteArray.toList_eq] at h1
  have hl : t.data.toList.length = t.size := by simp
  refine ⟨by rw [← hl, h1]; rfl, ?_⟩
  unfold bAt
  rw [h1]; rfl
theorem dsh_sgn {t : ByteArray} (h : dsh t = true) : sgnB t = none := by
  obtain ⟨h1, h2⟩ := dsh_yes h
  rw [sgnB_pos (by omega)]
  have : digs t = false := by unfold digs; exact List.all_eq_false.2 ⟨0, by simp; omega, by rw [h2]; decide⟩
  rw [numB_no this]; rfl
/-- Whether a line has the form of a level's, and the level that it has. -/
def lvOk (t : ByteArray) : Bool := dsh t || (sgnB t).isSome
def lvX (t : ByteArray) : Nat := lvQ ((sgnB t).getD 0)
theorem rl_ok {t : ByteArray} (h : lvOk t = true) : rlR true (spl t 32) = .tuple #[.float .f32 (lvX t), .bool (sgnB t).isSome, .bool true] := by
  unfold lvOk at h
  have hl : (spl t 32).length - 1 = 0 := by
    by_cases hl : (spl t 32).length - 1 = 0
    · exact hl
    · obtain ⟨i, hi, hb⟩ := spl_more hl
      rw [sgnB_blank hi hb] at h
      have h1 : dsh t = true := by simpa using h
      obtain ⟨h2, h3⟩ := dsh_yes h1
      have : i = 0 := by omega
      rw [this] at hb
      omega
  unfold rlR
  rw [if_pos ⟨rfl, hl⟩, spl_one hl]
  cases hd : dsh t
  · rw [hd, Bool.false_or] at h
    rw [if_neg (by unfold dsh at hd; rw [hd]; decide), h]
    rfl
  · rw [if_pos (show (t.toList == [45]) = true from hd)]
    unfold lvX
    rw [dsh_sgn hd]
    show _ = Value.tuple #[.float .f32 (lvQ 0), .bool false, .bool true]
    rw [lvQ_zero]
theorem rl_no {t : ByteArray} (h : lvOk t = false) : ∃ x b, rlR true (spl t 32) = .tuple #[.float .f32 x, .bool b, .bool false] := by
  unfold lvOk at h
  simp only [Bool.or_eq_false_iff] at h
  obtain ⟨h1, h2⟩ := h
  unfold rlR
  by_cases hl : (spl t 32).length - 1 = 0
  · rw [if_pos ⟨rfl, hl⟩, spl_one hl, if_neg (by unfold dsh at h1; rw [h1]; decide), h2]
    exact ⟨_, _, rfl⟩
  · rw [if_neg (fun e => hl e.2)]
    exact ⟨_, _, rfl⟩
theorem rl_nolf (l : List ByteArray) : rlR false l = .tuple #[.float .f32 0, .bool false, .bool false] := if_neg (fun e => by cases e.1)
/-- Whether a line has the form of a heading. -/
def hdOk (h : ByteArray) : Bool := (((spl h 32).headD ⟨#[]⟩).toList == [103, 97, 117, 103, 101]) && !(((spl h 32).getD 1 ⟨#[]⟩).toList == []) && (numB ((spl h 32).getD 2 ⟨#[]⟩)).isSome && decide ((spl h 32).tail.tail.tail.length = 0)
theorem hd_three {h : ByteArray} (hh : hdOk h = true) : (spl h 32).length = 3 := by
  unfold hdOk at hh
  simp only [Bool.and_eq_true, decide_eq_true_eq] at hh
  obtain ⟨⟨-, h3⟩, h4⟩ := hh
  have h4' : (spl h 32).length - 3 = 0 := by simpa [Nat.sub_sub] using h4
  by_cases hl : 2 < (spl h 32).length
  · omega
  · rw [List.getD_eq_getElem?_getD, List.getElem?_eq_none (by omega)] at h3
    have hn : numB (⟨#[]⟩ : ByteArray) = none := by unfold numB; rw [if_pos (.inl rfl)]
    rw [show Option.getD (none : Option ByteArray) ⟨#[]⟩ = ⟨#[]⟩ from rfl, hn] at h3
    cases h3
/-- The lines of a text that are ended, and what stands behind the last one. -/
def tL (s : ByteArray) : List ByteArray := prt s 10 s.size
def tE (s : ByteArray) : ByteArray := s.extract (frm s 10 s.size) s.size
theorem spl_is (s : ByteArray) : spl s 10 = tL s ++ [tE s] := rfl
theorem spa_is (s : ByteArray) : spa s 10 = (tL s).map (· ++ ⟨#[10]⟩) ++ [tE s] := by
  obtain ⟨L, e, h1, h2⟩ := spa_spl s 10
  obtain ⟨ha, hb⟩ := List.append_inj' ((spl_is s).symm.trans h1) rfl
  rw [h2, ha, List.cons.inj hb |>.1]
theorem tE_nolf (s : ByteArray) : lfN (tE s) = false := lf_last s
theorem tL_len (s : ByteArray) : (tL s).length ≤ s.size := prt_len s 10 s.size
theorem tL_mem (s : ByteArray) : ∀ x ∈ tL s, x.size ≤ s.size := prt_mem s 10 s.size
theorem tE_size (s : ByteArray) : (tE s).size ≤ s.size := by unfold tE; simp
/-- The first line that has not the form of a level's. -/
def fbd (T : List ByteArray) : Nat := T.findIdx (fun t => !lvOk t)
theorem fbd_ok {T : List ByteArray} {i : Nat} (h : i < fbd T) : lvOk (T.getD i ⟨#[]⟩) = true := by
  have h1 := List.not_of_lt_findIdx h
  have hl : i < T.length := Nat.lt_of_lt_of_le h List.findIdx_le_length
  rw [List.getD_eq_getElem?_getD, List.getElem?_eq_getElem hl]
  simpa using h1
theorem fbd_no {T : List ByteArray} (h : fbd T < T.length) : lvOk (T.getD (fbd T) ⟨#[]⟩) = false := by
  have h1 := List.findIdx_getElem (p := fun t => !lvOk t) (w := h)
  have h2 : (!lvOk (T[fbd T]'h)) = true := h1
  rw [List.getD_eq_getElem?_getD, List.getElem?_eq_getElem h]
  show lvOk (T[fbd T]'h) = false
  cases hq : lvOk (T[fbd T]'h)
  · rfl
  · rw [hq] at h2; cases h2
theorem fbd_le (T : List ByteArray) : fbd T ≤ T.length := List.findIdx_le_length
theorem fbd_is {T : List ByteArray} {k : Nat} (hk : k < T.length) (h1 : ∀ i, i < k → lvOk (T.getD i ⟨#[]⟩) = true) (h2 : lvOk (T.getD k ⟨#[]⟩) = false) : fbd T = k := by
  rcases Nat.lt_trichotomy (fbd T) k with h | h | h
  · have := fbd_no (T := T) (by omega)
    rw [h1 _ h] at this; cases this
  · exact h
  · have := fbd_ok h
    rw [h2] at this; cases this
theorem fbd_all {T : List ByteArray} (h1 : ∀ i, i < T.length → lvOk (T.getD i ⟨#[]⟩) = true) : fbd T = T.length := by
  rcases Nat.lt_or_ge (fbd T) T.length with h | h
  · have := fbd_no h
    rw [h1 _ h] at this; cases this
  · have := fbd_le T; omega
def bsT (T : List ByteArray) : List Nat := T.map lvX
def msT (T : List ByteArray) : List Bool := T.map fun t => (sgnB t).isSome
def nsT (T : List ByteArray) : List Int := T.map fun t => (sgnB t).getD 0
def bigN (n : Int) : Bool := decide (n < -1024) || decide (1024 < n)
theorem sgnB_bound (t : ByteArray) : -999999999 ≤ (sgnB t).getD 0 ∧ (sgnB t).getD 0 ≤ 999999999 := by
  by_cases hc : 1 < t.size ∧ bAt t 0 = 45
  · rw [sgnB_neg hc]
    cases hn : numB (t.extract 1 t.size) with
    | none => simp
    | some n =>
      have := numB_bound _ hn
      simp only
      split
      · simp; omega
      · simp
  · rw [sgnB_pos hc]
    cases hn : numB t with
    | none => simp
    | some n =>
      have := numB_bound _ hn
      simp; omega
theorem lev_lvX (t : ByteArray) : chkLev (lvX t) = if bigN ((sgnB t).getD 0) then 3 else 0 := by
  have h := sgnB_bound t
  unfold lvX
  rw [lev_lvQ _ h.1 h.2]
  unfold bigN
  simp
theorem fst0_03 : ∀ (l : List Int), (∀ j, j < l.length → l.getD j 0 = 0 ∨ l.getD j 0 = 3) → (∃ j, j < l.length ∧ l.getD j 0 = 3) → fst0 l = 3
  | [], _, ⟨j, h, _⟩ => absurd h (by simp)
  | x :: l, h, ⟨j, hj, h3⟩ => by
    unfold fst0
    have h0 := h 0 (by simp)
    simp only [List.getD_cons_zero] at h0
    rcases h0 with h0 | h0
    · rw [if_pos h0]
      refine fst0_03 l (fun i hi => by have := h (i + 1) (by simpa using hi); simpa using this) ?_
      match j, hj, h3 with
      | 0, _, h3 => simp [h0] at h3
      | j + 1, hj, h3 => exact ⟨j, by simpa using hj, by simpa using h3⟩
    · rw [if_neg (by omega), h0]
/-- What CheckRecord says of a text's record. -/
theorem chk_txt (nm : ByteArray) (st : Int) (T : List ByteArray) (hn : T.length ≤ 4096) :
    chkRec nm st (asmK (bsT T) (msT T) T.length) (strF ((msT T).map (!·)) T.length) = if fst0 [unl (nameB nm) 8, rng st 0 100000] = 0 then (if (nsT T).any bigN then 3 else 0) else fst0 [unl (nameB nm) 8, rng st 0 100000] := by
  have hbl : (bsT T).length = T.length := by simp [bsT]
  have hml : (msT T).length = (bsT T).length := by simp [bsT, msT]
  have r1 : rec1 nm st T.length = fst0 [unl (nameB nm) 8, rng st 0 100000] := by
    have hm : most ((T.length : Nat) : Int) 4096 = 0 := if_pos (by omega)
    unfold rec1
    rw [hm]
    simp only [fst0, if_true]
  have hlv : ∀ j, j < T.length → chkLev ((bsT T).getD j 0) = if bigN ((sgnB (T.getD j ⟨#[]⟩)).getD 0) then 3 else 0 := fun j hj => by
    have : (bsT T).getD j 0 = lvX (T.getD j ⟨#[]⟩) := by simp [bsT, hj]
    rw [this, lev_lvX]
  have hal : (asmK (bsT T) (msT T) T.length).length = T.length := by rw [asmK_len, hbl]
  by_cases h1 : fst0 [unl (nameB nm) 8, rng st 0 100000] = 0
  · rw [if_pos h1]
    by_cases hb : (nsT T).any bigN = true
    · rw [if_pos hb]
      have h3 : fst0 (levErr (asmK (bsT T) (msT T) T.length)) = 3 := by
        apply fst0_03
        · intro j hj
          have hj : j < T.length := by rw [← hal]; simpa [levErr] using hj
          rw [levErr_at _ j (by omega), ← hbl, asmK_at _ _ j (by omega)]
          split
          · rw [hlv j hj]; split
            · exact .inr rfl
            · exact .inl rfl
          · exact .inl lev_zeroK
        · obtain ⟨n, hn1, hn2⟩ := List.any_eq_true.1 hb
          obtain ⟨j, hj, hjn⟩ := List.getElem_of_mem hn1
          have hj : j < T.length := by simpa [nsT] using hj
          refine ⟨j, by simpa [levErr, hal] using hj, ?_⟩
          have hN : (sgnB (T.getD j ⟨#[]⟩)).getD 0 = n := by rw [← hjn]; simp [nsT, hj]
          have hM : (msT T).getD j false = true := by
            have : (msT T).getD j false = (sgnB (T.getD j ⟨#[]⟩)).isSome := by simp [msT, hj]
            rw [this]
            cases hs : sgnB (T.getD j ⟨#[]⟩) with
            | some _ => rfl
            | none => rw [hs] at hN; rw [← hN] at hn2; revert hn2; decide
          rw [levErr_at _ j (by omega), ← hbl, asmK_at _ _ j (by omega), if_pos hM, hlv j hj, hN, if_pos hn2]
      unfold chkRec
      rw [hal, r1, if_pos h1]
      have h2 : rec2 (asmK (bsT T) (msT T) T.length) (strF ((msT T).map (!·)) T.length) = 3 := by
        unfold rec2
        rw [h3]; rfl
      rw [h2, if_neg (by decide)]
    · rw [if_neg hb]
      have hz : ∀ i, i < (bsT T).length → chkLev ((bsT T).getD i 0) = 0 := fun i hi => by
        rw [hlv i (by omega), if_neg]
        intro hc
        apply hb
        refine List.any_eq_true.2 ⟨_, ?_, hc⟩
        unfold nsT
        refine List.mem_map.2 ⟨T.getD i ⟨#[]⟩, ?_, rfl⟩
        rw [List.getD_eq_getElem?_getD, List.getElem?_eq_getElem (by omega)]
        exact List.getElem_mem _
      have hc0 : chkRec nm st (bsT T) [] = 0 := by
        have hlev : fst0 (levErr (bsT T)) = 0 := fst0_all _ (fun j hj => by
          have hj : j < (bsT T).length := by simpa [levErr] using hj
          rw [levErr_at _ j hj]; exact hz j hj)
        have h2 : rec2 (bsT T) [] = 0 := by unfold rec2; rw [hlev]; rfl
        unfold chkRec
        rw [hbl, r1, if_pos h1, if_pos h2]; rfl
      have := cleaned_ok nm st (bsT T) [] (msT T) hml (by omega) hc0 hz
      rw [hbl] at this
      exact this
  · rw [if_neg h1]
    unfold chkRec
    rw [hal, r1, if_neg h1]
/-- What a text is: its name, start, levels and gaps, its error, and the line at fault. -/
def tHd (s : ByteArray) : ByteArray := (tL s).headD ⟨#[]⟩
def tT (s : ByteArray) : List ByteArray := (tL s).tail
def hedB (s : ByteArray) : Bool := decide ((tL s).length ≠ 0) && hdOk (tHd s)
def tNm (s : ByteArray) : ByteArray := (spl (tHd s) 32).getD 1 ⟨#[]⟩
def tSt (s : ByteArray) : Int := ((numB ((spl (tHd s) 32).getD 2 ⟨#[]⟩)).getD 0 : Nat)
def tBs (s : ByteArray) : List Nat := asmK (bsT (tT s)) (msT (tT s)) (tT s).length
def tGs (s : ByteArray) : List (Int × Int) := strF ((msT (tT s)).map (!·)) (tT s).length
def synB (s : ByteArray) : Bool := !hedB s || decide (fbd (tT s) < (tT s).length) || decide ((tE s).size ≠ 0)
def txtE (s : ByteArray) : Int := if synB s then 26 else chkRec (tNm s) (tSt s) (tBs s) (tGs s)
def txtAt (s : ByteArray) : Nat := if synB s then (if hedB s then 1 + fbd (tT s) else 0) else if txtE s = 0 then 0 else (tL s).length
end Go.Proofs.YtnncmaegmlaabaaGreatDoor
