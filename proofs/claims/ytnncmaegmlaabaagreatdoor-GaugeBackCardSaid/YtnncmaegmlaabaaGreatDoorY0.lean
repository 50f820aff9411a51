/-
  Integers as words: the reference's Number and Signed. Conditions: at most 300 bytes.
  Integers as words: the reference's Signed and Text. Conditions: written at each.
  Integers as words: texts.Integer and texts.Unsigned, with at most nine digits. Conditions: written at each.
  Integers as words: texts.Integer and texts.Unsigned, with at most nine digits. Condition: at most a million bytes.
-/
import Derived.Test.YtnncmaegmlaabaaGreatDoorProg
import Derived.Test.YtnncmaegmlaabaaGreatDoorS0
import Derived.Test.YtnncmaegmlaabaaGreatDoorMI
import Derived.Laws.BytesArg
import Derived.Lib.ItoaMem
import Derived.Test.YtnncmaegmlaabaaGreatDoorMC
import Derived.Test.YtnncmaegmlaabaaGreatDoorShelfB

namespace Go.Proofs.YtnncmaegmlaabaaGreatDoor
open Go.RowKit
attribute [local go_sem] Oper.semAt_some

theorem bAt_get (s : ByteArray) (i : Nat) (h : i < s.size) : (s[i]'h).toNat = bAt s i := by
  have h' : i < s.data.toList.length := by simpa using h
  unfold bAt
  rw [List.getD_eq_getElem?_getD, List.getElem?_eq_getElem h', Option.getD_some]
  congr 1
/-- The number that the first bytes make. -/
def digN (s : ByteArray) : Nat → Nat
  | 0 => 0
  | k + 1 => 10 * digN s k + (bAt s k - 48)
def isDigB (c : Nat) : Bool := decide (48 ≤ c) && decide (c ≤ 57)
def digs (s : ByteArray) : Bool := (List.range s.size).all fun i => isDigB (bAt s i)
/-- What a word without a sign is. -/
def numB (s : ByteArray) : Option Nat :=
  if s.size = 0 ∨ 9 < s.size ∨ 1 < s.size ∧ bAt s 0 = 48 then none else if digs s then some (digN s s.size) else none
/-- What a word is. -/
def sgnB (s : ByteArray) : Option Int :=
  if 1 < s.size ∧ bAt s 0 = 45 then (match numB (s.extract 1 s.size) with | some n => if 0 < n then some (-(n : Int)) else none | none => none) else (numB s).map fun n => (n : Int)
theorem digN_lt (s : ByteArray) (h : ∀ i, i < s.size → isDigB (bAt s i) = true) : ∀ k, k ≤ s.size → digN s k < 10 ^ k
  | 0, _ => by simp [digN]
  | k + 1, hk => by
    have h1 := digN_lt s h k (by omega)
    have h2 := h k (by omega)
    unfold isDigB at h2
    simp only [Bool.and_eq_true, decide_eq_true_eq] at h2
    rw [digN, Nat.pow_succ]
    omega
theorem digN_bound (s : ByteArray) {k : Nat} (h : digN s k < 10 ^ k) (hk : k ≤ 9) : digN s k ≤ 999999999 := by
  have : (10 : Nat) ^ k ≤ 10 ^ 9 := Nat.pow_le_pow_right (by omega) hk
  omega

set_option maxRecDepth 1000000 in
set_option maxHeartbeats 4000000 in
theorem refNumber_any (s : ByteArray) (w : World) (hs : s.size ≤ 1000000) : Calls Tryz.prog 63 #[.string s] w fun e w' => e = .returned (.tuple #[.int .i64 (((numB s).getD 0 : Nat) : Int), .bool (numB s).isSome]) ∧ w = w' := by
  by_cases h0 : s.size = 0
  · have h0' : ((s.size : Int) == 0) = true := by rw [h0]; rfl
    have HN := hd (show numB s = none by unfold numB; rw [if_pos (.inl h0)])
    clear h0
    go_enter Tryz.func63, Tryz.ntmps63
    go_wp2
    go_returns
    exact ⟨by rw [HN.out]; rfl, rfl⟩
  · have h0' : ((s.size : Int) == 0) = false := by rw [beq_eq_false_iff_ne]; omega
    have hp : 0 < s.size := by omega
    by_cases h9 : 9 < s.size
    · have h9' : (9 : Int) < (s.size : Int) := by omega
      have HN := hd (show numB s = none by unfold numB; rw [if_pos (.inr (.inl h9))])
      clear h0
      go_enter Tryz.func63, Tryz.ntmps63
      go_wp2
      go_returns
      exact ⟨by rw [HN.out]; rfl, rfl⟩
    · have h9' : ¬ (9 : Int) < (s.size : Int) := by omega
      obtain ⟨c0, hc0⟩ : ∃ c : Int, ((s[0]'hp).toNat : Int) = c := ⟨_, rfl⟩
      have hcb : c0 = (bAt s 0 : Int) := by rw [← hc0, bAt_get]
      by_cases hz : 1 < s.size ∧ bAt s 0 = 48
      · have hz1 : (1 : Int) < (s.size : Int) := by omega
        have hz2 : (c0 == 48) = true := by rw [hcb, hz.2]; rfl
        have HN := hd (show numB s = none by unfold numB; rw [if_pos (.inr (.inr hz))])
        clear h0 hcb hz
        go_enter Tryz.func63, Tryz.ntmps63
        go_wp2
        go_returns
        exact ⟨by rw [HN.out]; rfl, rfl⟩
      · have HN := hd (show numB s = if digs s then some (digN s s.size) else none by unfold numB; rw [if_neg (by omega)])
        have hsz : (s.size : Int) ≤ 9 := by omega
        have HZ := hd (show ((1 : Int) < (s.size : Int) ∧ (c0 == 48) = false) ∨ ¬ (1 : Int) < (s.size : Int) by
          by_cases h1 : 1 < s.size
          · exact .inl ⟨by omega, by rw [beq_eq_false_iff_ne, hcb]; intro e; exact hz ⟨h1, by omega⟩⟩
          · exact .inr (by omega))
        clear h0 hcb hz
        go_enter Tryz.func63, Tryz.ntmps63
        rcases HZ.out with ⟨z1, z2⟩ | z1
        all_goals
          go_wp2
          go_loopw [4, 5] (fun n i wr => ∃ k : Nat, k ≤ s.size ∧ n = .int .i64 (digN s k : Int) ∧ i = .int .i64 k ∧ wr = w ∧ Hid (∀ i, i < k → isDigB (bAt s i) = true)) (fun _ i _ => s.size - (intOf i).toNat)
          case atStart => exact ⟨0, Nat.zero_le _, rfl, rfl, rfl, hd (fun i hi => absurd hi (by omega))⟩
          case round =>
            obtain ⟨k, hk, rfl, rfl, rfl, HP⟩ := hrel
            by_cases hlt : k < s.size
            · have hki : (k : Int) < (s.size : Int) := by omega
              obtain ⟨c, hc⟩ : ∃ c : Int, ((s[k]'hlt).toNat : Int) = c := ⟨_, rfl⟩
              have hcb : c = (bAt s k : Int) := by rw [← hc, bAt_get]
              have hlim := bAt_lt s k
              by_cases h48 : c < 48
              · have HD := hd (show digs s = false by unfold digs; exact List.all_eq_false.2 ⟨k, by simpa using hlt, by unfold isDigB; simp; omega⟩)
                clear HP hcb hlim
                go_wp2
                go_returns
                exact ⟨by rw [HN.out, HD.out]; rfl, rfl⟩
              · by_cases h57 : 57 < c
                · have HD := hd (show digs s = false by unfold digs; exact List.all_eq_false.2 ⟨k, by simpa using hlt, by unfold isDigB; simp; omega⟩)
                  clear HP hcb hlim
                  go_wp2
                  go_returns
                  exact ⟨by rw [HN.out, HD.out]; rfl, rfl⟩
                · have HP2 := hd (show ∀ i, i < k + 1 → isDigB (bAt s i) = true from fun i hi => by
                    by_cases e : i = k
                    · subst e; unfold isDigB; simp; omega
                    · exact HP.out i (by omega))
                  have hb : digN s k ≤ 999999999 := by
                    refine digN_bound s (k := k) ?_ (by omega)
                    have : ∀ m, m ≤ k → digN s m < 10 ^ m := by
                      intro m
                      induction m with
                      | zero => intro _; simp [digN]
                      | succ m ih =>
                        intro hm
                        have h1 := ih (by omega)
                        have h2 := HP.out m (by omega)
                        unfold isDigB at h2
                        simp only [Bool.and_eq_true, decide_eq_true_eq] at h2
                        rw [digN, Nat.pow_succ]
                        omega
                    exact this k (Nat.le_refl _)
                  have HS := hd (show ((digN s (k + 1) : Nat) : Int) = 10 * (digN s k : Int) + (c - 48) by rw [digN]; omega)
                  generalize digN s k = D at *
                  clear HP hcb hlim
                  go_wp2
                  go_roundw
                  case rel => exact ⟨k + 1, by omega, by rw [HS.out], by go_num, by first | rfl | trivial, HP2⟩
                  case measure => simp [intOf]; omega
            · have hke : k = s.size := by omega
              have HD := hd (show digs s = true by unfold digs; exact List.all_eq_true.2 (fun i hi => HP.out i (by have h3 : i < s.size := (by simpa using hi); omega)))
              subst hke
              go_wp2
              go_returns
              exact ⟨by rw [HN.out, HD.out]; rfl, rfl⟩
end Go.Proofs.YtnncmaegmlaabaaGreatDoor

namespace Go.Proofs.YtnncmaegmlaabaaGreatDoor
open Go.RowKit
attribute [local go_sem] Oper.semAt_some

theorem sgnB_neg {s : ByteArray} (h : 1 < s.size ∧ bAt s 0 = 45) : sgnB s = match numB (s.extract 1 s.size) with | some n => if 0 < n then some (-(n : Int)) else none | none => none := if_pos h
theorem sgnB_pos {s : ByteArray} (h : ¬ (1 < s.size ∧ bAt s 0 = 45)) : sgnB s = (numB s).map fun n => (n : Int) := if_neg h
theorem numB_bound (s : ByteArray) {n : Nat} (h : numB s = some n) : n ≤ 999999999 := by
  unfold numB at h
  split at h
  · cases h
  · rename_i c
    split at h
    · rename_i hd
      injection h with h
      subst h
      exact digN_bound s (digN_lt s (fun i hi => List.all_eq_true.1 hd i (by simpa using hi)) s.size (Nat.le_refl _)) (by omega)
    · cases h

theorem dec_len : ∀ m n : Nat, n ≤ m → (Lib.decDigits n).length ≤ n + 1 := by
  intro m
  induction m with
  | zero =>
    intro n hn
    rw [Lib.decDigits_one (by omega)]; simp
  | succ m ih =>
    intro n hn
    by_cases h : n < 10
    · rw [Lib.decDigits_one h]; simp
    · have := ih (n / 10) (by omega)
      rw [Lib.decDigits, dif_neg h, List.length_append]
      simp only [List.length_cons, List.length_nil]
      omega
theorem itoa_size (n : Int) : (⟨(Lib.itoa n).toArray⟩ : ByteArray).size ≤ n.natAbs + 2 := by
  show (Lib.itoa n).toArray.size ≤ _
  rw [List.size_toArray]
  unfold Lib.itoa
  split
  · have := dec_len _ n.natAbs (Nat.le_refl _)
    simp only [List.length_cons]; omega
  · have := dec_len _ n.toNat (Nat.le_refl _)
    omega

end Go.Proofs.YtnncmaegmlaabaaGreatDoor

namespace Go.Proofs.YtnncmaegmlaabaaGreatDoor
open Go.RowKit
attribute [local go_sem] Oper.semAt_some

/-- A word without its sign. -/
def cutB (s : ByteArray) : ByteArray := if 0 < s.size ∧ bAt s 0 = 45 then s.extract 1 s.size else s
def cutN (s : ByteArray) : Bool := decide (0 < s.size ∧ bAt s 0 = 45)
theorem minus_pre (s : ByteArray) : Lib.hasPrefix s.data.toList [45] = cutN s := by
  unfold cutN bAt
  have hl : s.data.toList.length = s.size := by simp
  cases h : s.data.toList with
  | nil =>
    rw [h] at hl
    have h0 : s.size = 0 := by simpa using hl.symm
    simp [Lib.hasPrefix, h0]
  | cons a l =>
    rw [h] at hl
    have h0 : 0 < s.size := by rw [← hl]; simp
    simp only [Lib.hasPrefix, List.getD_cons_zero, h0, true_and]
    by_cases ha : a = 45
    · subst ha; simp
    · have h2 : ¬ a.toNat = 45 := fun e => ha (by apply UInt8.toNat_inj.1; exact e)
      have h3 : ((45 : UInt8) == a) = false := by rw [beq_eq_false_iff_ne]; exact fun e => ha e.symm
      show ((45 : UInt8) == a && [].isPrefixOf l) = _
      rw [h3]; simp [h2]

set_option maxRecDepth 1000000 in
theorem cutPrefixL_any (s : ByteArray) (w : World) (hs : s.size ≤ 1000000) : Calls Tryz.prog 195 #[.string s, .string ⟨#[45]⟩] w fun e w' => e = .returned (.tuple #[.string (cutB s), .bool (cutN s)]) ∧ w' = w := by
  have HP := hd (fun W => by have h := Tryz.stringslite_HasPrefix s ⟨#[45]⟩ W; rw [show (⟨#[45]⟩ : ByteArray).data.toList = [45] from rfl, minus_pre] at h; exact h)
  cases hc : cutN s
  · rw [hc] at HP
    have HB := hd (show cutB s = s by unfold cutB; rw [if_neg]; unfold cutN at hc; simpa using hc)
    clear hc hs
    go_enter Tryz.func195, Tryz.ntmps195
    go_wp2_with fail
    refine (HP.out _).mono ?_
    rintro e w' ⟨rfl, rfl⟩
    go_wp2_with fail
    go_returns
    exact ⟨by rw [HB.out]; rfl, rfl⟩
  · rw [hc] at HP
    have hp : 0 < s.size ∧ bAt s 0 = 45 := by unfold cutN at hc; simpa using hc
    have HB := hd (show cutB s = s.extract 1 s.size from if_pos hp)
    have hsz : 0 < s.size := hp.1
    have hs1 : (1 : Int) ≤ (s.size : Int) := by omega
    have hs2 : 1 ≤ s.size := by omega
    clear hc hp
    go_enter Tryz.func195, Tryz.ntmps195
    go_wp2_with fail
    refine (HP.out _).mono ?_
    rintro e w' ⟨rfl, rfl⟩
    go_wp2_with fail
    go_returns
    exact ⟨by rw [HB.out]; rfl, rfl⟩
set_option maxRecDepth 1000000 in
theorem cutPrefix_any (s : ByteArray) (w : World) (hs : s.size ≤ 1000000) : Calls Tryz.prog 171 #[.string s, .string ⟨#[45]⟩] w fun e w' => e = .returned (.tuple #[.string (cutB s), .bool (cutN s)]) ∧ w' = w := by
  go_enter Tryz.func171, Tryz.ntmps171
  go_wp2_with fail
  refine (cutPrefixL_any s _ hs).mono ?_
  rintro e w' ⟨rfl, rfl⟩
  go_wp2_with fail
  go_returns
  exact ⟨rfl, rfl⟩
/-- Where a word is an integer without its sign. -/
theorem numB_some {b : ByteArray} (h0 : b.size ≠ 0) (h9 : ¬ 9 < b.size) (hz : ¬ (1 < b.size ∧ bAt b 0 = 48)) : numB b = if digs b then some (digN b b.size) else none := by unfold numB; rw [if_neg (by omega)]
theorem sgnB_cut (s : ByteArray) : sgnB s = if cutN s then (match numB (cutB s) with | some n => if 0 < n then some (-(n : Int)) else none | none => none) else (numB (cutB s)).map fun n => (n : Int) := by
  cases hc : cutN s
  · have h1 : ¬ (0 < s.size ∧ bAt s 0 = 45) := by unfold cutN at hc; simpa using hc
    have h2 : cutB s = s := if_neg h1
    rw [h2, sgnB_pos (fun h => h1 ⟨by omega, h.2⟩)]; rfl
  · have h1 : 0 < s.size ∧ bAt s 0 = 45 := by unfold cutN at hc; simpa using hc
    have h2 : cutB s = s.extract 1 s.size := if_pos h1
    rw [h2]
    by_cases h3 : 1 < s.size
    · rw [sgnB_neg ⟨h3, h1.2⟩]; rfl
    · have h4 : s.size = 1 := by omega
      rw [sgnB_pos (fun h => h3 h.1)]
      have e1 : numB (s.extract 1 s.size) = none := by
        unfold numB; rw [if_pos]; left; simp [h4]
      have e2 : numB s = none := by
        have hd : digs s = false := by unfold digs; exact List.all_eq_false.2 ⟨0, by simp [h4], by rw [h1.2]; decide⟩
        unfold numB
        rw [hd]; simp
      rw [e1, e2]; rfl
end Go.Proofs.YtnncmaegmlaabaaGreatDoor

namespace Go.Proofs.YtnncmaegmlaabaaGreatDoor
open Go.RowKit
attribute [local go_sem] Oper.semAt_some

theorem next_rune2 (s : ByteArray) (pos : Nat) (h : pos < s.size) (w : World) : ∃ (r : Int) (wd : Nat), (∀ ty, (Instr.next (.pointer (some ⟨w.heap.size, 0, none⟩)) true ty).run Tryz.prog (w.iter s pos) = .ok (.tuple #[.bool true, .int .i64 pos, .int .i32 r]) (w.iter s (pos + wd))) ∧
    1 ≤ wd ∧ ((r = (bAt s pos : Int) ∧ wd = 1) ∨ (128 ≤ r ∧ 128 ≤ bAt s pos)) := by
  by_cases ha : (s[pos]'h).toNat < 128
  · exact ⟨((s[pos]'h).toNat : Int), 1, fun ty => run_next_ascii w s pos ty h ha, Nat.le_refl _, .inl ⟨by rw [bAt_get], rfl⟩⟩
  · obtain ⟨h1, h2⟩ := decode_high s pos h (by omega)
    exact ⟨((Utf8.decode s pos).1 : Int), (Utf8.decode s pos).2, fun ty => run_next_any w s pos ty h, h2, .inr ⟨by omega, by rw [← bAt_get s pos h]; omega⟩⟩
theorem digN_pos (b : ByteArray) (h0 : 49 ≤ bAt b 0) : ∀ k, 1 ≤ k → 1 ≤ digN b k
  | 0, h => absurd h (by omega)
  | 1, _ => by simp only [digN]; omega
  | k + 2, _ => by
    have := digN_pos b h0 (k + 1) (by omega)
    rw [digN]; omega

set_option maxRecDepth 1000000 in
set_option maxHeartbeats 4000000 in
theorem integer_any (s : ByteArray) (w : World) (hs : s.size ≤ 1000000) : Calls Tryz.prog 141 #[.string s, .int .i64 9] w fun e w' => e = .returned (.tuple #[.int .i64 ((sgnB s).getD 0), .bool (sgnB s).isSome]) ∧ Below w.heap.size w w' := by
  have HS0 := sgnB_cut s
  have HP := hd (fun W => cutPrefix_any s W hs)
  have hbs : (cutB s).size ≤ 1000000 := by unfold cutB; split; simp; omega; exact hs
  generalize cutB s = b at *
  generalize cutN s = ng at *
  have HS := hd HS0
  clear HS0 hs
  have hbl : b.data.toList.length = b.size := by simp
  by_cases h0 : b.size = 0
  · have e0 : b.toList = [] := by rw [ByteArray.toList_eq]; exact List.eq_nil_of_length_eq_zero (by omega)
    have hn : numB b = none := by unfold numB; rw [if_pos (.inl h0)]
    have HR := hd (show sgnB s = none by rw [HS.out, hn]; cases ng <;> rfl)
    clear hbl h0 hn hbs HS
    go_enter Tryz.func141, Tryz.ntmps141
    go_wp2_with fail
    refine (HP.out _).mono ?_
    rintro e w' ⟨rfl, rfl⟩
    go_wp2_with fail
    go_returns
    exact ⟨by rw [HR.out]; rfl, Below.refl _ _⟩
  · have e0 : b.toList.isEmpty = false := by
      rw [ByteArray.toList_eq]
      cases hl : b.data.toList with
      | nil => rw [hl] at hbl; simp at hbl; omega
      | cons => rfl
    have e1 : (b.toList == []) = false := by
      rw [beq_eq_false_iff_ne]; intro e; rw [e] at e0; cases e0
    clear hbl
    by_cases h9 : 9 < b.size
    · have h9' : (9 : Int) < (b.size : Int) := by omega
      have hn : numB b = none := by unfold numB; rw [if_pos (.inr (.inl h9))]
      have HR := hd (show sgnB s = none by rw [HS.out, hn]; cases ng <;> rfl)
      clear hn HS h0
      go_enter Tryz.func141, Tryz.ntmps141
      go_wp2_with fail
      refine (HP.out _).mono ?_
      rintro e w' ⟨rfl, rfl⟩
      go_wp2_with fail
      go_returns
      exact ⟨by rw [HR.out]; rfl, Below.refl _ _⟩
    · have h9' : ¬ (9 : Int) < (b.size : Int) := by omega
      have hp : 0 < b.size := by omega
      obtain ⟨c0, hc0⟩ : ∃ c : Int, ((b[0]'hp).toNat : Int) = c := ⟨_, rfl⟩
      have hcb : c0 = (bAt b 0 : Int) := by rw [← hc0, bAt_get]
      by_cases hz : bAt b 0 = 48 ∧ (1 < b.size ∨ ng = true)
      · have hz1 : (c0 == 48) = true := by rw [hcb, hz.1]; rfl
        have HR := hd (show sgnB s = none by
          rw [HS.out]
          by_cases h1 : 1 < b.size
          · have hn : numB b = none := by unfold numB; rw [if_pos (.inr (.inr ⟨h1, hz.1⟩))]
            rw [hn]; cases ng <;> rfl
          · rcases hz.2 with h2 | h2
            · exact absurd h2 h1
            · have h3 : b.size = 1 := by omega
              have hd : digs b = true := by
                unfold digs
                refine List.all_eq_true.2 fun i hi => ?_
                have : i = 0 := by have : i < b.size := (by simpa using hi); omega
                subst this
                rw [hz.1]; decide
              rw [h2, numB_some h0 h9 (fun h => h1 h.1), hd, h3]
              simp only [digN, hz.1]; decide)
        have HZ := hd (show (1 : Int) < (b.size : Int) ∨ (¬ (1 : Int) < (b.size : Int) ∧ ng = true) by
          by_cases h1 : 1 < b.size
          · exact .inl (by omega)
          · exact .inr ⟨by omega, by rcases hz.2 with h2 | h2; exact absurd h2 h1; exact h2⟩)
        clear hz hcb HS h0 h9
        go_enter Tryz.func141, Tryz.ntmps141
        rcases HZ.out with z1 | ⟨z1, rfl⟩
        all_goals
          go_wp2_with fail
          refine (HP.out _).mono ?_
          rintro e w' ⟨rfl, rfl⟩
          go_wp2_with fail
          go_returns
          exact ⟨by rw [HR.out]; rfl, Below.refl _ _⟩
      · have HNN := hd (numB_some h0 h9 (fun h => hz ⟨h.2, .inl h.1⟩))
        have HB0 := hd (show ng = true → digs b = true → 49 ≤ bAt b 0 from fun h1 h2 => by
          have h3 := List.all_eq_true.1 h2 0 (by simpa using hp)
          unfold isDigB at h3
          simp only [Bool.and_eq_true, decide_eq_true_eq] at h3
          have : bAt b 0 ≠ 48 := fun e => hz ⟨e, .inr h1⟩
          omega)
        have HZ := hd (show (c0 == 48) = false ∨ ((c0 == 48) = true ∧ ¬ (1 : Int) < (b.size : Int) ∧ ng = false) by
          by_cases h1 : bAt b 0 = 48
          · refine .inr ⟨by rw [hcb, h1]; rfl, ?_, ?_⟩
            · intro h; exact hz ⟨h1, .inl (by omega)⟩
            · cases ng
              · rfl
              · exact absurd ⟨h1, .inr rfl⟩ hz
          · exact .inl (by rw [beq_eq_false_iff_ne, hcb]; omega))
        have hsz : b.size ≤ 9 := by omega
        have hp1 : 1 ≤ b.size := hp
        clear hz hcb h0 h9
        go_enter Tryz.func141, Tryz.ntmps141
        rcases HZ.out with z1 | ⟨z1, z2, rfl⟩
        all_goals
          go_wp2_with fail
          refine (HP.out _).mono ?_
          rintro e w' ⟨rfl, rfl⟩
          go_wp2_with fail
          go_loopw [8] (fun n wr => ∃ pos : Nat, pos ≤ b.size ∧ n = .int .i64 (digN b pos : Int) ∧ wr = w'.iter b pos ∧ Hid (∀ i, i < pos → isDigB (bAt b i) = true)) (fun _ wr => b.size - wr.iterPos w'.heap.size)
          case atStart => exact ⟨0, Nat.zero_le _, rfl, rfl, hd (fun i hi => absurd hi (by omega))⟩
          case round =>
            obtain ⟨pos, hpos, rfl, rfl, HP2⟩ := hrel
            by_cases hlt : pos < b.size
            · obtain ⟨r, wd, hnx, hwd, hr⟩ := next_rune2 b pos hlt w'
              have hlim := bAt_lt b pos
              have hbw := iter_below w' b (pos + wd) (Nat.le_refl _)
              by_cases hd1 : 48 ≤ r ∧ r ≤ 57
              · obtain ⟨hr1, rfl⟩ : r = (bAt b pos : Int) ∧ wd = 1 := by
                  rcases hr with h | h
                  · exact h
                  · omega
                obtain ⟨c48, c57⟩ := hd1
                have c48' : ¬ r < 48 := by omega
                have c57' : ¬ (57 : Int) < r := by omega
                have HP3 := hd (show ∀ i, i < pos + 1 → isDigB (bAt b i) = true from fun i hi => by
                  by_cases e : i = pos
                  · subst e; unfold isDigB; simp; omega
                  · exact HP2.out i (by omega))
                have hbn : digN b pos ≤ 999999999 := by
                  refine digN_bound b (k := pos) ?_ (by omega)
                  have : ∀ m, m ≤ pos → digN b m < 10 ^ m := by
                    intro m
                    induction m with
                    | zero => intro _; simp [digN]
                    | succ m ih =>
                      intro hm
                      have h1 := ih (by omega)
                      have h2 := HP2.out m (by omega)
                      unfold isDigB at h2
                      simp only [Bool.and_eq_true, decide_eq_true_eq] at h2
                      rw [digN, Nat.pow_succ]
                      omega
                  exact this pos (Nat.le_refl _)
                have HST := hd (show ((digN b (pos + 1) : Nat) : Int) = 10 * (digN b pos : Int) + (r - 48) by rw [digN]; omega)
                generalize digN b pos = D at *
                clear HP2 hr hr1 hlim hwd hbw
                have hdg : isDig r = true := by unfold isDig; simp; omega
                go_wp2_with (go_at_call 161; refine (isDig_any _ _).mono ?_; rintro e w' ⟨rfl, rfl⟩)
                go_roundw
                case rel => exact ⟨pos + 1, by omega, by rw [HST.out], rfl, HP3⟩
                case measure => simp; omega
              · have HD := hd (show digs b = false from by
                  unfold digs
                  refine List.all_eq_false.2 ⟨pos, by simpa using hlt, ?_⟩
                  unfold isDigB
                  rcases hr with h | h
                  · simp; omega
                  · simp; omega)
                have HRR := hd (show sgnB s = none by rw [HS.out, HNN.out, HD.out]; first | rfl | (cases ng <;> rfl))
                clear HP2 hr hlim hwd
                have hdg : isDig r = false := by unfold isDig; simp; omega
                go_wp2_with (go_at_call 161; refine (isDig_any _ _).mono ?_; rintro e w' ⟨rfl, rfl⟩)
                go_returns
                exact ⟨by rw [HRR.out]; rfl, hbw⟩
            · have hke : pos = b.size := by omega
              have hnx : ∀ ty, (Instr.next (.pointer (some ⟨w'.heap.size, 0, none⟩)) true ty).run Tryz.prog (w'.iter b pos) = _ := fun ty => run_next_end w' b pos ty hlt
              have HD := hd (show digs b = true by unfold digs; exact List.all_eq_true.2 (fun i hi => HP2.out i (by have h3 : i < b.size := (by simpa using hi); omega)))
              have hbw := iter_below w' b pos (Nat.le_refl _)
              have HNUM := hd (show numB b = some (digN b b.size) by rw [HNN.out, HD.out]; rfl)
              have hnb := numB_bound b HNUM.out
              subst hke
              clear HP2
              first
              | cases ng
                · have HRR := hd (show sgnB s = some ((digN b b.size : Nat) : Int) by rw [HS.out, HNUM.out]; rfl)
                  generalize digN b b.size = D at *
                  go_wp2
                  go_returns
                  exact ⟨by rw [HRR.out]; rfl, hbw⟩
                · have hpos1 : 1 ≤ digN b b.size := digN_pos b (HB0.out rfl HD.out) b.size hp1
                  have HRR := hd (show sgnB s = some (-((digN b b.size : Nat) : Int)) by rw [HS.out, HNUM.out]; exact if_pos (by omega))
                  generalize digN b b.size = D at *
                  go_wp2
                  go_returns
                  exact ⟨by rw [HRR.out]; rfl, hbw⟩
              | have HRR := hd (show sgnB s = some ((digN b b.size : Nat) : Int) by rw [HS.out, HNUM.out]; rfl)
                generalize digN b b.size = D at *
                go_wp2
                go_returns
                exact ⟨by rw [HRR.out]; rfl, hbw⟩
set_option maxRecDepth 1000000 in
set_option maxHeartbeats 4000000 in
theorem unsigned_any (s : ByteArray) (w : World) (hs : s.size ≤ 1000000) : Calls Tryz.prog 139 #[.string s, .int .i64 9] w fun e w' => e = .returned (.tuple #[.int .i64 (((numB s).getD 0 : Nat) : Int), .bool (numB s).isSome]) ∧ Below w.heap.size w w' := by
  have HI := hd (fun W => integer_any s W hs)
  have HS := sgnB_cut s
  by_cases hc : 1 < s.size ∧ bAt s 0 = 45
  · have hn : numB s = none := by
      have hd0 : digs s = false := by unfold digs; exact List.all_eq_false.2 ⟨0, by simp; omega, by rw [hc.2]; decide⟩
      unfold numB; rw [hd0]; simp
    have HN := hd hn
    have HV := sgnB_neg hc
    cases hb : numB (s.extract 1 s.size) with
    | none =>
      rw [hb] at HV
      have HV2 : sgnB s = none := HV
      rw [HV2] at HI
      clear HS HV HV2 hc hb hn hs
      go_enter Tryz.func139, Tryz.ntmps139
      go_wp2_with fail
      refine (HI.out _).mono ?_
      rintro e w' ⟨rfl, hb⟩
      have HB := hd hb
      clear hb
      go_wp2_with fail
      go_returns
      exact ⟨by rw [HN.out]; rfl, HB.out⟩
    | some n =>
      rw [hb] at HV
      by_cases h0 : 0 < n
      · have HV2 : sgnB s = some (-(n : Int)) := HV.trans (if_pos h0)
        rw [HV2] at HI
        have hneg : ¬ (0 : Int) ≤ -(n : Int) := by omega
        have HI2 := hd (fun W => show Calls Tryz.prog 141 #[.string s, .int .i64 9] W (fun e w' => e = .returned (.tuple #[.int .i64 (-(n : Int)), .bool true]) ∧ Below W.heap.size W w') from HI.out W)
        clear HS HV HV2 hc hb hn hs HI
        generalize -(n : Int) = z at *
        go_enter Tryz.func139, Tryz.ntmps139
        go_wp2_with fail
        refine (HI2.out _).mono ?_
        rintro e w' ⟨rfl, hb⟩
        have HB := hd hb
        clear hb
        go_wp2_with fail
        go_returns
        exact ⟨by rw [HN.out]; rfl, HB.out⟩
      · have HV2 : sgnB s = none := HV.trans (if_neg h0)
        rw [HV2] at HI
        clear HS HV HV2 hc hb hn hs
        go_enter Tryz.func139, Tryz.ntmps139
        go_wp2_with fail
        refine (HI.out _).mono ?_
        rintro e w' ⟨rfl, hb⟩
        have HB := hd hb
        clear hb
        go_wp2_with fail
        go_returns
        exact ⟨by rw [HN.out]; rfl, HB.out⟩
  · have HV := sgnB_pos hc
    rw [HV] at HI
    cases hb : numB s with
    | none =>
      rw [hb] at HI
      clear HS HV hc hb hs
      go_enter Tryz.func139, Tryz.ntmps139
      go_wp2_with fail
      refine (HI.out _).mono ?_
      rintro e w' ⟨rfl, hb⟩
      have HB := hd hb
      clear hb
      go_wp2_with fail
      go_returns
      exact ⟨rfl, HB.out⟩
    | some n =>
      rw [hb] at HI
      have h0 : (0 : Int) ≤ (n : Int) := by omega
      have HI2 := hd (fun W => show Calls Tryz.prog 141 #[.string s, .int .i64 9] W (fun e w' => e = .returned (.tuple #[.int .i64 (n : Int), .bool true]) ∧ Below W.heap.size W w') from HI.out W)
      clear HS HV hc hb hs HI
      go_enter Tryz.func139, Tryz.ntmps139
      go_wp2_with fail
      refine (HI2.out _).mono ?_
      rintro e w' ⟨rfl, hb⟩
      have HB := hd hb
      clear hb
      go_wp2_with fail
      go_returns
      exact ⟨rfl, HB.out⟩
end Go.Proofs.YtnncmaegmlaabaaGreatDoor
