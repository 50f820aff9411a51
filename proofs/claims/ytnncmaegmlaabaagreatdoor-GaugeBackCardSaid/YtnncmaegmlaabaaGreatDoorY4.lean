/-
  Parts of a string between a byte: the reference's Split. Condition: at most 1000 bytes.
  Plain words: the library's split at one byte is the parts of spl.
  Lines and words: strings.CutSuffix of a line feed, and the words of a line. Conditions: written at each.
  The words of a line: texts.Read. Condition: at most 100000 bytes.
  The words that are left: Done and Next. Condition: at most 100000 words.
  The lines of a text: strings.SplitAfter and texts.Lines. Condition: at most 1000000 bytes.
  Plain words: lines with and without their line feed.
-/
import Derived.Test.YtnncmaegmlaabaaGreatDoorProg
import Derived.Test.YtnncmaegmlaabaaGreatDoorY0
import Derived.Test.YtnncmaegmlaabaaGreatDoorMD
import Derived.Lib.Split
import Derived.Test.YtnncmaegmlaabaaGreatDoorMC
import Derived.Test.YtnncmaegmlaabaaGreatDoorShelfB
import Derived.Lib.SplitLaws

namespace Go.Proofs.YtnncmaegmlaabaaGreatDoor
open Go.RowKit
attribute [local go_sem] Oper.semAt_some

/-- Where the part begins that the first bytes leave open, and the parts ahead of it. -/
def frm (s : ByteArray) (c : Nat) : Nat → Nat
  | 0 => 0
  | k + 1 => if bAt s k = c then k + 1 else frm s c k
def prt (s : ByteArray) (c : Nat) : Nat → List ByteArray
  | 0 => []
  | k + 1 => if bAt s k = c then prt s c k ++ [s.extract (frm s c k) k] else prt s c k
/-- The parts of a string between a byte. -/
def spl (s : ByteArray) (c : Nat) : List ByteArray := prt s c s.size ++ [s.extract (frm s c s.size) s.size]
theorem frm_le (s : ByteArray) (c : Nat) : ∀ k, frm s c k ≤ k
  | 0 => Nat.le_refl _
  | k + 1 => by have := frm_le s c k; rw [frm]; split <;> omega
theorem prt_len (s : ByteArray) (c : Nat) : ∀ k, (prt s c k).length ≤ k
  | 0 => Nat.le_refl _
  | k + 1 => by
    have := prt_len s c k
    rw [prt]; split
    · rw [List.length_append]; simp; omega
    · omega
def stc1 (l : List ByteArray) : List Value := l.map Value.string
/-- A row of strings of the call's own, and all below it as it was. -/
structure OB (base : Nat) (w : World) (v : Value) (l : List ByteArray) (W : World) : Prop where
  the : W.ownsRow base 9 1 v l.length (stc1 l)
  bel : Below base w W
end Go.Proofs.YtnncmaegmlaabaaGreatDoor

namespace Go.Proofs.YtnncmaegmlaabaaGreatDoor

/-- A list cut at each byte c; t stays behind each part that is closed; acc is the part that is open. -/
def cutA (c : UInt8) (t : List UInt8) : List UInt8 → List UInt8 → List (List UInt8)
  | acc, [] => [acc]
  | acc, x :: l => if x = c then (acc ++ t) :: cutA c t [] l else cutA c t (acc ++ [x]) l
theorem cutA_miss (c : UInt8) (t : List UInt8) : ∀ (l acc : List UInt8), Lib.indexByte l c = -1 → cutA c t acc l = [acc ++ l]
  | [], acc, _ => by simp [cutA]
  | x :: l, acc, h => by
    unfold Lib.indexByte at h
    by_cases hx : x = c
    · simp [hx] at h
    · have hx' : (x == c) = false := by simp [hx]
      rw [hx'] at h
      have h2 : Lib.indexByte l c = -1 := by
        by_cases h3 : Lib.indexByte l c = -1
        · exact h3
        · have : -1 ≤ Lib.indexByte l c := by rw [← Lib.index_one]; exact Lib.index_ge l [c]
          simp [h3] at h
          omega
      rw [cutA, if_neg hx, cutA_miss c t l _ h2, List.append_assoc]; rfl
theorem cutA_hit (c : UInt8) (t : List UInt8) : ∀ (l acc : List UInt8) (i : Nat), Lib.indexByte l c = i → l[i]? = some c ∧ cutA c t acc l = (acc ++ l.take i ++ t) :: cutA c t [] (l.drop (i + 1))
  | [], acc, i, h => by simp [Lib.indexByte] at h
  | x :: l, acc, i, h => by
    unfold Lib.indexByte at h
    by_cases hx : x = c
    · simp [hx] at h
      have : i = 0 := by omega
      subst this
      exact ⟨by simp [hx], by rw [cutA, if_pos hx]; simp⟩
    · have hx' : (x == c) = false := by simp [hx]
      rw [hx'] at h
      have hg : -1 ≤ Lib.indexByte l c := by rw [← Lib.index_one]; exact Lib.index_ge l [c]
      have h3 : Lib.indexByte l c ≠ -1 := by
        intro h3; simp [h3] at h
      simp [h3] at h
      obtain ⟨j, rfl⟩ : ∃ j, i = j + 1 := ⟨i - 1, by omega⟩
      have h4 : Lib.indexByte l c = (j : Int) := by omega
      have ih := cutA_hit c t l (acc ++ [x]) j h4
      exact ⟨by simpa using ih.1, by rw [cutA, if_neg hx, ih.2]; simp⟩
/-- The library's split, at one byte, in goes as many as there are. -/
theorem splitK_cut (c : UInt8) (sv : Nat) (t : List UInt8) (ht : (sv = 0 ∧ t = []) ∨ (sv = 1 ∧ t = [c])) : ∀ (n : Nat) (l : List UInt8), l.length ≤ n → Lib.splitK [c] sv (Lib.count l [c]) l = cutA c t [] l
  | n, l, hn => by
    have hg : -1 ≤ Lib.indexByte l c := by rw [← Lib.index_one]; exact Lib.index_ge l [c]
    by_cases h : Lib.indexByte l c = -1
    · rw [Lib.count_miss (by rw [Lib.index_one]; exact h), cutA_miss c t l [] h]; rfl
    · obtain ⟨i, hi⟩ : ∃ i : Nat, Lib.indexByte l c = i := ⟨(Lib.indexByte l c).toNat, by omega⟩
      have hI : Lib.index l [c] = i := by rw [Lib.index_one]; exact hi
      have hc := cutA_hit c t l [] i hi
      obtain ⟨hlt, hget⟩ := List.getElem?_eq_some_iff.1 hc.1
      obtain ⟨m, rfl⟩ : ∃ m, n = m + 1 := ⟨n - 1, by omega⟩
      have ih := splitK_cut c sv t ht m (l.drop (i + 1)) (by rw [List.length_drop]; omega)
      have hm : ¬ (Lib.index l [c] == -1) = true := fun e => by have := beq_iff_eq.1 e; omega
      rw [Lib.count_hit (by simp) hI, Nat.add_comm 1, Lib.splitK, if_neg hm, hc.2, hI]
      rw [show ([c] : List UInt8).length = 1 from rfl, Int.toNat_natCast, ih]
      congr 1
      rcases ht with ⟨rfl, rfl⟩ | ⟨rfl, rfl⟩
      · simp
      · rw [List.take_add_one, hc.1]; simp
/-- The parts of spl as lists. -/
theorem prt_cut (s : ByteArray) (c : UInt8) : ∀ k, k ≤ s.size → cutA c [] [] s.data.toList = (prt s c.toNat k).map (·.data.toList) ++ cutA c [] ((s.data.toList.drop (frm s c.toNat k)).take (k - frm s c.toNat k)) (s.data.toList.drop k)
  | 0, _ => by simp [prt, frm]
  | k + 1, hk => by
    have hlt : k < s.size := hk
    have hL : k < s.data.toList.length := by simpa using hlt
    have hf := frm_le s c.toNat k
    have hb : bAt s k = (s.data.toList[k]'hL).toNat := by rw [← bAt_get s k hlt]; rfl
    rw [prt_cut s c k (by omega), List.drop_eq_getElem_cons hL, cutA, prt, frm]
    by_cases hq : s.data.toList[k]'hL = c
    · have hq2 : bAt s k = c.toNat := by rw [hb, hq]
      rw [if_pos hq, if_pos hq2, if_pos hq2]
      simp
    · have hq2 : bAt s k ≠ c.toNat := by rw [hb]; exact fun e => hq (UInt8.toNat_inj.1 e)
      rw [if_neg hq, if_neg hq2, if_neg hq2]
      have e : (s.data.toList.drop (frm s c.toNat k)).take (k + 1 - frm s c.toNat k) = (s.data.toList.drop (frm s c.toNat k)).take (k - frm s c.toNat k) ++ [s.data.toList[k]'hL] := by
        rw [show k + 1 - frm s c.toNat k = (k - frm s c.toNat k) + 1 by omega, List.take_add_one, List.getElem?_drop, show frm s c.toNat k + (k - frm s c.toNat k) = k by omega, List.getElem?_eq_getElem hL]; rfl
      rw [e]
theorem spl_cut (s : ByteArray) (c : UInt8) : (spl s c.toNat).map (·.data.toList) = cutA c [] [] s.data.toList := by
  have hl : s.data.toList.length = s.size := by simp
  have hd : s.data.toList.drop s.size = [] := List.drop_eq_nil_of_le (by omega)
  rw [prt_cut s c s.size (Nat.le_refl _), hd, cutA, spl, List.map_append]
  simp
theorem bytes_inj : ∀ {a b : List ByteArray}, a.map (·.data.toList) = b.map (·.data.toList) → a = b
  | [], [], _ => rfl
  | [], _ :: _, h => by simp at h
  | _ :: _, [], h => by simp at h
  | x :: a, y :: b, h => by
    simp only [List.map_cons, List.cons.injEq] at h
    have hx : x = y := by
      have h1 : x.data = y.data := Array.toList_inj.1 h.1
      cases x; cases y; simpa using h1
    rw [hx, bytes_inj h.2]
/-- The library's split at one byte is spl. -/
theorem splitB_spl (s : ByteArray) (c : UInt8) : Lib.splitB ⟨#[c]⟩ 0 (Lib.countB s ⟨#[c]⟩) s = spl s c.toNat := by
  apply bytes_inj
  rw [Lib.splitB_data, spl_cut]
  exact splitK_cut c 0 [] (.inl ⟨rfl, rfl⟩) s.data.toList.length s.data.toList (Nat.le_refl _)
end Go.Proofs.YtnncmaegmlaabaaGreatDoor

namespace Go.Proofs.YtnncmaegmlaabaaGreatDoor
open Go.RowKit
attribute [local go_sem] Oper.semAt_some

/-- Whether a line ends with its line feed, and the line without it. -/
def lfN (s : ByteArray) : Bool := decide (0 < s.size ∧ bAt s (s.size - 1) = 10)
def lfB (s : ByteArray) : ByteArray := if 0 < s.size ∧ bAt s (s.size - 1) = 10 then s.extract 0 (s.size - 1) else s
theorem lf_suf (s : ByteArray) : Lib.hasSuffix s.data.toList [10] = lfN s := by
  have hl : s.data.toList.length = s.size := by simp
  unfold lfN bAt Lib.hasSuffix
  rcases List.eq_nil_or_concat s.data.toList with h | ⟨l, a, h⟩
  · rw [h] at hl
    have h0 : s.size = 0 := by simpa using hl.symm
    simp [h, h0]
  · rw [h] at hl
    have h0 : s.size = l.length + 1 := by rw [← hl]; simp
    have hg : (l ++ [a]).getD (s.size - 1) 0 = a := by rw [h0]; simp
    rw [h, List.concat_eq_append, hg]
    by_cases ha : a = 10
    · subst ha; simp [h0]
    · have h2 : ¬ a.toNat = 10 := fun e => ha (by apply UInt8.toNat_inj.1; exact e)
      have h3 : ((10 : UInt8) == a) = false := by rw [beq_eq_false_iff_ne]; exact fun e => ha e.symm
      simp only [h2, List.isSuffixOf, and_false, decide_false, List.reverse_append, List.reverse_cons, List.reverse_nil, List.nil_append, List.singleton_append]
      show ((10 : UInt8) == a && [].isPrefixOf l.reverse) = false
      rw [h3]; rfl
set_option maxRecDepth 1000000 in
theorem cutSuffixL_any (s : ByteArray) (w : World) (hs : s.size ≤ 1000000) : Calls Tryz.prog 194 #[.string s, .string ⟨#[10]⟩] w fun e w' => e = .returned (.tuple #[.string (lfB s), .bool (lfN s)]) ∧ w' = w := by
  have HP := hd (fun W => by have h := Tryz.stringslite_HasSuffix s ⟨#[10]⟩ W (by omega); rw [show (⟨#[10]⟩ : ByteArray).data.toList = [10] from rfl, lf_suf] at h; exact h)
  cases hc : lfN s
  · rw [hc] at HP
    have HB := hd (show lfB s = s by unfold lfB; rw [if_neg]; unfold lfN at hc; simpa using hc)
    clear hc hs
    go_enter Tryz.func194, Tryz.ntmps194
    go_wp2_with fail
    refine (HP.out _).mono ?_
    rintro e w' ⟨rfl, rfl⟩
    go_wp2_with fail
    go_returns
    exact ⟨by rw [HB.out]; rfl, rfl⟩
  · rw [hc] at HP
    have hp : 0 < s.size ∧ bAt s (s.size - 1) = 10 := by unfold lfN at hc; simpa using hc
    have HB := hd (show lfB s = s.extract 0 (s.size - 1) from if_pos hp)
    obtain ⟨m, hm⟩ : ∃ m : Nat, s.size = m + 1 := ⟨s.size - 1, by omega⟩
    have hm0 : (0 : Int) ≤ (m : Int) := by omega
    have hm1 : (m : Int) ≤ (s.size : Int) := by omega
    have HB2 := hd (show s.size - 1 = m by omega)
    clear hc hp
    go_enter Tryz.func194, Tryz.ntmps194
    go_wp2_with fail
    refine (HP.out _).mono ?_
    rintro e w' ⟨rfl, rfl⟩
    go_wp2_with fail
    go_returns
    exact ⟨by rw [HB.out, HB2.out]; rfl, rfl⟩
set_option maxRecDepth 1000000 in
theorem cutSuffix_any (s : ByteArray) (w : World) (hs : s.size ≤ 1000000) : Calls Tryz.prog 169 #[.string s, .string ⟨#[10]⟩] w fun e w' => e = .returned (.tuple #[.string (lfB s), .bool (lfN s)]) ∧ w' = w := by
  go_enter Tryz.func169, Tryz.ntmps169
  go_wp2_with fail
  refine (cutSuffixL_any s _ hs).mono ?_
  rintro e w' ⟨rfl, rfl⟩
  go_wp2_with fail
  go_returns
  exact ⟨rfl, rfl⟩
end Go.Proofs.YtnncmaegmlaabaaGreatDoor

namespace Go.Proofs.YtnncmaegmlaabaaGreatDoor
open Go.RowKit
attribute [local go_sem] Oper.semAt_some

theorem spl_len (s : ByteArray) (c : UInt8) : (spl s c.toNat).length = Lib.countB s ⟨#[c]⟩ + 1 := by
  rw [← splitB_spl]
  exact Lib.splitB_all ⟨#[c]⟩ (by show 1 ≤ 1; omega) 0 (Lib.countB s ⟨#[c]⟩) s rfl
/-- The block of strings that a split lays. -/
def splO (s : ByteArray) (c : Nat) : Obj := .cells (stc1 (spl s c)).toArray 9
theorem split_any (s : ByteArray) (c : UInt8) (m : Int) (w : World) (hs : s.size ≤ 1000000) (hm : w.cell? ⟨2, 0, none⟩ = some (.int .i64 m)) : Calls Tryz.prog 170 #[.string s, .string ⟨#[c]⟩] w fun e w' => e = .returned (.slice (some ⟨w.heap.size, 0, none⟩) (spl s c.toNat).length (spl s c.toNat).length) ∧ w' = w.alloc (splO s c.toNat) := by
  have h := Tryz.strings_Split s ⟨#[c]⟩ m w (by omega) hm (by show 1 ≤ 1; omega)
  rw [splitB_spl, ← spl_len] at h
  exact h
set_option maxRecDepth 1000000 in
theorem read_any (s : ByteArray) (m : Int) (w : World) (hs : s.size ≤ 100000) (hm : w.cell? ⟨2, 0, none⟩ = some (.int .i64 m)) : Calls Tryz.prog 137 #[.string s] w fun e w' => e = .returned (.tuple #[.pointer (some ⟨w.heap.size + 1, 0, none⟩), .bool (lfN s)]) ∧ w' = (w.alloc (splO (lfB s) 32)).alloc (.cells #[.slice (some ⟨w.heap.size, 0, none⟩) (spl (lfB s) 32).length (spl (lfB s) 32).length] 219) := by
  have HC := hd (fun W => cutSuffix_any s W (by omega))
  have hb : (lfB s).size ≤ 1000000 := by unfold lfB; split; simp; omega; omega
  have HS := hd (fun W hm => split_any (lfB s) 32 m W hb hm)
  have HM := hd hm
  clear hb hm hs
  generalize lfB s = b at *
  generalize lfN s = ng at *
  go_enter Tryz.func137, Tryz.ntmps137
  go_wp2_with fail
  refine (HC.out _).mono ?_
  rintro e w' ⟨rfl, rfl⟩
  go_wp2_with fail
  refine (HS.out _ HM.out).mono ?_
  rintro e w' ⟨rfl, rfl⟩
  go_wp2_with fail
  go_returns
  exact ⟨by simp, rfl⟩
end Go.Proofs.YtnncmaegmlaabaaGreatDoor

namespace Go.Proofs.YtnncmaegmlaabaaGreatDoor
open Go.RowKit
attribute [local go_sem] Oper.semAt_some

/-- The words that are left, at a block of Words. -/
def Wds (p : Nat) (l : List ByteArray) (W : World) : Prop :=
  ∃ A, W.heap[p]? = some (.cells #[.slice A l.length l.length] 219 (0, 0)) ∧ (l ≠ [] → ∃ g o, A = some ⟨g, o, none⟩ ∧ g ≠ p ∧ ∀ j u, (stc1 l)[j]? = some u → W.cell? ⟨g, o + j, none⟩ = some u)
set_option maxRecDepth 1000000 in
theorem done_any (p : Nat) (l : List ByteArray) (W : World) (h : Wds p l W) : Calls Tryz.prog 140 #[.pointer (some ⟨p, 0, none⟩)] W fun e w' => e = .returned (.bool (decide (l.length = 0))) ∧ w' = W := by
  obtain ⟨A, h1, -⟩ := h
  have hc : W.cell? ⟨p, 0, none⟩ = some (.slice A l.length l.length) := blk_cell h1 0
  clear h1
  have HD := hd (show (((l.length : Nat) : Int) == 0) = decide (l.length = 0) by
    by_cases h0 : l.length = 0
    · simp [h0]
    · rw [decide_eq_false h0, beq_eq_false_iff_ne]; omega)
  generalize l.length = n at *
  go_enter Tryz.func140, Tryz.ntmps140
  go_wp2_with fail
  go_returns
  exact ⟨by rw [← HD.out]; rfl, rfl⟩
set_option maxRecDepth 1000000 in
theorem next_nil (p : Nat) (W : World) (h : Wds p [] W) : Calls Tryz.prog 138 #[.pointer (some ⟨p, 0, none⟩)] W fun e w' => e = .returned (.string ⟨#[]⟩) ∧ w' = W := by
  have HD := hd (done_any p [] W h)
  clear h
  go_enter Tryz.func138, Tryz.ntmps138
  go_wp2_with fail
  refine HD.out.mono ?_
  rintro e w' ⟨rfl, rfl⟩
  go_wp2_with fail
  go_returns
  exact ⟨rfl, rfl⟩
set_option maxRecDepth 1000000 in
theorem next_cons (p : Nat) (x : ByteArray) (l : List ByteArray) (W : World) (hl : l.length < 100000) (h : Wds p (x :: l) W) : Calls Tryz.prog 138 #[.pointer (some ⟨p, 0, none⟩)] W fun e w' => e = .returned (.string x) ∧ ∃ v, w' = W.setCell ⟨p, 0, none⟩ v ∧ Wds p l w' := by
  have HD := hd (done_any p (x :: l) W h)
  obtain ⟨A, h1, h2⟩ := h
  obtain ⟨g, o, rfl, hg, hcl⟩ := h2 (by simp)
  have hc : W.cell? ⟨p, 0, none⟩ = some (.slice (some ⟨g, o, none⟩) (l.length + 1) (l.length + 1)) := blk_cell h1 0
  have hfz : W.frozen? ⟨p, 0, none⟩ = false := blk_frozen h1 0
  have hx : W.cell? ⟨g, o, none⟩ = some (.string x) := hcl 0 _ rfl
  have HH := hd (show ∀ v, (W.setCell ⟨p, 0, none⟩ v).heap[p]? = some (.cells #[v] 219 (0, 0)) from fun v => by have := blk_set h1 0 v; simpa using this)
  have HC := hd (show ∀ v j u, (stc1 l)[j]? = some u → (W.setCell ⟨p, 0, none⟩ v).cell? ⟨g, o + (j + 1), none⟩ = some u from fun v j u hu => by
    have h3 := hcl (j + 1) u (by simpa [stc1] using hu)
    unfold World.cell? at h3 ⊢
    rw [Below.heap_setCell _ ⟨p, 0, none⟩ _ _ (by simpa using hg)]
    exact h3)
  have HG := hd hg
  clear h1 h2 hcl hg
  generalize hn : l.length = n at *
  have hn1 : (1 : Int) ≤ ((n + 1 : Nat) : Int) := by omega
  go_enter Tryz.func138, Tryz.ntmps138
  go_wp2_with fail
  refine HD.out.mono ?_
  rintro e w' ⟨rfl, rfl⟩
  go_wp2_with fail
  · go_returns
    refine ⟨rfl, ⟨_, rfl⟩, some ⟨g, o, none⟩, ?_, fun hne => absurd (List.eq_nil_of_length_eq_zero (by omega)) hne⟩
    rw [show l.length = 0 by omega]
    exact HH.out _
  · go_returns
    refine ⟨rfl, ⟨_, rfl⟩, some ⟨g, o + 1, none⟩, ?_, fun _ => ⟨g, o + 1, rfl, HG.out, fun j u hu => ?_⟩⟩
    · rw [hn]; exact HH.out _
    · rw [show o + 1 + j = o + (j + 1) by omega]; exact HC.out _ j u hu
end Go.Proofs.YtnncmaegmlaabaaGreatDoor

namespace Go.Proofs.YtnncmaegmlaabaaGreatDoor
open Go.RowKit
attribute [local go_sem] Oper.semAt_some

theorem cutA_two (c : UInt8) : ∀ (l acc : List UInt8), ∃ L e, cutA c [] acc l = L ++ [e] ∧ cutA c [c] acc l = L.map (· ++ [c]) ++ [e]
  | [], acc => ⟨[], acc, rfl, rfl⟩
  | x :: l, acc => by
    by_cases h : x = c
    · obtain ⟨L, e, h1, h2⟩ := cutA_two c l []
      exact ⟨acc :: L, e, by rw [cutA, if_pos h, h1]; simp, by rw [cutA, if_pos h, h2]; simp⟩
    · obtain ⟨L, e, h1, h2⟩ := cutA_two c l (acc ++ [x])
      exact ⟨L, e, by rw [cutA, if_neg h, h1], by rw [cutA, if_neg h, h2]⟩
/-- What strings.SplitAfter gives, at one byte. -/
def spa (s : ByteArray) (c : UInt8) : List ByteArray := Lib.splitB ⟨#[c]⟩ 1 (Lib.countB s ⟨#[c]⟩) s
theorem spa_len (s : ByteArray) (c : UInt8) : (spa s c).length = Lib.countB s ⟨#[c]⟩ + 1 := Lib.splitB_all ⟨#[c]⟩ (by show 1 ≤ 1; omega) 1 (Lib.countB s ⟨#[c]⟩) s rfl
/-- The parts with the byte behind each but the last one. -/
theorem spa_spl (s : ByteArray) (c : UInt8) : ∃ L e, spl s c.toNat = L ++ [e] ∧ spa s c = L.map (· ++ ⟨#[c]⟩) ++ [e] := by
  obtain ⟨L, e, h1, h2⟩ := cutA_two c s.data.toList []
  rw [← spl_cut] at h1
  have h3 : (spa s c).map (·.data.toList) = cutA c [c] [] s.data.toList := by
    unfold spa
    rw [Lib.splitB_data]
    exact splitK_cut c 1 [c] (.inr ⟨rfl, rfl⟩) s.data.toList.length s.data.toList (Nat.le_refl _)
  rw [h2] at h3
  refine ⟨prt s c.toNat s.size, s.extract (frm s c.toNat s.size) s.size, rfl, ?_⟩
  unfold spl at h1
  rw [List.map_append] at h1
  obtain ⟨ha, hb⟩ := List.append_inj' h1 rfl
  apply bytes_inj
  rw [h3, ← ha, ← hb, List.map_append, List.map_map, List.map_map]
  congr 1
theorem splitAfter_any (s : ByteArray) (c : UInt8) (m : Int) (w : World) (hs : s.size ≤ 1000000) (hm : w.cell? ⟨2, 0, none⟩ = some (.int .i64 m)) : Calls Tryz.prog 136 #[.string s, .string ⟨#[c]⟩, .int .i64 1, .int .i64 (-1)] w fun e w' => e = .returned (.slice (some ⟨w.heap.size, 0, none⟩) (spa s c).length (spa s c).length) ∧ w' = w.alloc (.cells (stc1 (spa s c)).toArray 9) := by
  have hcl := Lib.countB_le ⟨#[c]⟩ (by show 1 ≤ 1; omega) s.size s (Nat.le_refl _)
  have h := Tryz.strings_genSplit s ⟨#[c]⟩ 1 (-1) (Lib.countB s ⟨#[c]⟩ + 1) m w (by omega) hm (by show 1 ≤ 1; omega) (by show 1 ≤ 1; omega) (by omega) (by omega) (by rw [if_pos (by omega)]; omega)
  have hl := spa_len s c
  rw [Nat.add_sub_cancel] at h
  have hc : Lib.cellsOf (Lib.splitB ⟨#[c]⟩ 1 (Lib.countB s ⟨#[c]⟩) s) (Lib.countB s ⟨#[c]⟩ + 1) = (stc1 (spa s c)).toArray := by
    unfold Lib.cellsOf
    show _ = (stc1 (spa s c)).toArray
    rw [← hl]
    simp [spa, stc1]
  rw [hc] at h
  rw [← hl] at h
  exact h
set_option maxRecDepth 1000000 in
theorem splitAfter2_any (s : ByteArray) (m : Int) (w : World) (hs : s.size ≤ 1000000) (hm : w.cell? ⟨2, 0, none⟩ = some (.int .i64 m)) : Calls Tryz.prog 104 #[.string s, .string ⟨#[10]⟩] w fun e w' => e = .returned (.slice (some ⟨w.heap.size, 0, none⟩) (spa s 10).length (spa s 10).length) ∧ w' = w.alloc (.cells (stc1 (spa s 10)).toArray 9) := by
  have HS := hd (fun W hm => splitAfter_any s 10 m W hs hm)
  have HM := hd hm
  clear hm hs
  generalize spa s 10 = L at *
  go_enter Tryz.func104, Tryz.ntmps104
  go_wp2_with fail
  refine (HS.out _ HM.out).mono ?_
  rintro e w' ⟨rfl, rfl⟩
  go_wp2_with fail
  go_returns
  exact ⟨rfl, rfl⟩
/-- The lines: the last part is one where it is not empty. -/
def lns (L : List ByteArray) (e : ByteArray) : List ByteArray := L.map (· ++ ⟨#[10]⟩) ++ (if e.size = 0 then [] else [e])
set_option maxRecDepth 1000000 in
theorem lines_any (s : ByteArray) (L : List ByteArray) (x : ByteArray) (m : Int) (w : World) (hs : s.size ≤ 1000000) (hm : w.cell? ⟨2, 0, none⟩ = some (.int .i64 m)) (hx : spa s 10 = L.map (· ++ ⟨#[10]⟩) ++ [x]) : Calls Tryz.prog 51 #[.string s] w fun e w' => e = .returned (.slice (some ⟨w.heap.size, 0, none⟩) (lns L x).length (L.length + 1)) ∧ w' = w.alloc (.cells (stc1 (L.map (· ++ ⟨#[10]⟩) ++ [x])).toArray 9) := by
  have HS := hd (fun W hm => splitAfter2_any s m W hs hm)
  have HM := hd hm
  have hlen : (spa s 10).length ≤ s.size + 1 := by rw [spa_len]; have := Lib.countB_le ⟨#[10]⟩ (by show 1 ≤ 1; omega) s.size s (Nat.le_refl _); omega
  rw [hx] at HS hlen
  have hk : L.length ≤ 1000000 := by simp at hlen; omega
  have hl1 : (L.map (· ++ (⟨#[10]⟩ : ByteArray)) ++ [x]).length = L.length + 1 := by simp
  have HC := hd (show ∀ W : World, (W.alloc (.cells (stc1 (L.map (· ++ (⟨#[10]⟩ : ByteArray)) ++ [x])).toArray 9)).cell? ⟨W.heap.size, L.length, none⟩ = some (.string x) from fun W => by rw [blk_cell (blk_new _ _ _)]; simp [stc1])
  have HL : Hid ((lns L x).length = if x.size = 0 then L.length else L.length + 1) := hd (by unfold lns; split <;> simp)
  rw [hl1] at HS
  generalize stc1 (L.map (· ++ (⟨#[10]⟩ : ByteArray)) ++ [x]) = CS at *
  generalize L.length = k at *
  have hxl : x.data.toList.length = x.size := by simp
  have hk0 : (0 : Int) ≤ (k : Int) := by omega
  have hk1 : (k : Int) < ((k + 1 : Nat) : Int) := by omega
  clear hm hs hx hlen hl1
  by_cases h0 : x.size = 0
  · rw [if_pos h0] at HL
    have en : x.toList = [] := by rw [ByteArray.toList_eq]; exact List.eq_nil_of_length_eq_zero (by omega)
    have e0 : x.toList.isEmpty = true := by rw [en]; rfl
    have e1 : (x.toList == []) = true := by rw [en]; rfl
    clear h0 hxl en
    go_enter Tryz.func51, Tryz.ntmps51
    go_wp2_with fail
    refine (HS.out _ HM.out).mono ?_
    rintro e w' ⟨rfl, rfl⟩
    have hc := HC.out w
    go_wp2_with fail
    go_returns
    exact ⟨by rw [HL.out]; rfl, rfl⟩
  · rw [if_neg h0] at HL
    have e0 : x.toList.isEmpty = false := by
      rw [ByteArray.toList_eq]
      cases hl : x.data.toList with
      | nil => rw [hl] at hxl; simp at hxl; omega
      | cons => rfl
    have e1 : (x.toList == []) = false := by
      rw [beq_eq_false_iff_ne]; intro e; rw [e] at e0; cases e0
    clear h0 hxl
    go_enter Tryz.func51, Tryz.ntmps51
    go_wp2_with fail
    refine (HS.out _ HM.out).mono ?_
    rintro e w' ⟨rfl, rfl⟩
    have hc := HC.out w
    go_wp2_with fail
    go_returns
    exact ⟨by rw [HL.out]; rfl, rfl⟩
end Go.Proofs.YtnncmaegmlaabaaGreatDoor

namespace Go.Proofs.YtnncmaegmlaabaaGreatDoor

theorem frm_no (s : ByteArray) (c : Nat) : ∀ k i, frm s c k ≤ i → i < k → bAt s i ≠ c
  | 0, i, _, h => by omega
  | k + 1, i, h1, h2 => by
    rw [frm] at h1
    split at h1
    · omega
    · rename_i hq
      by_cases he : i = k
      · rw [he]; exact hq
      · exact frm_no s c k i h1 (by omega)
theorem bAt_ext (s : ByteArray) (a b i : Nat) (h : i < b - a) : bAt (s.extract a b) i = bAt s (a + i) := by
  unfold bAt
  rw [Lib.extract_data, List.getD_eq_getElem?_getD, List.getD_eq_getElem?_getD, List.getElem?_take_of_lt h, List.getElem?_drop]
/-- A line with its line feed. -/
theorem lf_app (x : ByteArray) : lfN (x ++ ⟨#[10]⟩) = true ∧ lfB (x ++ ⟨#[10]⟩) = x := by
  have hl : x.data.toList.length = x.size := by simp
  have hs : (x ++ (⟨#[10]⟩ : ByteArray)).size = x.size + 1 := by simp; rfl
  have hd : (x ++ (⟨#[10]⟩ : ByteArray)).data.toList = x.data.toList ++ [10] := by simp
  have hp : 0 < (x ++ (⟨#[10]⟩ : ByteArray)).size ∧ bAt (x ++ ⟨#[10]⟩) ((x ++ (⟨#[10]⟩ : ByteArray)).size - 1) = 10 := by
    refine ⟨by omega, ?_⟩
    unfold bAt
    rw [hd, hs, List.getD_eq_getElem?_getD, List.getElem?_append_right (by omega), hl]
    simp
  refine ⟨by unfold lfN; exact decide_eq_true hp, ?_⟩
  unfold lfB
  rw [if_pos hp, hs]
  have h1 : [(x ++ (⟨#[10]⟩ : ByteArray)).extract 0 (x.size + 1 - 1)] = [x] := bytes_inj (by
    simp only [List.map_cons, List.map_nil]
    rw [Lib.extract_data, hd]
    congr 1
    rw [show x.size + 1 - 1 - 0 = x.data.toList.length by omega]
    simp)
  simpa using h1
/-- The last part of a text has no line feed. -/
theorem lf_last (s : ByteArray) : lfN (s.extract (frm s 10 s.size) s.size) = false := by
  have hf := frm_le s 10 s.size
  have hz : (s.extract (frm s 10 s.size) s.size).size = s.size - frm s 10 s.size := by simp
  unfold lfN
  rw [hz, decide_eq_false_iff_not]
  rintro ⟨h0, h1⟩
  rw [bAt_ext s _ _ _ (by omega)] at h1
  exact frm_no s 10 s.size _ (by omega) (by omega) h1
end Go.Proofs.YtnncmaegmlaabaaGreatDoor
