/-
  The words that are left: Done and Next. Condition: at most 100000 words.
  The lines of a text: strings.SplitAfter and texts.Lines. Condition: at most 1000000 bytes.
  Integers as words: texts.Integer and texts.Unsigned, with at most nine digits. Conditions: written at each.
  Integers as words: texts.Integer and texts.Unsigned, with at most nine digits. Condition: at most a million bytes.
  Read and Next by what they leave, and gauge.readLevel. Conditions: written at each.
-/
import Derived.Test.YtkgkpcmokmhakaaGreatDoorProg
import Derived.Test.YtkgkpcmokmhakaaGreatDoorY7
import Derived.Test.YtkgkpcmokmhakaaGreatDoorMC
import Derived.Test.YtkgkpcmokmhakaaGreatDoorShelfB

namespace Go.Proofs.YtkgkpcmokmhakaaGreatDoor
open Go.RowKit
attribute [local go_sem] Oper.semAt_some

/-- The words that are left, at a block of Words. -/
def Wds (p : Nat) (l : List ByteArray) (W : World) : Prop :=
  ∃ A, W.heap[p]? = some (.cells #[.slice A l.length l.length] 196 (0, 0)) ∧ (l ≠ [] → ∃ g o, A = some ⟨g, o, none⟩ ∧ g ≠ p ∧ ∀ j u, (stc1 l)[j]? = some u → W.cell? ⟨g, o + j, none⟩ = some u)
set_option maxRecDepth 1000000 in
theorem done_any (p : Nat) (l : List ByteArray) (W : World) (h : Wds p l W) : Calls Tryz.prog 112 #[.pointer (some ⟨p, 0, none⟩)] W fun e w' => e = .returned (.bool (decide (l.length = 0))) ∧ w' = W := by
  obtain ⟨A, h1, -⟩ := h
  have hc : W.cell? ⟨p, 0, none⟩ = some (.slice A l.length l.length) := blk_cell h1 0
  clear h1
  have HD := hd (show (((l.length : Nat) : Int) == 0) = decide (l.length = 0) by
    by_cases h0 : l.length = 0
    · simp [h0]
    · rw [decide_eq_false h0, beq_eq_false_iff_ne]; omega)
  generalize l.length = n at *
  go_enter Tryz.func112, Tryz.ntmps112
  go_wp2_with fail
  go_returns
  exact ⟨by rw [← HD.out]; rfl, rfl⟩
set_option maxRecDepth 1000000 in
theorem next_nil (p : Nat) (W : World) (h : Wds p [] W) : Calls Tryz.prog 110 #[.pointer (some ⟨p, 0, none⟩)] W fun e w' => e = .returned (.string ⟨#[]⟩) ∧ w' = W := by
  have HD := hd (done_any p [] W h)
  clear h
  go_enter Tryz.func110, Tryz.ntmps110
  go_wp2_with fail
  refine HD.out.mono ?_
  rintro e w' ⟨rfl, rfl⟩
  go_wp2_with fail
  go_returns
  exact ⟨rfl, rfl⟩
set_option maxRecDepth 1000000 in
theorem next_cons (p : Nat) (x : ByteArray) (l : List ByteArray) (W : World) (hl : l.length < 100000) (h : Wds p (x :: l) W) : Calls Tryz.prog 110 #[.pointer (some ⟨p, 0, none⟩)] W fun e w' => e = .returned (.string x) ∧ ∃ v, w' = W.setCell ⟨p, 0, none⟩ v ∧ Wds p l w' := by
  have HD := hd (done_any p (x :: l) W h)
  obtain ⟨A, h1, h2⟩ := h
  obtain ⟨g, o, rfl, hg, hcl⟩ := h2 (by simp)
  have hc : W.cell? ⟨p, 0, none⟩ = some (.slice (some ⟨g, o, none⟩) (l.length + 1) (l.length + 1)) := blk_cell h1 0
  have hfz : W.frozen? ⟨p, 0, none⟩ = false := blk_frozen h1 0
  have hx : W.cell? ⟨g, o, none⟩ = some (.string x) := hcl 0 _ rfl
  have HH := hd (show ∀ v, (W.setCell ⟨p, 0, none⟩ v).heap[p]? = some (.cells #[v] 196 (0, 0)) from fun v => by have := blk_set h1 0 v; simpa using this)
  have HC := hd (show ∀ v j u, (stc1 l)[j]? = some u → (W.setCell ⟨p, 0, none⟩ v).cell? ⟨g, o + (j + 1), none⟩ = some u from fun v j u hu => by
    have h3 := hcl (j + 1) u (by simpa [stc1] using hu)
    unfold World.cell? at h3 ⊢
    rw [Below.heap_setCell _ ⟨p, 0, none⟩ _ _ (by simpa using hg)]
    exact h3)
  have HG := hd hg
  clear h1 h2 hcl hg
  generalize hn : l.length = n at *
  have hn1 : (1 : Int) ≤ ((n + 1 : Nat) : Int) := by omega
  go_enter Tryz.func110, Tryz.ntmps110
  go_wp2_with fail
  refine HD.out.mono ?_
  rintro e w' ⟨rfl, rfl⟩
  go_wp2_with fail
  · go_returns
    refine ⟨rfl, ⟨_, rfl⟩, some ⟨g, o, none⟩, ?_, fun hne => absurd (List.eq_nil_of_length_eq_zero (by omega)) hne⟩
    rw [show l.length = 0 by omega]
    exact HH.out _
  · go_returns
    refine ⟨rfl, ⟨_, rfl⟩, some ⟨g, o + 1, none⟩, ?_, fun _ => ⟨g, o + 1, rfl, HG.out, fun j u hu => ?_⟩⟩
    · rw [hn]; exact HH.out _
    · rw [show o + 1 + j = o + (j + 1) by omega]; exact HC.out _ j u hu
end Go.Proofs.YtkgkpcmokmhakaaGreatDoor

namespace Go.Proofs.YtkgkpcmokmhakaaGreatDoor
open Go.RowKit
attribute [local go_sem] Oper.semAt_some

theorem cutA_two (c : UInt8) : ∀ (l acc : List UInt8), ∃ L e, cutA c [] acc l = L ++ [e] ∧ cutA c [c] acc l = L.map (· ++ [c]) ++ [e]
  | [], acc => ⟨[], acc, rfl, rfl⟩
  | x :: l, acc => by
    by_cases h : x = c
    · obtain ⟨L, e, h1, h2⟩ := cutA_two c l []
      exact ⟨acc :: L, e, by rw [cutA, if_pos h, h1]; simp, by rw [cutA, if_pos h, h2]; simp⟩
    · obtain ⟨L, e, h1, h2⟩ := cutA_two c l (acc ++ [x])
      exact ⟨L, e, by rw [cutA, if_neg h, h1], by rw [cutA, if_neg h, h2]⟩
/-- What strings.SplitAfter gives, at one byte. -/
def spa (s : ByteArray) (c : UInt8) : List ByteArray := Lib.splitB ⟨#[c]⟩ 1 (Lib.countB s ⟨#[c]⟩) s
theorem spa_len (s : ByteArray) (c : UInt8) : (spa s c).length = Lib.countB s ⟨#[c]⟩ + 1 := Lib.splitB_all ⟨#[c]⟩ (by show 1 ≤ 1; omega) 1 (Lib.countB s ⟨#[c]⟩) s rfl
/-- The parts with the byte behind each but the last one. -/
theorem spa_spl (s : ByteArray) (c : UInt8) : ∃ L e, spl s c.toNat = L ++ [e] ∧ spa s c = L.map (· ++ ⟨#[c]⟩) ++ [e] := by
  obtain ⟨L, e, h1, h2⟩ := cutA_two c s.data.toList []
  rw [← spl_cut] at h1
  have h3 : (spa s c).map (·.data.toList) = cutA c [c] [] s.data.toList := by
    unfold spa
    rw [Lib.splitB_data]
    exact splitK_cut c 1 [c] (.inr ⟨rfl, rfl⟩) s.data.toList.length s.data.toList (Nat.le_refl _)
  rw [h2] at h3
  refine ⟨prt s c.toNat s.size, s.extract (frm s c.toNat s.size) s.size, rfl, ?_⟩
  unfold spl at h1
  rw [List.map_append] at h1
  obtain ⟨ha, hb⟩ := List.append_inj' h1 rfl
  apply bytes_inj
  rw [h3, ← ha, ← hb, List.map_append, List.map_map, List.map_map]
  congr 1
theorem splitAfter_any (s : ByteArray) (c : UInt8) (m : Int) (w : World) (hs : s.size ≤ 1000000) (hm : w.cell? ⟨2, 0, none⟩ = some (.int .i64 m)) : Calls Tryz.prog 108 #[.string s, .string ⟨#[c]⟩, .int .i64 1, .int .i64 (-1)] w fun e w' => e = .returned (.slice (some ⟨w.heap.size, 0, none⟩) (spa s c).length (spa s c).length) ∧ w' = w.alloc (.cells (stc1 (spa s c)).toArray 9) := by
  have hcl := Lib.countB_le ⟨#[c]⟩ (by show 1 ≤ 1; omega) s.size s (Nat.le_refl _)
  have h := Tryz.strings_genSplit s ⟨#[c]⟩ 1 (-1) (Lib.countB s ⟨#[c]⟩ + 1) m w (by omega) hm (by show 1 ≤ 1; omega) (by show 1 ≤ 1; omega) (by omega) (by omega) (by rw [if_pos (by omega)]; omega)
  have hl := spa_len s c
  rw [Nat.add_sub_cancel] at h
  have hc : Lib.cellsOf (Lib.splitB ⟨#[c]⟩ 1 (Lib.countB s ⟨#[c]⟩) s) (Lib.countB s ⟨#[c]⟩ + 1) = (stc1 (spa s c)).toArray := by
    unfold Lib.cellsOf
    show _ = (stc1 (spa s c)).toArray
    rw [← hl]
    simp [spa, stc1]
  rw [hc] at h
  rw [← hl] at h
  exact h
set_option maxRecDepth 1000000 in
theorem splitAfter2_any (s : ByteArray) (m : Int) (w : World) (hs : s.size ≤ 1000000) (hm : w.cell? ⟨2, 0, none⟩ = some (.int .i64 m)) : Calls Tryz.prog 78 #[.string s, .string ⟨#[10]⟩] w fun e w' => e = .returned (.slice (some ⟨w.heap.size, 0, none⟩) (spa s 10).length (spa s 10).length) ∧ w' = w.alloc (.cells (stc1 (spa s 10)).toArray 9) := by
  have HS := hd (fun W hm => splitAfter_any s 10 m W hs hm)
  have HM := hd hm
  clear hm hs
  generalize spa s 10 = L at *
  go_enter Tryz.func78, Tryz.ntmps78
  go_wp2_with fail
  refine (HS.out _ HM.out).mono ?_
  rintro e w' ⟨rfl, rfl⟩
  go_wp2_with fail
  go_returns
  exact ⟨rfl, rfl⟩
/-- The lines: the last part is one where it is not empty. -/
def lns (L : List ByteArray) (e : ByteArray) : List ByteArray := L.map (· ++ ⟨#[10]⟩) ++ (if e.size = 0 then [] else [e])
set_option maxRecDepth 1000000 in
theorem lines_any (s : ByteArray) (L : List ByteArray) (x : ByteArray) (m : Int) (w : World) (hs : s.size ≤ 1000000) (hm : w.cell? ⟨2, 0, none⟩ = some (.int .i64 m)) (hx : spa s 10 = L.map (· ++ ⟨#[10]⟩) ++ [x]) : Calls Tryz.prog 41 #[.string s] w fun e w' => e = .returned (.slice (some ⟨w.heap.size, 0, none⟩) (lns L x).length (L.length + 1)) ∧ w' = w.alloc (.cells (stc1 (L.map (· ++ ⟨#[10]⟩) ++ [x])).toArray 9) := by
  have HS := hd (fun W hm => splitAfter2_any s m W hs hm)
  have HM := hd hm
  have hlen : (spa s 10).length ≤ s.size + 1 := by rw [spa_len]; have := Lib.countB_le ⟨#[10]⟩ (by show 1 ≤ 1; omega) s.size s (Nat.le_refl _); omega
  rw [hx] at HS hlen
  have hk : L.length ≤ 1000000 := by simp at hlen; omega
  have hl1 : (L.map (· ++ (⟨#[10]⟩ : ByteArray)) ++ [x]).length = L.length + 1 := by simp
  have HC := hd (show ∀ W : World, (W.alloc (.cells (stc1 (L.map (· ++ (⟨#[10]⟩ : ByteArray)) ++ [x])).toArray 9)).cell? ⟨W.heap.size, L.length, none⟩ = some (.string x) from fun W => by rw [blk_cell (blk_new _ _ _)]; simp [stc1])
  have HL : Hid ((lns L x).length = if x.size = 0 then L.length else L.length + 1) := hd (by unfold lns; split <;> simp)
  rw [hl1] at HS
  generalize stc1 (L.map (· ++ (⟨#[10]⟩ : ByteArray)) ++ [x]) = CS at *
  generalize L.length = k at *
  have hxl : x.data.toList.length = x.size := by simp
  have hk0 : (0 : Int) ≤ (k : Int) := by omega
  have hk1 : (k : Int) < ((k + 1 : Nat) : Int) := by omega
  clear hm hs hx hlen hl1
  by_cases h0 : x.size = 0
  · rw [if_pos h0] at HL
    have en : x.toList = [] := by rw [ByteArray.toList_eq]; exact List.eq_nil_of_length_eq_zero (by omega)
    have e0 : x.toList.isEmpty = true := by rw [en]; rfl
    have e1 : (x.toList == []) = true := by rw [en]; rfl
    clear h0 hxl en
    go_enter Tryz.func41, Tryz.ntmps41
    go_wp2_with fail
    refine (HS.out _ HM.out).mono ?_
    rintro e w' ⟨rfl, rfl⟩
    have hc := HC.out w
    go_wp2_with fail
    go_returns
    exact ⟨by rw [HL.out]; rfl, rfl⟩
  · rw [if_neg h0] at HL
    have e0 : x.toList.isEmpty = false := by
      rw [ByteArray.toList_eq]
      cases hl : x.data.toList with
      | nil => rw [hl] at hxl; simp at hxl; omega
      | cons => rfl
    have e1 : (x.toList == []) = false := by
      rw [beq_eq_false_iff_ne]; intro e; rw [e] at e0; cases e0
    clear h0 hxl
    go_enter Tryz.func41, Tryz.ntmps41
    go_wp2_with fail
    refine (HS.out _ HM.out).mono ?_
    rintro e w' ⟨rfl, rfl⟩
    have hc := HC.out w
    go_wp2_with fail
    go_returns
    exact ⟨by rw [HL.out]; rfl, rfl⟩
end Go.Proofs.YtkgkpcmokmhakaaGreatDoor

namespace Go.Proofs.YtkgkpcmokmhakaaGreatDoor
open Go.RowKit
attribute [local go_sem] Oper.semAt_some

/-- A word without its sign. -/
def cutB (s : ByteArray) : ByteArray := if 0 < s.size ∧ bAt s 0 = 45 then s.extract 1 s.size else s
def cutN (s : ByteArray) : Bool := decide (0 < s.size ∧ bAt s 0 = 45)
theorem minus_pre (s : ByteArray) : Lib.hasPrefix s.data.toList [45] = cutN s := by
  unfold cutN bAt
  have hl : s.data.toList.length = s.size := by simp
  cases h : s.data.toList with
  | nil =>
    rw [h] at hl
    have h0 : s.size = 0 := by simpa using hl.symm
    simp [Lib.hasPrefix, h0]
  | cons a l =>
    rw [h] at hl
    have h0 : 0 < s.size := by rw [← hl]; simp
    simp only [Lib.hasPrefix, List.getD_cons_zero, h0, true_and]
    by_cases ha : a = 45
    · subst ha; simp
    · have h2 : ¬ a.toNat = 45 := fun e => ha (by apply UInt8.toNat_inj.1; exact e)
      have h3 : ((45 : UInt8) == a) = false := by rw [beq_eq_false_iff_ne]; exact fun e => ha e.symm
      show ((45 : UInt8) == a && [].isPrefixOf l) = _
      rw [h3]; simp [h2]

set_option maxRecDepth 1000000 in
theorem cutPrefixL_any (s : ByteArray) (w : World) (hs : s.size ≤ 1000000) : Calls Tryz.prog 154 #[.string s, .string ⟨#[45]⟩] w fun e w' => e = .returned (.tuple #[.string (cutB s), .bool (cutN s)]) ∧ w' = w := by
  have HP := hd (fun W => by have h := Tryz.stringslite_HasPrefix s ⟨#[45]⟩ W; rw [show (⟨#[45]⟩ : ByteArray).data.toList = [45] from rfl, minus_pre] at h; exact h)
  cases hc : cutN s
  · rw [hc] at HP
    have HB := hd (show cutB s = s by unfold cutB; rw [if_neg]; unfold cutN at hc; simpa using hc)
    clear hc hs
    go_enter Tryz.func154, Tryz.ntmps154
    go_wp2_with fail
    refine (HP.out _).mono ?_
    rintro e w' ⟨rfl, rfl⟩
    go_wp2_with fail
    go_returns
    exact ⟨by rw [HB.out]; rfl, rfl⟩
  · rw [hc] at HP
    have hp : 0 < s.size ∧ bAt s 0 = 45 := by unfold cutN at hc; simpa using hc
    have HB := hd (show cutB s = s.extract 1 s.size from if_pos hp)
    have hsz : 0 < s.size := hp.1
    have hs1 : (1 : Int) ≤ (s.size : Int) := by omega
    have hs2 : 1 ≤ s.size := by omega
    clear hc hp
    go_enter Tryz.func154, Tryz.ntmps154
    go_wp2_with fail
    refine (HP.out _).mono ?_
    rintro e w' ⟨rfl, rfl⟩
    go_wp2_with fail
    go_returns
    exact ⟨by rw [HB.out]; rfl, rfl⟩
set_option maxRecDepth 1000000 in
theorem cutPrefix_any (s : ByteArray) (w : World) (hs : s.size ≤ 1000000) : Calls Tryz.prog 132 #[.string s, .string ⟨#[45]⟩] w fun e w' => e = .returned (.tuple #[.string (cutB s), .bool (cutN s)]) ∧ w' = w := by
  go_enter Tryz.func132, Tryz.ntmps132
  go_wp2_with fail
  refine (cutPrefixL_any s _ hs).mono ?_
  rintro e w' ⟨rfl, rfl⟩
  go_wp2_with fail
  go_returns
  exact ⟨rfl, rfl⟩
/-- Where a word is an integer without its sign. -/
theorem numB_some {b : ByteArray} (h0 : b.size ≠ 0) (h9 : ¬ 9 < b.size) (hz : ¬ (1 < b.size ∧ bAt b 0 = 48)) : numB b = if digs b then some (digN b b.size) else none := by unfold numB; rw [if_neg (by omega)]
theorem sgnB_cut (s : ByteArray) : sgnB s = if cutN s then (match numB (cutB s) with | some n => if 0 < n then some (-(n : Int)) else none | none => none) else (numB (cutB s)).map fun n => (n : Int) := by
  cases hc : cutN s
  · have h1 : ¬ (0 < s.size ∧ bAt s 0 = 45) := by unfold cutN at hc; simpa using hc
    have h2 : cutB s = s := if_neg h1
    rw [h2, sgnB_pos (fun h => h1 ⟨by omega, h.2⟩)]; rfl
  · have h1 : 0 < s.size ∧ bAt s 0 = 45 := by unfold cutN at hc; simpa using hc
    have h2 : cutB s = s.extract 1 s.size := if_pos h1
    rw [h2]
    by_cases h3 : 1 < s.size
    · rw [sgnB_neg ⟨h3, h1.2⟩]; rfl
    · have h4 : s.size = 1 := by omega
      rw [sgnB_pos (fun h => h3 h.1)]
      have e1 : numB (s.extract 1 s.size) = none := by
        unfold numB; rw [if_pos]; left; simp [h4]
      have e2 : numB s = none := by
        have hd : digs s = false := by unfold digs; exact List.all_eq_false.2 ⟨0, by simp [h4], by rw [h1.2]; decide⟩
        unfold numB
        rw [hd]; simp
      rw [e1, e2]; rfl
end Go.Proofs.YtkgkpcmokmhakaaGreatDoor

namespace Go.Proofs.YtkgkpcmokmhakaaGreatDoor
open Go.RowKit
attribute [local go_sem] Oper.semAt_some

theorem next_rune2 (s : ByteArray) (pos : Nat) (h : pos < s.size) (w : World) : ∃ (r : Int) (wd : Nat), (∀ ty, (Instr.next (.pointer (some ⟨w.heap.size, 0, none⟩)) true ty).run Tryz.prog (w.iter s pos) = .ok (.tuple #[.bool true, .int .i64 pos, .int .i32 r]) (w.iter s (pos + wd))) ∧
    1 ≤ wd ∧ ((r = (bAt s pos : Int) ∧ wd = 1) ∨ (128 ≤ r ∧ 128 ≤ bAt s pos)) := by
  by_cases ha : (s[pos]'h).toNat < 128
  · exact ⟨((s[pos]'h).toNat : Int), 1, fun ty => run_next_ascii w s pos ty h ha, Nat.le_refl _, .inl ⟨by rw [bAt_get], rfl⟩⟩
  · obtain ⟨h1, h2⟩ := decode_high s pos h (by omega)
    exact ⟨((Utf8.decode s pos).1 : Int), (Utf8.decode s pos).2, fun ty => run_next_any w s pos ty h, h2, .inr ⟨by omega, by rw [← bAt_get s pos h]; omega⟩⟩
theorem digN_pos (b : ByteArray) (h0 : 49 ≤ bAt b 0) : ∀ k, 1 ≤ k → 1 ≤ digN b k
  | 0, h => absurd h (by omega)
  | 1, _ => by simp only [digN]; omega
  | k + 2, _ => by
    have := digN_pos b h0 (k + 1) (by omega)
    rw [digN]; omega

set_option maxRecDepth 1000000 in
set_option maxHeartbeats 4000000 in
theorem integer_any (s : ByteArray) (w : World) (hs : s.size ≤ 1000000) : Calls Tryz.prog 113 #[.string s, .int .i64 9] w fun e w' => e = .returned (.tuple #[.int .i64 ((sgnB s).getD 0), .bool (sgnB s).isSome]) ∧ Below w.heap.size w w' := by
  have HS0 := sgnB_cut s
  have HP := hd (fun W => cutPrefix_any s W hs)
  have hbs : (cutB s).size ≤ 1000000 := by unfold cutB; split; simp; omega; exact hs
  generalize cutB s = b at *
  generalize cutN s = ng at *
  have HS := hd HS0
  clear HS0 hs
  have hbl : b.data.toList.length = b.size := by simp
  by_cases h0 : b.size = 0
  · have e0 : b.toList = [] := by rw [ByteArray.toList_eq]; exact List.eq_nil_of_length_eq_zero (by omega)
    have hn : numB b = none := by unfold numB; rw [if_pos (.inl h0)]
    have HR := hd (show sgnB s = none by rw [HS.out, hn]; cases ng <;> rfl)
    clear hbl h0 hn hbs HS
    go_enter Tryz.func113, Tryz.ntmps113
    go_wp2_with fail
    refine (HP.out _).mono ?_
    rintro e w' ⟨rfl, rfl⟩
    go_wp2_with fail
    go_returns
    exact ⟨by rw [HR.out]; rfl, Below.refl _ _⟩
  · have e0 : b.toList.isEmpty = false := by
      rw [ByteArray.toList_eq]
      cases hl : b.data.toList with
      | nil => rw [hl] at hbl; simp at hbl; omega
      | cons => rfl
    have e1 : (b.toList == []) = false := by
      rw [beq_eq_false_iff_ne]; intro e; rw [e] at e0; cases e0
    clear hbl
    by_cases h9 : 9 < b.size
    · have h9' : (9 : Int) < (b.size : Int) := by omega
      have hn : numB b = none := by unfold numB; rw [if_pos (.inr (.inl h9))]
      have HR := hd (show sgnB s = none by rw [HS.out, hn]; cases ng <;> rfl)
      clear hn HS h0
      go_enter Tryz.func113, Tryz.ntmps113
      go_wp2_with fail
      refine (HP.out _).mono ?_
      rintro e w' ⟨rfl, rfl⟩
      go_wp2_with fail
      go_returns
      exact ⟨by rw [HR.out]; rfl, Below.refl _ _⟩
    · have h9' : ¬ (9 : Int) < (b.size : Int) := by omega
      have hp : 0 < b.size := by omega
      obtain ⟨c0, hc0⟩ : ∃ c : Int, ((b[0]'hp).toNat : Int) = c := ⟨_, rfl⟩
      have hcb : c0 = (bAt b 0 : Int) := by rw [← hc0, bAt_get]
      by_cases hz : bAt b 0 = 48 ∧ (1 < b.size ∨ ng = true)
      · have hz1 : (c0 == 48) = true := by rw [hcb, hz.1]; rfl
        have HR := hd (show sgnB s = none by
          rw [HS.out]
          by_cases h1 : 1 < b.size
          · have hn : numB b = none := by unfold numB; rw [if_pos (.inr (.inr ⟨h1, hz.1⟩))]
            rw [hn]; cases ng <;> rfl
          · rcases hz.2 with h2 | h2
            · exact absurd h2 h1
            · have h3 : b.size = 1 := by omega
              have hd : digs b = true := by
                unfold digs
                refine List.all_eq_true.2 fun i hi => ?_
                have : i = 0 := by have : i < b.size := (by simpa using hi); omega
                subst this
                rw [hz.1]; decide
              rw [h2, numB_some h0 h9 (fun h => h1 h.1), hd, h3]
              simp only [digN, hz.1]; decide)
        have HZ := hd (show (1 : Int) < (b.size : Int) ∨ (¬ (1 : Int) < (b.size : Int) ∧ ng = true) by
          by_cases h1 : 1 < b.size
          · exact .inl (by omega)
          · exact .inr ⟨by omega, by rcases hz.2 with h2 | h2; exact absurd h2 h1; exact h2⟩)
        clear hz hcb HS h0 h9
        go_enter Tryz.func113, Tryz.ntmps113
        rcases HZ.out with z1 | ⟨z1, rfl⟩
        all_goals
          go_wp2_with fail
          refine (HP.out _).mono ?_
          rintro e w' ⟨rfl, rfl⟩
          go_wp2_with fail
          go_returns
          exact ⟨by rw [HR.out]; rfl, Below.refl _ _⟩
      · have HNN := hd (numB_some h0 h9 (fun h => hz ⟨h.2, .inl h.1⟩))
        have HB0 := hd (show ng = true → digs b = true → 49 ≤ bAt b 0 from fun h1 h2 => by
          have h3 := List.all_eq_true.1 h2 0 (by simpa using hp)
          unfold isDigB at h3
          simp only [Bool.and_eq_true, decide_eq_true_eq] at h3
          have : bAt b 0 ≠ 48 := fun e => hz ⟨e, .inr h1⟩
          omega)
        have HZ := hd (show (c0 == 48) = false ∨ ((c0 == 48) = true ∧ ¬ (1 : Int) < (b.size : Int) ∧ ng = false) by
          by_cases h1 : bAt b 0 = 48
          · refine .inr ⟨by rw [hcb, h1]; rfl, ?_, ?_⟩
            · intro h; exact hz ⟨h1, .inl (by omega)⟩
            · cases ng
              · rfl
              · exact absurd ⟨h1, .inr rfl⟩ hz
          · exact .inl (by rw [beq_eq_false_iff_ne, hcb]; omega))
        have hsz : b.size ≤ 9 := by omega
        have hp1 : 1 ≤ b.size := hp
        clear hz hcb h0 h9
        go_enter Tryz.func113, Tryz.ntmps113
        rcases HZ.out with z1 | ⟨z1, z2, rfl⟩
        all_goals
          go_wp2_with fail
          refine (HP.out _).mono ?_
          rintro e w' ⟨rfl, rfl⟩
          go_wp2_with fail
          go_loopw [8] (fun n wr => ∃ pos : Nat, pos ≤ b.size ∧ n = .int .i64 (digN b pos : Int) ∧ wr = w'.iter b pos ∧ Hid (∀ i, i < pos → isDigB (bAt b i) = true)) (fun _ wr => b.size - wr.iterPos w'.heap.size)
          case atStart => exact ⟨0, Nat.zero_le _, rfl, rfl, hd (fun i hi => absurd hi (by omega))⟩
          case round =>
            obtain ⟨pos, hpos, rfl, rfl, HP2⟩ := hrel
            by_cases hlt : pos < b.size
            · obtain ⟨r, wd, hnx, hwd, hr⟩ := next_rune2 b pos hlt w'
              have hlim := bAt_lt b pos
              have hbw := iter_below w' b (pos + wd) (Nat.le_refl _)
              by_cases hd1 : 48 ≤ r ∧ r ≤ 57
              · obtain ⟨hr1, rfl⟩ : r = (bAt b pos : Int) ∧ wd = 1 := by
                  rcases hr with h | h
                  · exact h
                  · omega
                obtain ⟨c48, c57⟩ := hd1
                have c48' : ¬ r < 48 := by omega
                have c57' : ¬ (57 : Int) < r := by omega
                have HP3 := hd (show ∀ i, i < pos + 1 → isDigB (bAt b i) = true from fun i hi => by
                  by_cases e : i = pos
                  · subst e; unfold isDigB; simp; omega
                  · exact HP2.out i (by omega))
                have hbn : digN b pos ≤ 999999999 := by
                  refine digN_bound b (k := pos) ?_ (by omega)
                  have : ∀ m, m ≤ pos → digN b m < 10 ^ m := by
                    intro m
                    induction m with
                    | zero => intro _; simp [digN]
                    | succ m ih =>
                      intro hm
                      have h1 := ih (by omega)
                      have h2 := HP2.out m (by omega)
                      unfold isDigB at h2
                      simp only [Bool.and_eq_true, decide_eq_true_eq] at h2
                      rw [digN, Nat.pow_succ]
                      omega
                  exact this pos (Nat.le_refl _)
                have HST := hd (show ((digN b (pos + 1) : Nat) : Int) = 10 * (digN b pos : Int) + (r - 48) by rw [digN]; omega)
                generalize digN b pos = D at *
                clear HP2 hr hr1 hlim hwd hbw
                have hdg : isDig r = true := by unfold isDig; simp; omega
                go_wp2_with (go_at_call 120; refine (isDig_any _ _).mono ?_; rintro e w' ⟨rfl, rfl⟩)
                go_roundw
                case rel => exact ⟨pos + 1, by omega, by rw [HST.out], rfl, HP3⟩
                case measure => simp; omega
              · have HD := hd (show digs b = false from by
                  unfold digs
                  refine List.all_eq_false.2 ⟨pos, by simpa using hlt, ?_⟩
                  unfold isDigB
                  rcases hr with h | h
                  · simp; omega
                  · simp; omega)
                have HRR := hd (show sgnB s = none by rw [HS.out, HNN.out, HD.out]; first | rfl | (cases ng <;> rfl))
                clear HP2 hr hlim hwd
                have hdg : isDig r = false := by unfold isDig; simp; omega
                go_wp2_with (go_at_call 120; refine (isDig_any _ _).mono ?_; rintro e w' ⟨rfl, rfl⟩)
                go_returns
                exact ⟨by rw [HRR.out]; rfl, hbw⟩
            · have hke : pos = b.size := by omega
              have hnx : ∀ ty, (Instr.next (.pointer (some ⟨w'.heap.size, 0, none⟩)) true ty).run Tryz.prog (w'.iter b pos) = _ := fun ty => run_next_end w' b pos ty hlt
              have HD := hd (show digs b = true by unfold digs; exact List.all_eq_true.2 (fun i hi => HP2.out i (by have h3 : i < b.size := (by simpa using hi); omega)))
              have hbw := iter_below w' b pos (Nat.le_refl _)
              have HNUM := hd (show numB b = some (digN b b.size) by rw [HNN.out, HD.out]; rfl)
              have hnb := numB_bound b HNUM.out
              subst hke
              clear HP2
              first
              | cases ng
                · have HRR := hd (show sgnB s = some ((digN b b.size : Nat) : Int) by rw [HS.out, HNUM.out]; rfl)
                  generalize digN b b.size = D at *
                  go_wp2
                  go_returns
                  exact ⟨by rw [HRR.out]; rfl, hbw⟩
                · have hpos1 : 1 ≤ digN b b.size := digN_pos b (HB0.out rfl HD.out) b.size hp1
                  have HRR := hd (show sgnB s = some (-((digN b b.size : Nat) : Int)) by rw [HS.out, HNUM.out]; exact if_pos (by omega))
                  generalize digN b b.size = D at *
                  go_wp2
                  go_returns
                  exact ⟨by rw [HRR.out]; rfl, hbw⟩
              | have HRR := hd (show sgnB s = some ((digN b b.size : Nat) : Int) by rw [HS.out, HNUM.out]; rfl)
                generalize digN b b.size = D at *
                go_wp2
                go_returns
                exact ⟨by rw [HRR.out]; rfl, hbw⟩
set_option maxRecDepth 1000000 in
set_option maxHeartbeats 4000000 in
theorem unsigned_any (s : ByteArray) (w : World) (hs : s.size ≤ 1000000) : Calls Tryz.prog 111 #[.string s, .int .i64 9] w fun e w' => e = .returned (.tuple #[.int .i64 (((numB s).getD 0 : Nat) : Int), .bool (numB s).isSome]) ∧ Below w.heap.size w w' := by
  have HI := hd (fun W => integer_any s W hs)
  have HS := sgnB_cut s
  by_cases hc : 1 < s.size ∧ bAt s 0 = 45
  · have hn : numB s = none := by
      have hd0 : digs s = false := by unfold digs; exact List.all_eq_false.2 ⟨0, by simp; omega, by rw [hc.2]; decide⟩
      unfold numB; rw [hd0]; simp
    have HN := hd hn
    have HV := sgnB_neg hc
    cases hb : numB (s.extract 1 s.size) with
    | none =>
      rw [hb] at HV
      have HV2 : sgnB s = none := HV
      rw [HV2] at HI
      clear HS HV HV2 hc hb hn hs
      go_enter Tryz.func111, Tryz.ntmps111
      go_wp2_with fail
      refine (HI.out _).mono ?_
      rintro e w' ⟨rfl, hb⟩
      have HB := hd hb
      clear hb
      go_wp2_with fail
      go_returns
      exact ⟨by rw [HN.out]; rfl, HB.out⟩
    | some n =>
      rw [hb] at HV
      by_cases h0 : 0 < n
      · have HV2 : sgnB s = some (-(n : Int)) := HV.trans (if_pos h0)
        rw [HV2] at HI
        have hneg : ¬ (0 : Int) ≤ -(n : Int) := by omega
        have HI2 := hd (fun W => show Calls Tryz.prog 113 #[.string s, .int .i64 9] W (fun e w' => e = .returned (.tuple #[.int .i64 (-(n : Int)), .bool true]) ∧ Below W.heap.size W w') from HI.out W)
        clear HS HV HV2 hc hb hn hs HI
        generalize -(n : Int) = z at *
        go_enter Tryz.func111, Tryz.ntmps111
        go_wp2_with fail
        refine (HI2.out _).mono ?_
        rintro e w' ⟨rfl, hb⟩
        have HB := hd hb
        clear hb
        go_wp2_with fail
        go_returns
        exact ⟨by rw [HN.out]; rfl, HB.out⟩
      · have HV2 : sgnB s = none := HV.trans (if_neg h0)
        rw [HV2] at HI
        clear HS HV HV2 hc hb hn hs
        go_enter Tryz.func111, Tryz.ntmps111
        go_wp2_with fail
        refine (HI.out _).mono ?_
        rintro e w' ⟨rfl, hb⟩
        have HB := hd hb
        clear hb
        go_wp2_with fail
        go_returns
        exact ⟨by rw [HN.out]; rfl, HB.out⟩
  · have HV := sgnB_pos hc
    rw [HV] at HI
    cases hb : numB s with
    | none =>
      rw [hb] at HI
      clear HS HV hc hb hs
      go_enter Tryz.func111, Tryz.ntmps111
      go_wp2_with fail
      refine (HI.out _).mono ?_
      rintro e w' ⟨rfl, hb⟩
      have HB := hd hb
      clear hb
      go_wp2_with fail
      go_returns
      exact ⟨rfl, HB.out⟩
    | some n =>
      rw [hb] at HI
      have h0 : (0 : Int) ≤ (n : Int) := by omega
      have HI2 := hd (fun W => show Calls Tryz.prog 113 #[.string s, .int .i64 9] W (fun e w' => e = .returned (.tuple #[.int .i64 (n : Int), .bool true]) ∧ Below W.heap.size W w') from HI.out W)
      clear HS HV hc hb hs HI
      go_enter Tryz.func111, Tryz.ntmps111
      go_wp2_with fail
      refine (HI2.out _).mono ?_
      rintro e w' ⟨rfl, hb⟩
      have HB := hd hb
      clear hb
      go_wp2_with fail
      go_returns
      exact ⟨rfl, HB.out⟩
end Go.Proofs.YtkgkpcmokmhakaaGreatDoor

namespace Go.Proofs.YtkgkpcmokmhakaaGreatDoor
open Go.RowKit
attribute [local go_sem] Oper.semAt_some

theorem read_wds (w : World) (b : ByteArray) : Wds (w.heap.size + 1) (spl b 32) ((w.alloc (splO b 32)).alloc (.cells #[.slice (some ⟨w.heap.size, 0, none⟩) (spl b 32).length (spl b 32).length] 196)) := by
  have hs : (w.alloc (splO b 32)).heap.size = w.heap.size + 1 := by simp
  have h1 := blk_new (w.alloc (splO b 32)) #[.slice (some ⟨w.heap.size, 0, none⟩) (spl b 32).length (spl b 32).length] 196
  rw [hs] at h1
  refine ⟨some ⟨w.heap.size, 0, none⟩, h1, fun _ => ⟨w.heap.size, 0, rfl, by omega, fun j u hu => ?_⟩⟩
  rw [World.cell?_alloc_lt _ _ _ (by rw [hs]; exact Nat.lt_succ_self _)]
  unfold splO
  rw [blk_cell (blk_new _ _ _)]
  simpa using hu
theorem read_w (s : ByteArray) (m : Int) (w : World) (hs : s.size ≤ 100000) (hm : w.cell? ⟨2, 0, none⟩ = some (.int .i64 m)) : Calls Tryz.prog 109 #[.string s] w fun e w' => e = .returned (.tuple #[.pointer (some ⟨w.heap.size + 1, 0, none⟩), .bool (lfN s)]) ∧ Wds (w.heap.size + 1) (spl (lfB s) 32) w' ∧ w.heap.size + 1 < w'.heap.size ∧ Below w.heap.size w w' :=
  (read_any s m w hs hm).mono fun e w' ⟨he, hw⟩ => ⟨he, by rw [hw]; exact read_wds w (lfB s), by rw [hw]; simp, by rw [hw]; exact ((Below.refl _ w).alloc (Nat.le_refl _) _).alloc (by simp) _⟩
theorem next_w (p : Nat) (l : List ByteArray) (W : World) (hl : l.length ≤ 100000) (h : Wds p l W) : Calls Tryz.prog 110 #[.pointer (some ⟨p, 0, none⟩)] W fun e w' => e = .returned (.string (l.headD ⟨#[]⟩)) ∧ Wds p l.tail w' ∧ W.heap.size = w'.heap.size ∧ Below p W w' := by
  cases l with
  | nil => exact (next_nil p W h).mono fun e w' ⟨he, hw⟩ => ⟨he, by rw [hw]; exact h, by rw [hw], by rw [hw]; exact Below.refl _ _⟩
  | cons x l =>
    refine (next_cons p x l W (by simp at hl; omega) h).mono ?_
    rintro e w' ⟨he, v, hw, hd⟩
    exact ⟨he, hd, by rw [hw]; simp, by rw [hw]; exact (Below.refl p W).setCell (p := ⟨p, 0, none⟩) (Nat.le_refl _) v⟩
theorem prt_mem (s : ByteArray) (c : Nat) : ∀ k, ∀ x ∈ prt s c k, x.size ≤ s.size
  | 0, x, h => by simp [prt] at h
  | k + 1, x, h => by
    rw [prt] at h
    split at h
    · rcases List.mem_append.1 h with h | h
      · exact prt_mem s c k x h
      · simp at h; subst h; simp; omega
    · exact prt_mem s c k x h
theorem spl_mem (s : ByteArray) (c : Nat) : ∀ x ∈ spl s c, x.size ≤ s.size := by
  intro x h
  rcases List.mem_append.1 h with h | h
  · exact prt_mem s c _ x h
  · simp at h; subst h; simp
theorem headD_le (s : ByteArray) (c : Nat) : ((spl s c).headD ⟨#[]⟩).size ≤ s.size := by
  cases h : spl s c with
  | nil => exact Nat.zero_le _
  | cons x l => exact spl_mem s c x (by rw [h]; simp)
/-- Sixteenths as a float32. -/
def lvQ (n : Int) : Nat := (floatBits .quo .f32 (floatOfInt .f32 n) 1098907648).getD 0
/-- What readLevel gives, of a line's end and its words. -/
def rlR (ng : Bool) (l : List ByteArray) : Value :=
  if ng = true ∧ l.length - 1 = 0 then
    if ((l.headD ⟨#[]⟩).toList == [45]) = true then .tuple #[.float .f32 0, .bool false, .bool true]
    else .tuple #[.float .f32 (lvQ ((sgnB (l.headD ⟨#[]⟩)).getD 0)), .bool true, .bool (sgnB (l.headD ⟨#[]⟩)).isSome]
  else .tuple #[.float .f32 0, .bool false, .bool false]
set_option maxRecDepth 1000000 in
theorem readLevel_any (s : ByteArray) (m : Int) (w : World) (hs : s.size ≤ 90000) (hm : w.cell? ⟨2, 0, none⟩ = some (.int .i64 m))
    (hf : floatBits .quo .f32 (floatOfInt .f32 ((sgnB ((spl (lfB s) 32).headD ⟨#[]⟩)).getD 0)) 1098907648 = some (lvQ ((sgnB ((spl (lfB s) 32).headD ⟨#[]⟩)).getD 0))) : Calls Tryz.prog 80 #[.string s] w fun e w' => e = .returned (rlR (lfN s) (spl (lfB s) 32)) ∧ Below w.heap.size w w' := by
  have HR := hd (read_w s m w (by omega) hm)
  have hb : (lfB s).size ≤ s.size := by unfold lfB; split; simp; omega
  have hx := headD_le (lfB s) 32
  have hn : (spl (lfB s) 32).length ≤ 100000 := by rw [show (32 : Nat) = (32 : UInt8).toNat from rfl, spl_len]; have := Lib.countB_le ⟨#[32]⟩ (by show 1 ≤ 1; omega) (lfB s).size (lfB s) (Nat.le_refl _); omega
  have HN := hd (fun p W h => next_w p (spl (lfB s) 32) W hn h)
  have HD := hd (fun p W h => done_any p (spl (lfB s) 32).tail W h)
  have HI := hd (fun W => integer_any ((spl (lfB s) 32).headD ⟨#[]⟩) W (by omega))
  have HT := hd (show (spl (lfB s) 32).tail.length = (spl (lfB s) 32).length - 1 by simp)
  have HRL := hd (show rlR (lfN s) (spl (lfB s) 32) = rlR (lfN s) (spl (lfB s) 32) from rfl)
  conv at HRL => arg 1; rhs; unfold rlR
  clear hn hb hx hm hs
  generalize rlR (lfN s) (spl (lfB s) 32) = R at *
  generalize lfN s = ng at *
  generalize (spl (lfB s) 32).headD ⟨#[]⟩ = x at *
  cases ng
  · have HE := hd (HRL.out.trans (if_neg (fun h => by cases h.1)))
    clear HRL
    go_enter Tryz.func80, Tryz.ntmps80
    go_wp2_with fail
    refine HR.out.mono ?_
    rintro e w1 ⟨rfl, hw1, hs1, hb1⟩
    go_wp2_with fail
    refine (HN.out _ _ hw1).mono ?_
    rintro e w2 ⟨rfl, hw2, hs2, hb2⟩
    go_wp2_with fail
    go_returns
    exact ⟨by rw [HE.out]; rfl, hb1.trans (hb2.mono (by omega))⟩
  · by_cases hl : (spl (lfB s) 32).length - 1 = 0
    · have hd1 : decide ((spl (lfB s) 32).length - 1 = 0) = true := decide_eq_true hl
      cases hm : (x.toList == [45])
      · have HE := hd (HRL.out.trans ((if_pos ⟨rfl, hl⟩).trans (if_neg (by rw [hm]; decide))))
        clear HRL
        go_enter Tryz.func80, Tryz.ntmps80
        go_wp2_with fail
        refine HR.out.mono ?_
        rintro e w1 ⟨rfl, hw1, hs1, hb1⟩
        go_wp2_with fail
        refine (HN.out _ _ hw1).mono ?_
        rintro e w2 ⟨rfl, hw2, hs2, hb2⟩
        go_wp2_with fail
        refine (HD.out _ _ hw2).mono ?_
        rintro e w3 ⟨rfl, rfl⟩
        rw [HT.out, hd1]
        go_wp2_with fail
        refine (HI.out _).mono ?_
        rintro e w4 ⟨rfl, hb4⟩
        go_wp2_with fail
        rw [run_float_arith _ .quo _ _ _ _ _ hf]
        go_wp2_with fail
        go_returns
        exact ⟨by rw [HE.out]; rfl, (hb1.trans (hb2.mono (by omega))).trans (hb4.mono (by omega))⟩
      · have HE := hd (HRL.out.trans ((if_pos ⟨rfl, hl⟩).trans (if_pos hm)))
        clear HRL
        go_enter Tryz.func80, Tryz.ntmps80
        go_wp2_with fail
        refine HR.out.mono ?_
        rintro e w1 ⟨rfl, hw1, hs1, hb1⟩
        go_wp2_with fail
        refine (HN.out _ _ hw1).mono ?_
        rintro e w2 ⟨rfl, hw2, hs2, hb2⟩
        go_wp2_with fail
        refine (HD.out _ _ hw2).mono ?_
        rintro e w3 ⟨rfl, rfl⟩
        rw [HT.out, hd1]
        go_wp2_with fail
        go_returns
        exact ⟨by rw [HE.out]; rfl, hb1.trans (hb2.mono (by omega))⟩
    · have hd1 : decide ((spl (lfB s) 32).length - 1 = 0) = false := decide_eq_false hl
      have HE := hd (HRL.out.trans (if_neg (fun h => hl h.2)))
      clear HRL
      go_enter Tryz.func80, Tryz.ntmps80
      go_wp2_with fail
      refine HR.out.mono ?_
      rintro e w1 ⟨rfl, hw1, hs1, hb1⟩
      go_wp2_with fail
      refine (HN.out _ _ hw1).mono ?_
      rintro e w2 ⟨rfl, hw2, hs2, hb2⟩
      go_wp2_with fail
      refine (HD.out _ _ hw2).mono ?_
      rintro e w3 ⟨rfl, rfl⟩
      rw [HT.out, hd1]
      go_wp2_with fail
      go_returns
      exact ⟨by rw [HE.out]; rfl, hb1.trans (hb2.mono (by omega))⟩
end Go.Proofs.YtkgkpcmokmhakaaGreatDoor
