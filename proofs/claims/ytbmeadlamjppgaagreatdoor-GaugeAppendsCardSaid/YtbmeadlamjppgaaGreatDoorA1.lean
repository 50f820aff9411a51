/-
  Contracts of the reference's CheckAppend and Append, at valid records.
-/
import Derived.Test.YtbmeadlamjppgaaGreatDoorProg
import Derived.Test.YtbmeadlamjppgaaGreatDoorEK
import Derived.Test.YtbmeadlamjppgaaGreatDoorET
namespace Go.Proofs.YtbmeadlamjppgaaGreatDoor
open Go.RowKit
attribute [local go_sem] Oper.semAt_some

theorem new_oneB (w : World) (a : Value) (T : TypeId) : ∀ j u, [a][j]? = some u → (w.alloc (.cells #[a] T)).cell? ((⟨w.heap.size, 0, none⟩ : Addr).add j) = some u := by
  intro j u hj
  match j, hj with
  | 0, hj => simp at hj; subst hj; simp [Addr.add, World.cell?_alloc_new]

/-- The error of two valid records, one behind the other. -/
def chkApp (nm nm2 : ByteArray) (st st2 : Int) (n m : Nat) : Int := if nm = nm2 then if st2 = st + n then if n + m ≤ 4096 then 0 else 5 else 11 else 30

set_option maxRecDepth 1000000 in
set_option maxHeartbeats 4000000 in
theorem refCheckAppend_any (nm nm2 : ByteArray) (st st2 : Int) (A A2 B B2 : Option Addr) (n c n2 c2 m d m2 d2 : Nat) (w : World) (hst : 0 ≤ st ∧ st ≤ 100000) (hn : n ≤ 4096) (hm : m ≤ 4096) :
    Calls Tryz.prog 27 #[.agg #[.string nm, .int .i64 st, .slice A n c, .slice A2 n2 c2], .agg #[.string nm2, .int .i64 st2, .slice B m d, .slice B2 m2 d2]] w fun e w' => e = .returned (.int .i64 (chkApp nm nm2 st st2 n m)) ∧ Below w.heap.size w w' := by
  have HB := hd (((Below.refl w.heap.size w).alloc (Nat.le_refl _) (Obj.cells #[.string nm, .int .i64 st, .slice A n c, .slice A2 n2 c2] 25)).alloc (by simp) (Obj.cells #[.string nm2, .int .i64 st2, .slice B m d, .slice B2 m2 d2] 25))
  obtain ⟨hst1, hst2⟩ := hst
  have hnm : (n : Int) ≤ 4096 := by omega
  have hmm : (m : Int) ≤ 4096 := by omega
  by_cases h1 : nm = nm2
  · subst h1
    by_cases h2 : st2 = st + n
    · subst h2
      by_cases h3 : n + m ≤ 4096
      · have HC := hd (show chkApp nm nm st (st + n) n m = 0 by simp [chkApp, h3])
        have h3' : (n : Int) + (m : Int) ≤ 4096 := by omega
        go_enter Tryz.func27, Tryz.ntmps27
        go_wp2_with fail
        go_returns
        exact ⟨by rw [HC.out]; rfl, HB.out⟩
      · have HC := hd (show chkApp nm nm st (st + n) n m = 5 by simp [chkApp, h3])
        have h3' : ¬ (n : Int) + (m : Int) ≤ 4096 := by omega
        go_enter Tryz.func27, Tryz.ntmps27
        go_wp2_with fail
        go_returns
        exact ⟨by rw [HC.out]; rfl, HB.out⟩
    · have HC := hd (show chkApp nm nm st st2 n m = 11 by simp [chkApp, h2])
      have h2b : (st2 == st + n) = false := by simpa using h2
      go_enter Tryz.func27, Tryz.ntmps27
      go_wp2_with fail
      go_returns
      exact ⟨by rw [HC.out]; rfl, HB.out⟩
  · have HC := hd (show chkApp nm nm2 st st2 n m = 30 by simp [chkApp, h1])
    have h1c : (nm.toList == nm2.toList) = false := by
      rw [beq_eq_false_iff_ne]
      intro e
      rw [ByteArray.toList_eq, ByteArray.toList_eq] at e
      exact h1 (by cases nm; cases nm2; simp only at e; congr 1; exact Array.toList_inj.1 e)
    go_enter Tryz.func27, Tryz.ntmps27
    go_wp2_with fail
    go_returns
    exact ⟨by rw [HC.out]; rfl, HB.out⟩

/-- The marks of the first levels of a record, and of those of the one behind it. -/
def th1 (gs : List (Int × Int)) (k : Nat) : List Bool := (List.range k).map (fun i : Nat => !hasL gs i)
theorem th1_len (gs : List (Int × Int)) (k : Nat) : (th1 gs k).length = k := by simp [th1]
theorem th1_succ (gs : List (Int × Int)) (k : Nat) : th1 gs (k + 1) = th1 gs k ++ [!hasL gs (k : Nat)] := by simp [th1, List.range_succ]
theorem flc_append (l m : List Nat) : flc (l ++ m) = flc l ++ flc m := by simp [flc]

theorem flc_len (l : List Nat) : (flc l).length = l.length := by simp [flc]
/-- A read-only row's cells, at their addresses. -/
theorem rd_at {X : World} {N : Nat} {A : Option Addr} {n c : Nat} {xs : List Value} (h : Rd X N (.slice A n c) n xs) (hl : xs.length = n) (ad : Addr) (ha : A = some ad) (j : Nat) (u : Value) (hu : xs[j]? = some u) : X.cell? (ad.add j) = some u := by
  obtain ⟨A', c', e', -, -, hcl⟩ := h
  cases e'
  have hj : j < xs.length := (List.getElem?_eq_some_iff.1 hu).1
  obtain ⟨b, off, e1, hbb, hc⟩ := hcl (by omega)
  rw [ha] at e1
  cases e1
  have e : (⟨b, off, none⟩ : Addr).add j = ⟨b, off + j, none⟩ := by unfold Addr.add; split <;> simp_all
  rw [e]
  exact (hc j hj).trans hu

/-- What Append holds: the marks so far; the boxes of both records and of the result. -/
structure PA (w : World) (R1 R2 Z : Array Value) (tv : Value) (T : List Bool) (W : World) : Prop where
  the : W.ownsRow (w.heap.size + 3) 4 1 tv T.length (T.map Value.bool)
  one : W.heap[w.heap.size]? = some (.cells R1 25 (0, 0))
  two : W.heap[w.heap.size + 1]? = some (.cells R2 25 (0, 0))
  res : W.heap[w.heap.size + 2]? = some (.cells Z 25 (0, 0))
  bel : Below w.heap.size w W
section
variable {w W W' : World} {R1 R2 Z : Array Value} {tv : Value} {T : List Bool}
theorem PA.below (h : PA w R1 R2 Z tv T W) (hb : Below W.heap.size W W') : PA w R1 R2 Z tv T W' :=
  ⟨own_bel h.the hb, (hb.block _ (blk_lt h.one)).trans h.one, (hb.block _ (blk_lt h.two)).trans h.two, (hb.block _ (blk_lt h.res)).trans h.res, h.bel.trans (hb.mono h.bel.size)⟩
theorem PA.app (h : PA w R1 R2 Z tv T W) {v' : Value} {b : Bool} {o : Obj} (hown : W'.ownsRow (w.heap.size + 3) 4 1 v' (T.length + 1) (T.map Value.bool ++ [.bool b])) (hg : (W.alloc o).grownBy W' tv.ownBlock) (hs : w.heap.size + 3 ≤ W.heap.size) : PA w R1 R2 Z v' (T ++ [b]) W' := by
  have hlow : ∀ k, tv.ownBlock = some k → w.heap.size + 3 ≤ k := fun k hk => (h.the.lt k hk).1
  exact ⟨by rw [List.length_append, List.map_append]; exact hown,
    (hg.block _ (by simp; omega) (fun e => by have := hlow _ e.symm; omega)).trans ((Below.heap_alloc _ _ _ (blk_lt h.one)).trans h.one),
    (hg.block _ (by simp; omega) (fun e => by have := hlow _ e.symm; omega)).trans ((Below.heap_alloc _ _ _ (blk_lt h.two)).trans h.two),
    (hg.block _ (by simp; omega) (fun e => by have := hlow _ e.symm; omega)).trans ((Below.heap_alloc _ _ _ (blk_lt h.res)).trans h.res),
    (h.bel.alloc h.bel.size _).grown hg (by have := h.bel.size; simp; omega) (fun k hk => by have := hlow k hk; omega)⟩
end

set_option maxRecDepth 1000000 in
set_option maxHeartbeats 16000000 in
theorem refAppend_any (nm nm2 : ByteArray) (st st2 : Int) (A B : Option Addr) (gv hv : Value) (c d : Nat) (bs cs : List Nat) (gs hs : List (Int × Int)) (w : World) (hl : Rd w w.heap.size (.slice A bs.length c) bs.length (flc bs)) (hg : Rd w w.heap.size gv gs.length (spc gs)) (hl2 : Rd w w.heap.size (.slice B cs.length d) cs.length (flc cs)) (hg2 : Rd w w.heap.size hv hs.length (spc hs))
    (hA : A = none → bs.length = 0 ∧ c = 0) (hB : B = none → cs.length = 0 ∧ d = 0) (hn : bs.length ≤ 4096) (hm : cs.length ≤ 4096) :
    Calls Tryz.prog 28 #[.agg #[.string nm, .int .i64 st, .slice A bs.length c, gv], .agg #[.string nm2, .int .i64 st2, .slice B cs.length d, hv]] w (OwnsRec w.heap.size nm st (asmK (bs ++ cs) (thereL gs hs bs.length cs.length) (bs ++ cs).length) (strF ((thereL gs hs bs.length cs.length).map (!·)) (thereL gs hs bs.length cs.length).length) w) := by
  obtain ⟨j0, hj, hy0, hy1, hy2⟩ := info_parts boolInfo
  have HJ := hd (And.intro hj (And.intro hy0 (And.intro hy1 hy2)))
  obtain ⟨f0, hf, hx0, hx1, hx2⟩ := info_parts floatInfo
  have HF := hd (And.intro hf (And.intro hx0 (And.intro hx1 hx2)))
  have HL := hd hl
  have HG := hd hg
  have HL2 := hd hl2
  have HG2 := hd hg2
  have HNA := hd hA
  have HNB := hd hB
  obtain ⟨A2, c2, rfl, -⟩ := id hg
  obtain ⟨B2, d2, rfl, -⟩ := id hg2
  obtain ⟨A', c', e1, hq1, hq2, -⟩ := id hl
  cases e1
  obtain ⟨B', d', e2, hq3, hq4, -⟩ := id hl2
  cases e2
  unfold maxLen at hq2 hq4
  have hbs63 : (bs.length : Int) ≤ 4096 := by omega
  have hcs63 : (cs.length : Int) ≤ 4096 := by omega
  have HR1 := hd (fun (W : World) (hb : Below w.heap.size w W) (i : Nat) (h : i < bs.length) => refRecorded_any nm st A A2 bs.length c c2 gs i W ((HG.out.below hb (Nat.le_refl _)).mono hb.size) h)
  have HR2 := hd (fun (W : World) (hb : Below w.heap.size w W) (i : Nat) (h : i < cs.length) => refRecorded_any nm2 st2 B B2 cs.length d d2 hs i W ((HG2.out.below hb (Nat.le_refl _)).mono hb.size) h)
  have HX1 := hd (fun (X : World) (hb : Below w.heap.size w X) ad (ha : A = some ad) j u (hu : (flc bs)[j]? = some u) => show X.cell? (ad.add j) = some u from rd_at ((HL.out.below hb (Nat.le_refl _)).mono hb.size) (flc_len bs) ad ha j u hu)
  have HX2 := hd (fun (X : World) (hb : Below w.heap.size w X) ad (ha : B = some ad) j u (hu : (flc cs)[j]? = some u) => show X.cell? (ad.add j) = some u from rd_at ((HL2.out.below hb (Nat.le_refl _)).mono hb.size) (flc_len cs) ad ha j u hu)
  have H63 := hd (show 0 + bs.length ≤ maxLen ∧ (0 + bs.length) * 4 ≤ 140737488355328 ∧ bs.length + cs.length ≤ maxLen ∧ (bs.length + cs.length) * 4 ≤ 140737488355328 from by unfold maxLen; omega)
  have HTL := hd (show th1 gs bs.length ++ th1 hs cs.length = thereL gs hs bs.length cs.length from rfl)
  have HTN := hd (thereL_len gs hs bs.length cs.length)
  have HPN := hd (And.intro hn hm)
  obtain ⟨W0, hW0⟩ : ∃ W0, W0 = (((w.alloc (Obj.cells #[.string nm, .int .i64 st, .slice A bs.length c, .slice A2 gs.length c2] 25)).alloc (Obj.cells #[.string nm2, .int .i64 st2, .slice B cs.length d, .slice B2 hs.length d2] 25)).alloc (Obj.cells #[.string ⟨#[]⟩, .int .i64 0, .slice none 0 0, .slice none 0 0] 25)) := ⟨_, rfl⟩
  have hs0 : W0.heap.size = w.heap.size + 3 := by rw [hW0]; simp
  have HP0 := hd (show PA w #[.string nm, .int .i64 st, .slice A bs.length c, .slice A2 gs.length c2] #[.string nm2, .int .i64 st2, .slice B cs.length d, .slice B2 hs.length d2] #[.string ⟨#[]⟩, .int .i64 0, .slice none 0 0, .slice none 0 0] (.slice none 0 0) (th1 gs 0) W0 from by
    rw [hW0]
    refine ⟨World.ownsRow_nil _ _ _ _, (Below.heap_alloc _ _ _ (by simp; omega)).trans ((Below.heap_alloc _ _ _ (by simp)).trans (blk_new _ _ _)), (Below.heap_alloc _ _ _ (by simp)).trans ?_, ?_, (((Below.refl _ w).alloc (Nat.le_refl _) _).alloc (by simp) _).alloc (by simp; omega) _⟩
    · have h := blk_new (w.alloc (Obj.cells #[.string nm, .int .i64 st, .slice A bs.length c, .slice A2 gs.length c2] 25)) #[.string nm2, .int .i64 st2, .slice B cs.length d, .slice B2 hs.length d2] 25
      rw [World.size_alloc] at h; exact h
    · have h := blk_new ((w.alloc (Obj.cells #[.string nm, .int .i64 st, .slice A bs.length c, .slice A2 gs.length c2] 25)).alloc (Obj.cells #[.string nm2, .int .i64 st2, .slice B cs.length d, .slice B2 hs.length d2] 25)) #[.string ⟨#[]⟩, .int .i64 0, .slice none 0 0, .slice none 0 0] 25
      rw [World.size_alloc, World.size_alloc] at h; exact h)
  have HW0 := hd (Nat.le_of_eq hs0.symm)
  clear hl hg hl2 hg2 hA hB hs0 hj hy0 hy1 hy2 hf hx0 hx1 hx2
  go_enter Tryz.func28, Tryz.ntmps28
  go_wp2_with fail
  rw [← hW0]
  clear hW0
  go_loopw [5, 6] (fun tv i wr => ∃ k : Nat, k ≤ bs.length ∧ i = .int .i64 k ∧ Hid (PA w #[.string nm, .int .i64 st, .slice A bs.length c, .slice A2 gs.length c2] #[.string nm2, .int .i64 st2, .slice B cs.length d, .slice B2 hs.length d2] #[.string ⟨#[]⟩, .int .i64 0, .slice none 0 0, .slice none 0 0] tv (th1 gs k) wr ∧ w.heap.size + 3 ≤ wr.heap.size)) (fun _ i _ => bs.length - (intOf i).toNat)
  case atStart => exact ⟨0, Nat.zero_le _, rfl, hd ⟨HP0.out, HW0.out⟩⟩
  case round =>
    obtain ⟨k, hk, rfl, HI⟩ := hrel
    clear HP0 HW0
    obtain ⟨A5, c5, hv5, -⟩ := own_form HI.out.1.the
    subst hv5
    have q0 := blk_cell HI.out.1.one 0
    have q1 := blk_cell HI.out.1.one 1
    have q2 := blk_cell HI.out.1.one 2
    have q3 := blk_cell HI.out.1.one 3
    simp at q0 q1 q2 q3
    by_cases hlt : k < bs.length
    · have hki : (k : Int) < (bs.length : Int) := by omega
      have HS := hd (th1_succ gs k)
      have HPL := hd (show (th1 gs k).length + 1 ≤ maxLen ∧ ((th1 gs k).length + 1) * 1 ≤ 140737488355328 by rw [th1_len]; unfold maxLen; omega)
      go_wp2_with fail
      refine (HR1.out _ HI.out.1.bel k hlt).mono ?_
      rintro e w1 ⟨rfl, hb⟩
      have HI1 := hd (And.intro (HI.out.1.below hb) (Nat.le_trans HI.out.2 hb.size))
      clear HI hb q0 q1 q2 q3
      generalize (!hasL gs (k : Nat)) = b1 at HS ⊢
      go_wp2_with (at_builtin; refine wpList_append_own _ rfl (.tmp 15) (.tmp 19) 97 rfl (w.heap.size + 3) 4 j0 (.bool false) 1 1 Tryz.underlying97 HJ.out.1 HJ.out.2.1 HJ.out.2.2.1 HJ.out.2.2.2 rfl (by decide) _ (th1 gs k).length _ rfl (HI1.out.1.the.alloc _) ⟨w1.heap.size, 0, none⟩ 1 1 [.bool b1] rfl rfl (new_oneB _ _ _) (by simp [Value.oneCell']) HPL.out.1 HPL.out.2 (by have := HI1.out.2; simp; omega) ?_)
      intro v7 w7 hown7 hg7 _
      have HI7 := hd (And.intro (HI1.out.1.app hown7 hg7 HI1.out.2) (Nat.le_trans HI1.out.2 (Nat.le_trans (by simp) hg7.size)))
      clear hown7 hg7 HI1
      go_wp2
      go_roundw
      case rel => exact ⟨k + 1, by omega, by go_num, by rw [HS.out]; exact HI7⟩
      case measure => simp [intOf]; omega
    · have hke : k = bs.length := by omega
      subst hke
      go_wp2
      go_loopw [5, 7] (fun tv i wr => ∃ k : Nat, k ≤ cs.length ∧ i = .int .i64 k ∧ Hid (PA w #[.string nm, .int .i64 st, .slice A bs.length c, .slice A2 gs.length c2] #[.string nm2, .int .i64 st2, .slice B cs.length d, .slice B2 hs.length d2] #[.string ⟨#[]⟩, .int .i64 0, .slice none 0 0, .slice none 0 0] tv (th1 gs bs.length ++ th1 hs k) wr ∧ w.heap.size + 3 ≤ wr.heap.size)) (fun _ i _ => cs.length - (intOf i).toNat)
      case atStart => exact ⟨0, Nat.zero_le _, rfl, hd (by rw [show th1 hs 0 = [] from rfl, List.append_nil]; exact HI.out)⟩
      case round =>
        clear HI q0 q1 q2 q3
        obtain ⟨k, hk, rfl, HI⟩ := hrel
        obtain ⟨A6, c6, hv6, -⟩ := own_form HI.out.1.the
        subst hv6
        have q0 := blk_cell HI.out.1.two 0
        have q1 := blk_cell HI.out.1.two 1
        have q2 := blk_cell HI.out.1.two 2
        have q3 := blk_cell HI.out.1.two 3
        simp at q0 q1 q2 q3
        by_cases hlt2 : k < cs.length
        · have hki : (k : Int) < (cs.length : Int) := by omega
          have HS := hd (th1_succ hs k)
          have HPL := hd (show (th1 gs bs.length ++ th1 hs k).length + 1 ≤ maxLen ∧ ((th1 gs bs.length ++ th1 hs k).length + 1) * 1 ≤ 140737488355328 by rw [List.length_append, th1_len, th1_len]; unfold maxLen; omega)
          go_wp2_with fail
          refine (HR2.out _ HI.out.1.bel k hlt2).mono ?_
          rintro e w1 ⟨rfl, hb⟩
          have HI1 := hd (And.intro (HI.out.1.below hb) (Nat.le_trans HI.out.2 hb.size))
          clear HI hb q0 q1 q2 q3
          generalize (!hasL hs (k : Nat)) = b1 at HS ⊢
          generalize hTT : th1 gs bs.length ++ th1 hs k = TT at *
          go_wp2_with (at_builtin; refine wpList_append_own _ rfl (.tmp 28) (.tmp 32) 97 rfl (w.heap.size + 3) 4 j0 (.bool false) 1 1 Tryz.underlying97 HJ.out.1 HJ.out.2.1 HJ.out.2.2.1 HJ.out.2.2.2 rfl (by decide) _ TT.length _ rfl (HI1.out.1.the.alloc _) ⟨w1.heap.size, 0, none⟩ 1 1 [.bool b1] rfl rfl (new_oneB _ _ _) (by simp [Value.oneCell']) HPL.out.1 HPL.out.2 (by have := HI1.out.2; simp; omega) ?_)
          intro v7 w7 hown7 hg7 _
          have HI7 := hd (And.intro (HI1.out.1.app hown7 hg7 HI1.out.2) (Nat.le_trans HI1.out.2 (Nat.le_trans (by simp) hg7.size)))
          have HTT := hd hTT
          clear hown7 hg7 HI1 hTT
          go_wp2
          go_roundw
          case rel => exact ⟨k + 1, by omega, by go_num, by rw [HS.out, ← List.append_assoc, HTT.out]; exact HI7⟩
          case measure => simp [intOf]; omega
        · have hke : k = cs.length := by omega
          subst hke
          go_wp2
          obtain ⟨W1, rfl⟩ : ∃ x : World, x = wr := ⟨_, rfl⟩
          have p0 := blk_cell HI.out.1.one 0
          have p1 := blk_cell HI.out.1.one 1
          have p2 := blk_cell HI.out.1.one 2
          have p3 := blk_cell HI.out.1.one 3
          simp at p0 p1 p2 p3
          have HB1 := hd HI.out.1.bel
          obtain ⟨L6, hL6⟩ : ∃ L : Nat, L = (th1 gs bs.length ++ th1 hs cs.length).length := ⟨_, rfl⟩
          rw [← hL6] at HI ⊢
          obtain ⟨LK, hLK⟩ : ∃ l : List Nat, l = asmK (bs ++ cs) (thereL gs hs bs.length cs.length) (bs ++ cs).length := ⟨_, rfl⟩
          obtain ⟨GK, hGK⟩ : ∃ l : List (Int × Int), l = strF ((thereL gs hs bs.length cs.length).map (!·)) (thereL gs hs bs.length cs.length).length := ⟨_, rfl⟩
          have HKP := hd (fun (lv : Value) (X : World) (hb : Below W1.heap.size W1 X) (ho : X.ownsRow W1.heap.size 43 1 lv (bs.length + cs.length) (flc bs ++ flc cs)) => (show Calls Tryz.prog 62 #[.agg #[.string nm, .int .i64 st, lv, .slice none 0 0], .slice A6 L6 c6] X (OwnsRec X.heap.size nm st LK GK X) from by rw [hLK, hGK]; exact refKept_any nm st lv (.slice none 0 0) (.slice A6 L6 c6) (bs ++ cs) 0 [] (th1 gs bs.length ++ th1 hs cs.length) X (by rw [List.length_append, flc_append]; exact rd_of_own ho) (Rd.nil X _) (by have h := rd_of_own (own_bel HI.out.1.the hb); exact h) (by rw [HTL.out, HTN.out, List.length_append]) (by rw [List.length_append]; omega)))
          have HLK := hd hLK
          have HGK := hd hGK
          have hn2 : w.heap.size + 1 + 1 ≠ w.heap.size := by omega
          have hn2' := hn2.symm
          have hn3 : w.heap.size + 1 + 1 ≠ w.heap.size + 1 := by omega
          have hn3' := hn3.symm
          clear hLK hGK
          have HL6e := hd hL6
          clear hL6
          go_region_held3 (fun x => x.cell? ⟨w.heap.size, 0, none⟩ = some (.string nm) ∧ x.cell? ⟨w.heap.size, 1, none⟩ = some (.int .i64 st) ∧ x.cell? ⟨w.heap.size, 2, none⟩ = some (.slice A bs.length c) ∧ x.cell? ⟨w.heap.size + 1, 2, none⟩ = some (.slice B cs.length d)) (go_keep)
            (first
              | (refine step_append_opt (W1.alloc (Obj.cells #[] 43)).drew (by rfl) (.tmp 38) (.tmp 40) 22 (by rfl) W1.heap.size 43 f0 (.float .f32 0) 1 4 Tryz.underlying22 HF.out.1 HF.out.2.1 HF.out.2.2.1 HF.out.2.2.2 rfl (by decide) (.slice (some ⟨W1.heap.size, 0, none⟩) 0 0) 0 [] (by rfl) (show (W1.alloc (Obj.cells #[] 43)).drew.ownsRow W1.heap.size 43 1 (.slice (some ⟨W1.heap.size, 0, none⟩) 0 0) 0 [] from World.ownsRow.drew (World.ownsRow_lit W1 #[] 0 (Nat.le_refl _) (by decide) rfl)) A bs.length c (flc bs) (by rfl) (by simp [flc]) HNA.out (HX1.out _ (HB1.out.alloc HB1.out.size _).drew) (one_flc bs) H63.out.1 H63.out.2.1 (by simp) ?_; intro v4 w4 hown4 hg4; simp only [Nat.zero_add, List.nil_append] at hown4; obtain ⟨A4, c4, hv4, -⟩ := own_form hown4; subst hv4; have hW4 : Below W1.heap.size W1 w4 := ((Below.refl _ W1).alloc (Nat.le_refl _) _).drew.grown hg4 (by simp) (fun kk hk => by simp [Value.ownBlock] at hk; omega); have hq4 := (hW4.block _ (blk_lt HI.out.1.one)).trans HI.out.1.one; have hp4 := (hW4.block _ (blk_lt HI.out.1.two)).trans HI.out.1.two; have N0 := blk_cell hq4 0; have N1 := blk_cell hq4 1; have N2 := blk_cell hq4 2; have N3 := blk_cell hq4 3; simp at N0 N1 N2 N3; have M0 := blk_cell hp4 0; have M1 := blk_cell hp4 1; have M2 := blk_cell hp4 2; have M3 := blk_cell hp4 3; simp at M0 M1 M2 M3; have HO4 := hd hown4; have HW4 := hd hW4; clear hown4 hg4 hW4 hq4 hp4)
              | (refine step_append_opt w4 (by rfl) (.tmp 41) (.tmp 43) 22 (by rfl) W1.heap.size 43 f0 (.float .f32 0) 1 4 Tryz.underlying22 HF.out.1 HF.out.2.1 HF.out.2.2.1 HF.out.2.2.2 rfl (by decide) (.slice A4 bs.length c4) bs.length (flc bs) (by rfl) (id HO4.out) B cs.length d (flc cs) (by rfl) (by simp [flc]) HNB.out (HX2.out _ (HB1.out.trans (HW4.out.mono HB1.out.size))) (one_flc cs) H63.out.2.2.1 H63.out.2.2.2 HW4.out.size ?_; intro v5 w5 hown5 hg5; obtain ⟨A5', c5', hv5, -⟩ := own_form hown5; subst hv5; have hW5 : Below W1.heap.size W1 w5 := HW4.out.grown hg5 HW4.out.size (fun kk hk => (HO4.out.lt kk hk).1); have hq5 := (hW5.block _ (blk_lt HI.out.1.one)).trans HI.out.1.one; have hp5 := (hW5.block _ (blk_lt HI.out.1.two)).trans HI.out.1.two; have N50 := blk_cell hq5 0; have N51 := blk_cell hq5 1; have N52 := blk_cell hq5 2; have N53 := blk_cell hq5 3; simp at N50 N51 N52 N53; have M50 := blk_cell hp5 0; have M51 := blk_cell hp5 1; have M52 := blk_cell hp5 2; have M53 := blk_cell hp5 3; simp at M50 M51 M52 M53; have HO5 := hd hown5; have HW5 := hd hW5; clear hown5 hg5 hW5 hq5 hp5)
              | (go_at_call 62; refine (HKP.out _ w5 HW5.out HO5.out).mono ?_; rintro e w6 ⟨lv6, gv6, rfl, hl6, hg6, hb6⟩; obtain ⟨A61, c61, hv61, -⟩ := own_form hl6; obtain ⟨A62, c62, hv62, -⟩ := own_form hg6; subst hv61; subst hv62; have hW6 : Below W1.heap.size W1 w6 := HW5.out.trans (hb6.mono HW5.out.size); have hq6 := (hW6.block _ (blk_lt HI.out.1.one)).trans HI.out.1.one; have hp6 := (hW6.block _ (blk_lt HI.out.1.two)).trans HI.out.1.two; have hz6 := (hW6.block _ (blk_lt HI.out.1.res)).trans HI.out.1.res; have N60 := blk_cell hq6 0; have N61 := blk_cell hq6 1; have N62 := blk_cell hq6 2; have N63 := blk_cell hq6 3; simp at N60 N61 N62 N63; have M60 := blk_cell hp6 0; have M61 := blk_cell hp6 1; have M62 := blk_cell hp6 2; have M63 := blk_cell hp6 3; simp at M60 M61 M62 M63; have Z0 := blk_cell hz6 0; have Z1 := blk_cell hz6 1; have Z2 := blk_cell hz6 2; have Z3 := blk_cell hz6 3; simp at Z0 Z1 Z2 Z3; have Fz0 := blk_frozen hz6 0; have Fz1 := blk_frozen hz6 1; have Fz2 := blk_frozen hz6 2; have Fz3 := blk_frozen hz6 3; have HZ6 := hd hz6; have HL6 := hd hl6; have HG6 := hd hg6; have HB6 := hd hb6; have HW6 := hd hW6; clear hl6 hg6 hb6 hW6 hq6 hp6 hz6))
          all_goals
            go_wp2_with fail
            have hR : w.heap.size + 1 + 1 < w5.heap.size := by have h1 := HI.out.2; have h2 := HW5.out.size; omega
            have d1 := own_base (own_set4 (R := w.heap.size + 1 + 1) (a := .string nm) (b := .int .i64 st) (c := .slice A61 LK.length c61) (d := .slice A62 GK.length c62) HL6.out hR) (show w.heap.size ≤ w5.heap.size by omega)
            have d2 := own_base (own_set4 (R := w.heap.size + 1 + 1) (a := .string nm) (b := .int .i64 st) (c := .slice A61 LK.length c61) (d := .slice A62 GK.length c62) HG6.out hR) (show w.heap.size ≤ w5.heap.size by omega)
            have d4 := set4_below (HB1.out.trans (HW6.out.mono HB1.out.size)) (R := w.heap.size + 1 + 1) (by omega) (.string nm) (.int .i64 st) (.slice A61 LK.length c61) (.slice A62 GK.length c62)
            have d5 := set4_blk (show w6.heap[w.heap.size + 1 + 1]? = _ from HZ6.out) (.string nm) (.int .i64 st) (.slice A61 LK.length c61) (.slice A62 GK.length c62)
            change bodyPost _ _ _ _ _ (set4 w6 (w.heap.size + 1 + 1) (.string nm) (.int .i64 st) (.slice A61 LK.length c61) (.slice A62 GK.length c62))
            generalize (set4 w6 (w.heap.size + 1 + 1) (.string nm) (.int .i64 st) (.slice A61 LK.length c61) (.slice A62 GK.length c62)) = WE at *
            have z0 := blk_cell d5 0
            have z1 := blk_cell d5 1
            have z2 := blk_cell d5 2
            have z3 := blk_cell d5 3
            simp at z0 z1 z2 z3
            have e1 := HLK.out
            have e2 := HGK.out
            exact bodyPost_ret (v := .agg #[.string nm, .int .i64 st, .slice A61 LK.length c61, .slice A62 GK.length c62]) (by simp [results, Tryz.results28, go_sem, z0, z1, z2, z3]) rfl ⟨_, _, rfl, by rw [← e1]; exact d1, by rw [← e2]; exact d2, d4⟩
end Go.Proofs.YtbmeadlamjppgaaGreatDoor
