/-
  The walk of TopSkipperRecords, at a record that is taken. Conditions: written at it.
-/
import Derived.Test.YtkgkpcmokmhakaaGreatDoorJ4
import Derived.Test.YtkgkpcmokmhakaaGreatDoorA1
import Derived.Test.YtkgkpcmokmhakaaGreatDoorQ4
import Derived.Test.YtkgkpcmokmhakaaGreatDoorA5
namespace Go.Proofs.YtkgkpcmokmhakaaGreatDoor
open Go.RowKit
attribute [local go_sem] Oper.semAt_some

set_option maxRecDepth 1000000 in
theorem sTold_any (nm : ByteArray) (st : Int) (A A2 : Option Addr) (n c n2 c2 : Nat) (w : World) :
    Calls Tryz.prog 10 #[.agg #[.string nm, .int .i64 st, .slice A n c, .slice A2 n2 c2]] w fun e w' => e = .returned (.agg #[.string nm, .int .i64 st, .slice A n c, .slice A2 n2 c2]) ∧ Below w.heap.size w w' := by
  have HB := hd (((Below.refl w.heap.size w).alloc (Nat.le_refl _) (Obj.cells #[.string nm, .int .i64 st, .slice A n c, .slice A2 n2 c2] 35)).alloc (by simp) (Obj.cells #[.string nm, .int .i64 st, .slice A n c, .slice A2 n2 c2] 25))
  go_enter Tryz.func10, Tryz.ntmps10
  go_wp2_with fail
  go_returns
  exact ⟨rfl, HB.out⟩
theorem spans_selfJ (l : List (Int × Int)) : sameF (fun x y : Int × Int => x == y) (0, 0) l l = true := sameF_yes _ _ _ _ rfl (fun j _ => by simp)
/-- A copy, a cleaned record, reasons, a text's and a stream's record, a joined record: in rows of their own. -/
def SRecN (nm : ByteArray) (st : Int) (n m : Nat) (bs : List Nat) (gs : List (Int × Int)) (w : World) (e : Ending) (w' : World) : Prop :=
  ∃ A c A2 c2, e = .returned (.agg #[.string nm, .int .i64 st, .slice A n c, .slice A2 m c2]) ∧ w'.ownsRow w.heap.size 60 1 (.slice A n c) n (flc bs) ∧ w'.ownsRow w.heap.size 50 2 (.slice A2 m c2) m (spc gs) ∧ Below w.heap.size w w'
theorem sRec_n (nm : ByteArray) (st : Int) (A A2 : Option Addr) (n m c c2 : Nat) (bs : List Nat) (gs : List (Int × Int)) (w : World) (hbn : bs.length = n) (hgm : gs.length = m) (hl : Rd w w.heap.size (.slice A n c) n (flc bs)) (hg : Rd w w.heap.size (.slice A2 m c2) m (spc gs)) (fl : Full (.slice A n c)) (fg : Full (.slice A2 m c2)) (hn : n ≤ 100000) (hm : m ≤ 100000) :
    Calls Tryz.prog 9 #[.agg #[.string nm, .int .i64 st, .slice A n c, .slice A2 m c2]] w (SRecN nm st n m bs gs w) := by
  subst hbn hgm
  refine (sRec_own nm st A A2 c c2 bs gs w hl hg fl fg hn hm).mono ?_
  rintro e w' ⟨lv, gv, rfl, h1, h2, hb⟩
  obtain ⟨B, d, rfl, -⟩ := own_form h1
  obtain ⟨B2, d2, rfl, -⟩ := own_form h2
  exact ⟨_, _, _, _, rfl, h1, h2, hb⟩
def ClnN (nm : ByteArray) (st : Int) (n m : Nat) (bs : List Nat) (gs : List (Int × Int)) (w : World) (e : Ending) (w' : World) : Prop :=
  ∃ A c A2 c2, e = .returned (.tuple #[.agg #[.string nm, .int .i64 st, .slice A n c, .slice A2 m c2], .int .i64 0]) ∧ w'.ownsRow w.heap.size 60 1 (.slice A n c) n (flc bs) ∧ w'.ownsRow w.heap.size 50 2 (.slice A2 m c2) m (spc gs) ∧ Below w.heap.size w w'
def RsnN (n : Nat) (l : List Int) (w : World) (e : Ending) (w' : World) : Prop :=
  ∃ A c, e = .returned (.tuple #[.slice A n c, .int .i64 0]) ∧ Rd w' w'.heap.size (.slice A n c) n (l.map (Value.int .i64)) ∧ Below w.heap.size w w'
def ParN (nm : ByteArray) (st : Int) (n m : Nat) (bs : List Nat) (gs : List (Int × Int)) (w : World) (e : Ending) (w' : World) : Prop :=
  ∃ A c A2 c2, e = .returned (.tuple #[.agg #[.string nm, .int .i64 st, .slice A n c, .slice A2 m c2], .int .i64 0, .int .i64 0]) ∧ Rd w' w'.heap.size (.slice A n c) n (flc bs) ∧ Rd w' w'.heap.size (.slice A2 m c2) m (spc gs) ∧ Full (.slice A n c) ∧ Below w.heap.size w w'
def DecN (nm : ByteArray) (st : Int) (n m : Nat) (bs : List Nat) (gs : List (Int × Int)) (w : World) (e : Ending) (w' : World) : Prop :=
  ∃ A c A2 c2, e = .returned (.tuple #[.agg #[.string nm, .int .i64 st, .slice A n c, .slice A2 m c2], .int .i64 0]) ∧ Rd w' w'.heap.size (.slice A n c) n (flc bs) ∧ Rd w' w'.heap.size (.slice A2 m c2) m (spc gs) ∧ Full (.slice A n c) ∧ Below w.heap.size w w'
def EncN (N : Nat) (xs : List Value) (w : World) (e : Ending) (w' : World) : Prop :=
  ∃ A c, e = .returned (.tuple #[.slice A N c, .int .i64 0]) ∧ Rd w' w'.heap.size (.slice A N c) N xs ∧ Below w.heap.size w w'
theorem own_levJ {W : World} {B : Nat} {e : TypeId} {A : Option Addr} {n c : Nat} {xs : List Value} (h : W.ownsRow B e 1 (.slice A n c) n xs) : (A = none ∧ n = 0 ∧ c = 0) ∨ ∃ g, A = some ⟨g, 0, none⟩ := by
  rcases h.2 with ⟨h2, h3⟩ | ⟨g, cap, cur, e1, -⟩
  · injection h2 with h4 h5 h6
    exact .inl ⟨h4, h5, h6⟩
  · injection e1 with h4
    exact .inr ⟨g, h4⟩
theorem one_rucJ (l : List Ru) : ∀ u ∈ ruc l, u.oneCell' = true := by
  intro u hu
  simp only [ruc, List.mem_flatMap] at hu
  obtain ⟨x, -, hx⟩ := hu
  simp only [List.mem_cons, List.not_mem_nil, or_false] at hx
  rcases hx with rfl | rfl | rfl <;> rfl

set_option maxRecDepth 1000000 in
set_option maxHeartbeats 16000000 in
theorem rec_walk (nm code : ByteArray) (st x0 tG k1 s1 e1 k2 s2 e2 e0 : Int) (A A2 A3 : Option Addr) (c c2 c3 n k n1 BL lo0 lo1 lo2 hi0 hi1 hi2 : Nat) (bs CB H0 H1 TB EB WB : List Nat) (gs CG PH PT : List (Int × Int)) (l : List Ru) (R : List Int) (BV : List Value) (w : World)
    (HL : Hid (Rd w w.heap.size (.slice A n c) n (flc bs))) (HG : Hid (Rd w w.heap.size (.slice A2 gs.length c2) gs.length (spc gs))) (HU : Hid (Rd w w.heap.size (.slice A3 l.length c3) l.length (ruc l))) (FL : Hid (Full (.slice A n c))) (FG : Hid (Full (.slice A2 gs.length c2)))
    (SS : Hid (shortR nm.size n gs.length = true)) (HST : Hid (0 ≤ st ∧ st ≤ 99900)) (HX0 : Hid (0 ≤ x0 ∧ x0 ≤ 255)) (HK : Hid (x0 % ((n : Int) + 1) = (k : Int)))
    (HN : Hid (bs.length = n ∧ CB.length = n ∧ R.length = n ∧ n ≤ 4096 ∧ k ≤ n ∧ gs.length ≤ 2048 ∧ CG.length ≤ 2048 ∧ l.length ≤ 1000 ∧ n - k = n1 ∧ PH.length ≤ 2048 ∧ PT.length ≤ 2048))
    (HHP : Hid ((CB.take k).drop 0 = H0 ∧ (CB.take n).drop k = H1 ∧ cutP CG ((0 : Nat) : Int) (k : Int) = PH ∧ cutP CG (k : Int) (n : Int) = PT ∧ H0.length = k ∧ H1.length = n1))
    (CR : Hid (∀ (X : World) (lv gv : Value), Rd X X.heap.size lv n (flc bs) → Rd X X.heap.size gv gs.length (spc gs) → Calls Tryz.prog 5 #[.agg #[.string nm, .int .i64 st, lv, gv]] X (fun e w' => e = .returned (.int .i64 0) ∧ Below X.heap.size X w')))
    (CU : Hid (∀ (X : World) (rv : Value), Rd X X.heap.size rv l.length (ruc l) → Calls Tryz.prog 6 #[rv] X (fun e w' => e = .returned (.int .i64 0) ∧ Below X.heap.size X w')))
    (CC : Hid (∀ (X : World) (lv gv : Value), Rd X X.heap.size lv n (flc CB) → Rd X X.heap.size gv CG.length (spc CG) → Calls Tryz.prog 5 #[.agg #[.string nm, .int .i64 st, lv, gv]] X (fun e w' => e = .returned (.int .i64 0) ∧ Below X.heap.size X w')))
    (GC : Hid (∀ (X : World) (lv gv rv : Value), Rd X X.heap.size lv n (flc bs) → Rd X X.heap.size gv gs.length (spc gs) → Rd X X.heap.size rv l.length (ruc l) → Calls Tryz.prog 8 #[.agg #[.string nm, .int .i64 st, lv, gv], rv] X (ClnN nm st n CG.length CB CG X)))
    (GC2 : Hid (∀ (X : World) (lv gv rv : Value), Rd X X.heap.size lv n (flc CB) → Rd X X.heap.size gv CG.length (spc CG) → Rd X X.heap.size rv l.length (ruc l) → Calls Tryz.prog 8 #[.agg #[.string nm, .int .i64 st, lv, gv], rv] X (ClnN nm st n CG.length CB CG X)))
    (GH : Hid (∀ (X : World) (lv gv rv : Value), Rd X X.heap.size lv n (flc bs) → Rd X X.heap.size gv gs.length (spc gs) → Rd X X.heap.size rv l.length (ruc l) → Calls Tryz.prog 11 #[.agg #[.string nm, .int .i64 st, lv, gv], rv] X (RsnN n R X)))
    (HSC : Hid (sameF feqL 0 CB CB = true)) (HSW : Hid (sameF feqL 0 WB CB = true)) (HWB : Hid (WB.length = n))
    (T1 : Hid (∀ (X : World) (gv : Value), Rd X X.heap.size gv CG.length (spc CG) → Calls Tryz.prog 13 #[gv] X fun e w' => e = .returned (.int .i64 (tG + lsK R n)) ∧ Below X.heap.size X w'))
    (T2 : Hid (∀ (X : World) (gv : Value), Rd X X.heap.size gv gs.length (spc gs) → Calls Tryz.prog 13 #[gv] X fun e w' => e = .returned (.int .i64 tG) ∧ Below X.heap.size X w'))
    (HTB : Hid (0 ≤ tG ∧ tG ≤ 1000000 ∧ 0 ≤ lsK R n ∧ lsK R n ≤ 1000000)) (HBD : Hid (∀ s ∈ CG, 0 ≤ s.1 ∧ s.1 < s.2 ∧ s.2 ≤ 100000))
    (GP : Hid (∀ (X : World) (lv gv : Value), Below w.heap.size w X → Rd X X.heap.size lv k (flc H0) → Rd X X.heap.size gv PH.length (spc PH) → Calls Tryz.prog 14 #[.agg #[.string nm, .int .i64 st, lv, gv]] X (fun e w' => e = .returned (.tuple #[.string code, .int .i64 0]) ∧ Below X.heap.size X w')))
    (GD : Hid (∀ X : World, Below w.heap.size w X → Calls Tryz.prog 15 #[.string code] X (ParN nm st k PH.length TB PH X)))
    (GE : Hid (∀ (X : World) (lv gv : Value), Rd X X.heap.size lv n1 (flc H1) → Rd X X.heap.size gv PT.length (spc PT) → Calls Tryz.prog 16 #[.agg #[.string nm, .int .i64 (st + (k : Int)), lv, gv]] X (EncN BL BV X)))
    (DD : Hid (∀ (X : World) (A : Option Addr) (c : Nat), Rd X X.heap.size (.slice A BL c) BL BV → Calls Tryz.prog 17 #[.slice A BL c] X (DecN nm (st + (k : Int)) n1 PT.length EB PT X)))
    (AP : Hid (∀ (X : World) (u1 u2 u3 u4 : Value), Rd X X.heap.size u1 k (flc TB) → Rd X X.heap.size u2 PH.length (spc PH) → Rd X X.heap.size u3 n1 (flc EB) → Rd X X.heap.size u4 PT.length (spc PT) → Full u1 → Full u3 → Calls Tryz.prog 18 #[.agg #[.string nm, .int .i64 st, u1, u2], .agg #[.string nm, .int .i64 (st + (k : Int)), u3, u4]] X (ClnN nm st n CG.length WB CG X)))
    (SU0 : Hid (∀ (X : World) (lv gv : Value), Rd X X.heap.size lv n (flc CB) → Rd X X.heap.size gv CG.length (spc CG) → Calls Tryz.prog 19 #[.agg #[.string nm, .int .i64 st, lv, gv]] X (GotSJ (k1 + k2) (s1 + s2) e0 lo0 hi0 X))) (SU1 : Hid (∀ (X : World) (lv gv : Value), Rd X X.heap.size lv k (flc H0) → Rd X X.heap.size gv PH.length (spc PH) → Calls Tryz.prog 19 #[.agg #[.string nm, .int .i64 st, lv, gv]] X (GotSJ k1 s1 e1 lo1 hi1 X))) (SU2 : Hid (∀ (X : World) (lv gv : Value), Rd X X.heap.size lv n1 (flc H1) → Rd X X.heap.size gv PT.length (spc PT) → Calls Tryz.prog 19 #[.agg #[.string nm, .int .i64 (st + (k : Int)), lv, gv]] X (GotSJ k2 s2 e2 lo2 hi2 X)))
    (HE0 : Hid (e0 = 0 ∨ e0 = 12)) (HE1 : Hid (e1 = 0 ∨ e1 = 12)) (HE2 : Hid (e2 = 0 ∨ e2 = 12)) (HSN : Hid (0 ≤ k1 ∧ k1 ≤ 100000 ∧ 0 ≤ k2 ∧ k2 ≤ 100000 ∧ -1000000000 ≤ s1 ∧ s1 ≤ 1000000000 ∧ -1000000000 ≤ s2 ∧ s2 ≤ 1000000000)) (HSE : Hid ((n : Int) - (tG + lsK R n) = k1 + k2)) :
    Calls Tryz.prog 3 #[.agg #[.string nm, .int .i64 st, .slice A n c, .slice A2 gs.length c2], .slice A3 l.length c3, .int .u8 x0] w fun e w' => e = .returned (.bool true) ∧ Below w.heap.size w w' := by
  obtain ⟨hbn, hcn, hrn, hn4, hkn, hgn, hcgn, hln, hk1, hphn, hptn⟩ := HN.out
  obtain ⟨j0, hj, hy0, hy1, hy2⟩ := info_parts ruleInfo
  have HJ := hd (And.intro hj (And.intro hy0 (And.intro hy1 hy2)))
  clear hj hy0 hy1 hy2
  have HL63 := hd (show 0 + l.length ≤ maxLen ∧ (0 + l.length) * 32 ≤ 140737488355328 by unfold maxLen; omega)
  have hb1 := (Below.refl w.heap.size w).alloc (Nat.le_refl _) (Obj.cells #[.string nm, .int .i64 st, .slice A n c, .slice A2 gs.length c2] 25)
  have HQ := hd (show (w.alloc (Obj.cells #[.string nm, .int .i64 st, .slice A n c, .slice A2 gs.length c2] 25)).heap[w.heap.size]? = some (.cells #[.string nm, .int .i64 st, .slice A n c, .slice A2 gs.length c2] 25 (0, 0)) from blk_new _ _ _)
  have HB := hd hb1
  have RL := hd (upJ HL.out hb1)
  have RG := hd (upJ HG.out hb1)
  have RU := hd (upJ HU.out hb1)
  clear hb1
  go_enter Tryz.func3, Tryz.ntmps3
  go_wp2_with fail
  generalize (w.alloc (Obj.cells #[.string nm, .int .i64 st, .slice A n c, .slice A2 gs.length c2] 25)) = z0 at *
  refine (short_any nm st A A2 n c gs.length c2 _).mono ?_
  rw [SS.out]
  rintro e z1 ⟨rfl, hb⟩
  replace HQ := hd ((hb.block _ (blk_lt HQ.out)).trans HQ.out)
  replace HB := hd (HB.out.trans (hb.mono HB.out.size))
  replace RL := hd (upJ RL.out hb)
  replace RG := hd (upJ RG.out hb)
  replace RU := hd (upJ RU.out hb)
  clear hb
  have hZ := box4J HQ.out
  obtain ⟨k0, k1, k2, k3, -, -, -, -⟩ := hZ
  go_wp2_with fail
  refine (CR.out _ _ _ RL.out RG.out).mono ?_
  rintro e z2 ⟨rfl, hb⟩
  replace HQ := hd ((hb.block _ (blk_lt HQ.out)).trans HQ.out)
  replace HB := hd (HB.out.trans (hb.mono HB.out.size))
  replace RL := hd (upJ RL.out hb)
  replace RG := hd (upJ RG.out hb)
  replace RU := hd (upJ RU.out hb)
  clear hb
  clear k0 k1 k2 k3
  go_wp2_with fail
  refine (CU.out _ _ RU.out).mono ?_
  rintro e z3 ⟨rfl, hb⟩
  replace HQ := hd ((hb.block _ (blk_lt HQ.out)).trans HQ.out)
  replace HB := hd (HB.out.trans (hb.mono HB.out.size))
  replace RL := hd (upJ RL.out hb)
  replace RG := hd (upJ RG.out hb)
  replace RU := hd (upJ RU.out hb)
  clear hb
  have hZ := box4J HQ.out
  obtain ⟨k0, k1, k2, k3, -, -, -, -⟩ := hZ
  have hst : ¬ (99900 : Int) < st := by have := HST.out; omega
  go_wp2_with fail
  clear hst
  clear k0 k1 k2 k3
  refine rec_l1 A3 c3 l z3 _ RU (hd (by omega)) ?_
  intro u9 u64 u65 u66 u67 u68 u69 u70 u71 u72 z4 A7 c7 hfact
  obtain ⟨hown, hb⟩ := hfact
  have RU7 := hd (rd_of_own hown)
  have FU7 := hd (full_own hown)
  clear hown
  replace HQ := hd ((hb.block _ (blk_lt HQ.out)).trans HQ.out)
  replace HB := hd (HB.out.trans (hb.mono HB.out.size))
  replace RL := hd (upJ RL.out hb)
  replace RG := hd (upJ RG.out hb)
  replace RU := hd (upJ RU.out hb)
  clear hb
  clear RU
  have hZ := box4J HQ.out
  obtain ⟨k0, k1, k2, k3, -, -, -, -⟩ := hZ
  go_wp2_with fail
  clear k0 k1 k2 k3
  refine (sRec_n nm st A A2 n gs.length c c2 bs gs _ hbn rfl RL.out RG.out FL.out FG.out (by omega) (by omega)).mono ?_
  rintro e z5 ⟨U, uc, U2, uc2, rfl, hu1, hu2, hb⟩
  have U1 := hd (rd_of_own hu1)
  have U2r := hd (rd_of_own hu2)
  clear hu1 hu2
  replace HQ := hd ((hb.block _ (blk_lt HQ.out)).trans HQ.out)
  replace HB := hd (HB.out.trans (hb.mono HB.out.size))
  replace RL := hd (upJ RL.out hb)
  replace RG := hd (upJ RG.out hb)
  replace RU7 := hd (upJ RU7.out hb)
  clear hb
  go_wp2_with (at_builtin; refine Hid.out ?_)
  refine hd ?_
  refine wpList_append_opt _ rfl (.tmp 76) (.tmp 77) 31 rfl z5.heap.size 34 j0 (.agg #[.string ⟨#[]⟩, .int .i64 0, .int .i64 0]) 3 32 Tryz.underlying31 HJ.out.1 HJ.out.2.1 HJ.out.2.2.1 HJ.out.2.2.2 rfl (by decide) (.slice (some ⟨z5.heap.size, 0, none⟩) 0 0) 0 [] rfl (World.ownsRow_lit z5 #[] 0 (Nat.le_refl _) (by decide) rfl) A7 l.length c7 (ruc l) rfl (by rw [ruc_len, Nat.mul_comm]) (full_none FU7.out) (rd_news RU7.out (fun h => by rcases Nat.eq_zero_or_pos l.length with h0 | h0; (exact absurd (by simp [List.eq_nil_of_length_eq_zero h0, ruc]) h); exact h0) ((Below.refl _ z5).alloc (Nat.le_refl _) _)) (one_rucJ l) HL63.out.1 HL63.out.2 (by simp) ?_
  intro v8 z6 hown hgr
  simp only [Nat.zero_add, List.nil_append] at hown
  have hb : Below z5.heap.size z5 z6 := ((Below.refl _ z5).alloc (Nat.le_refl _) (Obj.cells #[] 34)).grown hgr (by simp) (fun kk hk => by simp [Value.ownBlock] at hk; omega)
  have RV := hd (rd_of_own hown)
  clear hown hgr
  replace HQ := hd ((hb.block _ (blk_lt HQ.out)).trans HQ.out)
  replace HB := hd (HB.out.trans (hb.mono HB.out.size))
  replace RL := hd (upJ RL.out hb)
  replace RG := hd (upJ RG.out hb)
  replace RU7 := hd (upJ RU7.out hb)
  replace U1 := hd (upJ U1.out hb)
  replace U2r := hd (upJ U2r.out hb)
  clear hb
  go_wp2_with fail
  refine (GC.out _ _ _ _ U1.out U2r.out RV.out).mono ?_
  rintro e z7 ⟨AC, cC, AD, cD, rfl, ho1, ho2, hb⟩
  have OC := hd ho1
  have OD := hd ho2
  clear ho1 ho2
  clear U1 U2r RV
  replace HQ := hd ((hb.block _ (blk_lt HQ.out)).trans HQ.out)
  replace HB := hd (HB.out.trans (hb.mono HB.out.size))
  replace RL := hd (upJ RL.out hb)
  replace RG := hd (upJ RG.out hb)
  replace RU7 := hd (upJ RU7.out hb)
  clear hb
  have hb := (Below.refl z7.heap.size z7).alloc (Nat.le_refl _) (Obj.cells #[.string nm, .int .i64 st, .slice AC n cC, .slice AD CG.length cD] 35)
  have HC := hd (blk_new z7 #[.string nm, .int .i64 st, .slice AC n cC, .slice AD CG.length cD] 35)
  replace HQ := hd ((hb.block _ (blk_lt HQ.out)).trans HQ.out)
  replace HB := hd (HB.out.trans (hb.mono HB.out.size))
  replace RL := hd (upJ RL.out hb)
  replace RG := hd (upJ RG.out hb)
  replace RU7 := hd (upJ RU7.out hb)
  replace OC := hd (own_bel OC.out hb)
  replace OD := hd (own_bel OD.out hb)
  clear hb
  have hZ := box4J HC.out
  obtain ⟨d0, d1, d2, d3, -, -, -, -⟩ := hZ
  go_wp2_with fail
  generalize z7.alloc (Obj.cells #[.string nm, .int .i64 st, .slice AC n cC, .slice AD CG.length cD] 35) = z8 at *
  generalize z7.heap.size = C at *
  clear d0 d1 d2 d3
  refine (sTold_any nm st AC AD n cC CG.length cD _).mono ?_
  rintro e z9 ⟨rfl, hb⟩
  replace HQ := hd ((hb.block _ (blk_lt HQ.out)).trans HQ.out)
  replace HC := hd ((hb.block _ (blk_lt HC.out)).trans HC.out)
  replace HB := hd (HB.out.trans (hb.mono HB.out.size))
  replace RL := hd (upJ RL.out hb)
  replace RG := hd (upJ RG.out hb)
  replace RU7 := hd (upJ RU7.out hb)
  replace OC := hd (own_bel OC.out hb)
  replace OD := hd (own_bel OD.out hb)
  clear hb
  go_wp2_with fail
  have RC := hd (rd_of_own OC.out)
  have RD := hd (rd_of_own OD.out)
  have FC := hd (full_own OC.out)
  have FD := hd (full_own OD.out)
  have HLV := hd (own_levJ OC.out)
  clear OC OD
  refine (sRec_n nm st AC AD n CG.length cC cD CB CG _ hcn rfl RC.out RD.out FC.out FD.out (by omega) (by omega)).mono ?_
  rintro e z10 ⟨U, uc, U2, uc2, rfl, hu1, hu2, hb⟩
  have U1 := hd (rd_of_own hu1)
  have U2r := hd (rd_of_own hu2)
  clear hu1 hu2
  replace HQ := hd ((hb.block _ (blk_lt HQ.out)).trans HQ.out)
  replace HC := hd ((hb.block _ (blk_lt HC.out)).trans HC.out)
  replace HB := hd (HB.out.trans (hb.mono HB.out.size))
  replace RL := hd (upJ RL.out hb)
  replace RG := hd (upJ RG.out hb)
  replace RU7 := hd (upJ RU7.out hb)
  replace RC := hd (upJ RC.out hb)
  replace RD := hd (upJ RD.out hb)
  clear hb
  go_wp2_with (at_builtin; refine Hid.out ?_)
  refine hd ?_
  refine wpList_append_opt _ rfl (.tmp 86) (.tmp 87) 31 rfl z10.heap.size 34 j0 (.agg #[.string ⟨#[]⟩, .int .i64 0, .int .i64 0]) 3 32 Tryz.underlying31 HJ.out.1 HJ.out.2.1 HJ.out.2.2.1 HJ.out.2.2.2 rfl (by decide) (.slice (some ⟨z10.heap.size, 0, none⟩) 0 0) 0 [] rfl (World.ownsRow_lit z10 #[] 0 (Nat.le_refl _) (by decide) rfl) A7 l.length c7 (ruc l) rfl (by rw [ruc_len, Nat.mul_comm]) (full_none FU7.out) (rd_news RU7.out (fun h => by rcases Nat.eq_zero_or_pos l.length with h0 | h0; (exact absurd (by simp [List.eq_nil_of_length_eq_zero h0, ruc]) h); exact h0) ((Below.refl _ z10).alloc (Nat.le_refl _) _)) (one_rucJ l) HL63.out.1 HL63.out.2 (by simp) ?_
  intro v8 z11 hown hgr
  simp only [Nat.zero_add, List.nil_append] at hown
  have hb : Below z10.heap.size z10 z11 := ((Below.refl _ z10).alloc (Nat.le_refl _) (Obj.cells #[] 34)).grown hgr (by simp) (fun kk hk => by simp [Value.ownBlock] at hk; omega)
  have RV := hd (rd_of_own hown)
  clear hown hgr
  replace HQ := hd ((hb.block _ (blk_lt HQ.out)).trans HQ.out)
  replace HC := hd ((hb.block _ (blk_lt HC.out)).trans HC.out)
  replace HB := hd (HB.out.trans (hb.mono HB.out.size))
  replace RL := hd (upJ RL.out hb)
  replace RG := hd (upJ RG.out hb)
  replace RU7 := hd (upJ RU7.out hb)
  replace RC := hd (upJ RC.out hb)
  replace RD := hd (upJ RD.out hb)
  replace U1 := hd (upJ U1.out hb)
  replace U2r := hd (upJ U2r.out hb)
  clear hb
  go_wp2_with fail
  refine (GC2.out _ _ _ _ U1.out U2r.out RV.out).mono ?_
  rintro e z12 ⟨AE, cE, AF, cF, rfl, ho1, ho2, hb⟩
  have RE := hd (rd_of_own ho1)
  have RF := hd (rd_of_own ho2)
  clear ho1 ho2
  clear U1 U2r RV
  replace HQ := hd ((hb.block _ (blk_lt HQ.out)).trans HQ.out)
  replace HC := hd ((hb.block _ (blk_lt HC.out)).trans HC.out)
  replace HB := hd (HB.out.trans (hb.mono HB.out.size))
  replace RL := hd (upJ RL.out hb)
  replace RG := hd (upJ RG.out hb)
  replace RU7 := hd (upJ RU7.out hb)
  replace RC := hd (upJ RC.out hb)
  replace RD := hd (upJ RD.out hb)
  clear hb
  have hb := (Below.refl z12.heap.size z12).alloc (Nat.le_refl _) (Obj.cells #[.string nm, .int .i64 st, .slice AE n cE, .slice AF CG.length cF] 35)
  have HD := hd (blk_new z12 #[.string nm, .int .i64 st, .slice AE n cE, .slice AF CG.length cF] 35)
  replace HQ := hd ((hb.block _ (blk_lt HQ.out)).trans HQ.out)
  replace HC := hd ((hb.block _ (blk_lt HC.out)).trans HC.out)
  replace HB := hd (HB.out.trans (hb.mono HB.out.size))
  replace RL := hd (upJ RL.out hb)
  replace RG := hd (upJ RG.out hb)
  replace RU7 := hd (upJ RU7.out hb)
  replace RC := hd (upJ RC.out hb)
  replace RD := hd (upJ RD.out hb)
  replace RE := hd (upJ RE.out hb)
  replace RF := hd (upJ RF.out hb)
  clear hb
  have hZ := box4J HD.out
  obtain ⟨d0, d1, d2, d3, -, -, -, -⟩ := hZ
  have hZ := box4J HQ.out
  obtain ⟨k0, k1, k2, k3, -, -, -, -⟩ := hZ
  go_wp2_with fail
  generalize z12.alloc (Obj.cells #[.string nm, .int .i64 st, .slice AE n cE, .slice AF CG.length cF] 35) = z13 at *
  generalize z12.heap.size = D at *
  clear d0 d1 d2 d3
  clear k0 k1 k2 k3
  refine (sRec_n nm st A A2 n gs.length c c2 bs gs _ hbn rfl RL.out RG.out FL.out FG.out (by omega) (by omega)).mono ?_
  rintro e z14 ⟨U, uc, U2, uc2, rfl, hu1, hu2, hb⟩
  have U1 := hd (rd_of_own hu1)
  have U2r := hd (rd_of_own hu2)
  clear hu1 hu2
  replace HQ := hd ((hb.block _ (blk_lt HQ.out)).trans HQ.out)
  replace HC := hd ((hb.block _ (blk_lt HC.out)).trans HC.out)
  replace HD := hd ((hb.block _ (blk_lt HD.out)).trans HD.out)
  replace HB := hd (HB.out.trans (hb.mono HB.out.size))
  replace RL := hd (upJ RL.out hb)
  replace RG := hd (upJ RG.out hb)
  replace RU7 := hd (upJ RU7.out hb)
  replace RC := hd (upJ RC.out hb)
  replace RD := hd (upJ RD.out hb)
  replace RE := hd (upJ RE.out hb)
  replace RF := hd (upJ RF.out hb)
  clear hb
  go_wp2_with (at_builtin; refine Hid.out ?_)
  refine hd ?_
  refine wpList_append_opt _ rfl (.tmp 95) (.tmp 96) 31 rfl z14.heap.size 34 j0 (.agg #[.string ⟨#[]⟩, .int .i64 0, .int .i64 0]) 3 32 Tryz.underlying31 HJ.out.1 HJ.out.2.1 HJ.out.2.2.1 HJ.out.2.2.2 rfl (by decide) (.slice (some ⟨z14.heap.size, 0, none⟩) 0 0) 0 [] rfl (World.ownsRow_lit z14 #[] 0 (Nat.le_refl _) (by decide) rfl) A7 l.length c7 (ruc l) rfl (by rw [ruc_len, Nat.mul_comm]) (full_none FU7.out) (rd_news RU7.out (fun h => by rcases Nat.eq_zero_or_pos l.length with h0 | h0; (exact absurd (by simp [List.eq_nil_of_length_eq_zero h0, ruc]) h); exact h0) ((Below.refl _ z14).alloc (Nat.le_refl _) _)) (one_rucJ l) HL63.out.1 HL63.out.2 (by simp) ?_
  intro v8 z15 hown hgr
  simp only [Nat.zero_add, List.nil_append] at hown
  have hb : Below z14.heap.size z14 z15 := ((Below.refl _ z14).alloc (Nat.le_refl _) (Obj.cells #[] 34)).grown hgr (by simp) (fun kk hk => by simp [Value.ownBlock] at hk; omega)
  have RV := hd (rd_of_own hown)
  clear hown hgr
  replace HQ := hd ((hb.block _ (blk_lt HQ.out)).trans HQ.out)
  replace HC := hd ((hb.block _ (blk_lt HC.out)).trans HC.out)
  replace HD := hd ((hb.block _ (blk_lt HD.out)).trans HD.out)
  replace HB := hd (HB.out.trans (hb.mono HB.out.size))
  replace RL := hd (upJ RL.out hb)
  replace RG := hd (upJ RG.out hb)
  replace RU7 := hd (upJ RU7.out hb)
  replace RC := hd (upJ RC.out hb)
  replace RD := hd (upJ RD.out hb)
  replace RE := hd (upJ RE.out hb)
  replace RF := hd (upJ RF.out hb)
  replace U1 := hd (upJ U1.out hb)
  replace U2r := hd (upJ U2r.out hb)
  clear hb
  go_wp2_with fail
  refine (GH.out _ _ _ _ U1.out U2r.out RV.out).mono ?_
  rintro e z16 ⟨AX, cX, rfl, hx, hb⟩
  have RX := hd hx
  clear hx
  clear U1 U2r RV
  replace HQ := hd ((hb.block _ (blk_lt HQ.out)).trans HQ.out)
  replace HC := hd ((hb.block _ (blk_lt HC.out)).trans HC.out)
  replace HD := hd ((hb.block _ (blk_lt HD.out)).trans HD.out)
  replace HB := hd (HB.out.trans (hb.mono HB.out.size))
  replace RL := hd (upJ RL.out hb)
  replace RG := hd (upJ RG.out hb)
  replace RU7 := hd (upJ RU7.out hb)
  replace RC := hd (upJ RC.out hb)
  replace RD := hd (upJ RD.out hb)
  replace RE := hd (upJ RE.out hb)
  replace RF := hd (upJ RF.out hb)
  clear hb
  clear RU7
  clear FU7 HL63 HJ
  have FC0 : ∀ p : Bw z16, p.out.cell? ⟨C, 0, none⟩ = some (.string nm) := fun p => p.cell (blk_lt HC.out) (blk_cell HC.out 0)
  have FC1 : ∀ p : Bw z16, p.out.cell? ⟨C, 1, none⟩ = some (.int .i64 st) := fun p => p.cell (blk_lt HC.out) (blk_cell HC.out 1)
  have FC2 : ∀ p : Bw z16, p.out.cell? ⟨C, 2, none⟩ = some (.slice AC n cC) := fun p => p.cell (blk_lt HC.out) (blk_cell HC.out 2)
  have FC3 : ∀ p : Bw z16, p.out.cell? ⟨C, 3, none⟩ = some (.slice AD CG.length cD) := fun p => p.cell (blk_lt HC.out) (blk_cell HC.out 3)
  have FD0 : ∀ p : Bw z16, p.out.cell? ⟨D, 0, none⟩ = some (.string nm) := fun p => p.cell (blk_lt HD.out) (blk_cell HD.out 0)
  have FD1 : ∀ p : Bw z16, p.out.cell? ⟨D, 1, none⟩ = some (.int .i64 st) := fun p => p.cell (blk_lt HD.out) (blk_cell HD.out 1)
  have FD2 : ∀ p : Bw z16, p.out.cell? ⟨D, 2, none⟩ = some (.slice AE n cE) := fun p => p.cell (blk_lt HD.out) (blk_cell HD.out 2)
  have FD3 : ∀ p : Bw z16, p.out.cell? ⟨D, 3, none⟩ = some (.slice AF CG.length cF) := fun p => p.cell (blk_lt HD.out) (blk_cell HD.out 3)
  have FQ0 : ∀ p : Bw z16, p.out.cell? ⟨w.heap.size, 0, none⟩ = some (.string nm) := fun p => p.cell (blk_lt HQ.out) (blk_cell HQ.out 0)
  have FQ1 : ∀ p : Bw z16, p.out.cell? ⟨w.heap.size, 1, none⟩ = some (.int .i64 st) := fun p => p.cell (blk_lt HQ.out) (blk_cell HQ.out 1)
  have FQ2 : ∀ p : Bw z16, p.out.cell? ⟨w.heap.size, 2, none⟩ = some (.slice A n c) := fun p => p.cell (blk_lt HQ.out) (blk_cell HQ.out 2)
  have FQ3 : ∀ p : Bw z16, p.out.cell? ⟨w.heap.size, 3, none⟩ = some (.slice A2 gs.length c2) := fun p => p.cell (blk_lt HQ.out) (blk_cell HQ.out 3)
  have K1 := hd (fun p : Bw z16 => sTold_any nm st AC AD n cC CG.length cD p.out)
  have K2 := hd (fun p : Bw z16 => CC.out p.out _ _ (upJ RC.out p.below) (upJ RD.out p.below))
  have K3 := hd (fun p : Bw z16 => sTold_any nm st AE AF n cE CG.length cF p.out)
  have K4 := hd (fun p : Bw z16 => show Calls Tryz.prog 12 #[.agg #[.string nm, .int .i64 st, .slice AE n cE, .slice AF CG.length cF], .agg #[.string nm, .int .i64 st, .slice AC n cC, .slice AD CG.length cD]] p.out (fun e w' => e = .returned (.bool true) ∧ Below p.out.heap.size p.out w') from by have h := sameRec_yes nm st (.slice AE n cE) (.slice AF CG.length cF) (.slice AC n cC) (.slice AD CG.length cD) CB CB CG CG p.out (by rw [hcn]; exact (upJ RE.out p.below)) (upJ RF.out p.below) (by rw [hcn]; exact (upJ RC.out p.below)) (upJ RD.out p.below) HSC.out (spans_selfJ CG); exact h)
  go_wp2_with fail
  refine wp_region_bw (by kernel_rfl) (by kernel_rfl) ?_
  repeat (first | go_big_quiet_step (fail))
  go_big_quiet_step (first | (go_at_call 10; exact Bw.call _ (K1.out _)))
  repeat (first | go_big_quiet_step (fail))
  go_big_quiet_step (first | (go_at_call 5; exact Bw.call _ (K2.out _)))
  repeat (first | go_big_quiet_step (fail))
  go_big_quiet_step (first | (go_at_call 10; exact Bw.call _ (K3.out _)))
  repeat (first | go_big_quiet_step (fail))
  go_big_quiet_step (first | (go_at_call 10; exact Bw.call _ (K1.out _)))
  repeat (first | go_big_quiet_step (fail))
  go_big_quiet_step (first | (go_at_call 12; exact Bw.call _ (K4.out _)))
  repeat (first | go_big_quiet_step (fail))
  refine wpQuiet_nil ?_
  rintro ⟨z17, hb⟩
  change Exit.then _ _ _ _ z17
  clear FC0 FC1 FC2 FC3 FD0 FD1 FD2 FD3 FQ0 FQ1 FQ2 FQ3 K1 K2 K3 K4
  replace HQ := hd ((hb.block _ (blk_lt HQ.out)).trans HQ.out)
  replace HC := hd ((hb.block _ (blk_lt HC.out)).trans HC.out)
  replace HD := hd ((hb.block _ (blk_lt HD.out)).trans HD.out)
  replace HB := hd (HB.out.trans (hb.mono HB.out.size))
  replace RL := hd (upJ RL.out hb)
  replace RG := hd (upJ RG.out hb)
  replace RC := hd (upJ RC.out hb)
  replace RD := hd (upJ RD.out hb)
  replace RE := hd (upJ RE.out hb)
  replace RF := hd (upJ RF.out hb)
  replace RX := hd (upJ RX.out hb)
  clear hb
  clear RE RF
  clear HD
  go_wp2_with fail
  refine rec_l2 AX n cX R z17 _ RX (hd ⟨by omega, hrn⟩) ?_
  intro u18 u140 u141 u142 u143 u144 u145 u146 u147 u148 z18 hb
  replace HQ := hd ((hb.block _ (blk_lt HQ.out)).trans HQ.out)
  replace HC := hd ((hb.block _ (blk_lt HC.out)).trans HC.out)
  replace HB := hd (HB.out.trans (hb.mono HB.out.size))
  replace RL := hd (upJ RL.out hb)
  replace RG := hd (upJ RG.out hb)
  replace RC := hd (upJ RC.out hb)
  replace RD := hd (upJ RD.out hb)
  replace RX := hd (upJ RX.out hb)
  clear hb
  clear RX
  have FC3 : ∀ p : Bw z18, p.out.cell? ⟨C, 3, none⟩ = some (.slice AD CG.length cD) := fun p => p.cell (blk_lt HC.out) (blk_cell HC.out 3)
  have FQ3 : ∀ p : Bw z18, p.out.cell? ⟨w.heap.size, 3, none⟩ = some (.slice A2 gs.length c2) := fun p => p.cell (blk_lt HQ.out) (blk_cell HQ.out 3)
  have K1 := hd (fun p : Bw z18 => T1.out p.out _ (upJ RD.out p.below))
  have K2 := hd (fun p : Bw z18 => T2.out p.out _ (upJ RG.out p.below))
  have e21 : IntKind.i64.wrap (tG + lsK R n) = tG + lsK R n := IntWalk.i64_in _ (by have := HTB.out; omega)
  go_wp2_with fail
  refine wp_region_bw (by kernel_rfl) (by kernel_rfl) ?_
  repeat (first | go_big_quiet_step (fail))
  go_big_quiet_step (first | (go_at_call 13; exact Bw.call _ (K1.out _)))
  repeat (first | go_big_quiet_step (fail))
  go_big_quiet_step (first | (go_at_call 13; exact Bw.call _ (K2.out _)))
  repeat (first | go_big_quiet_step (fail))
  refine wpQuiet_nil ?_
  rintro ⟨z19, hb⟩
  change Exit.then _ _ _ _ z19
  clear FC3 FQ3 K1 K2 e21
  replace HQ := hd ((hb.block _ (blk_lt HQ.out)).trans HQ.out)
  replace HC := hd ((hb.block _ (blk_lt HC.out)).trans HC.out)
  replace HB := hd (HB.out.trans (hb.mono HB.out.size))
  replace RL := hd (upJ RL.out hb)
  replace RG := hd (upJ RG.out hb)
  replace RC := hd (upJ RC.out hb)
  replace RD := hd (upJ RD.out hb)
  clear hb
  clear RG RL
  clear HQ FL FG
  have hZ := box4J HC.out
  obtain ⟨d0, d1, d2, d3, -, -, -, -⟩ := hZ
  have hdn : ¬ (n : Int) + 1 = 0 := by omega
  have hdb : ((n : Int) + 1 == 0) = false := by simp; omega
  obtain ⟨hx0a, hx0b⟩ := HX0.out
  have d2a := fun o => cell_alloc_old (o := o) d2
  have RC0 := hd (show Rd (z19.alloc (Obj.cells #[.string ⟨#[]⟩, .int .i64 0, .slice none 0 0, .slice none 0 0, .string ⟨#[]⟩, .int .i64 0, .slice none 0 0, .slice none 0 0] 46)) z19.heap.size (.slice AC n cC) n (flc CB) from RC.out.below ((Below.refl _ z19).alloc (Nat.le_refl _) _) (Nat.le_refl _))
  have RD0 := hd (show Rd (z19.alloc (Obj.cells #[.string ⟨#[]⟩, .int .i64 0, .slice none 0 0, .slice none 0 0, .string ⟨#[]⟩, .int .i64 0, .slice none 0 0, .slice none 0 0] 46)) z19.heap.size (.slice AD CG.length cD) CG.length (spc CG) from RD.out.below ((Below.refl _ z19).alloc (Nat.le_refl _) _) (Nat.le_refl _))
  have HCP := hd (show C < z19.heap.size from blk_lt HC.out)
  have HWP := hd (show w.heap.size ≤ z19.heap.size from HB.out.size)
  go_wp2_with fail
  clear hdn hdb hx0a hx0b d2a
  rw [HK.out]
  clear d0 d1 d2 d3
  have hb := (Below.refl z19.heap.size z19).alloc (Nat.le_refl _) (Obj.cells #[.string ⟨#[]⟩, .int .i64 0, .slice none 0 0, .slice none 0 0, .string ⟨#[]⟩, .int .i64 0, .slice none 0 0, .slice none 0 0] 46)
  have HP := hd (blk_new z19 #[.string ⟨#[]⟩, .int .i64 0, .slice none 0 0, .slice none 0 0, .string ⟨#[]⟩, .int .i64 0, .slice none 0 0, .slice none 0 0] 46)
  replace HC := hd ((hb.block _ (blk_lt HC.out)).trans HC.out)
  replace HB := hd (HB.out.trans (hb.mono HB.out.size))
  replace RC := hd (upJ RC.out hb)
  replace RD := hd (upJ RD.out hb)
  clear hb
  generalize z19.alloc (Obj.cells #[.string ⟨#[]⟩, .int .i64 0, .slice none 0 0, .slice none 0 0, .string ⟨#[]⟩, .int .i64 0, .slice none 0 0, .slice none 0 0] 46) = z20 at *
  generalize z19.heap.size = P at *
  have hnc : n ≤ cC := by obtain ⟨A', c', e, h1, -⟩ := RC.out; cases e; exact h1
  refine rec_l3 nm st AC AD n k cC cD C P CB CG z20 _ HP HC HCP RC0 RD0 HLV (hd ⟨hkn, hnc, hcn, hn4, hcgn, HST.out.1, HST.out.2⟩) HBD ?_
  intro u21 u22 u24 u25 u26 u173 u174 u175 u176 u177 u178 u179 u180 u181 u182 u183 u184 u185 u186 u187 u188 u189 u190 u191 u192 u193 u194 u195 u196 u197 u198 u199 u200 u201 u202 u203 u204 u205 u206 u207 u208 u209 u210 u211 u212 u213 u214 u215 u216 u217 u218 u219 u220 u221 u222 u223 u224 u225 u226 u227 u228 u229 u230 u231 u232 u233 u234 u235 z21 hq
  obtain ⟨AA, cA, AB, cB, AG, cG, AH, cH, hbx, ⟨ho1, ho2⟩, ⟨ho3, ho4⟩, hb⟩ := hq
  obtain ⟨q1, q2, q3, q4, q5, q6⟩ := HHP.out
  rw [q1] at ho1
  rw [q2] at ho3
  rw [q3] at ho2 hbx
  rw [q4] at ho4 hbx
  rw [Nat.sub_zero] at ho1 hbx
  rw [hk1] at ho3 hbx
  rw [show st + ((0 : Nat) : Int) = st by omega] at hbx
  have HP2 := hd hbx
  have RA := hd (rd_of_own ho1)
  have RB := hd (rd_of_own ho2)
  have RG1 := hd (rd_of_own ho3)
  have RH := hd (rd_of_own ho4)
  have FA := hd (full_own ho1)
  have FB := hd (full_own ho2)
  have FG1 := hd (full_own ho3)
  have FH := hd (full_own ho4)
  clear hbx ho1 ho2 ho3 ho4 HP
  replace HC := hd ((hb.block _ HCP.out).trans HC.out)
  replace HB := hd (HB.out.trans (hb.mono HWP.out))
  replace RC := hd ((RC0.out.below hb (Nat.le_refl _)).mono (Nat.le_of_lt (blk_lt HP2.out)))
  replace RD := hd ((RD0.out.below hb (Nat.le_refl _)).mono (Nat.le_of_lt (blk_lt HP2.out)))
  clear hb RC0 RD0 HCP HWP hnc
  have hZ := cells8J HP2.out
  obtain ⟨p0, p1, p2, p3, p4, p5, p6, p7⟩ := hZ
  go_wp2_with fail
  clear p0 p1 p2 p3 p4 p5 p6 p7
  refine (sTold_any nm st AA AB k cA PH.length cB _).mono ?_
  rintro e z22 ⟨rfl, hb⟩
  replace HC := hd ((hb.block _ (blk_lt HC.out)).trans HC.out)
  replace HP2 := hd ((hb.block _ (blk_lt HP2.out)).trans HP2.out)
  replace HB := hd (HB.out.trans (hb.mono HB.out.size))
  replace RC := hd (upJ RC.out hb)
  replace RD := hd (upJ RD.out hb)
  replace RA := hd (upJ RA.out hb)
  replace RB := hd (upJ RB.out hb)
  replace RG1 := hd (upJ RG1.out hb)
  replace RH := hd (upJ RH.out hb)
  clear hb
  go_wp2_with fail
  refine (sRec_n nm st AA AB k PH.length cA cB H0 PH _ q5 rfl RA.out RB.out FA.out FB.out (by omega) (by omega)).mono ?_
  rintro e z23 ⟨U, uc, U2, uc2, rfl, hu1, hu2, hb⟩
  have U1 := hd (rd_of_own hu1)
  have U2r := hd (rd_of_own hu2)
  clear hu1 hu2
  replace HC := hd ((hb.block _ (blk_lt HC.out)).trans HC.out)
  replace HP2 := hd ((hb.block _ (blk_lt HP2.out)).trans HP2.out)
  replace HB := hd (HB.out.trans (hb.mono HB.out.size))
  replace RC := hd (upJ RC.out hb)
  replace RD := hd (upJ RD.out hb)
  replace RA := hd (upJ RA.out hb)
  replace RB := hd (upJ RB.out hb)
  replace RG1 := hd (upJ RG1.out hb)
  replace RH := hd (upJ RH.out hb)
  clear hb
  go_wp2_with fail
  refine (GP.out _ _ _ HB.out U1.out U2r.out).mono ?_
  rintro e z24 ⟨rfl, hb⟩
  replace HC := hd ((hb.block _ (blk_lt HC.out)).trans HC.out)
  replace HP2 := hd ((hb.block _ (blk_lt HP2.out)).trans HP2.out)
  replace HB := hd (HB.out.trans (hb.mono HB.out.size))
  replace RC := hd (upJ RC.out hb)
  replace RD := hd (upJ RD.out hb)
  replace RA := hd (upJ RA.out hb)
  replace RB := hd (upJ RB.out hb)
  replace RG1 := hd (upJ RG1.out hb)
  replace RH := hd (upJ RH.out hb)
  replace U1 := hd (upJ U1.out hb)
  replace U2r := hd (upJ U2r.out hb)
  clear hb
  clear U1 U2r
  go_wp2_with fail
  refine (GD.out _ HB.out).mono ?_
  rintro e z25 ⟨AI, cI, AJ, cJ, rfl, h1, h2, h3, hb⟩
  have RI := hd h1
  have RJ := hd h2
  have FI := hd h3
  clear h1 h2 h3
  replace HC := hd ((hb.block _ (blk_lt HC.out)).trans HC.out)
  replace HP2 := hd ((hb.block _ (blk_lt HP2.out)).trans HP2.out)
  replace HB := hd (HB.out.trans (hb.mono HB.out.size))
  replace RC := hd (upJ RC.out hb)
  replace RD := hd (upJ RD.out hb)
  replace RA := hd (upJ RA.out hb)
  replace RB := hd (upJ RB.out hb)
  replace RG1 := hd (upJ RG1.out hb)
  replace RH := hd (upJ RH.out hb)
  clear hb
  have hb := (Below.refl z25.heap.size z25).alloc (Nat.le_refl _) (Obj.cells #[.string nm, .int .i64 st, .slice AI k cI, .slice AJ PH.length cJ] 35)
  have HA := hd (blk_new z25 #[.string nm, .int .i64 st, .slice AI k cI, .slice AJ PH.length cJ] 35)
  replace HC := hd ((hb.block _ (blk_lt HC.out)).trans HC.out)
  replace HP2 := hd ((hb.block _ (blk_lt HP2.out)).trans HP2.out)
  replace HB := hd (HB.out.trans (hb.mono HB.out.size))
  replace RC := hd (upJ RC.out hb)
  replace RD := hd (upJ RD.out hb)
  replace RA := hd (upJ RA.out hb)
  replace RB := hd (upJ RB.out hb)
  replace RG1 := hd (upJ RG1.out hb)
  replace RH := hd (upJ RH.out hb)
  replace RI := hd (upJ RI.out hb)
  replace RJ := hd (upJ RJ.out hb)
  clear hb
  have hZ := cells8J HP2.out
  obtain ⟨p0, p1, p2, p3, p4, p5, p6, p7⟩ := hZ
  go_wp2_with fail
  generalize z25.alloc (Obj.cells #[.string nm, .int .i64 st, .slice AI k cI, .slice AJ PH.length cJ] 35) = z26 at *
  generalize z25.heap.size = AZ at *
  clear p0 p1 p2 p3 p4 p5 p6 p7
  refine (sTold_any nm (st + (k : Int)) AG AH n1 cG PT.length cH _).mono ?_
  rintro e z27 ⟨rfl, hb⟩
  replace HC := hd ((hb.block _ (blk_lt HC.out)).trans HC.out)
  replace HP2 := hd ((hb.block _ (blk_lt HP2.out)).trans HP2.out)
  replace HA := hd ((hb.block _ (blk_lt HA.out)).trans HA.out)
  replace HB := hd (HB.out.trans (hb.mono HB.out.size))
  replace RC := hd (upJ RC.out hb)
  replace RD := hd (upJ RD.out hb)
  replace RA := hd (upJ RA.out hb)
  replace RB := hd (upJ RB.out hb)
  replace RG1 := hd (upJ RG1.out hb)
  replace RH := hd (upJ RH.out hb)
  replace RI := hd (upJ RI.out hb)
  replace RJ := hd (upJ RJ.out hb)
  clear hb
  go_wp2_with fail
  refine (sRec_n nm (st + (k : Int)) AG AH n1 PT.length cG cH H1 PT _ q6 rfl RG1.out RH.out FG1.out FH.out (by omega) (by omega)).mono ?_
  rintro e z28 ⟨U, uc, U2, uc2, rfl, hu1, hu2, hb⟩
  have U1 := hd (rd_of_own hu1)
  have U2r := hd (rd_of_own hu2)
  clear hu1 hu2
  replace HC := hd ((hb.block _ (blk_lt HC.out)).trans HC.out)
  replace HP2 := hd ((hb.block _ (blk_lt HP2.out)).trans HP2.out)
  replace HA := hd ((hb.block _ (blk_lt HA.out)).trans HA.out)
  replace HB := hd (HB.out.trans (hb.mono HB.out.size))
  replace RC := hd (upJ RC.out hb)
  replace RD := hd (upJ RD.out hb)
  replace RA := hd (upJ RA.out hb)
  replace RB := hd (upJ RB.out hb)
  replace RG1 := hd (upJ RG1.out hb)
  replace RH := hd (upJ RH.out hb)
  replace RI := hd (upJ RI.out hb)
  replace RJ := hd (upJ RJ.out hb)
  clear hb
  go_wp2_with fail
  refine (GE.out _ _ _ U1.out U2r.out).mono ?_
  rintro e z29 ⟨AK, cK, rfl, h1, hb⟩
  have RK := hd h1
  clear h1
  replace HC := hd ((hb.block _ (blk_lt HC.out)).trans HC.out)
  replace HP2 := hd ((hb.block _ (blk_lt HP2.out)).trans HP2.out)
  replace HA := hd ((hb.block _ (blk_lt HA.out)).trans HA.out)
  replace HB := hd (HB.out.trans (hb.mono HB.out.size))
  replace RC := hd (upJ RC.out hb)
  replace RD := hd (upJ RD.out hb)
  replace RA := hd (upJ RA.out hb)
  replace RB := hd (upJ RB.out hb)
  replace RG1 := hd (upJ RG1.out hb)
  replace RH := hd (upJ RH.out hb)
  replace RI := hd (upJ RI.out hb)
  replace RJ := hd (upJ RJ.out hb)
  replace U1 := hd (upJ U1.out hb)
  replace U2r := hd (upJ U2r.out hb)
  clear hb
  clear U1 U2r
  go_wp2_with fail
  refine (DD.out _ _ _ RK.out).mono ?_
  rintro e z30 ⟨AM, cM, AN, cN, rfl, h1, h2, h3, hb⟩
  have RM := hd h1
  have RN := hd h2
  have FM := hd h3
  clear h1 h2 h3
  replace HC := hd ((hb.block _ (blk_lt HC.out)).trans HC.out)
  replace HP2 := hd ((hb.block _ (blk_lt HP2.out)).trans HP2.out)
  replace HA := hd ((hb.block _ (blk_lt HA.out)).trans HA.out)
  replace HB := hd (HB.out.trans (hb.mono HB.out.size))
  replace RC := hd (upJ RC.out hb)
  replace RD := hd (upJ RD.out hb)
  replace RA := hd (upJ RA.out hb)
  replace RB := hd (upJ RB.out hb)
  replace RG1 := hd (upJ RG1.out hb)
  replace RH := hd (upJ RH.out hb)
  replace RI := hd (upJ RI.out hb)
  replace RJ := hd (upJ RJ.out hb)
  replace RK := hd (upJ RK.out hb)
  clear hb
  clear RK
  have hb := (Below.refl z30.heap.size z30).alloc (Nat.le_refl _) (Obj.cells #[.string nm, .int .i64 (st + (k : Int)), .slice AM n1 cM, .slice AN PT.length cN] 35)
  have HE := hd (blk_new z30 #[.string nm, .int .i64 (st + (k : Int)), .slice AM n1 cM, .slice AN PT.length cN] 35)
  replace HC := hd ((hb.block _ (blk_lt HC.out)).trans HC.out)
  replace HP2 := hd ((hb.block _ (blk_lt HP2.out)).trans HP2.out)
  replace HA := hd ((hb.block _ (blk_lt HA.out)).trans HA.out)
  replace HB := hd (HB.out.trans (hb.mono HB.out.size))
  replace RC := hd (upJ RC.out hb)
  replace RD := hd (upJ RD.out hb)
  replace RA := hd (upJ RA.out hb)
  replace RB := hd (upJ RB.out hb)
  replace RG1 := hd (upJ RG1.out hb)
  replace RH := hd (upJ RH.out hb)
  replace RI := hd (upJ RI.out hb)
  replace RJ := hd (upJ RJ.out hb)
  replace RM := hd (upJ RM.out hb)
  replace RN := hd (upJ RN.out hb)
  clear hb
  have hZ := box4J HE.out
  obtain ⟨d0, d1, d2, d3, -, -, -, -⟩ := hZ
  have hZ := box4J HA.out
  obtain ⟨k0, k1, k2, k3, -, -, -, -⟩ := hZ
  go_wp2_with fail
  generalize z30.alloc (Obj.cells #[.string nm, .int .i64 (st + (k : Int)), .slice AM n1 cM, .slice AN PT.length cN] 35) = z31 at *
  generalize z30.heap.size = EZ at *
  clear d0 d1 d2 d3
  clear k0 k1 k2 k3
  refine (AP.out _ _ _ _ _ RI.out RJ.out RM.out RN.out FI.out FM.out).mono ?_
  rintro e z32 ⟨AW, cW, AY, cY, rfl, ho1, ho2, hb⟩
  have RW := hd (rd_of_own ho1)
  have RY := hd (rd_of_own ho2)
  clear ho1 ho2 FI FM
  replace HC := hd ((hb.block _ (blk_lt HC.out)).trans HC.out)
  replace HP2 := hd ((hb.block _ (blk_lt HP2.out)).trans HP2.out)
  replace HA := hd ((hb.block _ (blk_lt HA.out)).trans HA.out)
  replace HE := hd ((hb.block _ (blk_lt HE.out)).trans HE.out)
  replace HB := hd (HB.out.trans (hb.mono HB.out.size))
  replace RC := hd (upJ RC.out hb)
  replace RD := hd (upJ RD.out hb)
  replace RA := hd (upJ RA.out hb)
  replace RB := hd (upJ RB.out hb)
  replace RG1 := hd (upJ RG1.out hb)
  replace RH := hd (upJ RH.out hb)
  replace RI := hd (upJ RI.out hb)
  replace RJ := hd (upJ RJ.out hb)
  replace RM := hd (upJ RM.out hb)
  replace RN := hd (upJ RN.out hb)
  clear hb
  clear RI RJ RM RN
  clear HA HE
  have hb := (Below.refl z32.heap.size z32).alloc (Nat.le_refl _) (Obj.cells #[.string nm, .int .i64 st, .slice AW n cW, .slice AY CG.length cY] 35)
  have HW := hd (blk_new z32 #[.string nm, .int .i64 st, .slice AW n cW, .slice AY CG.length cY] 35)
  replace HC := hd ((hb.block _ (blk_lt HC.out)).trans HC.out)
  replace HP2 := hd ((hb.block _ (blk_lt HP2.out)).trans HP2.out)
  replace HB := hd (HB.out.trans (hb.mono HB.out.size))
  replace RC := hd (upJ RC.out hb)
  replace RD := hd (upJ RD.out hb)
  replace RA := hd (upJ RA.out hb)
  replace RB := hd (upJ RB.out hb)
  replace RG1 := hd (upJ RG1.out hb)
  replace RH := hd (upJ RH.out hb)
  replace RW := hd (upJ RW.out hb)
  replace RY := hd (upJ RY.out hb)
  clear hb
  have hZ := box4J HW.out
  obtain ⟨d0, d1, d2, d3, -, -, -, -⟩ := hZ
  go_wp2_with fail
  generalize z32.alloc (Obj.cells #[.string nm, .int .i64 st, .slice AW n cW, .slice AY CG.length cY] 35) = z33 at *
  generalize z32.heap.size = WZ at *
  clear d0 d1 d2 d3
  have FC0 : ∀ p : Bw z33, p.out.cell? ⟨C, 0, none⟩ = some (.string nm) := fun p => p.cell (blk_lt HC.out) (blk_cell HC.out 0)
  have FC1 : ∀ p : Bw z33, p.out.cell? ⟨C, 1, none⟩ = some (.int .i64 st) := fun p => p.cell (blk_lt HC.out) (blk_cell HC.out 1)
  have FC2 : ∀ p : Bw z33, p.out.cell? ⟨C, 2, none⟩ = some (.slice AC n cC) := fun p => p.cell (blk_lt HC.out) (blk_cell HC.out 2)
  have FC3 : ∀ p : Bw z33, p.out.cell? ⟨C, 3, none⟩ = some (.slice AD CG.length cD) := fun p => p.cell (blk_lt HC.out) (blk_cell HC.out 3)
  have FW0 : ∀ p : Bw z33, p.out.cell? ⟨WZ, 0, none⟩ = some (.string nm) := fun p => p.cell (blk_lt HW.out) (blk_cell HW.out 0)
  have FW1 : ∀ p : Bw z33, p.out.cell? ⟨WZ, 1, none⟩ = some (.int .i64 st) := fun p => p.cell (blk_lt HW.out) (blk_cell HW.out 1)
  have FW2 : ∀ p : Bw z33, p.out.cell? ⟨WZ, 2, none⟩ = some (.slice AW n cW) := fun p => p.cell (blk_lt HW.out) (blk_cell HW.out 2)
  have FW3 : ∀ p : Bw z33, p.out.cell? ⟨WZ, 3, none⟩ = some (.slice AY CG.length cY) := fun p => p.cell (blk_lt HW.out) (blk_cell HW.out 3)
  have K1 := hd (fun p : Bw z33 => sTold_any nm st AC AD n cC CG.length cD p.out)
  have K3 := hd (fun p : Bw z33 => sTold_any nm st AW AY n cW CG.length cY p.out)
  have K4 := hd (fun p : Bw z33 => show Calls Tryz.prog 12 #[.agg #[.string nm, .int .i64 st, .slice AW n cW, .slice AY CG.length cY], .agg #[.string nm, .int .i64 st, .slice AC n cC, .slice AD CG.length cD]] p.out (fun e w' => e = .returned (.bool true) ∧ Below p.out.heap.size p.out w') from sameRec_yes nm st (.slice AW n cW) (.slice AY CG.length cY) (.slice AC n cC) (.slice AD CG.length cD) WB CB CG CG p.out (by rw [HWB.out]; exact (upJ RW.out p.below)) (upJ RY.out p.below) (by rw [hcn]; exact (upJ RC.out p.below)) (upJ RD.out p.below) HSW.out (spans_selfJ CG))
  go_wp2_with fail
  refine wp_region_bw (by kernel_rfl) (by kernel_rfl) ?_
  repeat (first | go_big_quiet_step (fail))
  go_big_quiet_step (first | (go_at_call 10; exact Bw.call _ (K3.out _)))
  repeat (first | go_big_quiet_step (fail))
  go_big_quiet_step (first | (go_at_call 10; exact Bw.call _ (K1.out _)))
  repeat (first | go_big_quiet_step (fail))
  go_big_quiet_step (first | (go_at_call 12; exact Bw.call _ (K4.out _)))
  repeat (first | go_big_quiet_step (fail))
  refine wpQuiet_nil ?_
  rintro ⟨z34, hb⟩
  change Exit.then _ _ _ _ z34
  clear FC0 FC1 FC2 FC3 FW0 FW1 FW2 FW3 K1 K3 K4
  replace HC := hd ((hb.block _ (blk_lt HC.out)).trans HC.out)
  replace HP2 := hd ((hb.block _ (blk_lt HP2.out)).trans HP2.out)
  replace HW := hd ((hb.block _ (blk_lt HW.out)).trans HW.out)
  replace HB := hd (HB.out.trans (hb.mono HB.out.size))
  replace RC := hd (upJ RC.out hb)
  replace RD := hd (upJ RD.out hb)
  replace RA := hd (upJ RA.out hb)
  replace RB := hd (upJ RB.out hb)
  replace RG1 := hd (upJ RG1.out hb)
  replace RH := hd (upJ RH.out hb)
  replace RW := hd (upJ RW.out hb)
  replace RY := hd (upJ RY.out hb)
  clear hb
  clear RW RY
  clear HW
  have RC0 := hd (show Rd (z34.alloc (Obj.cells #[.int .i64 0, .int .i64 0, .float .f32 0, .float .f32 0, .int .i64 0, .int .i64 0, .float .f32 0, .float .f32 0, .int .i64 0, .int .i64 0, .float .f32 0, .float .f32 0] 63)) z34.heap.size (.slice AC n cC) n (flc CB) from RC.out.below ((Below.refl _ z34).alloc (Nat.le_refl _) _) (Nat.le_refl _))
  have RD0 := hd (show Rd (z34.alloc (Obj.cells #[.int .i64 0, .int .i64 0, .float .f32 0, .float .f32 0, .int .i64 0, .int .i64 0, .float .f32 0, .float .f32 0, .int .i64 0, .int .i64 0, .float .f32 0, .float .f32 0] 63)) z34.heap.size (.slice AD CG.length cD) CG.length (spc CG) from RD.out.below ((Below.refl _ z34).alloc (Nat.le_refl _) _) (Nat.le_refl _))
  have RA0 := hd (show Rd (z34.alloc (Obj.cells #[.int .i64 0, .int .i64 0, .float .f32 0, .float .f32 0, .int .i64 0, .int .i64 0, .float .f32 0, .float .f32 0, .int .i64 0, .int .i64 0, .float .f32 0, .float .f32 0] 63)) z34.heap.size (.slice AA k cA) k (flc H0) from RA.out.below ((Below.refl _ z34).alloc (Nat.le_refl _) _) (Nat.le_refl _))
  have RB0 := hd (show Rd (z34.alloc (Obj.cells #[.int .i64 0, .int .i64 0, .float .f32 0, .float .f32 0, .int .i64 0, .int .i64 0, .float .f32 0, .float .f32 0, .int .i64 0, .int .i64 0, .float .f32 0, .float .f32 0] 63)) z34.heap.size (.slice AB PH.length cB) PH.length (spc PH) from RB.out.below ((Below.refl _ z34).alloc (Nat.le_refl _) _) (Nat.le_refl _))
  have RG10 := hd (show Rd (z34.alloc (Obj.cells #[.int .i64 0, .int .i64 0, .float .f32 0, .float .f32 0, .int .i64 0, .int .i64 0, .float .f32 0, .float .f32 0, .int .i64 0, .int .i64 0, .float .f32 0, .float .f32 0] 63)) z34.heap.size (.slice AG n1 cG) n1 (flc H1) from RG1.out.below ((Below.refl _ z34).alloc (Nat.le_refl _) _) (Nat.le_refl _))
  have RH0 := hd (show Rd (z34.alloc (Obj.cells #[.int .i64 0, .int .i64 0, .float .f32 0, .float .f32 0, .int .i64 0, .int .i64 0, .float .f32 0, .float .f32 0, .int .i64 0, .int .i64 0, .float .f32 0, .float .f32 0] 63)) z34.heap.size (.slice AH PT.length cH) PT.length (spc PT) from RH.out.below ((Below.refl _ z34).alloc (Nat.le_refl _) _) (Nat.le_refl _))
  have HCS := hd (show C < z34.heap.size from blk_lt HC.out)
  have HWS := hd (show w.heap.size ≤ z34.heap.size from HB.out.size)
  go_wp2_with fail
  have hb := (Below.refl z34.heap.size z34).alloc (Nat.le_refl _) (Obj.cells #[.int .i64 0, .int .i64 0, .float .f32 0, .float .f32 0, .int .i64 0, .int .i64 0, .float .f32 0, .float .f32 0, .int .i64 0, .int .i64 0, .float .f32 0, .float .f32 0] 63)
  have HS := hd (blk_new z34 #[.int .i64 0, .int .i64 0, .float .f32 0, .float .f32 0, .int .i64 0, .int .i64 0, .float .f32 0, .float .f32 0, .int .i64 0, .int .i64 0, .float .f32 0, .float .f32 0] 63)
  replace HC := hd ((hb.block _ (blk_lt HC.out)).trans HC.out)
  replace HP2 := hd ((hb.block _ (blk_lt HP2.out)).trans HP2.out)
  replace HB := hd (HB.out.trans (hb.mono HB.out.size))
  replace RC := hd (upJ RC.out hb)
  replace RD := hd (upJ RD.out hb)
  replace RA := hd (upJ RA.out hb)
  replace RB := hd (upJ RB.out hb)
  replace RG1 := hd (upJ RG1.out hb)
  replace RH := hd (upJ RH.out hb)
  clear hb
  generalize z34.alloc (Obj.cells #[.int .i64 0, .int .i64 0, .float .f32 0, .float .f32 0, .int .i64 0, .int .i64 0, .float .f32 0, .float .f32 0, .int .i64 0, .int .i64 0, .float .f32 0, .float .f32 0] 63) = z35 at *
  generalize z34.heap.size = S at *
  have hZ := box4J HC.out
  obtain ⟨d0, d1, d2, d3, -, -, -, -⟩ := hZ
  have hZ := cells8J HP2.out
  obtain ⟨p0, p1, p2, p3, p4, p5, p6, p7⟩ := hZ
  go_wp2_with fail
  have HX := hd ((Below.refl z35.heap.size z35).drew)
  go_region_held3 (fun x => x.cell? ⟨C, 0, none⟩ = some (.string nm) ∧ x.cell? ⟨C, 1, none⟩ = some (.int .i64 st) ∧ x.cell? ⟨C, 2, none⟩ = some (.slice AC n cC) ∧ x.cell? ⟨C, 3, none⟩ = some (.slice AD CG.length cD) ∧ x.cell? ⟨P, 0, none⟩ = some (.string nm) ∧ x.cell? ⟨P, 1, none⟩ = some (.int .i64 st) ∧ x.cell? ⟨P, 2, none⟩ = some (.slice AA k cA) ∧ x.cell? ⟨P, 3, none⟩ = some (.slice AB PH.length cB) ∧ x.cell? ⟨P, 4, none⟩ = some (.string nm) ∧ x.cell? ⟨P, 5, none⟩ = some (.int .i64 (st + (k : Int))) ∧ x.cell? ⟨P, 6, none⟩ = some (.slice AG n1 cG) ∧ x.cell? ⟨P, 7, none⟩ = some (.slice AH PT.length cH)) (go_keep)
    (first
      | (go_at_call 9; refine (sRec_n nm st AC AD n CG.length cC cD CB CG _ hcn rfl (upJ RC.out HY1.out) (upJ RD.out HY1.out) FC.out FD.out (by omega) (by omega)).mono ?_; rintro e z37 ⟨U, uc, U2, uc2, rfl, hu1, hu2, hb⟩; have OU := hd hu1; have OU2 := hd hu2; clear hu1 hu2; have HX := hd (HX.out.trans (hb.mono HX.out.size)); clear d0 d1 d2 d3 p0 p1 p2 p3 p4 p5 p6 p7 hb; obtain ⟨d0, d1, d2, d3, -, -, -, -⟩ := box4J ((HX.out.block _ (blk_lt HC.out)).trans HC.out); obtain ⟨p0, p1, p2, p3, p4, p5, p6, p7⟩ := cells8J ((HX.out.block _ (blk_lt HP2.out)).trans HP2.out))
      | (go_at_call 10; refine (sTold_any nm st AC AD n cC CG.length cD _).mono ?_; rintro e z36 ⟨rfl, hb⟩; have HY1 := hd (HX.out.trans (hb.mono HX.out.size)); have HX := hd (HX.out.trans (hb.mono HX.out.size)); clear d0 d1 d2 d3 p0 p1 p2 p3 p4 p5 p6 p7 hb; obtain ⟨d0, d1, d2, d3, -, -, -, -⟩ := box4J ((HX.out.block _ (blk_lt HC.out)).trans HC.out); obtain ⟨p0, p1, p2, p3, p4, p5, p6, p7⟩ := cells8J ((HX.out.block _ (blk_lt HP2.out)).trans HP2.out)))
  clear d0 d1 d2 d3 p0 p1 p2 p3 p4 p5 p6 p7
  have hb := HX.out
  clear HX HY1
  replace RC0 := hd (RC0.out.below (hb.mono (Nat.le_of_lt (blk_lt HS.out))) (Nat.le_refl _))
  replace RD0 := hd (RD0.out.below (hb.mono (Nat.le_of_lt (blk_lt HS.out))) (Nat.le_refl _))
  replace RA0 := hd (RA0.out.below (hb.mono (Nat.le_of_lt (blk_lt HS.out))) (Nat.le_refl _))
  replace RB0 := hd (RB0.out.below (hb.mono (Nat.le_of_lt (blk_lt HS.out))) (Nat.le_refl _))
  replace RG10 := hd (RG10.out.below (hb.mono (Nat.le_of_lt (blk_lt HS.out))) (Nat.le_refl _))
  replace RH0 := hd (RH0.out.below (hb.mono (Nat.le_of_lt (blk_lt HS.out))) (Nat.le_refl _))
  replace HC := hd ((hb.block _ (blk_lt HC.out)).trans HC.out)
  replace HP2 := hd ((hb.block _ (blk_lt HP2.out)).trans HP2.out)
  replace HS := hd ((hb.block _ (blk_lt HS.out)).trans HS.out)
  replace HB := hd (HB.out.trans (hb.mono HB.out.size))
  replace RC := hd (upJ RC.out hb)
  replace RD := hd (upJ RD.out hb)
  replace RA := hd (upJ RA.out hb)
  replace RB := hd (upJ RB.out hb)
  replace RG1 := hd (upJ RG1.out hb)
  replace RH := hd (upJ RH.out hb)
  clear hb
  clear RC RD RA RB RG1 RH
  clear FA FB FG1 FH FC FD HP2
  go_wp2_with fail
  have HSZ := hd (fun (X : World) (hX : SJ S z37 X) => Nat.le_trans (Nat.le_of_lt (blk_lt HS.out)) hX.siz)
  refine rec_l5 nm nm nm st st (st + (k : Int)) (k1 + k2) k1 k2 (s1 + s2) s1 s2 e0 e1 e2 U AA AG U2 AB AH n k n1 uc cA cG CG.length PH.length PT.length uc2 cB cH S lo0 lo1 lo2 hi0 hi1 hi2 z37 _ HS (hd (fun X hX => SU0.out X _ _ (rd_of_own (hX.own OU.out HS.out (by decide))) (rd_of_own (hX.own OU2.out HS.out (by decide))))) HE0 (hd (fun X hX => SU1.out X _ _ ((RA0.out.below hX.bel (Nat.le_refl _)).mono (HSZ.out X hX)) ((RB0.out.below hX.bel (Nat.le_refl _)).mono (HSZ.out X hX)))) HE1 (hd (fun X hX => SU2.out X _ _ ((RG10.out.below hX.bel (Nat.le_refl _)).mono (HSZ.out X hX)) ((RH0.out.below hX.bel (Nat.le_refl _)).mono (HSZ.out X hX)))) HE2 ?_
  intro u6 u39 u40 u41 u42 u295 u296 u297 u298 u299 u300 u301 u302 u303 u304 u305 u306 u307 u308 u309 u310 u311 u312 u313 z38 hfact
  obtain ⟨hbx, hsj⟩ := hfact
  have HS2 := hd hbx
  replace HB := hd (HB.out.trans (hsj.bel.mono HWS.out))
  replace HC := hd ((hsj.bel.block _ HCS.out).trans HC.out)
  have RD := hd ((RD0.out.below hsj.bel (Nat.le_refl _)).mono (HSZ.out _ hsj))
  clear hbx hsj HS HSZ HCS HWS RC0 RD0 RA0 RB0 RG10 RH0 OU OU2
  have FC2 : ∀ p : Bw z38, p.out.cell? ⟨C, 2, none⟩ = some (.slice AC n cC) := fun p => p.cell (blk_lt HC.out) (blk_cell HC.out 2)
  have FC3 : ∀ p : Bw z38, p.out.cell? ⟨C, 3, none⟩ = some (.slice AD CG.length cD) := fun p => p.cell (blk_lt HC.out) (blk_cell HC.out 3)
  have FS0 : ∀ p : Bw z38, p.out.cell? ⟨S, 0, none⟩ = some (.int .i64 (k1 + k2)) := fun p => p.cell (blk_lt HS2.out) (blk_cell HS2.out 0)
  have FS1 : ∀ p : Bw z38, p.out.cell? ⟨S, 1, none⟩ = some (.int .i64 (s1 + s2)) := fun p => p.cell (blk_lt HS2.out) (blk_cell HS2.out 1)
  have FS4 : ∀ p : Bw z38, p.out.cell? ⟨S, 4, none⟩ = some (.int .i64 k1) := fun p => p.cell (blk_lt HS2.out) (blk_cell HS2.out 4)
  have FS5 : ∀ p : Bw z38, p.out.cell? ⟨S, 5, none⟩ = some (.int .i64 s1) := fun p => p.cell (blk_lt HS2.out) (blk_cell HS2.out 5)
  have FS8 : ∀ p : Bw z38, p.out.cell? ⟨S, 8, none⟩ = some (.int .i64 k2) := fun p => p.cell (blk_lt HS2.out) (blk_cell HS2.out 8)
  have FS9 : ∀ p : Bw z38, p.out.cell? ⟨S, 9, none⟩ = some (.int .i64 s2) := fun p => p.cell (blk_lt HS2.out) (blk_cell HS2.out 9)
  have K1 := hd (fun p : Bw z38 => T1.out p.out _ (upJ RD.out p.below))
  have K2 := hd (fun p : Bw z38 => sGauge_any p.out)
  have w1 : IntKind.i64.wrap (k1 + k2) = k1 + k2 := IntWalk.i64_in _ (by have := HSN.out; omega)
  have w2 : IntKind.i64.wrap (s1 + s2) = s1 + s2 := IntWalk.i64_in _ (by have := HSN.out; omega)
  have w3 : IntKind.i64.wrap ((n : Int) - (tG + lsK R n)) = k1 + k2 := by rw [← HSE.out]; exact IntWalk.i64_in _ (by have := HTB.out; omega)
  go_wp2_with fail
  refine wp_region_bw (by kernel_rfl) (by kernel_rfl) ?_
  repeat (first | go_big_quiet_step (fail))
  go_big_quiet_step (first | (go_at_call 13; exact Bw.call _ (K1.out _)))
  repeat (first | go_big_quiet_step (fail))
  go_big_quiet_step (first | (go_at_call 7; exact Bw.call _ (K2.out _)))
  repeat (first | go_big_quiet_step (fail))
  refine wpQuiet_nil ?_
  rintro ⟨z39, hb⟩
  change Exit.then _ _ _ _ z39
  clear FC2 FC3 FS0 FS1 FS4 FS5 FS8 FS9 K1 K2 w1 w2 w3
  replace HB := hd (HB.out.trans (hb.mono HB.out.size))
  clear hb
  go_wp2_with fail
  go_returns
  exact ⟨rfl, HB.out⟩
end Go.Proofs.YtkgkpcmokmhakaaGreatDoor
