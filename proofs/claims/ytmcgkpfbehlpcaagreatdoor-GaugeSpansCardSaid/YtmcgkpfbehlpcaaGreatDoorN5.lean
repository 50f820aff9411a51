/-
  GaugeSpans at every two lists of spans.
-/
import Derived.Test.YtmcgkpfbehlpcaaGreatDoorProg
import Derived.Test.YtmcgkpfbehlpcaaGreatDoorN3
import Derived.Test.YtmcgkpfbehlpcaaGreatDoorN4
import Derived.Test.YtmcgkpfbehlpcaaGreatDoorH5
import Derived.Test.YtmcgkpfbehlpcaaGreatDoorMR
namespace Go.Proofs.YtmcgkpfbehlpcaaGreatDoor
open Go.RowKit
attribute [local go_sem] Oper.semAt_some

/-- What gauge's Join, Meet or Minus hands back: a list and an error. -/
def GotX (l : List (Int × Int)) (x : Int) (w : World) (e : Ending) (w' : World) : Prop :=
  ∃ v, e = .returned (.tuple #[v, .int .i64 x]) ∧ Rd w' w'.heap.size v l.length (spc l) ∧ Below w.heap.size w w'
def Op3 (f : FuncId) (a b l : List (Int × Int)) (x : Int) : Prop :=
  ∀ (W : World) (s1 s2 : Value), Rd W W.heap.size s1 a.length (spc a) → Rd W W.heap.size s2 b.length (spc b) → Calls Tryz.prog f #[s1, s2] W (GotX l x W)
/-- What the reference's hands back: a list. -/
def OpR (f : FuncId) (a b l : List (Int × Int)) : Prop :=
  ∀ (W : World) (s1 s2 : Value), Rd W W.heap.size s1 a.length (spc a) → Rd W W.heap.size s2 b.length (spc b) → Calls Tryz.prog f #[s1, s2] W (OwnsSp W.heap.size l W)

set_option maxRecDepth 1000000 in
set_option maxHeartbeats 16000000 in
theorem spans_good (HA : Hid Awake) (sa sb : Value) (a b J M D : List (Int × Int)) (x : Int) (w : World) (ha : Rd w w.heap.size sa a.length (spc a)) (hb : Rd w w.heap.size sb b.length (spc b)) (fa : Full sa) (fb : Full sb)
    (hn1 : a.length ≤ 2049) (hn2 : b.length ≤ 2049) (hs1 : (decide ((a.length : Int) ≤ 12) || decide (a.length = 2049)) = true) (hs2 : (decide ((b.length : Int) ≤ 12) || decide (b.length = 2049)) = true)
    (hx : fst0 [chkSpans a, chkSpans b] = x) (hx0 : (x == 0) = true)
    (OJ : Hid (Op3 25 a b J x)) (OM : Hid (Op3 27 a b M x)) (OD : Hid (Op3 28 a b D x))
    (RJ : Hid (OpR 22 a b J)) (RM : Hid (OpR 23 a b M)) (RD : Hid (OpR 24 a b D)) :
    Calls Tryz.prog 4 #[sa, sb] w fun e w' => e = .returned (.bool true) ∧ Below w.heap.size w w' := by
  have HB := hd (Below.refl w.heap.size w)
  have RA := hd ha
  have RB := hd hb
  have FA := hd fa
  have FB := hd fb
  have LA := hd hn1
  have LB := hd hn2
  have SA := hd hs1
  have SB := hd hs2
  obtain ⟨A1, c1, rfl, -⟩ := ha
  obtain ⟨A2, c2, rfl, -⟩ := hb
  clear fa fb hn1 hn2 hs1 hs2
  generalize hxa : chkSpans a = xa at hx
  generalize hxb : chkSpans b = xb at hx
  have CA := hd hxa
  have CB := hd hxb
  have HX := hd hx
  clear hxa hxb hx
  go_enter Tryz.func4, Tryz.ntmps4
  go_wp2_with fail
  refine (HA.out _).mono ?_
  rintro e w1 ⟨rfl, hb⟩
  replace HB := hd (HB.out.trans (hb.mono (HB.out.size)))
  replace RA := hd ((RA.out.below hb (Nat.le_refl _)).mono hb.size)
  replace RB := hd ((RB.out.below hb (Nat.le_refl _)).mono hb.size)
  clear hb
  go_wp2_with fail
  refine (shortSpans_any _ a.length _ 12 _).mono ?_
  rw [SA.out]
  rintro e w' ⟨rfl, rfl⟩
  go_wp2_with fail
  refine (shortSpans_any _ b.length _ 12 _).mono ?_
  rw [SB.out]
  rintro e w' ⟨rfl, rfl⟩
  go_wp2_with fail
  refine (refChkSpans_any _ a _ RA.out).mono ?_
  rw [CA.out]
  rintro e w2 ⟨rfl, hb⟩
  replace HB := hd (HB.out.trans (hb.mono (HB.out.size)))
  replace RA := hd ((RA.out.below hb (Nat.le_refl _)).mono hb.size)
  replace RB := hd ((RB.out.below hb (Nat.le_refl _)).mono hb.size)
  clear hb
  go_wp2_with fail
  refine (refChkSpans_any _ b _ RB.out).mono ?_
  rw [CB.out]
  rintro e w3 ⟨rfl, hb⟩
  replace HB := hd (HB.out.trans (hb.mono (HB.out.size)))
  replace RA := hd ((RA.out.below hb (Nat.le_refl _)).mono hb.size)
  replace RB := hd ((RB.out.below hb (Nat.le_refl _)).mono hb.size)
  clear hb
  go_wp2_with fail
  have hb := (Below.refl w3.heap.size w3).alloc (Nat.le_refl _) (.cells #[.int .i64 xa, .int .i64 xb] 3)
  have hR := hd (Rd.new w3 #[.int .i64 xa, .int .i64 xb] 3 2 [.int .i64 xa, .int .i64 xb] rfl (by decide))
  replace HB := hd (HB.out.trans (hb.mono (HB.out.size)))
  replace RA := hd ((RA.out.below hb (Nat.le_refl _)).mono hb.size)
  replace RB := hd ((RB.out.below hb (Nat.le_refl _)).mono hb.size)
  clear hb
  generalize w3.alloc (.cells #[.int .i64 xa, .int .i64 xb] 3) = X0 at *
  refine (lawFirst_any _ [xa, xb] _ hR.out).mono ?_
  rw [HX.out]
  rintro e w' ⟨rfl, rfl⟩
  clear hR
  go_wp2_with fail
  have QA := hd RA.out
  have QB := hd RB.out
  have HBX := hd HB.out
  have HQ := hd (blk_new X0 #[.slice none 0 0, .slice none 0 0, .slice none 0 0] 50)
  have hb := (Below.refl X0.heap.size X0).alloc (Nat.le_refl _) (.cells #[.slice none 0 0, .slice none 0 0, .slice none 0 0] 50)
  have HY := hd hb
  have SY := hd (show X0.heap.size < (X0.alloc (.cells #[.slice none 0 0, .slice none 0 0, .slice none 0 0] 50)).heap.size by simp)
  replace HB := hd (HB.out.trans (hb.mono (HB.out.size)))
  replace RA := hd ((RA.out.below hb (Nat.le_refl _)).mono hb.size)
  replace RB := hd ((RB.out.below hb (Nat.le_refl _)).mono hb.size)
  clear hb
  generalize (X0.alloc (.cells #[.slice none 0 0, .slice none 0 0, .slice none 0 0] 50)) = Y0 at *
  refine (RJ.out _ _ _ RA.out RB.out).mono ?_
  rintro e y1 ⟨r1, rfl, hv, hb⟩
  have P1 := hd hv
  clear hv
  have SQ1 := hd SY.out
  have SZ1 := hd (show Y0.heap.size ≤ y1.heap.size from hb.size)
  replace HQ := hd ((hb.block _ (blk_lt HQ.out)).trans HQ.out)
  replace HY := hd (HY.out.trans (hb.mono HY.out.size))
  replace HB := hd (HB.out.trans (hb.mono (HB.out.size)))
  replace RA := hd ((RA.out.below hb (Nat.le_refl _)).mono hb.size)
  replace RB := hd ((RB.out.below hb (Nat.le_refl _)).mono hb.size)
  clear hb
  go_wp2_with fail
  refine (RM.out _ _ _ RA.out RB.out).mono ?_
  rintro e y2 ⟨r2, rfl, hv, hb⟩
  have P2 := hd hv
  clear hv
  have SQ2 := hd (Nat.lt_of_lt_of_le SY.out SZ1.out)
  have SZ2 := hd (show Y0.heap.size ≤ y2.heap.size from Nat.le_trans SZ1.out hb.size)
  replace HQ := hd ((hb.block _ (blk_lt HQ.out)).trans HQ.out)
  replace HY := hd (HY.out.trans (hb.mono HY.out.size))
  replace P1 := hd (own_bel P1.out hb)
  replace HB := hd (HB.out.trans (hb.mono (HB.out.size)))
  replace RA := hd ((RA.out.below hb (Nat.le_refl _)).mono hb.size)
  replace RB := hd ((RB.out.below hb (Nat.le_refl _)).mono hb.size)
  clear hb
  go_wp2_with fail
  refine (RD.out _ _ _ RA.out RB.out).mono ?_
  rintro e y3 ⟨r3, rfl, hv, hb⟩
  have P3 := hd hv
  clear hv
  have SQ3 := hd (Nat.lt_of_lt_of_le SY.out SZ2.out)
  have SZ3 := hd (show Y0.heap.size ≤ y3.heap.size from Nat.le_trans SZ2.out hb.size)
  replace HQ := hd ((hb.block _ (blk_lt HQ.out)).trans HQ.out)
  replace HY := hd (HY.out.trans (hb.mono HY.out.size))
  replace P1 := hd (own_bel P1.out hb)
  replace P2 := hd (own_bel P2.out hb)
  replace HB := hd (HB.out.trans (hb.mono (HB.out.size)))
  replace RA := hd ((RA.out.below hb (Nat.le_refl _)).mono hb.size)
  replace RB := hd ((RB.out.below hb (Nat.le_refl _)).mono hb.size)
  clear hb
  obtain ⟨Aj, cj, rfl, -⟩ := own_form P1.out
  obtain ⟨Am, cm, rfl, -⟩ := own_form P2.out
  obtain ⟨Ad, cd, rfl, -⟩ := own_form P3.out
  have k0 := blk_cell HQ.out 0
  have k1 := blk_cell HQ.out 1
  have k2 := blk_cell HQ.out 2
  simp at k0 k1 k2
  have f0 := blk_frozen HQ.out 0
  have f1 := blk_frozen HQ.out 1
  have f2 := blk_frozen HQ.out 2
  go_wp2_with fail
  clear k0 k1 k2 f0 f1 f2
  have HQ2 := hd (set3_blk HQ.out (.slice Aj J.length cj) (.slice Am M.length cm) (.slice Ad D.length cd))
  have hb := set3_below HY.out (R := X0.heap.size) (Nat.le_refl _) (.slice Aj J.length cj) (.slice Am M.length cm) (.slice Ad D.length cd)
  have U1 := hd (rd_of_own (own_set3 (R := X0.heap.size) (a := (.slice Aj J.length cj)) (b := (.slice Am M.length cm)) (c := (.slice Ad D.length cd)) P1.out SQ1.out))
  have U2 := hd (rd_of_own (own_set3 (R := X0.heap.size) (a := (.slice Aj J.length cj)) (b := (.slice Am M.length cm)) (c := (.slice Ad D.length cd)) P2.out SQ2.out))
  have U3 := hd (rd_of_own (own_set3 (R := X0.heap.size) (a := (.slice Aj J.length cj)) (b := (.slice Am M.length cm)) (c := (.slice Ad D.length cd)) P3.out SQ3.out))
  clear P1 P2 P3 SZ1 SZ2 SZ3 SQ1 SQ2 SQ3 HQ HY RA RB
  have HY := hd hb
  clear hb
  change Calls _ _ _ (set3 y3 X0.heap.size (.slice Aj J.length cj) (.slice Am M.length cm) (.slice Ad D.length cd)) _
  change Hid ((set3 y3 X0.heap.size (.slice Aj J.length cj) (.slice Am M.length cm) (.slice Ad D.length cd)).heap[X0.heap.size]? = _) at HQ2
  generalize set3 y3 X0.heap.size (.slice Aj J.length cj) (.slice Am M.length cm) (.slice Ad D.length cd) = Z at *
  have RA := hd ((QA.out.below HY.out (Nat.le_refl _)).mono HY.out.size)
  have RB := hd ((QB.out.below HY.out (Nat.le_refl _)).mono HY.out.size)
  replace HB := hd (HBX.out.trans (HY.out.mono HBX.out.size))
  clear QA QB HY SY HBX
  refine (lawSpans_any _ a _ RA.out FA.out (by have := LA.out; omega)).mono ?_
  rintro e z5 ⟨v, rfl, hv, hb⟩
  have RX := hd (rd_of_own hv)
  clear hv
  replace HQ2 := hd ((hb.block _ (blk_lt HQ2.out)).trans HQ2.out)
  replace HB := hd (HB.out.trans (hb.mono (HB.out.size)))
  replace RA := hd ((RA.out.below hb (Nat.le_refl _)).mono hb.size)
  replace RB := hd ((RB.out.below hb (Nat.le_refl _)).mono hb.size)
  replace U1 := hd ((U1.out.below hb (Nat.le_refl _)).mono hb.size)
  replace U2 := hd ((U2.out.below hb (Nat.le_refl _)).mono hb.size)
  replace U3 := hd ((U3.out.below hb (Nat.le_refl _)).mono hb.size)
  clear hb
  go_wp2_with fail
  refine (lawSpans_any _ b _ RB.out FB.out (by have := LB.out; omega)).mono ?_
  rintro e z6 ⟨v', rfl, hv, hb⟩
  have RY := hd (rd_of_own hv)
  clear hv
  replace HQ2 := hd ((hb.block _ (blk_lt HQ2.out)).trans HQ2.out)
  replace HB := hd (HB.out.trans (hb.mono (HB.out.size)))
  replace RA := hd ((RA.out.below hb (Nat.le_refl _)).mono hb.size)
  replace RB := hd ((RB.out.below hb (Nat.le_refl _)).mono hb.size)
  replace U1 := hd ((U1.out.below hb (Nat.le_refl _)).mono hb.size)
  replace U2 := hd ((U2.out.below hb (Nat.le_refl _)).mono hb.size)
  replace U3 := hd ((U3.out.below hb (Nat.le_refl _)).mono hb.size)
  replace RX := hd ((RX.out.below hb (Nat.le_refl _)).mono hb.size)
  clear hb
  go_wp2_with fail
  refine (OJ.out _ _ _ RX.out RY.out).mono ?_
  rintro e z7 ⟨g1, rfl, hr, hb⟩
  have G1 := hd hr
  clear hr RX RY
  replace HQ2 := hd ((hb.block _ (blk_lt HQ2.out)).trans HQ2.out)
  replace HB := hd (HB.out.trans (hb.mono (HB.out.size)))
  replace RA := hd ((RA.out.below hb (Nat.le_refl _)).mono hb.size)
  replace RB := hd ((RB.out.below hb (Nat.le_refl _)).mono hb.size)
  replace U1 := hd ((U1.out.below hb (Nat.le_refl _)).mono hb.size)
  replace U2 := hd ((U2.out.below hb (Nat.le_refl _)).mono hb.size)
  replace U3 := hd ((U3.out.below hb (Nat.le_refl _)).mono hb.size)
  clear hb
  go_wp2_with fail
  refine (lawSpans_any _ a _ RA.out FA.out (by have := LA.out; omega)).mono ?_
  rintro e z8 ⟨v, rfl, hv, hb⟩
  have RX := hd (rd_of_own hv)
  clear hv
  replace HQ2 := hd ((hb.block _ (blk_lt HQ2.out)).trans HQ2.out)
  replace HB := hd (HB.out.trans (hb.mono (HB.out.size)))
  replace RA := hd ((RA.out.below hb (Nat.le_refl _)).mono hb.size)
  replace RB := hd ((RB.out.below hb (Nat.le_refl _)).mono hb.size)
  replace U1 := hd ((U1.out.below hb (Nat.le_refl _)).mono hb.size)
  replace U2 := hd ((U2.out.below hb (Nat.le_refl _)).mono hb.size)
  replace U3 := hd ((U3.out.below hb (Nat.le_refl _)).mono hb.size)
  replace G1 := hd ((G1.out.below hb (Nat.le_refl _)).mono hb.size)
  clear hb
  go_wp2_with fail
  refine (lawSpans_any _ b _ RB.out FB.out (by have := LB.out; omega)).mono ?_
  rintro e z9 ⟨v', rfl, hv, hb⟩
  have RY := hd (rd_of_own hv)
  clear hv
  replace HQ2 := hd ((hb.block _ (blk_lt HQ2.out)).trans HQ2.out)
  replace HB := hd (HB.out.trans (hb.mono (HB.out.size)))
  replace RA := hd ((RA.out.below hb (Nat.le_refl _)).mono hb.size)
  replace RB := hd ((RB.out.below hb (Nat.le_refl _)).mono hb.size)
  replace U1 := hd ((U1.out.below hb (Nat.le_refl _)).mono hb.size)
  replace U2 := hd ((U2.out.below hb (Nat.le_refl _)).mono hb.size)
  replace U3 := hd ((U3.out.below hb (Nat.le_refl _)).mono hb.size)
  replace G1 := hd ((G1.out.below hb (Nat.le_refl _)).mono hb.size)
  replace RX := hd ((RX.out.below hb (Nat.le_refl _)).mono hb.size)
  clear hb
  go_wp2_with fail
  refine (OM.out _ _ _ RX.out RY.out).mono ?_
  rintro e z10 ⟨g2, rfl, hr, hb⟩
  have G2 := hd hr
  clear hr RX RY
  replace HQ2 := hd ((hb.block _ (blk_lt HQ2.out)).trans HQ2.out)
  replace HB := hd (HB.out.trans (hb.mono (HB.out.size)))
  replace RA := hd ((RA.out.below hb (Nat.le_refl _)).mono hb.size)
  replace RB := hd ((RB.out.below hb (Nat.le_refl _)).mono hb.size)
  replace U1 := hd ((U1.out.below hb (Nat.le_refl _)).mono hb.size)
  replace U2 := hd ((U2.out.below hb (Nat.le_refl _)).mono hb.size)
  replace U3 := hd ((U3.out.below hb (Nat.le_refl _)).mono hb.size)
  replace G1 := hd ((G1.out.below hb (Nat.le_refl _)).mono hb.size)
  clear hb
  go_wp2_with fail
  refine (lawSpans_any _ a _ RA.out FA.out (by have := LA.out; omega)).mono ?_
  rintro e z11 ⟨v, rfl, hv, hb⟩
  have RX := hd (rd_of_own hv)
  clear hv
  replace HQ2 := hd ((hb.block _ (blk_lt HQ2.out)).trans HQ2.out)
  replace HB := hd (HB.out.trans (hb.mono (HB.out.size)))
  replace RA := hd ((RA.out.below hb (Nat.le_refl _)).mono hb.size)
  replace RB := hd ((RB.out.below hb (Nat.le_refl _)).mono hb.size)
  replace U1 := hd ((U1.out.below hb (Nat.le_refl _)).mono hb.size)
  replace U2 := hd ((U2.out.below hb (Nat.le_refl _)).mono hb.size)
  replace U3 := hd ((U3.out.below hb (Nat.le_refl _)).mono hb.size)
  replace G1 := hd ((G1.out.below hb (Nat.le_refl _)).mono hb.size)
  replace G2 := hd ((G2.out.below hb (Nat.le_refl _)).mono hb.size)
  clear hb
  go_wp2_with fail
  refine (lawSpans_any _ b _ RB.out FB.out (by have := LB.out; omega)).mono ?_
  rintro e z12 ⟨v', rfl, hv, hb⟩
  have RY := hd (rd_of_own hv)
  clear hv
  replace HQ2 := hd ((hb.block _ (blk_lt HQ2.out)).trans HQ2.out)
  replace HB := hd (HB.out.trans (hb.mono (HB.out.size)))
  replace RA := hd ((RA.out.below hb (Nat.le_refl _)).mono hb.size)
  replace RB := hd ((RB.out.below hb (Nat.le_refl _)).mono hb.size)
  replace U1 := hd ((U1.out.below hb (Nat.le_refl _)).mono hb.size)
  replace U2 := hd ((U2.out.below hb (Nat.le_refl _)).mono hb.size)
  replace U3 := hd ((U3.out.below hb (Nat.le_refl _)).mono hb.size)
  replace G1 := hd ((G1.out.below hb (Nat.le_refl _)).mono hb.size)
  replace G2 := hd ((G2.out.below hb (Nat.le_refl _)).mono hb.size)
  replace RX := hd ((RX.out.below hb (Nat.le_refl _)).mono hb.size)
  clear hb
  go_wp2_with fail
  refine (OD.out _ _ _ RX.out RY.out).mono ?_
  rintro e z13 ⟨g3, rfl, hr, hb⟩
  have G3 := hd hr
  clear hr RX RY
  replace HQ2 := hd ((hb.block _ (blk_lt HQ2.out)).trans HQ2.out)
  replace HB := hd (HB.out.trans (hb.mono (HB.out.size)))
  replace RA := hd ((RA.out.below hb (Nat.le_refl _)).mono hb.size)
  replace RB := hd ((RB.out.below hb (Nat.le_refl _)).mono hb.size)
  replace U1 := hd ((U1.out.below hb (Nat.le_refl _)).mono hb.size)
  replace U2 := hd ((U2.out.below hb (Nat.le_refl _)).mono hb.size)
  replace U3 := hd ((U3.out.below hb (Nat.le_refl _)).mono hb.size)
  replace G1 := hd ((G1.out.below hb (Nat.le_refl _)).mono hb.size)
  replace G2 := hd ((G2.out.below hb (Nat.le_refl _)).mono hb.size)
  clear hb
  go_wp2_with fail
  refine (lawSpans_any _ a _ RA.out FA.out (by have := LA.out; omega)).mono ?_
  rintro e z14 ⟨v, rfl, hv, hb⟩
  have RX := hd (rd_of_own hv)
  clear hv
  replace HQ2 := hd ((hb.block _ (blk_lt HQ2.out)).trans HQ2.out)
  replace HB := hd (HB.out.trans (hb.mono (HB.out.size)))
  replace RA := hd ((RA.out.below hb (Nat.le_refl _)).mono hb.size)
  replace RB := hd ((RB.out.below hb (Nat.le_refl _)).mono hb.size)
  replace U1 := hd ((U1.out.below hb (Nat.le_refl _)).mono hb.size)
  replace U2 := hd ((U2.out.below hb (Nat.le_refl _)).mono hb.size)
  replace U3 := hd ((U3.out.below hb (Nat.le_refl _)).mono hb.size)
  replace G1 := hd ((G1.out.below hb (Nat.le_refl _)).mono hb.size)
  replace G2 := hd ((G2.out.below hb (Nat.le_refl _)).mono hb.size)
  replace G3 := hd ((G3.out.below hb (Nat.le_refl _)).mono hb.size)
  clear hb
  go_wp2_with fail
  refine (chkSpans_any _ a _ RX.out).mono ?_
  rw [CA.out]
  rintro e z15 ⟨rfl, hb⟩
  clear RX
  replace HQ2 := hd ((hb.block _ (blk_lt HQ2.out)).trans HQ2.out)
  replace HB := hd (HB.out.trans (hb.mono (HB.out.size)))
  replace RA := hd ((RA.out.below hb (Nat.le_refl _)).mono hb.size)
  replace RB := hd ((RB.out.below hb (Nat.le_refl _)).mono hb.size)
  replace U1 := hd ((U1.out.below hb (Nat.le_refl _)).mono hb.size)
  replace U2 := hd ((U2.out.below hb (Nat.le_refl _)).mono hb.size)
  replace U3 := hd ((U3.out.below hb (Nat.le_refl _)).mono hb.size)
  replace G1 := hd ((G1.out.below hb (Nat.le_refl _)).mono hb.size)
  replace G2 := hd ((G2.out.below hb (Nat.le_refl _)).mono hb.size)
  replace G3 := hd ((G3.out.below hb (Nat.le_refl _)).mono hb.size)
  clear hb
  go_wp2_with fail
  refine (refChkSpans_any _ a _ RA.out).mono ?_
  rw [CA.out]
  rintro e z16 ⟨rfl, hb⟩
  replace HQ2 := hd ((hb.block _ (blk_lt HQ2.out)).trans HQ2.out)
  replace HB := hd (HB.out.trans (hb.mono (HB.out.size)))
  replace RA := hd ((RA.out.below hb (Nat.le_refl _)).mono hb.size)
  replace RB := hd ((RB.out.below hb (Nat.le_refl _)).mono hb.size)
  replace U1 := hd ((U1.out.below hb (Nat.le_refl _)).mono hb.size)
  replace U2 := hd ((U2.out.below hb (Nat.le_refl _)).mono hb.size)
  replace U3 := hd ((U3.out.below hb (Nat.le_refl _)).mono hb.size)
  replace G1 := hd ((G1.out.below hb (Nat.le_refl _)).mono hb.size)
  replace G2 := hd ((G2.out.below hb (Nat.le_refl _)).mono hb.size)
  replace G3 := hd ((G3.out.below hb (Nat.le_refl _)).mono hb.size)
  clear hb
  have k0 := blk_cell HQ2.out 0
  simp at k0
  go_wp2_with fail
  clear k0
  refine (sameSpans_any _ _ J J _ G1.out U1.out).mono ?_
  rw [same_refl]
  rintro e z17 ⟨rfl, hb⟩
  replace HQ2 := hd ((hb.block _ (blk_lt HQ2.out)).trans HQ2.out)
  replace HB := hd (HB.out.trans (hb.mono (HB.out.size)))
  replace RA := hd ((RA.out.below hb (Nat.le_refl _)).mono hb.size)
  replace RB := hd ((RB.out.below hb (Nat.le_refl _)).mono hb.size)
  replace U1 := hd ((U1.out.below hb (Nat.le_refl _)).mono hb.size)
  replace U2 := hd ((U2.out.below hb (Nat.le_refl _)).mono hb.size)
  replace U3 := hd ((U3.out.below hb (Nat.le_refl _)).mono hb.size)
  replace G1 := hd ((G1.out.below hb (Nat.le_refl _)).mono hb.size)
  replace G2 := hd ((G2.out.below hb (Nat.le_refl _)).mono hb.size)
  replace G3 := hd ((G3.out.below hb (Nat.le_refl _)).mono hb.size)
  clear hb
  have k0 := blk_cell HQ2.out 1
  simp at k0
  go_wp2_with fail
  clear k0
  refine (sameSpans_any _ _ M M _ G2.out U2.out).mono ?_
  rw [same_refl]
  rintro e z18 ⟨rfl, hb⟩
  replace HQ2 := hd ((hb.block _ (blk_lt HQ2.out)).trans HQ2.out)
  replace HB := hd (HB.out.trans (hb.mono (HB.out.size)))
  replace RA := hd ((RA.out.below hb (Nat.le_refl _)).mono hb.size)
  replace RB := hd ((RB.out.below hb (Nat.le_refl _)).mono hb.size)
  replace U1 := hd ((U1.out.below hb (Nat.le_refl _)).mono hb.size)
  replace U2 := hd ((U2.out.below hb (Nat.le_refl _)).mono hb.size)
  replace U3 := hd ((U3.out.below hb (Nat.le_refl _)).mono hb.size)
  replace G1 := hd ((G1.out.below hb (Nat.le_refl _)).mono hb.size)
  replace G2 := hd ((G2.out.below hb (Nat.le_refl _)).mono hb.size)
  replace G3 := hd ((G3.out.below hb (Nat.le_refl _)).mono hb.size)
  clear hb
  have k0 := blk_cell HQ2.out 2
  simp at k0
  go_wp2_with fail
  clear k0
  refine (sameSpans_any _ _ D D _ G3.out U3.out).mono ?_
  rw [same_refl]
  rintro e z19 ⟨rfl, hb⟩
  replace HQ2 := hd ((hb.block _ (blk_lt HQ2.out)).trans HQ2.out)
  replace HB := hd (HB.out.trans (hb.mono (HB.out.size)))
  replace RA := hd ((RA.out.below hb (Nat.le_refl _)).mono hb.size)
  replace RB := hd ((RB.out.below hb (Nat.le_refl _)).mono hb.size)
  replace U1 := hd ((U1.out.below hb (Nat.le_refl _)).mono hb.size)
  replace U2 := hd ((U2.out.below hb (Nat.le_refl _)).mono hb.size)
  replace U3 := hd ((U3.out.below hb (Nat.le_refl _)).mono hb.size)
  replace G1 := hd ((G1.out.below hb (Nat.le_refl _)).mono hb.size)
  replace G2 := hd ((G2.out.below hb (Nat.le_refl _)).mono hb.size)
  replace G3 := hd ((G3.out.below hb (Nat.le_refl _)).mono hb.size)
  clear hb
  go_wp2_with fail
  go_returns
  exact ⟨rfl, HB.out⟩

set_option maxRecDepth 1000000 in
set_option maxHeartbeats 16000000 in
theorem spans_bad (HA : Hid Awake) (sa sb : Value) (a b J M D : List (Int × Int)) (x : Int) (w : World) (ha : Rd w w.heap.size sa a.length (spc a)) (hb : Rd w w.heap.size sb b.length (spc b)) (fa : Full sa) (fb : Full sb)
    (hn1 : a.length ≤ 2049) (hn2 : b.length ≤ 2049) (hs1 : (decide ((a.length : Int) ≤ 12) || decide (a.length = 2049)) = true) (hs2 : (decide ((b.length : Int) ≤ 12) || decide (b.length = 2049)) = true)
    (hx : fst0 [chkSpans a, chkSpans b] = x) (hx0 : (x == 0) = false)
    (OJ : Hid (Op3 25 a b J x)) (OM : Hid (Op3 27 a b M x)) (OD : Hid (Op3 28 a b D x))
    (eJ : J = []) (eM : M = []) (eD : D = []) :
    Calls Tryz.prog 4 #[sa, sb] w fun e w' => e = .returned (.bool true) ∧ Below w.heap.size w w' := by
  have HB := hd (Below.refl w.heap.size w)
  have RA := hd ha
  have RB := hd hb
  have FA := hd fa
  have FB := hd fb
  have LA := hd hn1
  have LB := hd hn2
  have SA := hd hs1
  have SB := hd hs2
  obtain ⟨A1, c1, rfl, -⟩ := ha
  obtain ⟨A2, c2, rfl, -⟩ := hb
  clear fa fb hn1 hn2 hs1 hs2
  generalize hxa : chkSpans a = xa at hx
  generalize hxb : chkSpans b = xb at hx
  have CA := hd hxa
  have CB := hd hxb
  have HX := hd hx
  clear hxa hxb hx
  subst eJ eM eD
  go_enter Tryz.func4, Tryz.ntmps4
  go_wp2_with fail
  refine (HA.out _).mono ?_
  rintro e w1 ⟨rfl, hb⟩
  replace HB := hd (HB.out.trans (hb.mono (HB.out.size)))
  replace RA := hd ((RA.out.below hb (Nat.le_refl _)).mono hb.size)
  replace RB := hd ((RB.out.below hb (Nat.le_refl _)).mono hb.size)
  clear hb
  go_wp2_with fail
  refine (shortSpans_any _ a.length _ 12 _).mono ?_
  rw [SA.out]
  rintro e w' ⟨rfl, rfl⟩
  go_wp2_with fail
  refine (shortSpans_any _ b.length _ 12 _).mono ?_
  rw [SB.out]
  rintro e w' ⟨rfl, rfl⟩
  go_wp2_with fail
  refine (refChkSpans_any _ a _ RA.out).mono ?_
  rw [CA.out]
  rintro e w2 ⟨rfl, hb⟩
  replace HB := hd (HB.out.trans (hb.mono (HB.out.size)))
  replace RA := hd ((RA.out.below hb (Nat.le_refl _)).mono hb.size)
  replace RB := hd ((RB.out.below hb (Nat.le_refl _)).mono hb.size)
  clear hb
  go_wp2_with fail
  refine (refChkSpans_any _ b _ RB.out).mono ?_
  rw [CB.out]
  rintro e w3 ⟨rfl, hb⟩
  replace HB := hd (HB.out.trans (hb.mono (HB.out.size)))
  replace RA := hd ((RA.out.below hb (Nat.le_refl _)).mono hb.size)
  replace RB := hd ((RB.out.below hb (Nat.le_refl _)).mono hb.size)
  clear hb
  go_wp2_with fail
  have hb := (Below.refl w3.heap.size w3).alloc (Nat.le_refl _) (.cells #[.int .i64 xa, .int .i64 xb] 3)
  have hR := hd (Rd.new w3 #[.int .i64 xa, .int .i64 xb] 3 2 [.int .i64 xa, .int .i64 xb] rfl (by decide))
  replace HB := hd (HB.out.trans (hb.mono (HB.out.size)))
  replace RA := hd ((RA.out.below hb (Nat.le_refl _)).mono hb.size)
  replace RB := hd ((RB.out.below hb (Nat.le_refl _)).mono hb.size)
  clear hb
  generalize w3.alloc (.cells #[.int .i64 xa, .int .i64 xb] 3) = X0 at *
  refine (lawFirst_any _ [xa, xb] _ hR.out).mono ?_
  rw [HX.out]
  rintro e w' ⟨rfl, rfl⟩
  clear hR
  go_wp2_with fail
  have QA := hd RA.out
  have QB := hd RB.out
  have HQ := hd (blk_new X0 #[.slice none 0 0, .slice none 0 0, .slice none 0 0] 50)
  have hb := (Below.refl X0.heap.size X0).alloc (Nat.le_refl _) (.cells #[.slice none 0 0, .slice none 0 0, .slice none 0 0] 50)
  have HY := hd hb
  have SY := hd (show X0.heap.size < (X0.alloc (.cells #[.slice none 0 0, .slice none 0 0, .slice none 0 0] 50)).heap.size by simp)
  replace HB := hd (HB.out.trans (hb.mono (HB.out.size)))
  replace RA := hd ((RA.out.below hb (Nat.le_refl _)).mono hb.size)
  replace RB := hd ((RB.out.below hb (Nat.le_refl _)).mono hb.size)
  clear hb
  generalize (X0.alloc (.cells #[.slice none 0 0, .slice none 0 0, .slice none 0 0] 50)) = Y0 at *
  have HQ2 := hd HQ.out
  clear HQ
  clear RA RB
  have U1 := hd (Rd.nil Y0 Y0.heap.size)
  have U2 := hd (Rd.nil Y0 Y0.heap.size)
  have U3 := hd (Rd.nil Y0 Y0.heap.size)
  generalize Y0 = Z at *
  have RA := hd ((QA.out.below HY.out (Nat.le_refl _)).mono HY.out.size)
  have RB := hd ((QB.out.below HY.out (Nat.le_refl _)).mono HY.out.size)
  clear QA QB HY SY
  refine (lawSpans_any _ a _ RA.out FA.out (by have := LA.out; omega)).mono ?_
  rintro e z5 ⟨v, rfl, hv, hb⟩
  have RX := hd (rd_of_own hv)
  clear hv
  replace HQ2 := hd ((hb.block _ (blk_lt HQ2.out)).trans HQ2.out)
  replace HB := hd (HB.out.trans (hb.mono (HB.out.size)))
  replace RA := hd ((RA.out.below hb (Nat.le_refl _)).mono hb.size)
  replace RB := hd ((RB.out.below hb (Nat.le_refl _)).mono hb.size)
  replace U1 := hd ((U1.out.below hb (Nat.le_refl _)).mono hb.size)
  replace U2 := hd ((U2.out.below hb (Nat.le_refl _)).mono hb.size)
  replace U3 := hd ((U3.out.below hb (Nat.le_refl _)).mono hb.size)
  clear hb
  go_wp2_with fail
  refine (lawSpans_any _ b _ RB.out FB.out (by have := LB.out; omega)).mono ?_
  rintro e z6 ⟨v', rfl, hv, hb⟩
  have RY := hd (rd_of_own hv)
  clear hv
  replace HQ2 := hd ((hb.block _ (blk_lt HQ2.out)).trans HQ2.out)
  replace HB := hd (HB.out.trans (hb.mono (HB.out.size)))
  replace RA := hd ((RA.out.below hb (Nat.le_refl _)).mono hb.size)
  replace RB := hd ((RB.out.below hb (Nat.le_refl _)).mono hb.size)
  replace U1 := hd ((U1.out.below hb (Nat.le_refl _)).mono hb.size)
  replace U2 := hd ((U2.out.below hb (Nat.le_refl _)).mono hb.size)
  replace U3 := hd ((U3.out.below hb (Nat.le_refl _)).mono hb.size)
  replace RX := hd ((RX.out.below hb (Nat.le_refl _)).mono hb.size)
  clear hb
  go_wp2_with fail
  refine (OJ.out _ _ _ RX.out RY.out).mono ?_
  rintro e z7 ⟨g1, rfl, hr, hb⟩
  have G1 := hd hr
  clear hr RX RY
  replace HQ2 := hd ((hb.block _ (blk_lt HQ2.out)).trans HQ2.out)
  replace HB := hd (HB.out.trans (hb.mono (HB.out.size)))
  replace RA := hd ((RA.out.below hb (Nat.le_refl _)).mono hb.size)
  replace RB := hd ((RB.out.below hb (Nat.le_refl _)).mono hb.size)
  replace U1 := hd ((U1.out.below hb (Nat.le_refl _)).mono hb.size)
  replace U2 := hd ((U2.out.below hb (Nat.le_refl _)).mono hb.size)
  replace U3 := hd ((U3.out.below hb (Nat.le_refl _)).mono hb.size)
  clear hb
  go_wp2_with fail
  refine (lawSpans_any _ a _ RA.out FA.out (by have := LA.out; omega)).mono ?_
  rintro e z8 ⟨v, rfl, hv, hb⟩
  have RX := hd (rd_of_own hv)
  clear hv
  replace HQ2 := hd ((hb.block _ (blk_lt HQ2.out)).trans HQ2.out)
  replace HB := hd (HB.out.trans (hb.mono (HB.out.size)))
  replace RA := hd ((RA.out.below hb (Nat.le_refl _)).mono hb.size)
  replace RB := hd ((RB.out.below hb (Nat.le_refl _)).mono hb.size)
  replace U1 := hd ((U1.out.below hb (Nat.le_refl _)).mono hb.size)
  replace U2 := hd ((U2.out.below hb (Nat.le_refl _)).mono hb.size)
  replace U3 := hd ((U3.out.below hb (Nat.le_refl _)).mono hb.size)
  replace G1 := hd ((G1.out.below hb (Nat.le_refl _)).mono hb.size)
  clear hb
  go_wp2_with fail
  refine (lawSpans_any _ b _ RB.out FB.out (by have := LB.out; omega)).mono ?_
  rintro e z9 ⟨v', rfl, hv, hb⟩
  have RY := hd (rd_of_own hv)
  clear hv
  replace HQ2 := hd ((hb.block _ (blk_lt HQ2.out)).trans HQ2.out)
  replace HB := hd (HB.out.trans (hb.mono (HB.out.size)))
  replace RA := hd ((RA.out.below hb (Nat.le_refl _)).mono hb.size)
  replace RB := hd ((RB.out.below hb (Nat.le_refl _)).mono hb.size)
  replace U1 := hd ((U1.out.below hb (Nat.le_refl _)).mono hb.size)
  replace U2 := hd ((U2.out.below hb (Nat.le_refl _)).mono hb.size)
  replace U3 := hd ((U3.out.below hb (Nat.le_refl _)).mono hb.size)
  replace G1 := hd ((G1.out.below hb (Nat.le_refl _)).mono hb.size)
  replace RX := hd ((RX.out.below hb (Nat.le_refl _)).mono hb.size)
  clear hb
  go_wp2_with fail
  refine (OM.out _ _ _ RX.out RY.out).mono ?_
  rintro e z10 ⟨g2, rfl, hr, hb⟩
  have G2 := hd hr
  clear hr RX RY
  replace HQ2 := hd ((hb.block _ (blk_lt HQ2.out)).trans HQ2.out)
  replace HB := hd (HB.out.trans (hb.mono (HB.out.size)))
  replace RA := hd ((RA.out.below hb (Nat.le_refl _)).mono hb.size)
  replace RB := hd ((RB.out.below hb (Nat.le_refl _)).mono hb.size)
  replace U1 := hd ((U1.out.below hb (Nat.le_refl _)).mono hb.size)
  replace U2 := hd ((U2.out.below hb (Nat.le_refl _)).mono hb.size)
  replace U3 := hd ((U3.out.below hb (Nat.le_refl _)).mono hb.size)
  replace G1 := hd ((G1.out.below hb (Nat.le_refl _)).mono hb.size)
  clear hb
  go_wp2_with fail
  refine (lawSpans_any _ a _ RA.out FA.out (by have := LA.out; omega)).mono ?_
  rintro e z11 ⟨v, rfl, hv, hb⟩
  have RX := hd (rd_of_own hv)
  clear hv
  replace HQ2 := hd ((hb.block _ (blk_lt HQ2.out)).trans HQ2.out)
  replace HB := hd (HB.out.trans (hb.mono (HB.out.size)))
  replace RA := hd ((RA.out.below hb (Nat.le_refl _)).mono hb.size)
  replace RB := hd ((RB.out.below hb (Nat.le_refl _)).mono hb.size)
  replace U1 := hd ((U1.out.below hb (Nat.le_refl _)).mono hb.size)
  replace U2 := hd ((U2.out.below hb (Nat.le_refl _)).mono hb.size)
  replace U3 := hd ((U3.out.below hb (Nat.le_refl _)).mono hb.size)
  replace G1 := hd ((G1.out.below hb (Nat.le_refl _)).mono hb.size)
  replace G2 := hd ((G2.out.below hb (Nat.le_refl _)).mono hb.size)
  clear hb
  go_wp2_with fail
  refine (lawSpans_any _ b _ RB.out FB.out (by have := LB.out; omega)).mono ?_
  rintro e z12 ⟨v', rfl, hv, hb⟩
  have RY := hd (rd_of_own hv)
  clear hv
  replace HQ2 := hd ((hb.block _ (blk_lt HQ2.out)).trans HQ2.out)
  replace HB := hd (HB.out.trans (hb.mono (HB.out.size)))
  replace RA := hd ((RA.out.below hb (Nat.le_refl _)).mono hb.size)
  replace RB := hd ((RB.out.below hb (Nat.le_refl _)).mono hb.size)
  replace U1 := hd ((U1.out.below hb (Nat.le_refl _)).mono hb.size)
  replace U2 := hd ((U2.out.below hb (Nat.le_refl _)).mono hb.size)
  replace U3 := hd ((U3.out.below hb (Nat.le_refl _)).mono hb.size)
  replace G1 := hd ((G1.out.below hb (Nat.le_refl _)).mono hb.size)
  replace G2 := hd ((G2.out.below hb (Nat.le_refl _)).mono hb.size)
  replace RX := hd ((RX.out.below hb (Nat.le_refl _)).mono hb.size)
  clear hb
  go_wp2_with fail
  refine (OD.out _ _ _ RX.out RY.out).mono ?_
  rintro e z13 ⟨g3, rfl, hr, hb⟩
  have G3 := hd hr
  clear hr RX RY
  replace HQ2 := hd ((hb.block _ (blk_lt HQ2.out)).trans HQ2.out)
  replace HB := hd (HB.out.trans (hb.mono (HB.out.size)))
  replace RA := hd ((RA.out.below hb (Nat.le_refl _)).mono hb.size)
  replace RB := hd ((RB.out.below hb (Nat.le_refl _)).mono hb.size)
  replace U1 := hd ((U1.out.below hb (Nat.le_refl _)).mono hb.size)
  replace U2 := hd ((U2.out.below hb (Nat.le_refl _)).mono hb.size)
  replace U3 := hd ((U3.out.below hb (Nat.le_refl _)).mono hb.size)
  replace G1 := hd ((G1.out.below hb (Nat.le_refl _)).mono hb.size)
  replace G2 := hd ((G2.out.below hb (Nat.le_refl _)).mono hb.size)
  clear hb
  go_wp2_with fail
  refine (lawSpans_any _ a _ RA.out FA.out (by have := LA.out; omega)).mono ?_
  rintro e z14 ⟨v, rfl, hv, hb⟩
  have RX := hd (rd_of_own hv)
  clear hv
  replace HQ2 := hd ((hb.block _ (blk_lt HQ2.out)).trans HQ2.out)
  replace HB := hd (HB.out.trans (hb.mono (HB.out.size)))
  replace RA := hd ((RA.out.below hb (Nat.le_refl _)).mono hb.size)
  replace RB := hd ((RB.out.below hb (Nat.le_refl _)).mono hb.size)
  replace U1 := hd ((U1.out.below hb (Nat.le_refl _)).mono hb.size)
  replace U2 := hd ((U2.out.below hb (Nat.le_refl _)).mono hb.size)
  replace U3 := hd ((U3.out.below hb (Nat.le_refl _)).mono hb.size)
  replace G1 := hd ((G1.out.below hb (Nat.le_refl _)).mono hb.size)
  replace G2 := hd ((G2.out.below hb (Nat.le_refl _)).mono hb.size)
  replace G3 := hd ((G3.out.below hb (Nat.le_refl _)).mono hb.size)
  clear hb
  go_wp2_with fail
  refine (chkSpans_any _ a _ RX.out).mono ?_
  rw [CA.out]
  rintro e z15 ⟨rfl, hb⟩
  clear RX
  replace HQ2 := hd ((hb.block _ (blk_lt HQ2.out)).trans HQ2.out)
  replace HB := hd (HB.out.trans (hb.mono (HB.out.size)))
  replace RA := hd ((RA.out.below hb (Nat.le_refl _)).mono hb.size)
  replace RB := hd ((RB.out.below hb (Nat.le_refl _)).mono hb.size)
  replace U1 := hd ((U1.out.below hb (Nat.le_refl _)).mono hb.size)
  replace U2 := hd ((U2.out.below hb (Nat.le_refl _)).mono hb.size)
  replace U3 := hd ((U3.out.below hb (Nat.le_refl _)).mono hb.size)
  replace G1 := hd ((G1.out.below hb (Nat.le_refl _)).mono hb.size)
  replace G2 := hd ((G2.out.below hb (Nat.le_refl _)).mono hb.size)
  replace G3 := hd ((G3.out.below hb (Nat.le_refl _)).mono hb.size)
  clear hb
  go_wp2_with fail
  refine (refChkSpans_any _ a _ RA.out).mono ?_
  rw [CA.out]
  rintro e z16 ⟨rfl, hb⟩
  replace HQ2 := hd ((hb.block _ (blk_lt HQ2.out)).trans HQ2.out)
  replace HB := hd (HB.out.trans (hb.mono (HB.out.size)))
  replace RA := hd ((RA.out.below hb (Nat.le_refl _)).mono hb.size)
  replace RB := hd ((RB.out.below hb (Nat.le_refl _)).mono hb.size)
  replace U1 := hd ((U1.out.below hb (Nat.le_refl _)).mono hb.size)
  replace U2 := hd ((U2.out.below hb (Nat.le_refl _)).mono hb.size)
  replace U3 := hd ((U3.out.below hb (Nat.le_refl _)).mono hb.size)
  replace G1 := hd ((G1.out.below hb (Nat.le_refl _)).mono hb.size)
  replace G2 := hd ((G2.out.below hb (Nat.le_refl _)).mono hb.size)
  replace G3 := hd ((G3.out.below hb (Nat.le_refl _)).mono hb.size)
  clear hb
  have k0 := blk_cell HQ2.out 0
  simp at k0
  go_wp2_with fail
  clear k0
  refine (sameSpans_any _ _ [] [] _ G1.out U1.out).mono ?_
  rw [same_refl]
  rintro e z17 ⟨rfl, hb⟩
  replace HQ2 := hd ((hb.block _ (blk_lt HQ2.out)).trans HQ2.out)
  replace HB := hd (HB.out.trans (hb.mono (HB.out.size)))
  replace RA := hd ((RA.out.below hb (Nat.le_refl _)).mono hb.size)
  replace RB := hd ((RB.out.below hb (Nat.le_refl _)).mono hb.size)
  replace U1 := hd ((U1.out.below hb (Nat.le_refl _)).mono hb.size)
  replace U2 := hd ((U2.out.below hb (Nat.le_refl _)).mono hb.size)
  replace U3 := hd ((U3.out.below hb (Nat.le_refl _)).mono hb.size)
  replace G1 := hd ((G1.out.below hb (Nat.le_refl _)).mono hb.size)
  replace G2 := hd ((G2.out.below hb (Nat.le_refl _)).mono hb.size)
  replace G3 := hd ((G3.out.below hb (Nat.le_refl _)).mono hb.size)
  clear hb
  have k0 := blk_cell HQ2.out 1
  simp at k0
  go_wp2_with fail
  clear k0
  refine (sameSpans_any _ _ [] [] _ G2.out U2.out).mono ?_
  rw [same_refl]
  rintro e z18 ⟨rfl, hb⟩
  replace HQ2 := hd ((hb.block _ (blk_lt HQ2.out)).trans HQ2.out)
  replace HB := hd (HB.out.trans (hb.mono (HB.out.size)))
  replace RA := hd ((RA.out.below hb (Nat.le_refl _)).mono hb.size)
  replace RB := hd ((RB.out.below hb (Nat.le_refl _)).mono hb.size)
  replace U1 := hd ((U1.out.below hb (Nat.le_refl _)).mono hb.size)
  replace U2 := hd ((U2.out.below hb (Nat.le_refl _)).mono hb.size)
  replace U3 := hd ((U3.out.below hb (Nat.le_refl _)).mono hb.size)
  replace G1 := hd ((G1.out.below hb (Nat.le_refl _)).mono hb.size)
  replace G2 := hd ((G2.out.below hb (Nat.le_refl _)).mono hb.size)
  replace G3 := hd ((G3.out.below hb (Nat.le_refl _)).mono hb.size)
  clear hb
  have k0 := blk_cell HQ2.out 2
  simp at k0
  go_wp2_with fail
  clear k0
  refine (sameSpans_any _ _ [] [] _ G3.out U3.out).mono ?_
  rw [same_refl]
  rintro e z19 ⟨rfl, hb⟩
  replace HQ2 := hd ((hb.block _ (blk_lt HQ2.out)).trans HQ2.out)
  replace HB := hd (HB.out.trans (hb.mono (HB.out.size)))
  replace RA := hd ((RA.out.below hb (Nat.le_refl _)).mono hb.size)
  replace RB := hd ((RB.out.below hb (Nat.le_refl _)).mono hb.size)
  replace U1 := hd ((U1.out.below hb (Nat.le_refl _)).mono hb.size)
  replace U2 := hd ((U2.out.below hb (Nat.le_refl _)).mono hb.size)
  replace U3 := hd ((U3.out.below hb (Nat.le_refl _)).mono hb.size)
  replace G1 := hd ((G1.out.below hb (Nat.le_refl _)).mono hb.size)
  replace G2 := hd ((G2.out.below hb (Nat.le_refl _)).mono hb.size)
  replace G3 := hd ((G3.out.below hb (Nat.le_refl _)).mono hb.size)
  clear hb
  go_wp2_with fail
  go_returns
  exact ⟨rfl, HB.out⟩
end Go.Proofs.YtmcgkpfbehlpcaaGreatDoor
