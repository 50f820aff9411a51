/-
  The walk of GaugeSets at two canonical lists of at most 12 spans.
-/
import Derived.Test.YtmcgkpfbehlpcaaGreatDoorProg
import Derived.Test.YtmcgkpfbehlpcaaGreatDoorH3
import Derived.Maps.AppendAt
namespace Go.Proofs.YtmcgkpfbehlpcaaGreatDoor
open Go.RowKit
attribute [local go_sem] Oper.semAt_some

/-- A list of spans and no error. -/
def Got (l : List (Int × Int)) (w : World) (e : Ending) (w' : World) : Prop :=
  ∃ v, e = .returned (.tuple #[v, .int .i64 0]) ∧ Rd w' w'.heap.size v l.length (spc l) ∧ Full v ∧ Below w.heap.size w w'
theorem got_of {kp : Bool → Bool → Bool} {a b : List (Int × Int)} {w : World} {e : Ending} {w' : World} (hl : (choice kp a b).length ≤ 2048) (h : Chosen kp a b w e w') : Got (choice kp a b) w e w' := by
  unfold Chosen at h
  rw [if_neg (by omega)] at h
  obtain ⟨v, rfl, h1, h2⟩ := h
  exact ⟨v, rfl, rd_of_own h1, full_own h1, h2⟩
theorem same_refl (l : List (Int × Int)) : sameF (fun x y : Int × Int => x == y) (0, 0) l l = true := sameF_yes (fun x y : Int × Int => x == y) (0, 0) l l rfl (fun j _ => by simp)

/-- Two slices, and what Join, Meet or Minus hands back of them. -/
def Op2 (f : FuncId) (a b l : List (Int × Int)) : Prop :=
  ∀ (W : World) (s1 s2 : Value), Rd W W.heap.size s1 a.length (spc a) → Rd W W.heap.size s2 b.length (spc b) → Calls Tryz.prog f #[s1, s2] W (Got l W)

/-- The ticks that are asked. -/
def tkK (t : Int) (l : List (Int × Int)) (k : Nat) : List Int := t :: (l.take k).flatMap fun s => [s.1 - 1, s.1, s.2 - 1, s.2]
theorem tkK_len (t : Int) (l : List (Int × Int)) (k : Nat) (h : k ≤ l.length) : (tkK t l k).length = 1 + k * 4 := by
  unfold tkK
  rw [List.length_cons, List.length_flatMap]
  simp only [List.length_cons, List.length_nil]
  rw [List.map_const', List.sum_replicate_nat, List.length_take]
  omega
theorem tkK_succ (t : Int) (l : List (Int × Int)) (k : Nat) (h : k < l.length) : tkK t l (k + 1) = tkK t l k ++ [(l.getD k (0, 0)).1 - 1, (l.getD k (0, 0)).1, (l.getD k (0, 0)).2 - 1, (l.getD k (0, 0)).2] := by
  unfold tkK
  rw [List.take_succ_eq_append_getElem h, List.flatMap_append]
  simp [h]


theorem own_ne {W : World} {B1 B2 : Nat} {e1 e2 : TypeId} {s1 s2 : Nat} {v1 v2 : Value} {n1 n2 : Nat} {xs1 xs2 : List Value} (h1 : W.ownsRow B1 e1 s1 v1 n1 xs1) (h2 : W.ownsRow B2 e2 s2 v2 n2 xs2) (he : e1 ≠ e2) : v1.ownBlock = none ∨ v1.ownBlock ≠ v2.ownBlock := by
  rcases h1.2 with ⟨rfl, _⟩ | ⟨g, cap, cur, rfl, _, hg, _⟩
  · exact .inl rfl
  · exact .inr fun h => blk_not_row hg he h2 (by simpa [Value.ownBlock] using h)
theorem cells_new (W : World) (cs : Array Value) (T : TypeId) (xs : List Value) (hx : cs.toList = xs) : ∀ j u, xs[j]? = some u → (W.alloc (.cells cs T)).cell? ((⟨W.heap.size, 0, none⟩ : Addr).add j) = some u := by
  subst hx
  intro j u hu
  have e : (⟨W.heap.size, 0, none⟩ : Addr).add j = ⟨W.heap.size, j, none⟩ := by unfold Addr.add; split <;> simp_all
  rw [e, World.cell?_alloc_new]
  simpa using hu
set_option maxRecDepth 1000000 in
/-- append of spans that came in, or were made, to a row of the call's own. -/
theorem append_spans {w : World} {ops : Array Oper} {rest : List Oper} {o : Oper} {a : Act} {Q : Exit → Act → World → Prop} (hgd : o.guard = none) (s x : Operand)
    (ho : o.op = .call { callee := .builtin .append, args := #[s, x], argTypes := #[23, 23] })
    (base : Nat) (v : Value) (n : Nat) (xs : List Value) (hs : a.eval s = v) (hown : w.ownsRow base 27 2 v n xs) (sl : Value) (l : List (Int × Int)) (hx : a.eval x = sl) (hr : Rd w w.heap.size sl l.length (spc l)) (hF : Full sl)
    (hn : n + l.length ≤ 100000) (hbase : base ≤ w.heap.size)
    (h : ∀ v' w', w'.ownsRow base 27 2 v' (n + l.length) (xs ++ spc l) → w.grownBy w' v.ownBlock → wpList Tryz.prog ops Q rest (a.put o.dst v') w') : wpList Tryz.prog ops Q (o :: rest) a w := by
  obtain ⟨i0, hi, hz0, hz1, hz2⟩ := info_parts spanInfo
  obtain ⟨A, c, e, hc1, hc2, hcell⟩ := hr
  rcases hF with hF | ⟨ad, n', c', hF⟩
  · have hl : l = [] := by
      rw [hF] at e
      injection e with _ h2 _
      exact List.eq_nil_of_length_eq_zero h2.symm
    subst hl
    refine wpList_append_own_none hgd s x 23 ho base 27 i0 2 Tryz.underlying23 hi v n xs hs hown (hx.trans hF) ?_
    exact h v w (by simpa [spc] using hown) (below_gb (Below.refl _ _) _)
  · rw [hF] at e
    injection e with e1 e2 e3
    subst e1 e2 e3
    refine wpList_append_own w hgd s x 23 ho base 27 i0 (.agg #[.int .i64 0, .int .i64 0]) 2 16 Tryz.underlying23 hi hz0 hz1 hz2 rfl (by decide) v n xs hs hown ad l.length _ (spc l) (hx.trans hF) (by rw [spc_len]; omega) ?_ (one_spc l) (by unfold maxLen; omega) (by omega) hbase fun v' w' h1 h2 _ => h v' w' h1 h2
    intro j u hu
    have hj : j < (spc l).length := (List.getElem?_eq_some_iff.1 hu).1
    have hlen := spc_len l
    obtain ⟨b, off, e4, -, hc3⟩ := hcell (by omega)
    injection e4 with e4
    subst e4
    have e : (⟨b, off, none⟩ : Addr).add j = ⟨b, off + j, none⟩ := by unfold Addr.add; split <;> simp_all
    rw [e, hc3 j hj, hu]

/-- A slice of spans in a block of its own. -/
def KeepU (W : World) (u : Value) (l : List (Int × Int)) : Prop :=
  ∃ (A : Option Addr) (c : Nat), u = .slice A l.length c ∧ (0 < l.length → ∃ g cur, A = some ⟨g, 0, none⟩ ∧ W.heap[g]? = some (.cells cur 27 (0, 0)) ∧ ∀ j, j < 2 * l.length → cur[j]? = (spc l)[j]?)
theorem keepU_own {W : World} {B : Nat} {u : Value} {l : List (Int × Int)} (h : W.ownsRow B 27 2 u l.length (spc l)) : KeepU W u l := by
  rcases h.2 with ⟨rfl, hn⟩ | ⟨g, cap, cur, rfl, _, hg, _, _, _, htake⟩
  · exact ⟨none, 0, by rw [hn], fun h => absurd h (by omega)⟩
  · refine ⟨_, _, rfl, fun _ => ⟨g, cur, rfl, hg, fun j hj => ?_⟩⟩
    rw [← htake, List.getElem?_take_of_lt (by omega)]
    simp
theorem keepU_below {W W' : World} {u : Value} {l : List (Int × Int)} (h : KeepU W u l) (hb : Below W.heap.size W W') : KeepU W' u l := by
  obtain ⟨A, c, e, h⟩ := h
  refine ⟨A, c, e, fun h0 => ?_⟩
  obtain ⟨g, cur, e, hg, hc⟩ := h h0
  exact ⟨g, cur, e, (hb.block _ (blk_lt hg)).trans hg, hc⟩
theorem keepU_grown {W W' : World} {B k : Nat} {v : Value} {xs : List Value} {u : Value} {l : List (Int × Int)} (h : KeepU W u l) (hrow : W.ownsRow B 3 1 v k xs) (hg : W.grownBy W' v.ownBlock) : KeepU W' u l := by
  obtain ⟨A, c, e, h⟩ := h
  refine ⟨A, c, e, fun h0 => ?_⟩
  obtain ⟨g, cur, e, hgb, hc⟩ := h h0
  exact ⟨g, cur, e, (hg.block g (blk_lt hgb) (blk_not_row hgb (by decide) hrow)).trans hgb, hc⟩

set_option maxRecDepth 1000000 in
set_option maxHeartbeats 16000000 in
theorem sets_main (HA : Hid Awake) (sa sb : Value) (a b J M D : List (Int × Int)) (t : Int) (w : World) (ha : Rd w w.heap.size sa a.length (spc a)) (hb : Rd w w.heap.size sb b.length (spc b)) (fa : Full sa) (fb : Full sb)
    (hn1 : a.length ≤ 12) (hn2 : b.length ≤ 12) (h0a : chkSpans a = 0) (h0b : chkSpans b = 0) (ht : 0 ≤ t ∧ t ≤ 65535)
    (OJ : Hid (Op2 25 a b J)) (OM : Hid (Op2 27 a b M)) (OD : Hid (Op2 28 a b D)) (OK : Hid (Op2 25 b a J)) (ON : Hid (Op2 27 b a M)) (OZ : Hid (Op2 28 a a []))
    (cJ : chkSpans J = 0) (cM : chkSpans M = 0) (cD : chkSpans D = 0) (lJ : J.length ≤ 100) (lM : M.length ≤ 100) (lD : D.length ≤ 100)
    (tJ : Hid (∀ x, hasL J x = (hasL a x || hasL b x))) (tM : Hid (∀ x, hasL M x = (hasL a x && hasL b x))) (tD : Hid (∀ x, hasL D x = (hasL a x && !hasL b x))) :
    Calls Tryz.prog 5 #[sa, sb, .int .u16 t] w fun e w' => e = .returned (.bool true) ∧ Below w.heap.size w w' := by
  have HB := hd (Below.refl w.heap.size w)
  have RA := hd ha
  have RB := hd hb
  have FA := hd fa
  have FB := hd fb
  have CA := hd h0a
  have CB := hd h0b
  have LA := hd hn1
  have LB := hd hn2
  have CJ := hd cJ
  have CM := hd cM
  have CD := hd cD
  have LJ := hd lJ
  have LM := hd lM
  have LD := hd lD
  have HT := hd ht
  obtain ⟨A1, c1, rfl, -⟩ := ha
  obtain ⟨A2, c2, rfl, -⟩ := hb
  have h1' : (a.length : Int) ≤ 12 := by omega
  have h2' : (b.length : Int) ≤ 12 := by omega
  obtain ⟨ht1, ht2⟩ := ht
  clear fa fb h0a h0b cJ cM cD lJ lM lD
  go_enter Tryz.func5, Tryz.ntmps5
  go_wp2_with fail
  refine (HA.out _).mono ?_
  rintro e w1 ⟨rfl, hb⟩
  replace HB := hd (HB.out.trans (hb.mono (HB.out.size)))
  replace RA := hd ((RA.out.below hb (Nat.le_refl _)).mono hb.size)
  replace RB := hd ((RB.out.below hb (Nat.le_refl _)).mono hb.size)
  clear hb
  go_wp2_with fail
  refine (refChkSpans_any _ a _ RA.out).mono ?_
  rw [CA.out]
  rintro e w2 ⟨rfl, hb⟩
  replace HB := hd (HB.out.trans (hb.mono (HB.out.size)))
  replace RA := hd ((RA.out.below hb (Nat.le_refl _)).mono hb.size)
  replace RB := hd ((RB.out.below hb (Nat.le_refl _)).mono hb.size)
  clear hb
  go_wp2_with fail
  refine (refChkSpans_any _ b _ RB.out).mono ?_
  rw [CB.out]
  rintro e w3 ⟨rfl, hb⟩
  replace HB := hd (HB.out.trans (hb.mono (HB.out.size)))
  replace RA := hd ((RA.out.below hb (Nat.le_refl _)).mono hb.size)
  replace RB := hd ((RB.out.below hb (Nat.le_refl _)).mono hb.size)
  clear hb
  go_wp2_with fail
  refine (lawSpans_any _ a _ RA.out FA.out (by have := LA.out; omega)).mono ?_
  rintro e w4 ⟨v, rfl, hv, hb⟩
  have RX := hd (rd_of_own hv)
  clear hv
  replace HB := hd (HB.out.trans (hb.mono (HB.out.size)))
  replace RA := hd ((RA.out.below hb (Nat.le_refl _)).mono hb.size)
  replace RB := hd ((RB.out.below hb (Nat.le_refl _)).mono hb.size)
  clear hb
  go_wp2_with fail
  refine (lawSpans_any _ b _ RB.out FB.out (by have := LB.out; omega)).mono ?_
  rintro e w5 ⟨v', rfl, hv, hb⟩
  have RY := hd (rd_of_own hv)
  clear hv
  replace HB := hd (HB.out.trans (hb.mono (HB.out.size)))
  replace RA := hd ((RA.out.below hb (Nat.le_refl _)).mono hb.size)
  replace RB := hd ((RB.out.below hb (Nat.le_refl _)).mono hb.size)
  replace RX := hd ((RX.out.below hb (Nat.le_refl _)).mono hb.size)
  clear hb
  go_wp2_with fail
  refine (OJ.out _ _ _ RX.out RY.out).mono ?_
  rintro e w6 ⟨r1, rfl, hr, hf, hb⟩
  have Q1 := hd hr
  have G1 := hd hf
  clear hr hf RX RY
  replace HB := hd (HB.out.trans (hb.mono (HB.out.size)))
  replace RA := hd ((RA.out.below hb (Nat.le_refl _)).mono hb.size)
  replace RB := hd ((RB.out.below hb (Nat.le_refl _)).mono hb.size)
  clear hb
  go_wp2_with fail
  refine (lawSpans_any _ a _ RA.out FA.out (by have := LA.out; omega)).mono ?_
  rintro e w7 ⟨v, rfl, hv, hb⟩
  have RX := hd (rd_of_own hv)
  clear hv
  replace HB := hd (HB.out.trans (hb.mono (HB.out.size)))
  replace RA := hd ((RA.out.below hb (Nat.le_refl _)).mono hb.size)
  replace RB := hd ((RB.out.below hb (Nat.le_refl _)).mono hb.size)
  replace Q1 := hd ((Q1.out.below hb (Nat.le_refl _)).mono hb.size)
  clear hb
  go_wp2_with fail
  refine (lawSpans_any _ b _ RB.out FB.out (by have := LB.out; omega)).mono ?_
  rintro e w8 ⟨v', rfl, hv, hb⟩
  have RY := hd (rd_of_own hv)
  clear hv
  replace HB := hd (HB.out.trans (hb.mono (HB.out.size)))
  replace RA := hd ((RA.out.below hb (Nat.le_refl _)).mono hb.size)
  replace RB := hd ((RB.out.below hb (Nat.le_refl _)).mono hb.size)
  replace Q1 := hd ((Q1.out.below hb (Nat.le_refl _)).mono hb.size)
  replace RX := hd ((RX.out.below hb (Nat.le_refl _)).mono hb.size)
  clear hb
  go_wp2_with fail
  refine (OM.out _ _ _ RX.out RY.out).mono ?_
  rintro e w9 ⟨r2, rfl, hr, hf, hb⟩
  have Q2 := hd hr
  have G2 := hd hf
  clear hr hf RX RY
  replace HB := hd (HB.out.trans (hb.mono (HB.out.size)))
  replace RA := hd ((RA.out.below hb (Nat.le_refl _)).mono hb.size)
  replace RB := hd ((RB.out.below hb (Nat.le_refl _)).mono hb.size)
  replace Q1 := hd ((Q1.out.below hb (Nat.le_refl _)).mono hb.size)
  clear hb
  go_wp2_with fail
  refine (lawSpans_any _ a _ RA.out FA.out (by have := LA.out; omega)).mono ?_
  rintro e w10 ⟨v, rfl, hv, hb⟩
  have RX := hd (rd_of_own hv)
  clear hv
  replace HB := hd (HB.out.trans (hb.mono (HB.out.size)))
  replace RA := hd ((RA.out.below hb (Nat.le_refl _)).mono hb.size)
  replace RB := hd ((RB.out.below hb (Nat.le_refl _)).mono hb.size)
  replace Q1 := hd ((Q1.out.below hb (Nat.le_refl _)).mono hb.size)
  replace Q2 := hd ((Q2.out.below hb (Nat.le_refl _)).mono hb.size)
  clear hb
  go_wp2_with fail
  refine (lawSpans_any _ b _ RB.out FB.out (by have := LB.out; omega)).mono ?_
  rintro e w11 ⟨v', rfl, hv, hb⟩
  have RY := hd (rd_of_own hv)
  clear hv
  replace HB := hd (HB.out.trans (hb.mono (HB.out.size)))
  replace RA := hd ((RA.out.below hb (Nat.le_refl _)).mono hb.size)
  replace RB := hd ((RB.out.below hb (Nat.le_refl _)).mono hb.size)
  replace Q1 := hd ((Q1.out.below hb (Nat.le_refl _)).mono hb.size)
  replace Q2 := hd ((Q2.out.below hb (Nat.le_refl _)).mono hb.size)
  replace RX := hd ((RX.out.below hb (Nat.le_refl _)).mono hb.size)
  clear hb
  go_wp2_with fail
  refine (OD.out _ _ _ RX.out RY.out).mono ?_
  rintro e w12 ⟨r3, rfl, hr, hf, hb⟩
  have Q3 := hd hr
  have G3 := hd hf
  clear hr hf RX RY
  replace HB := hd (HB.out.trans (hb.mono (HB.out.size)))
  replace RA := hd ((RA.out.below hb (Nat.le_refl _)).mono hb.size)
  replace RB := hd ((RB.out.below hb (Nat.le_refl _)).mono hb.size)
  replace Q1 := hd ((Q1.out.below hb (Nat.le_refl _)).mono hb.size)
  replace Q2 := hd ((Q2.out.below hb (Nat.le_refl _)).mono hb.size)
  clear hb
  go_wp2_with fail
  refine (lawSpans_any _ b _ RB.out FB.out (by have := LB.out; omega)).mono ?_
  rintro e w13 ⟨v, rfl, hv, hb⟩
  have RX := hd (rd_of_own hv)
  clear hv
  replace HB := hd (HB.out.trans (hb.mono (HB.out.size)))
  replace RA := hd ((RA.out.below hb (Nat.le_refl _)).mono hb.size)
  replace RB := hd ((RB.out.below hb (Nat.le_refl _)).mono hb.size)
  replace Q1 := hd ((Q1.out.below hb (Nat.le_refl _)).mono hb.size)
  replace Q2 := hd ((Q2.out.below hb (Nat.le_refl _)).mono hb.size)
  replace Q3 := hd ((Q3.out.below hb (Nat.le_refl _)).mono hb.size)
  clear hb
  go_wp2_with fail
  refine (lawSpans_any _ a _ RA.out FA.out (by have := LA.out; omega)).mono ?_
  rintro e w14 ⟨v', rfl, hv, hb⟩
  have RY := hd (rd_of_own hv)
  clear hv
  replace HB := hd (HB.out.trans (hb.mono (HB.out.size)))
  replace RA := hd ((RA.out.below hb (Nat.le_refl _)).mono hb.size)
  replace RB := hd ((RB.out.below hb (Nat.le_refl _)).mono hb.size)
  replace Q1 := hd ((Q1.out.below hb (Nat.le_refl _)).mono hb.size)
  replace Q2 := hd ((Q2.out.below hb (Nat.le_refl _)).mono hb.size)
  replace Q3 := hd ((Q3.out.below hb (Nat.le_refl _)).mono hb.size)
  replace RX := hd ((RX.out.below hb (Nat.le_refl _)).mono hb.size)
  clear hb
  go_wp2_with fail
  refine (OK.out _ _ _ RX.out RY.out).mono ?_
  rintro e w15 ⟨r4, rfl, hr, hf, hb⟩
  have Q4 := hd hr
  have G4 := hd hf
  clear hr hf RX RY
  replace HB := hd (HB.out.trans (hb.mono (HB.out.size)))
  replace RA := hd ((RA.out.below hb (Nat.le_refl _)).mono hb.size)
  replace RB := hd ((RB.out.below hb (Nat.le_refl _)).mono hb.size)
  replace Q1 := hd ((Q1.out.below hb (Nat.le_refl _)).mono hb.size)
  replace Q2 := hd ((Q2.out.below hb (Nat.le_refl _)).mono hb.size)
  replace Q3 := hd ((Q3.out.below hb (Nat.le_refl _)).mono hb.size)
  clear hb
  go_wp2_with fail
  refine (lawSpans_any _ b _ RB.out FB.out (by have := LB.out; omega)).mono ?_
  rintro e w16 ⟨v, rfl, hv, hb⟩
  have RX := hd (rd_of_own hv)
  clear hv
  replace HB := hd (HB.out.trans (hb.mono (HB.out.size)))
  replace RA := hd ((RA.out.below hb (Nat.le_refl _)).mono hb.size)
  replace RB := hd ((RB.out.below hb (Nat.le_refl _)).mono hb.size)
  replace Q1 := hd ((Q1.out.below hb (Nat.le_refl _)).mono hb.size)
  replace Q2 := hd ((Q2.out.below hb (Nat.le_refl _)).mono hb.size)
  replace Q3 := hd ((Q3.out.below hb (Nat.le_refl _)).mono hb.size)
  replace Q4 := hd ((Q4.out.below hb (Nat.le_refl _)).mono hb.size)
  clear hb
  go_wp2_with fail
  refine (lawSpans_any _ a _ RA.out FA.out (by have := LA.out; omega)).mono ?_
  rintro e w17 ⟨v', rfl, hv, hb⟩
  have RY := hd (rd_of_own hv)
  clear hv
  replace HB := hd (HB.out.trans (hb.mono (HB.out.size)))
  replace RA := hd ((RA.out.below hb (Nat.le_refl _)).mono hb.size)
  replace RB := hd ((RB.out.below hb (Nat.le_refl _)).mono hb.size)
  replace Q1 := hd ((Q1.out.below hb (Nat.le_refl _)).mono hb.size)
  replace Q2 := hd ((Q2.out.below hb (Nat.le_refl _)).mono hb.size)
  replace Q3 := hd ((Q3.out.below hb (Nat.le_refl _)).mono hb.size)
  replace Q4 := hd ((Q4.out.below hb (Nat.le_refl _)).mono hb.size)
  replace RX := hd ((RX.out.below hb (Nat.le_refl _)).mono hb.size)
  clear hb
  go_wp2_with fail
  refine (ON.out _ _ _ RX.out RY.out).mono ?_
  rintro e w18 ⟨r5, rfl, hr, hf, hb⟩
  have Q5 := hd hr
  have G5 := hd hf
  clear hr hf RX RY
  replace HB := hd (HB.out.trans (hb.mono (HB.out.size)))
  replace RA := hd ((RA.out.below hb (Nat.le_refl _)).mono hb.size)
  replace RB := hd ((RB.out.below hb (Nat.le_refl _)).mono hb.size)
  replace Q1 := hd ((Q1.out.below hb (Nat.le_refl _)).mono hb.size)
  replace Q2 := hd ((Q2.out.below hb (Nat.le_refl _)).mono hb.size)
  replace Q3 := hd ((Q3.out.below hb (Nat.le_refl _)).mono hb.size)
  replace Q4 := hd ((Q4.out.below hb (Nat.le_refl _)).mono hb.size)
  clear hb
  go_wp2_with fail
  refine (lawSpans_any _ a _ RA.out FA.out (by have := LA.out; omega)).mono ?_
  rintro e w19 ⟨v, rfl, hv, hb⟩
  have RX := hd (rd_of_own hv)
  clear hv
  replace HB := hd (HB.out.trans (hb.mono (HB.out.size)))
  replace RA := hd ((RA.out.below hb (Nat.le_refl _)).mono hb.size)
  replace RB := hd ((RB.out.below hb (Nat.le_refl _)).mono hb.size)
  replace Q1 := hd ((Q1.out.below hb (Nat.le_refl _)).mono hb.size)
  replace Q2 := hd ((Q2.out.below hb (Nat.le_refl _)).mono hb.size)
  replace Q3 := hd ((Q3.out.below hb (Nat.le_refl _)).mono hb.size)
  replace Q4 := hd ((Q4.out.below hb (Nat.le_refl _)).mono hb.size)
  replace Q5 := hd ((Q5.out.below hb (Nat.le_refl _)).mono hb.size)
  clear hb
  go_wp2_with fail
  refine (lawSpans_any _ a _ RA.out FA.out (by have := LA.out; omega)).mono ?_
  rintro e w20 ⟨v', rfl, hv, hb⟩
  have RY := hd (rd_of_own hv)
  clear hv
  replace HB := hd (HB.out.trans (hb.mono (HB.out.size)))
  replace RA := hd ((RA.out.below hb (Nat.le_refl _)).mono hb.size)
  replace RB := hd ((RB.out.below hb (Nat.le_refl _)).mono hb.size)
  replace Q1 := hd ((Q1.out.below hb (Nat.le_refl _)).mono hb.size)
  replace Q2 := hd ((Q2.out.below hb (Nat.le_refl _)).mono hb.size)
  replace Q3 := hd ((Q3.out.below hb (Nat.le_refl _)).mono hb.size)
  replace Q4 := hd ((Q4.out.below hb (Nat.le_refl _)).mono hb.size)
  replace Q5 := hd ((Q5.out.below hb (Nat.le_refl _)).mono hb.size)
  replace RX := hd ((RX.out.below hb (Nat.le_refl _)).mono hb.size)
  clear hb
  go_wp2_with fail
  refine (OZ.out _ _ _ RX.out RY.out).mono ?_
  rintro e w21 ⟨r6, rfl, hr, hf, hb⟩
  have Q6 := hd hr
  have G6 := hd hf
  clear hr hf RX RY
  replace HB := hd (HB.out.trans (hb.mono (HB.out.size)))
  replace RA := hd ((RA.out.below hb (Nat.le_refl _)).mono hb.size)
  replace RB := hd ((RB.out.below hb (Nat.le_refl _)).mono hb.size)
  replace Q1 := hd ((Q1.out.below hb (Nat.le_refl _)).mono hb.size)
  replace Q2 := hd ((Q2.out.below hb (Nat.le_refl _)).mono hb.size)
  replace Q3 := hd ((Q3.out.below hb (Nat.le_refl _)).mono hb.size)
  replace Q4 := hd ((Q4.out.below hb (Nat.le_refl _)).mono hb.size)
  replace Q5 := hd ((Q5.out.below hb (Nat.le_refl _)).mono hb.size)
  clear hb
  obtain ⟨Az, cz, rfl, -⟩ := Q6.out
  simp only [List.length_nil] at *
  go_wp2_with fail
  refine (sameSpans_any _ _ J J _ Q1.out Q4.out).mono ?_
  rw [same_refl]
  rintro e w22 ⟨rfl, hb⟩
  replace HB := hd (HB.out.trans (hb.mono (HB.out.size)))
  replace RA := hd ((RA.out.below hb (Nat.le_refl _)).mono hb.size)
  replace RB := hd ((RB.out.below hb (Nat.le_refl _)).mono hb.size)
  replace Q1 := hd ((Q1.out.below hb (Nat.le_refl _)).mono hb.size)
  replace Q2 := hd ((Q2.out.below hb (Nat.le_refl _)).mono hb.size)
  replace Q3 := hd ((Q3.out.below hb (Nat.le_refl _)).mono hb.size)
  replace Q4 := hd ((Q4.out.below hb (Nat.le_refl _)).mono hb.size)
  replace Q5 := hd ((Q5.out.below hb (Nat.le_refl _)).mono hb.size)
  clear hb
  go_wp2_with fail
  refine (sameSpans_any _ _ M M _ Q2.out Q5.out).mono ?_
  rw [same_refl]
  rintro e w23 ⟨rfl, hb⟩
  replace HB := hd (HB.out.trans (hb.mono (HB.out.size)))
  replace RA := hd ((RA.out.below hb (Nat.le_refl _)).mono hb.size)
  replace RB := hd ((RB.out.below hb (Nat.le_refl _)).mono hb.size)
  replace Q1 := hd ((Q1.out.below hb (Nat.le_refl _)).mono hb.size)
  replace Q2 := hd ((Q2.out.below hb (Nat.le_refl _)).mono hb.size)
  replace Q3 := hd ((Q3.out.below hb (Nat.le_refl _)).mono hb.size)
  replace Q5 := hd ((Q5.out.below hb (Nat.le_refl _)).mono hb.size)
  clear hb
  obtain ⟨Aj, cj, rfl, -⟩ := Q1.out
  obtain ⟨Am, cm, rfl, -⟩ := Q2.out
  obtain ⟨Ad, cd, rfl, -⟩ := Q3.out
  go_wp2_with fail
  have hbk := blk_new w23 #[.slice Aj J.length cj, .slice Am M.length cm, .slice Ad D.length cd] 23
  have hb := (Below.refl w23.heap.size w23).alloc (Nat.le_refl _) (.cells #[.slice Aj J.length cj, .slice Am M.length cm, .slice Ad D.length cd] 23)
  replace HB := hd (HB.out.trans (hb.mono (HB.out.size)))
  replace RA := hd ((RA.out.below hb (Nat.le_refl _)).mono hb.size)
  replace RB := hd ((RB.out.below hb (Nat.le_refl _)).mono hb.size)
  replace Q1 := hd ((Q1.out.below hb (Nat.le_refl _)).mono hb.size)
  replace Q2 := hd ((Q2.out.below hb (Nat.le_refl _)).mono hb.size)
  replace Q3 := hd ((Q3.out.below hb (Nat.le_refl _)).mono hb.size)
  clear hb
  have HSZ := hd (World.size_alloc w23 (.cells #[.slice Aj J.length cj, .slice Am M.length cm, .slice Ad D.length cd] 23))
  generalize (w23.alloc (.cells #[.slice Aj J.length cj, .slice Am M.length cm, .slice Ad D.length cd] 23)) = X0 at *
  have hlt := blk_lt hbk
  have k0 := blk_cell hbk 0
  have k1 := blk_cell hbk 1
  have k2 := blk_cell hbk 2
  simp at k0 k1 k2
  have HK := hd (And.intro k0 (And.intro k1 k2))
  clear hbk k0 k1 k2
  go_loopw [133] (fun i wr => ∃ k : Nat, k ≤ 3 ∧ i = .int .i64 k ∧ Below X0.heap.size X0 wr) (fun i _ => 3 - (intOf i).toNat)
  case atStart => exact ⟨0, by omega, rfl, Below.refl _ _⟩
  case round =>
    obtain ⟨k, hk, rfl, hbw⟩ := hrel
    by_cases hlt3 : k < 3
    · obtain ⟨A3, c3, l, HE, HR, HFu, HCk, HLn⟩ : ∃ (A3 : Option Addr) (c3 : Nat) (l : List (Int × Int)), X0.cell? ⟨w23.heap.size, k, none⟩ = some (.slice A3 l.length c3) ∧ Rd X0 X0.heap.size (.slice A3 l.length c3) l.length (spc l) ∧ Full (.slice A3 l.length c3) ∧ chkSpans l = 0 ∧ l.length ≤ 100 := by
        rcases (show k = 0 ∨ k = 1 ∨ k = 2 by omega) with rfl | rfl | rfl
        · exact ⟨Aj, cj, J, HK.out.1, Q1.out, G1.out, CJ.out, LJ.out⟩
        · exact ⟨Am, cm, M, HK.out.2.1, Q2.out, G2.out, CM.out, LM.out⟩
        · exact ⟨Ad, cd, D, HK.out.2.2, Q3.out, G3.out, CD.out, LD.out⟩
      have c0 : wr.cell? ⟨w23.heap.size, k, none⟩ = some (.slice A3 l.length c3) := (hbw.cell (p := ⟨_, _, none⟩) hlt).trans HE
      have RX := hd ((HR.below hbw (Nat.le_refl _)).mono hbw.size)
      have HCk' := hd HCk
      have HBW := hd hbw
      clear HE HR HCk hbw
      go_wp2_with fail
      refine (lawSpans_any _ l _ RX.out HFu (by omega)).mono ?_
      rintro e y1 ⟨v, rfl, hv, hb⟩
      replace HBW := hd (HBW.out.trans (hb.mono HBW.out.size))
      have RY := hd (rd_of_own hv)
      clear hv hb c0
      go_wp2_with fail
      refine (chkSpans_zero _ l _ RY.out HCk'.out).mono ?_
      rintro e y2 ⟨rfl, hb⟩
      replace HBW := hd (HBW.out.trans (hb.mono HBW.out.size))
      clear hb
      go_wp2_with fail
      go_roundw
      case rel => exact ⟨k + 1, by omega, by go_num, HBW.out⟩
      case measure => simp [intOf]; omega
    · obtain rfl : k = 3 := by omega
      have hb := hbw
      clear hbw hlt HK
      replace HB := hd (HB.out.trans (hb.mono (HB.out.size)))
      replace RA := hd ((RA.out.below hb (Nat.le_refl _)).mono hb.size)
      replace RB := hd ((RB.out.below hb (Nat.le_refl _)).mono hb.size)
      replace Q1 := hd ((Q1.out.below hb (Nat.le_refl _)).mono hb.size)
      replace Q2 := hd ((Q2.out.below hb (Nat.le_refl _)).mono hb.size)
      replace Q3 := hd ((Q3.out.below hb (Nat.le_refl _)).mono hb.size)
      clear hb
      go_wp2_with fail
      have HO := hd (show (wr.alloc (.cells #[.int .i64 t] 3)).ownsRow wr.heap.size 3 1 (.slice (some ⟨wr.heap.size, 0, none⟩) 1 1) (1 + 0 * 4) ((tkK t (a ++ b) 0).map (Value.int .i64)) from World.ownsRow_lit wr #[.int .i64 t] 1 (Nat.le_refl _) (by decide) rfl)
      have HW := hd ((Below.refl wr.heap.size wr).alloc (Nat.le_refl _) (.cells #[.int .i64 t] 3))
      have HSW := hd (World.size_alloc wr (.cells #[.int .i64 t] 3))
      have HW0 := hd (show wr.heap.size ≤ (wr.alloc (.cells #[.int .i64 t] 3)).heap.size by simp)
      generalize (wr.alloc (.cells #[.int .i64 t] 3)) = z0 at *
      refine (lawSpans_any _ a _ ((RA.out.below HW.out (Nat.le_refl _)).mono HW.out.size) FA.out (by have := LA.out; omega)).mono ?_
      rintro e z1 ⟨va, rfl, hv, hb⟩
      replace HO := hd (HO.out.kept (below_gb hb none) (by simp [Value.ownBlock]))
      replace HW := hd (HW.out.trans (hb.mono HW.out.size))
      have HV := hd (own_base hv HW0.out)
      clear hv hb
      go_wp2_with (at_builtin; refine append_spans rfl (.tmp 146) (.tmp 147) rfl _ _ _ _ rfl HV.out _ b rfl ((RB.out.below HW.out (Nat.le_refl _)).mono HW.out.size) FB.out ?_ ?_ ?_)
      · have h1 := LA.out; have h2 := LB.out; omega
      · exact HW.out.size
      intro u z2 hu hg
      have hu2 : z2.ownsRow wr.heap.size 27 2 u (a ++ b).length (spc (a ++ b)) := by rw [spc_append, List.length_append]; exact hu
      replace HW := hd (HW.out.trans (gb_below hg HW.out.size (fun k hk => by rcases HV.out.2 with ⟨rfl, _⟩ | ⟨g, cap, cur, rfl, h5, _⟩ <;> simp [Value.ownBlock] at hk; omega)))
      have HU := hd (keepU_own hu2)
      replace HO := hd (HO.out.kept hg (own_ne HO.out HV.out (by decide)))
      obtain ⟨Au, cu, rfl, -⟩ := HU.out
      have LU := hd (show (a ++ b).length ≤ 24 by have h1 := LA.out; have h2 := LB.out; rw [List.length_append]; omega)
      clear hu hu2 hg HV
      have HBD := hd (show ∀ s ∈ a ++ b, 0 ≤ s.1 ∧ s.1 < s.2 ∧ s.2 ≤ 100000 from fun s hs => by rcases List.mem_append.1 hs with h | h; exact (chkSpans_ok a CA.out).2.1 s h; exact (chkSpans_ok b CB.out).2.1 s h)
      generalize hab : a ++ b = ab at *
      have HAB := hd hab
      clear hab
      go_wp2_with fail
      have hL24 : ab.length ≤ 24 := LU.out
      obtain ⟨wq, rfl⟩ : ∃ x : World, x = wr := ⟨_, rfl⟩
      obtain ⟨i1, hi, hz0, hz1, hz2⟩ := info_parts intInfo
      have HII := hd (And.intro hi (And.intro hz0 (And.intro hz1 hz2)))
      clear hi hz0 hz1 hz2
      go_loopw [21, 150] (fun v i wr => ∃ k : Nat, k ≤ ab.length ∧ i = .int .i64 k ∧ wr.ownsRow wq.heap.size 3 1 v (1 + k * 4) ((tkK t ab k).map (Value.int .i64)) ∧ KeepU wr (.slice Au ab.length cu) ab ∧ Below wq.heap.size wq wr) (fun _ i _ => ab.length - (intOf i).toNat)
      case atStart => exact ⟨0, by omega, rfl, HO.out, HU.out, HW.out⟩
      case round =>
        obtain ⟨k, hk, rfl, hrow, hU, hW⟩ := hrel
        clear HO HU HW
        by_cases hlt4 : k < ab.length
        · obtain ⟨A6, c6, e6, hc6⟩ := hU
          obtain ⟨g, cur, rfl, hg, hcur⟩ := hc6 (by omega)
          cases e6
          have q0 := (blk_cell hg (k * 2)).trans ((hcur (k * 2) (by omega)).trans (spc_getD ab k hlt4).1)
          have q1 := (blk_cell hg (k * 2 + 1)).trans ((hcur (k * 2 + 1) (by omega)).trans (spc_getD ab k hlt4).2)
          have hbd := HBD.out _ (getD_mem ab k hlt4)
          have HTK := hd (tkK_succ t ab k hlt4)
          have HU := hd (show KeepU wr (.slice (some ⟨g, 0, none⟩) ab.length cu) ab from ⟨_, _, rfl, fun _ => ⟨g, cur, rfl, hg, hcur⟩⟩)
          have HGG := hd hg
          have HROW := hd hrow
          have HWW := hd hW
          generalize (ab.getD k (0, 0)).1 = f at q0 hbd HTK
          generalize (ab.getD k (0, 0)).2 = s2 at q1 hbd HTK
          obtain ⟨b1, b2, b3⟩ := hbd
          clear hc6 hcur hg hrow hW
          have HCN := hd (show ∀ j u, ([.int .i64 (f - 1), .int .i64 f, .int .i64 (s2 - 1), .int .i64 s2] : List Value)[j]? = some u → ((wr.alloc (.cells #[.int .i64 f, .int .i64 s2] 27)).alloc (.cells #[.int .i64 (f - 1), .int .i64 f, .int .i64 (s2 - 1), .int .i64 s2] 3)).cell? ((⟨wr.heap.size + 1, 0, none⟩ : Addr).add j) = some u from by
            have := cells_new (wr.alloc (.cells #[.int .i64 f, .int .i64 s2] 27)) #[.int .i64 (f - 1), .int .i64 f, .int .i64 (s2 - 1), .int .i64 s2] 3 [.int .i64 (f - 1), .int .i64 f, .int .i64 (s2 - 1), .int .i64 s2] rfl
            rwa [World.size_alloc] at this)
          have HUN := hd (keepU_below HU.out (((Below.refl wr.heap.size wr).alloc (Nat.le_refl _) (.cells #[.int .i64 f, .int .i64 s2] 27)).alloc (by simp) (.cells #[.int .i64 (f - 1), .int .i64 f, .int .i64 (s2 - 1), .int .i64 s2] 3)))
          have HWN := hd ((HWW.out.alloc HWW.out.size (.cells #[.int .i64 f, .int .i64 s2] 27)).alloc (by have := HWW.out.size; simp; omega) (.cells #[.int .i64 (f - 1), .int .i64 f, .int .i64 (s2 - 1), .int .i64 s2] 3))
          have HRN := hd ((HROW.out.alloc (.cells #[.int .i64 f, .int .i64 s2] 27)).alloc (.cells #[.int .i64 (f - 1), .int .i64 f, .int .i64 (s2 - 1), .int .i64 s2] 3))
          have HNB := hd (show 1 + k * 4 + 4 ≤ maxLen ∧ (1 + k * 4 + 4) * 8 ≤ 140737488355328 by have := LU.out; unfold maxLen; omega)
          clear HU HGG HROW
          go_wp2_with (at_builtin; refine wpList_append_own _ rfl (.tmp 154) (.tmp 165) 59 rfl wq.heap.size 3 i1 (.int .i64 0) 1 8 Tryz.underlying59 HII.out.1 HII.out.2.1 HII.out.2.2.1 HII.out.2.2.2 rfl (by decide) _ (1 + k * 4) _ rfl HRN.out ⟨wr.heap.size + 1, 0, none⟩ 4 4 [.int .i64 (f - 1), .int .i64 f, .int .i64 (s2 - 1), .int .i64 s2] rfl rfl HCN.out (by simp [Value.oneCell']) HNB.out.1 HNB.out.2 HWN.out.size ?_)
          intro v7 w7 hown7 hg7 _
          have H1 := hd (show w7.ownsRow wq.heap.size 3 1 v7 (1 + (k + 1) * 4) ((tkK t ab (k + 1)).map (Value.int .i64)) by
            rw [HTK.out, List.map_append, show 1 + (k + 1) * 4 = 1 + k * 4 + 4 by omega]
            exact hown7)
          have H2 := hd (keepU_grown HUN.out HRN.out hg7)
          have H3 := hd (HWN.out.trans (gb_below hg7 HWN.out.size (fun kk hk => by rcases HRN.out.2 with ⟨rfl, _⟩ | ⟨g', cap, cur', rfl, h5, _⟩ <;> simp [Value.ownBlock] at hk; omega)))
          clear hown7 hg7 HTK HCN HUN HWN HRN HWW
          go_wp2
          go_roundw
          case rel => exact ⟨k + 1, by omega, by go_num, H1.out, H2.out, H3.out⟩
          case measure => simp [intOf]; omega
        · obtain rfl : k = ab.length := by omega
          obtain ⟨A7, c7, rfl, -⟩ := own_form hrow
          have RT := hd (rd_of_own hrow)
          have HWW := hd hW
          clear hrow hU hW
          replace RA := hd ((RA.out.below HWW.out (Nat.le_refl _)).mono HWW.out.size)
          replace RB := hd ((RB.out.below HWW.out (Nat.le_refl _)).mono HWW.out.size)
          replace Q1 := hd ((Q1.out.below HWW.out (Nat.le_refl _)).mono HWW.out.size)
          replace Q2 := hd ((Q2.out.below HWW.out (Nat.le_refl _)).mono HWW.out.size)
          replace Q3 := hd ((Q3.out.below HWW.out (Nat.le_refl _)).mono HWW.out.size)
          have HBZ := hd (HB.out.trans (HWW.out.mono HB.out.size))
          have HTL := hd (tkK_len t ab ab.length (Nat.le_refl _))
          clear HWW HB
          go_wp2_with fail
          go_loop [170] (fun i => ∃ k : Nat, k ≤ 1 + ab.length * 4 ∧ i = .int .i64 k) (fun i => 1 + ab.length * 4 - (intOf i).toNat)
          case atStart => exact ⟨0, by omega, rfl⟩
          case round =>
            obtain ⟨k, hk, rfl⟩ := hrel
            by_cases hlt5 : k < 1 + ab.length * 4
            · obtain ⟨A8, c8, e8, -, -, hcell⟩ := RT.out
              cases e8
              obtain ⟨bt, ot, rfl, -, hc8⟩ := hcell (by omega)
              have q0 : wr.cell? ⟨bt, ot + k, none⟩ = some (.int .i64 ((tkK t ab ab.length).getD k 0)) := by
                have hkl : k < (tkK t ab ab.length).length := by have := HTL.out; omega
                rw [hc8 k (by rw [List.length_map]; omega)]
                simp [hkl]
              generalize (tkK t ab ab.length).getD k 0 = x at q0
              have PJ := hd (tJ.out x)
              have PM := hd (tM.out x)
              have PD := hd (tD.out x)
              clear hcell hc8
              cases hpa : hasL a x <;> cases hpb : hasL b x
              all_goals
                rw [hpa, hpb] at PJ PM PD
                simp at PJ PM PD
                have PA := hd hpa
                have PB := hd hpb
                clear hpa hpb
                go_wp2_with fail
                refine (has_any _ a x _ RA.out).mono ?_
                rw [PA.out]
                rintro e w' ⟨rfl, rfl⟩
                go_wp2_with fail
                refine (has_any _ b x _ RB.out).mono ?_
                rw [PB.out]
                rintro e w' ⟨rfl, rfl⟩
                go_wp2_with fail
                refine (has_any _ J x _ Q1.out).mono ?_
                rw [PJ.out]
                rintro e w' ⟨rfl, rfl⟩
                go_wp2_with fail
                refine (has_any _ M x _ Q2.out).mono ?_
                rw [PM.out]
                rintro e w' ⟨rfl, rfl⟩
                go_wp2_with fail
                refine (has_any _ D x _ Q3.out).mono ?_
                rw [PD.out]
                rintro e w' ⟨rfl, rfl⟩
                go_wp2_with fail
                go_round
                case rel => exact ⟨k + 1, by omega, by go_num⟩
                case measure => simp [intOf]; omega
            · obtain rfl : k = 1 + ab.length * 4 := by omega
              go_wp2_with fail
              go_returns
              exact ⟨rfl, HBZ.out⟩
end Go.Proofs.YtmcgkpfbehlpcaaGreatDoor
