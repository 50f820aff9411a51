/-
  What holds behind a step of a region that draws where its boxes are made: plain lemmas. Conditions: written at each.
-/
import Derived.Test.YtkgeeooijgcdkaaGreatDoorProg
import Derived.Test.YtkgeeooijgcdkaaGreatDoorMS
import Derived.Test.YtkgeeooijgcdkaaGreatDoorML
import Derived.Test.YtkgeeooijgcdkaaGreatDoorU3
namespace Go.Proofs.YtkgeeooijgcdkaaGreatDoor
open Go.RowKit

def GotV (nm : ByteArray) (st a0 a1 a2 : Int) (XL : List Nat) (XG : List (Int × Int)) (w : World) (e : Ending) (w' : World) : Prop :=
  ∃ lv gv, e = .returned (.tuple #[.agg #[.string nm, .int .i64 st, lv, gv], .agg #[.int .i64 a0, .int .i64 a1, .int .i64 a2], .int .i64 0]) ∧ w'.ownsRow w.heap.size 39 1 lv XL.length (flc XL) ∧ w'.ownsRow w.heap.size 54 2 gv XG.length (spc XG) ∧ Below w.heap.size w w'
theorem blk_ne {W : World} {a b : Nat} {x y : Array Value} {s t : TypeId} (h : W.heap[a]? = some (.cells x s (0, 0))) (h' : W.heap[b]? = some (.cells y t (0, 0))) (hne : s ≠ t) : a ≠ b := fun e => by
  rw [e, h'] at h
  injection h with h
  injection h with h1 h2
  exact hne h2.symm
theorem own_far3 {W : World} {B e s k R : Nat} {v a b c : Value} {xs : List Value} (h : W.ownsRow B e s v k xs) (hX : v.ownBlock = none ∨ v.ownBlock ≠ some R) : (set3 W R a b c).ownsRow B e s v k xs :=
  own_far (own_far (own_far h hX) hX) hX
/-- Two boxes behind V: which blocks they are, what they hold. -/
structure GE (V : World) (P Q : Nat) (rs js : Array Value) (Z : World) : Prop where
  bel : Below V.heap.size V Z
  blr : Z.heap[P]? = some (.cells rs 30 (0, 0))
  bli : Z.heap[Q]? = some (.cells js 31 (0, 0))
  hP : V.heap.size ≤ P
  hQ : V.heap.size ≤ Q
section
variable {V Z : World} {P Q : Nat} {rs js : Array Value} {x0 x1 x2 x3 y0 y1 y2 : Value}
theorem GE.ne (h : GE V P Q rs js Z) : P ≠ Q := blk_ne h.blr h.bli (by decide)
theorem GE.set4 (h : GE V P Q #[x0, x1, x2, x3] js Z) (a b c d : Value) : GE V P Q #[a, b, c, d] js (set4 Z P a b c d) :=
  ⟨set4_below h.bel h.hP _ _ _ _, set4_blk h.blr _ _ _ _, (set4_other Z (R := P) (D := Q) h.ne.symm _ _ _ _).trans h.bli, h.hP, h.hQ⟩
theorem GE.set3 (h : GE V P Q rs #[y0, y1, y2] Z) (a b c : Value) : GE V P Q rs #[a, b, c] (set3 Z Q a b c) :=
  ⟨set3_below h.bel h.hQ _ _ _, (set3_other Z (R := Q) (D := P) h.ne _ _ _).trans h.blr, set3_blk h.bli _ _ _, h.hP, h.hQ⟩
theorem GE.own4 (h : GE V P Q rs js Z) {B e s m : Nat} {v : Value} {xs : List Value} (o : Z.ownsRow B e s v m xs) (he : 30 ≠ e) (a b c d : Value) : (Go.Proofs.YtkgeeooijgcdkaaGreatDoor.set4 Z P a b c d).ownsRow B e s v m xs := own_far4 o (own_box o h.blr he)
theorem GE.own3 (h : GE V P Q rs js Z) {B e s m : Nat} {v : Value} {xs : List Value} (o : Z.ownsRow B e s v m xs) (he : 31 ≠ e) (a b c : Value) : (Go.Proofs.YtkgeeooijgcdkaaGreatDoor.set3 Z Q a b c).ownsRow B e s v m xs := own_far3 o (own_box o h.bli he)
theorem ge0 (hB : Below V.heap.size V Z) (hr : Z.heap[P]? = some (.cells rs 30 (0, 0))) (hi : Z.heap[Q]? = some (.cells js 31 (0, 0))) (hP : V.heap.size ≤ P) (hQ : V.heap.size ≤ Q) : GE V P Q rs js Z := ⟨hB, hr, hi, hP, hQ⟩
theorem ge1 (hB : Below V.heap.size V Z) (hr : Z.heap[P]? = some (.cells rs 30 (0, 0))) (hP : V.heap.size ≤ P) : GE V P Z.heap.size rs js (Z.alloc (.cells js 31)) := ⟨hB.alloc hB.size _, (Below.heap_alloc _ _ _ (blk_lt hr)).trans hr, blk_new _ _ _, hP, hB.size⟩
theorem ge2 (hB : Below V.heap.size V Z) (hi : Z.heap[Q]? = some (.cells js 31 (0, 0))) (hQ : V.heap.size ≤ Q) : GE V Z.heap.size Q rs js (Z.alloc (.cells rs 30)) := ⟨hB.alloc hB.size _, blk_new _ _ _, (Below.heap_alloc _ _ _ (blk_lt hi)).trans hi, hB.size, hQ⟩
theorem ge3a (hB : Below V.heap.size V Z) : GE V Z.heap.size (Z.heap.size + 1) rs js ((Z.alloc (.cells rs 30)).alloc (.cells js 31)) :=
  ⟨(hB.alloc hB.size _).alloc (Nat.le_trans hB.size (by simp)) _, (Below.heap_alloc _ _ _ (by simp)).trans (blk_new _ _ _), (by have h := blk_new (Z.alloc (.cells rs 30)) js 31; rw [World.size_alloc] at h; exact h), hB.size, Nat.le_succ_of_le hB.size⟩
theorem ge3b (hB : Below V.heap.size V Z) : GE V (Z.heap.size + 1) Z.heap.size rs js ((Z.alloc (.cells js 31)).alloc (.cells rs 30)) :=
  ⟨(hB.alloc hB.size _).alloc (Nat.le_trans hB.size (by simp)) _, (by have h := blk_new (Z.alloc (.cells js 31)) rs 30; rw [World.size_alloc] at h; exact h), (Below.heap_alloc _ _ _ (by simp)).trans (blk_new _ _ _), Nat.le_succ_of_le hB.size, hB.size⟩
theorem GE.all (h : GE V P Q rs js Z) : Below V.heap.size V Z ∧ Z.heap[P]? = some (.cells rs 30 (0, 0)) ∧ Z.heap[Q]? = some (.cells js 31 (0, 0)) := ⟨h.bel, h.blr, h.bli⟩
theorem GE.allO {nm : ByteArray} {st : Int} {lv gv : Value} {b1 b2 n m : Nat} {xs ys : List Value} (h : GE V P Q #[.string nm, .int .i64 st, lv, gv] js Z) (o1 : Z.ownsRow b1 39 1 lv n xs) (o2 : Z.ownsRow b2 54 2 gv m ys) :
    Below V.heap.size V Z ∧ ∃ lv gv, Z.heap[P]? = some (.cells #[.string nm, .int .i64 st, lv, gv] 30 (0, 0)) ∧ Z.heap[Q]? = some (.cells js 31 (0, 0)) ∧ Rd Z Z.heap.size lv n xs ∧ Rd Z Z.heap.size gv m ys ∧ Full lv ∧ Full gv := ⟨h.bel, _, _, h.blr, h.bli, rd_of_own o1, rd_of_own o2, full_own o1, full_own o2⟩
end
theorem box4 {W : World} {g : Nat} {t : TypeId} {a0 a1 a2 a3 : Value} (h : W.heap[g]? = some (.cells #[a0, a1, a2, a3] t (0, 0))) : W.cell? ⟨g, 0, none⟩ = some a0 ∧ W.cell? ⟨g, 1, none⟩ = some a1 ∧ W.cell? ⟨g, 2, none⟩ = some a2 ∧ W.cell? ⟨g, 3, none⟩ = some a3 ∧ W.frozen? ⟨g, 0, none⟩ = false ∧ W.frozen? ⟨g, 1, none⟩ = false ∧ W.frozen? ⟨g, 2, none⟩ = false ∧ W.frozen? ⟨g, 3, none⟩ = false :=
  ⟨blk_cell h 0, blk_cell h 1, blk_cell h 2, blk_cell h 3, blk_frozen h 0, blk_frozen h 1, blk_frozen h 2, blk_frozen h 3⟩
theorem box3 {W : World} {g : Nat} {t : TypeId} {a0 a1 a2 : Value} (h : W.heap[g]? = some (.cells #[a0, a1, a2] t (0, 0))) : W.cell? ⟨g, 0, none⟩ = some a0 ∧ W.cell? ⟨g, 1, none⟩ = some a1 ∧ W.cell? ⟨g, 2, none⟩ = some a2 ∧ W.frozen? ⟨g, 0, none⟩ = false ∧ W.frozen? ⟨g, 1, none⟩ = false ∧ W.frozen? ⟨g, 2, none⟩ = false :=
  ⟨blk_cell h 0, blk_cell h 1, blk_cell h 2, blk_frozen h 0, blk_frozen h 1, blk_frozen h 2⟩
theorem box4o {W : World} {g : Nat} {t : TypeId} {a0 a1 a2 a3 : Value} (h : W.heap[g]? = some (.cells #[a0, a1, a2, a3] t (0, 0))) : (∀ o, (W.alloc o).cell? ⟨g, 0, none⟩ = some a0) ∧ (∀ o, (W.alloc o).cell? ⟨g, 1, none⟩ = some a1) ∧ (∀ o, (W.alloc o).cell? ⟨g, 2, none⟩ = some a2) ∧ (∀ o, (W.alloc o).cell? ⟨g, 3, none⟩ = some a3) ∧ (∀ o, (W.alloc o).frozen? ⟨g, 0, none⟩ = false) ∧ (∀ o, (W.alloc o).frozen? ⟨g, 1, none⟩ = false) ∧ (∀ o, (W.alloc o).frozen? ⟨g, 2, none⟩ = false) ∧ (∀ o, (W.alloc o).frozen? ⟨g, 3, none⟩ = false) := by
  have ho := fun o => (Below.heap_alloc W o g (blk_lt h)).trans h
  exact ⟨fun o => blk_cell (ho o) 0, fun o => blk_cell (ho o) 1, fun o => blk_cell (ho o) 2, fun o => blk_cell (ho o) 3, fun o => blk_frozen (ho o) 0, fun o => blk_frozen (ho o) 1, fun o => blk_frozen (ho o) 2, fun o => blk_frozen (ho o) 3⟩
theorem box3o {W : World} {g : Nat} {t : TypeId} {a0 a1 a2 : Value} (h : W.heap[g]? = some (.cells #[a0, a1, a2] t (0, 0))) : (∀ o, (W.alloc o).cell? ⟨g, 0, none⟩ = some a0) ∧ (∀ o, (W.alloc o).cell? ⟨g, 1, none⟩ = some a1) ∧ (∀ o, (W.alloc o).cell? ⟨g, 2, none⟩ = some a2) ∧ (∀ o, (W.alloc o).frozen? ⟨g, 0, none⟩ = false) ∧ (∀ o, (W.alloc o).frozen? ⟨g, 1, none⟩ = false) ∧ (∀ o, (W.alloc o).frozen? ⟨g, 2, none⟩ = false) := by
  have ho := fun o => (Below.heap_alloc W o g (blk_lt h)).trans h
  exact ⟨fun o => blk_cell (ho o) 0, fun o => blk_cell (ho o) 1, fun o => blk_cell (ho o) 2, fun o => blk_frozen (ho o) 0, fun o => blk_frozen (ho o) 1, fun o => blk_frozen (ho o) 2⟩
theorem ne_lt {W : World} {g : Nat} {o : Obj} (h : W.heap[g]? = some o) : g ≠ W.heap.size ∧ W.heap.size ≠ g ∧ g ≠ W.heap.size + 1 ∧ W.heap.size + 1 ≠ g := by have := blk_lt h; omega
theorem ne_two {a b : Nat} (h : a ≠ b) : a ≠ b ∧ b ≠ a := ⟨h, h.symm⟩
theorem ne_big {a b c : Nat} (h : a < b) (h' : b ≤ c) : c ≠ a ∧ a ≠ c := by omega
theorem ne_big2 {a b c : Nat} (h : a < b) (h' : b ≤ c) : c ≠ a ∧ a ≠ c ∧ c + 1 ≠ a ∧ a ≠ c + 1 := by omega
theorem up3 {c n : World} {u v : Value} {a b : Nat} {xs ys : List Value} (h : Rd c c.heap.size u a xs ∧ Rd c c.heap.size v b ys ∧ Full u) (hb : Below c.heap.size c n) : Rd n n.heap.size u a xs ∧ Rd n n.heap.size v b ys ∧ Full u :=
  ⟨(h.1.below hb (Nat.le_refl _)).mono hb.size, (h.2.1.below hb (Nat.le_refl _)).mono hb.size, h.2.2⟩
theorem af_1 {c n : World} {z : Array Value} {t : TypeId} (hb : Below (c.alloc (.cells z t)).heap.size (c.alloc (.cells z t)) n) : Below c.heap.size c n ∧ n.heap[c.heap.size]? = some (.cells z t (0, 0)) :=
  ⟨((Below.refl _ c).alloc (Nat.le_refl _) _).trans (hb.mono (by simp)), (hb.block _ (by simp)).trans (blk_new _ _ _)⟩
theorem af_2 {c n : World} {z z' : Array Value} {t t' : TypeId} (hb : Below ((c.alloc (.cells z t)).alloc (.cells z' t')).heap.size ((c.alloc (.cells z t)).alloc (.cells z' t')) n) : Below c.heap.size c n ∧ n.heap[c.heap.size]? = some (.cells z t (0, 0)) ∧ n.heap[c.heap.size + 1]? = some (.cells z' t' (0, 0)) :=
  ⟨(((Below.refl _ c).alloc (Nat.le_refl _) _).alloc (by simp) _).trans (hb.mono (by simp; omega)), (hb.block _ (by simp; omega)).trans ((Below.heap_alloc _ _ _ (by simp)).trans (blk_new _ _ _)), (hb.block _ (by simp)).trans (by have h := blk_new (c.alloc (.cells z t)) z' t'; rw [World.size_alloc] at h; exact h)⟩
theorem cells4 {W : World} {g : Nat} {t : TypeId} {a0 a1 a2 a3 : Value} (h : W.heap[g]? = some (.cells #[a0, a1, a2, a3] t (0, 0))) : W.cell? ⟨g, 0, none⟩ = some a0 ∧ W.cell? ⟨g, 1, none⟩ = some a1 ∧ W.cell? ⟨g, 2, none⟩ = some a2 ∧ W.cell? ⟨g, 3, none⟩ = some a3 :=
  ⟨blk_cell h 0, blk_cell h 1, blk_cell h 2, blk_cell h 3⟩
/-- A region of a text, by its number. -/
def regionOf (k : Nat) : Code → List Code
  | .region i os d => if i = k then [.region i os d] else []
  | .seq a b => regionOf k a ++ regionOf k b
  | .block _ c => regionOf k c
  | .scope c => regionOf k c
  | .cond _ a b => regionOf k a ++ regionOf k b
  | .loop c => regionOf k c
  | _ => []
/-- The outermost loops' rounds, in their order. -/
def loopsOf : Code → List Code
  | .loop c => [c]
  | .seq a b => loopsOf a ++ loopsOf b
  | .block _ c => loopsOf c
  | .scope c => loopsOf c
  | .cond _ a b => loopsOf a ++ loopsOf b
  | _ => []
set_option maxRecDepth 1000000 in
noncomputable def sR4 : Code := ((Tryz.f3.body.map (regionOf 4)).getD []).getD 0 .skip
set_option maxRecDepth 1000000 in
noncomputable def sR5 : Code := ((Tryz.f3.body.map (regionOf 5)).getD []).getD 0 .skip
set_option maxRecDepth 1000000 in
noncomputable def sL1 : Code := ((Tryz.f3.body.map loopsOf).getD []).getD 0 .skip
end Go.Proofs.YtkgeeooijgcdkaaGreatDoor
