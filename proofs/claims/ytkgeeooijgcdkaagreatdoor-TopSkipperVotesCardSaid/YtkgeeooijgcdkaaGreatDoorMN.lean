/-
  Contract of gauge.combine, given what gauge.ends gives. Conditions: two valid lists of spans.
  Contract of gauge.ends for two lists of spans. Condition: at most 4000 spans each.
  Contracts of gauge.Join, Meet and Minus. Conditions: two valid lists of spans, the result of at most 2048 spans.
-/
import Derived.Test.YtkgeeooijgcdkaaGreatDoorProg
import Derived.Test.YtkgeeooijgcdkaaGreatDoorV1
import Derived.Test.YtkgeeooijgcdkaaGreatDoorK5
import Derived.Test.YtkgeeooijgcdkaaGreatDoorMF
import Derived.Test.YtkgeeooijgcdkaaGreatDoorShelfB
import Derived.Sort.OwnSortedInts

namespace Go.Proofs.YtkgeeooijgcdkaaGreatDoor
open Go.RowKit

/-- What the first k parts between cuts give. -/
def combK (a b : List (Int × Int)) (kp : Bool → Bool → Bool) (cl : List Int) : Nat → List (Int × Int)
  | 0 => []
  | k + 1 => if kp (cov a (cl.getD k 0)) (cov b (cl.getD k 0)) = true then ext (combK a b kp cl k) (cl.getD k 0) (cl.getD (k + 1) 0) else combK a b kp cl k
theorem combK_len (a b : List (Int × Int)) (kp : Bool → Bool → Bool) (cl : List Int) : ∀ k, (combK a b kp cl k).length ≤ k
  | 0 => Nat.le_refl _
  | k + 1 => by
    rw [combK]
    have := combK_len a b kp cl k
    split
    · exact Nat.le_trans (ext_len _ _ _) (by omega)
    · omega

end Go.Proofs.YtkgeeooijgcdkaaGreatDoor

namespace Go.Proofs.YtkgeeooijgcdkaaGreatDoor
open Go.RowKit Go.Shelf Go.Sort

/-- The ends of the first k spans of a list. -/
def endK (l : List (Int × Int)) (k : Nat) : List Int := (l.take k).flatMap fun s => [s.1, s.2]
theorem endK_succ (l : List (Int × Int)) (k : Nat) (h : k < l.length) : endK l (k + 1) = endK l k ++ [(l.getD k (0, 0)).1, (l.getD k (0, 0)).2] := by
  unfold endK
  rw [List.take_succ_eq_append_getElem h, List.flatMap_append]
  simp [h]
theorem endK_len (l : List (Int × Int)) (k : Nat) : (endK l k).length ≤ 2 * k := by
  unfold endK
  rw [List.length_flatMap]
  simp only [List.length_cons, List.length_nil]
  rw [List.map_const', List.sum_replicate_nat, List.length_take]
  omega
def endAll (a b : List (Int × Int)) : List Int := endK a a.length ++ endK b b.length
def cutsOf (a b : List (Int × Int)) : List Int := Lib.compact ((endAll a b).mergeSort fun x y => decide (x ≤ y))
/-- Those of the first k of the two lists. -/
def endP (a b : List (Int × Int)) : Nat → List Int
  | 0 => []
  | 1 => endK a a.length
  | _ => endAll a b

theorem cell_two_new (W : World) (x y : Value) (t : TypeId) : ∀ j u, [x, y][j]? = some u → (W.alloc (.cells #[x, y] t)).cell? ((⟨W.heap.size, 0, none⟩ : Addr).add j) = some u := by
  intro j u h
  have := World.cell?_alloc_new W #[x, y] t j
  match j, h, this with
  | 0, h, this => simp at h; subst h; simp [Addr.add]
  | 1, h, this => simp at h; subst h; simp [Addr.add]
theorem cmp_len (zs : List Int) : (Lib.compact zs).length ≤ zs.length := by
  unfold Lib.compact Lib.compactUpTo
  rw [List.length_map]
  exact Nat.le_trans (List.length_filter_le _ _) (by simp)
theorem grow_nil (w : World) : grow w #[] = w := by simp [grow]
/-- The first elements of a row. -/
theorem own_pre {W : World} {B : Nat} {e : TypeId} {g n m cap : Nat} {xs ys : List Value} (h : W.ownsRow B e 1 (.slice (some ⟨g, 0, none⟩) n cap) n xs) (hm : m ≤ n) (hx : xs.take m = ys) : W.ownsRow B e 1 (.slice (some ⟨g, 0, none⟩) m cap) m ys := by
  have hl := h.1
  rcases h.2 with ⟨hv, _⟩ | ⟨g', cap', cur, hv, h1, h2, h3, h4, h5, h6⟩
  · cases hv
  · cases hv
    refine ⟨by rw [← hx, List.length_take]; omega, .inr ⟨g, cap, cur, rfl, h1, h2, by omega, h4, h5, ?_⟩⟩
    rw [← hx, ← h6, List.take_take]
    congr 1
    omega

end Go.Proofs.YtkgeeooijgcdkaaGreatDoor

namespace Go.Proofs.YtkgeeooijgcdkaaGreatDoor
open Go.RowKit Go.Shelf

theorem cuts_len (a b : List (Int × Int)) : (cutsOf a b).length ≤ 2 * a.length + 2 * b.length := by
  have h1 := cmp_len ((endAll a b).mergeSort fun x y => decide (x ≤ y))
  rw [List.length_mergeSort] at h1
  have h2 := endK_len a a.length
  have h3 := endK_len b b.length
  have h4 : (endAll a b).length = (endK a a.length).length + (endK b b.length).length := by unfold endAll; rw [List.length_append]
  unfold cutsOf
  omega

/-- What a choice gives of two lists. -/
def choice (kp : Bool → Bool → Bool) (a b : List (Int × Int)) : List (Int × Int) := combK a b kp (cutsOf a b) ((cutsOf a b).length - 1)

/-- What Join, Meet and Minus hand back. -/
def Chosen (kp : Bool → Bool → Bool) (a b : List (Int × Int)) (w : World) (e : Ending) (w' : World) : Prop :=
  if 2048 < (choice kp a b).length then e = .returned (.tuple #[.slice none 0 0, .int .i64 5]) ∧ Below w.heap.size w w'
  else ∃ v, e = .returned (.tuple #[v, .int .i64 0]) ∧ w'.ownsRow w.heap.size 54 2 v (choice kp a b).length (spc (choice kp a b)) ∧ Below w.heap.size w w'

theorem Chosen.cases {kp : Bool → Bool → Bool} {a b : List (Int × Int)} {w : World} {e : Ending} {w' : World} (h : Chosen kp a b w e w') : ∃ v x, e = .returned (.tuple #[v, .int .i64 x]) ∧ Hid (Chosen kp a b w e w') := by
  unfold Chosen at h
  split at h
  · rename_i h2
    exact ⟨_, _, h.1, hd (by unfold Chosen; rw [if_pos h2]; exact h)⟩
  · rename_i h2
    obtain ⟨v, h3, h4⟩ := h
    exact ⟨_, _, h3, hd (by unfold Chosen; rw [if_neg h2]; exact ⟨v, h3, h4⟩)⟩

end Go.Proofs.YtkgeeooijgcdkaaGreatDoor
