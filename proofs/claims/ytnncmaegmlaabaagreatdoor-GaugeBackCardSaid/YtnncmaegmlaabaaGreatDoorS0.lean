/-
  Plain words of streams: bytes and words at places of a stream. No condition but those written.
-/
import Derived.Lib.SlBytesRow
import Derived.Lib.EndianBits
import Derived.Lib.AppendStr
import Derived.WalkKit
namespace Go.Proofs.YtnncmaegmlaabaaGreatDoor
open Go Go.RowKit
/-- The byte at a place of a stream (0 behind its end). -/
def bAt (s : ByteArray) (i : Nat) : Nat := (s.data.toList.getD i 0).toNat
theorem bAt_lt (s : ByteArray) (i : Nat) : bAt s i < 256 := (s.data.toList.getD i 0).toNat_lt
/-- The word at a place of a stream. -/
def w4 (s : ByteArray) (o : Nat) : Nat := bAt s o * 16777216 + bAt s (o + 1) * 65536 + bAt s (o + 2) * 256 + bAt s (o + 3)
theorem w4_lt (s : ByteArray) (o : Nat) : w4 s o < 4294967296 := by
  have h0 := bAt_lt s o; have h1 := bAt_lt s (o + 1); have h2 := bAt_lt s (o + 2); have h3 := bAt_lt s (o + 3)
  unfold w4; omega
theorem strCells_at (s : ByteArray) (i : Nat) (h : i < s.size) : (Lib.strCells s)[i]? = some (.int .u8 (bAt s i : Int)) := by
  have h' : i < s.data.toList.length := by simpa using h
  unfold Lib.strCells bAt
  simp [List.getElem?_map, List.getElem?_eq_getElem h', List.getD]
theorem or_24 (x y : Int) (h1 : 0 ≤ y) (h2 : y < 16777216) (h4 : 0 ≤ x) (h5 : x % 16777216 = 0) (h6 : x < 4294967296) : bits .or .u32 x y = x + y :=
  bits_join .u32 32 (by decide) wraps_u32 24 x y h4 h5 h6 h1 h2 (by omega)
theorem or_16 (x y : Int) (h1 : 0 ≤ y) (h2 : y < 65536) (h4 : 0 ≤ x) (h5 : x % 65536 = 0) (h6 : x < 4294967296) : bits .or .u32 x y = x + y :=
  bits_join .u32 32 (by decide) wraps_u32 16 x y h4 h5 h6 h1 h2 (by omega)
theorem or_8 (x y : Int) (h1 : 0 ≤ y) (h2 : y < 256) (h4 : 0 ≤ x) (h5 : x % 256 = 0) (h6 : x < 4294967296) : bits .or .u32 x y = x + y :=
  bits_join .u32 32 (by decide) wraps_u32 8 x y h4 h5 h6 h1 h2 (by omega)
theorem or_w4 (a b c d : Nat) (ha : a < 256) (hb : b < 256) (hc : c < 256) (hd : d < 256) : bits .or .u32 (bits .or .u32 (bits .or .u32 ((a : Int) * 16777216) ((b : Int) * 65536)) ((c : Int) * 256)) (d : Int) = ((a * 16777216 + b * 65536 + c * 256 + d : Nat) : Int) := by
  rw [or_24 ((a : Int) * 16777216) ((b : Int) * 65536) (by omega) (by omega) (by omega) (by omega) (by omega)]
  rw [or_16 _ ((c : Int) * 256) (by omega) (by omega) (by omega) (by omega) (by omega)]
  rw [or_8 _ (d : Int) (by omega) (by omega) (by omega) (by omega) (by omega)]
  omega
end Go.Proofs.YtnncmaegmlaabaaGreatDoor
