import Derived.Test.YtlliliddljkbfaaGreatC45
namespace Go.Proofs.YtlliliddljkbfaaGreat
set_option maxHeartbeats 64000000
set_option maxRecDepth 100000
open Go.RowKit Sp
def bz (l : List UInt8) : ByteArray := ⟨l.toArray⟩
def pgD : Page := [⟨-1, bz [104, 116, 109, 108], nob, [], []⟩, ⟨0, bz [112], bz [97], [bz [120]], []⟩, ⟨1, bz [98], nob, [], []⟩]
def selO : Nat → ByteArray
  | 0 => bz [112]
  | 1 => bz [46, 120]
  | 2 => bz [35, 97]
  | 3 => bz [112, 46, 120]
  | 4 => bz [104, 116, 109, 108, 32, 112]
  | _ => bz [42]
def wtO : Nat → Int
  | 0 => 1
  | 1 => 10
  | 2 => 100
  | 3 => 11
  | 4 => 2
  | _ => 0
def aO (i : Nat) (im : Bool) : ByteArray := if im then selO i ++ bz [123, 99, 111, 108, 111, 114, 58, 111, 110, 101] ++ bz [32, 33, 32, 73, 77, 80, 79, 82, 84, 65, 78, 84, 32] else selO i ++ bz [123, 99, 111, 108, 111, 114, 58, 111, 110, 101]
def bO (i : Nat) (im : Bool) : ByteArray := if im then selO i ++ bz [123, 99, 111, 108, 111, 114, 58, 116, 119, 111] ++ bz [33, 105, 109, 112, 111, 114, 116, 97, 110, 116] else selO i ++ bz [123, 99, 111, 108, 111, 114, 58, 116, 119, 111]
def shO (i k : Nat) (im im2 ap : Bool) : List ByteArray := if ap then [aO i im ++ bz [125], bO k im2] else [aO i im ++ bz [125] ++ bO k im2 ++ bz [125]]
def nOne : ByteArray := bz [111, 110, 101]
def nTwo : ByteArray := bz [116, 119, 111]
def wantO (i k : Nat) (im im2 : Bool) : ByteArray := if im ≠ im2 then (if im then nOne else nTwo) else if wtO k < wtO i then nOne else nTwo
def belO : ByteArray := bz [98, 123, 99, 111, 108, 111, 114, 58, 105, 110, 104, 101, 114, 105, 116, 59, 119, 105, 100, 116, 104, 58, 49, 112, 120, 125]
def unsO : ByteArray := bz [98, 123, 99, 111, 108, 111, 114, 58, 117, 110, 115, 101, 116, 33, 105, 109, 112, 111, 114, 116, 97, 110, 116, 125]
def nCOLOR : ByteArray := bz [67, 79, 76, 79, 82]
def nWidth : ByteArray := bz [119, 105, 100, 116, 104]
def nColor : ByteArray := bz [99, 111, 108, 111, 114]
def beqB (a b : ByteArray) : Bool := decide (a = b)
def chkO (i k : Nat) (im im2 ap : Bool) : Bool :=
  okShb (shO i k im im2 ap) && okShb [(shO i k im im2 ap).headD nob, belO] && okShb (shO i k im im2 ap ++ [unsO]) &&
  beqB (comW pgD (winF pgD (shO i k im im2 ap)) 1 (propOf nCOLOR)) (wantO i k im im2) &&
  beqB (comW pgD (winF pgD (shO i k im im2 ap)) 1 (propOf nWidth)) nob &&
  beqB (comW pgD (winF pgD [(shO i k im im2 ap).headD nob, belO]) 2 (propOf nWidth)) (bz [49, 112, 120]) &&
  beqB (comW pgD (winF pgD (shO i k im im2 ap ++ [unsO])) 2 (propOf nColor)) (wantO i k im im2)
def chkA (i k : Nat) : Bool := [true, false].all fun im => [true, false].all fun im2 => [true, false].all fun ap => chkO i k im im2 ap
theorem chk00 : chkA 0 0 = true := by kernel_rfl
theorem chk01 : chkA 0 1 = true := by kernel_rfl
theorem chk02 : chkA 0 2 = true := by kernel_rfl
theorem chk03 : chkA 0 3 = true := by kernel_rfl
theorem chk04 : chkA 0 4 = true := by kernel_rfl
theorem chk05 : chkA 0 5 = true := by kernel_rfl
theorem chk10 : chkA 1 0 = true := by kernel_rfl
theorem chk11 : chkA 1 1 = true := by kernel_rfl
theorem chk12 : chkA 1 2 = true := by kernel_rfl
theorem chk13 : chkA 1 3 = true := by kernel_rfl
theorem chk14 : chkA 1 4 = true := by kernel_rfl
theorem chk15 : chkA 1 5 = true := by kernel_rfl
theorem chk20 : chkA 2 0 = true := by kernel_rfl
theorem chk21 : chkA 2 1 = true := by kernel_rfl
theorem chk22 : chkA 2 2 = true := by kernel_rfl
theorem chk23 : chkA 2 3 = true := by kernel_rfl
theorem chk24 : chkA 2 4 = true := by kernel_rfl
theorem chk25 : chkA 2 5 = true := by kernel_rfl
theorem chk30 : chkA 3 0 = true := by kernel_rfl
theorem chk31 : chkA 3 1 = true := by kernel_rfl
theorem chk32 : chkA 3 2 = true := by kernel_rfl
theorem chk33 : chkA 3 3 = true := by kernel_rfl
theorem chk34 : chkA 3 4 = true := by kernel_rfl
theorem chk35 : chkA 3 5 = true := by kernel_rfl
theorem chk40 : chkA 4 0 = true := by kernel_rfl
theorem chk41 : chkA 4 1 = true := by kernel_rfl
theorem chk42 : chkA 4 2 = true := by kernel_rfl
theorem chk43 : chkA 4 3 = true := by kernel_rfl
theorem chk44 : chkA 4 4 = true := by kernel_rfl
theorem chk45 : chkA 4 5 = true := by kernel_rfl
theorem chk50 : chkA 5 0 = true := by kernel_rfl
theorem chk51 : chkA 5 1 = true := by kernel_rfl
theorem chk52 : chkA 5 2 = true := by kernel_rfl
theorem chk53 : chkA 5 3 = true := by kernel_rfl
theorem chk54 : chkA 5 4 = true := by kernel_rfl
theorem chk55 : chkA 5 5 = true := by kernel_rfl
theorem chk_all {i k : Nat} (hi : i < 6) (hk : k < 6) (im im2 ap : Bool) : chkO i k im im2 ap = true := by
  have h : chkA i k = true := by
    rcases (show i = 0 ∨ i = 1 ∨ i = 2 ∨ i = 3 ∨ i = 4 ∨ i = 5 by omega) with rfl | rfl | rfl | rfl | rfl | rfl <;> rcases (show k = 0 ∨ k = 1 ∨ k = 2 ∨ k = 3 ∨ k = 4 ∨ k = 5 by omega) with rfl | rfl | rfl | rfl | rfl | rfl
    · exact chk00
    · exact chk01
    · exact chk02
    · exact chk03
    · exact chk04
    · exact chk05
    · exact chk10
    · exact chk11
    · exact chk12
    · exact chk13
    · exact chk14
    · exact chk15
    · exact chk20
    · exact chk21
    · exact chk22
    · exact chk23
    · exact chk24
    · exact chk25
    · exact chk30
    · exact chk31
    · exact chk32
    · exact chk33
    · exact chk34
    · exact chk35
    · exact chk40
    · exact chk41
    · exact chk42
    · exact chk43
    · exact chk44
    · exact chk45
    · exact chk50
    · exact chk51
    · exact chk52
    · exact chk53
    · exact chk54
    · exact chk55
  unfold chkA at h
  simp only [List.all_cons, List.all_nil, Bool.and_true, Bool.and_eq_true] at h
  obtain ⟨⟨⟨a1, a2⟩, a3, a4⟩, ⟨a5, a6⟩, a7, a8⟩ := h
  cases im <;> cases im2 <;> cases ap <;> assumption
end Go.Proofs.YtlliliddljkbfaaGreat
