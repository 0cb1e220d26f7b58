/-
  Contracts of the functions that look at one byte: the program's and the reference's.
-/
import Derived.Test.YtlliliddljkbfaaRows
import Derived.Test.YtlliliddljkbfaaSpecLaws
import Derived.WalkKit
import Derived.WalkSpells
import Derived.WalkLawsBesides
namespace Go.Proofs.Ytlliliddljkbfaa
open Go.RowKit Sp
set_option maxRecDepth 100000

theorem rbool {a b : Bool} (h : a = b) : Ending.returned (.bool a) = .returned (.bool b) := by rw [h]
theorem rint {k : IntKind} {a b : Int} (h : a = b) : Ending.returned (.int k a) = .returned (.int k b) := by rw [h]

/- the program's -/
set_option maxHeartbeats 800000 in
theorem isBlank_c (c : Int) (w : World) : Calls Try.prog 20 #[.int .i64 c] w fun e w' => e = .returned (.bool (blankI c)) ∧ w' = w := by
  go_enter Try.func20, Try.ntmps20
  go_wp2
  all_goals
    go_ret
    exact ⟨rbool (by rw [Bool.eq_iff_iff]; simp [blankI, *] <;> omega), rfl⟩
set_option maxHeartbeats 800000 in
theorem isDigit_c (c : Int) (w : World) : Calls Try.prog 51 #[.int .i64 c] w fun e w' => e = .returned (.bool (digI c)) ∧ w' = w := by
  go_enter Try.func51, Try.ntmps51
  go_wp2
  all_goals
    go_ret
    exact ⟨rbool (by rw [Bool.eq_iff_iff]; simp [digI, *] <;> omega), rfl⟩
set_option maxHeartbeats 800000 in
theorem isLetter_c (c : Int) (w : World) : Calls Try.prog 53 #[.int .i64 c] w fun e w' => e = .returned (.bool (lettI c)) ∧ w' = w := by
  go_enter Try.func53, Try.ntmps53
  go_wp2
  all_goals
    go_ret
    exact ⟨rbool (by rw [Bool.eq_iff_iff]; simp [lettI, *] <;> omega), rfl⟩
set_option maxHeartbeats 800000 in
theorem isSign_c (c : Int) (w : World) : Calls Try.prog 50 #[.int .i64 c] w fun e w' => e = .returned (.bool (signI c)) ∧ w' = w := by
  go_enter Try.func50, Try.ntmps50
  go_wp2
  all_goals
    go_ret
    exact ⟨rbool (by rw [Bool.eq_iff_iff]; simp [signI, *] <;> omega), rfl⟩
set_option maxHeartbeats 800000 in
theorem isQuote_c (c : Int) (w : World) : Calls Try.prog 22 #[.int .i64 c] w fun e w' => e = .returned (.bool (quoteI c)) ∧ w' = w := by
  go_enter Try.func22, Try.ntmps22
  go_wp2
  all_goals
    go_ret
    exact ⟨rbool (by rw [Bool.eq_iff_iff]; simp [quoteI, *] <;> omega), rfl⟩
set_option maxHeartbeats 400000 in
theorem isNameByte_c (c : Int) (w : World) : Calls Try.prog 47 #[.int .i64 c] w fun e w' => e = .returned (.bool (nameI c)) ∧ w' = w := by
  cases h1 : lettI c <;> cases h2 : digI c
  all_goals
    go_enter Try.func47, Try.ntmps47
    go_wp2_with (first | (go_at_call 53; refine (isLetter_c _ _).mono ?_; rintro e w' ⟨rfl, rfl⟩) | (go_at_call 51; refine (isDigit_c _ _).mono ?_; rintro e w' ⟨rfl, rfl⟩))
    go_ret
    exact ⟨rbool (by simp [nameI, h1, h2]), rfl⟩
set_option maxHeartbeats 400000 in
theorem spoilsLink_c (c : Int) (w : World) : Calls Try.prog 73 #[.int .i64 c] w fun e w' => e = .returned (.bool (spoilI c)) ∧ w' = w := by
  cases h1 : quoteI c
  all_goals
    go_enter Try.func73, Try.ntmps73
    go_wp2_with (go_at_call 22; refine (isQuote_c _ _).mono ?_; rintro e w' ⟨rfl, rfl⟩)
    all_goals
      go_ret
      exact ⟨rbool (by rw [Bool.eq_iff_iff]; simp [spoilI, *] <;> omega), rfl⟩
set_option maxHeartbeats 400000 in
theorem hexValue_c (c : Int) (w : World) (h0 : -1 ≤ c) (h9 : c ≤ 255) : Calls Try.prog 69 #[.int .i64 c] w fun e w' => e = .returned (.int .i64 (hexI c)) ∧ w' = w := by
  cases h1 : digI c
  all_goals
    go_enter Try.func69, Try.ntmps69
    go_wp2_with (go_at_call 51; refine (isDigit_c _ _).mono ?_; rintro e w' ⟨rfl, rfl⟩)
    all_goals
      go_ret
      exact ⟨rint (by simp [hexI, *] <;> omega), rfl⟩

/- the reference's -/
set_option maxHeartbeats 800000 in
theorem isBlank_r (c : Int) (w : World) : Calls Try.prog 32 #[.int .u8 c] w fun e w' => e = .returned (.bool (blankI c)) ∧ w' = w := by
  go_enter Try.func32, Try.ntmps32
  go_wp2
  all_goals
    go_ret
    exact ⟨rbool (by rw [Bool.eq_iff_iff]; simp [blankI, *] <;> omega), rfl⟩
set_option maxHeartbeats 800000 in
theorem isDigit_r (c : Int) (w : World) : Calls Try.prog 58 #[.int .u8 c] w fun e w' => e = .returned (.bool (digI c)) ∧ w' = w := by
  go_enter Try.func58, Try.ntmps58
  go_wp2
  all_goals
    go_ret
    exact ⟨rbool (by rw [Bool.eq_iff_iff]; simp [digI, *] <;> omega), rfl⟩
set_option maxHeartbeats 800000 in
theorem isLetter_r (c : Int) (w : World) : Calls Try.prog 60 #[.int .u8 c] w fun e w' => e = .returned (.bool (lettI c)) ∧ w' = w := by
  go_enter Try.func60, Try.ntmps60
  go_wp2
  all_goals
    go_ret
    exact ⟨rbool (by rw [Bool.eq_iff_iff]; simp [lettI, *] <;> omega), rfl⟩
set_option maxHeartbeats 400000 in
theorem isName_r (c : Int) (w : World) : Calls Try.prog 35 #[.int .u8 c] w fun e w' => e = .returned (.bool (nameI c)) ∧ w' = w := by
  cases h1 : lettI c <;> cases h2 : digI c
  all_goals
    go_enter Try.func35, Try.ntmps35
    go_wp2_with (first | (go_at_call 60; refine (isLetter_r _ _).mono ?_; rintro e w' ⟨rfl, rfl⟩) | (go_at_call 58; refine (isDigit_r _ _).mono ?_; rintro e w' ⟨rfl, rfl⟩))
    go_ret
    exact ⟨rbool (by simp [nameI, h1, h2]), rfl⟩
set_option maxHeartbeats 400000 in
theorem hex_r (c : Int) (w : World) (h0 : 0 ≤ c) (h9 : c ≤ 255) : Calls Try.prog 75 #[.int .u8 c] w fun e w' => e = .returned (.int .i64 (hexI c)) ∧ w' = w := by
  go_enter Try.func75, Try.ntmps75
  go_wp2
  all_goals
    go_ret
    exact ⟨rint (by simp [hexI, digI, *] <;> omega), rfl⟩
end Go.Proofs.Ytlliliddljkbfaa
