/-
  The reference's answer of Tokens.
-/
import Derived.Test.YtlliliddljkbfaaRefScan
import Derived.Test.YtlliliddljkbfaaToks
namespace Go.Proofs.Ytlliliddljkbfaa
open Go.RowKit Sp
set_option maxRecDepth 100000

set_option maxHeartbeats 400000 in
theorem RTokens_long (sheet : ByteArray) (w : World) (hs : 600 < sheet.size) (hm : sheet.size ≤ maxLen) :
    Calls Try.prog 8 #[.string sheet] w fun e w' => e = .returned (.tuple #[.slice none 0 0, .int .i64 1]) ∧ w' = w := by
  unfold maxLen at hm
  have h6 : (600 : Int) < (sheet.size : Int) := by omega
  go_enter Try.func8, Try.ntmps8
  go_wp2_with fail
  go_ret2
  exact ⟨rfl, rfl⟩
set_option maxHeartbeats 400000 in
theorem RTokens_short (sheet : ByteArray) (w : World) (hs : sheet.size ≤ 600) :
    Calls Try.prog 8 #[.string sheet] w fun e w' => ∃ v, e = .returned (.tuple #[v, .int .i64 0]) ∧ w'.ownsRow w.heap.size 35 3 v (toks (Sp.clean sheet)).length (tokCells (toks (Sp.clean sheet))) ∧ Below w.heap.size w w' := by
  have h6 : (sheet.size : Int) ≤ 600 := by omega
  go_enter Try.func8, Try.ntmps8
  go_wp2_with fail
  refine (scanned_r sheet _ hs).mono ?_
  rintro e w1 ⟨v, rfl, ho, hb⟩
  have HO : Hid (w1.ownsRow w.heap.size 35 3 v (toks (Sp.clean sheet)).length (tokCells (toks (Sp.clean sheet)))) := ho
  have HB : Hid (Below w.heap.size w w1) := hb
  clear ho hb
  go_wp2_with fail
  go_ret2
  exact ⟨v, rfl, HO.out, HB.out⟩
end Go.Proofs.Ytlliliddljkbfaa
