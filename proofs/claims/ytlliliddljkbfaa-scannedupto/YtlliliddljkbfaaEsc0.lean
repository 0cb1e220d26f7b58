/-
  The scanner reads an escape.
-/
import Derived.Test.YtlliliddljkbfaaMove1
namespace Go.Proofs.Ytlliliddljkbfaa
open Go.RowKit Sp
set_option maxRecDepth 100000

set_option maxHeartbeats 400000 in
theorem escapedByte_in (s : ByteArray) (b i : Nat) (w : World) (h : Sc w b s i) (hlt : i < s.size) :
    Calls Try.prog 70 #[.pointer (some ⟨b, 0, none⟩)] w fun e w' => e = .returned (.string (one s i)) ∧ Went b s (i + 1) w w' := by
  have W : Hid (Went b s i w w) := Went.refl h
  clear h
  have hne : (pk s i == -1) = false := by have := pk_nn hlt; simp; omega
  go_enter Try.func70, Try.ntmps70
  go_wp2_with fail
  refine (peek_c s b (i) _ (i) _ (W.out.1) ⟨by omega, by omega, by omega⟩).mono ?_
  rintro e wq ⟨rfl, nq, rfl⟩
  go_wp2_with fail
  refine (take_c s b i _ (W.out.1.drewN _) hlt).mono ?_
  rintro e w1 ⟨rfl, hwent⟩
  have W1 : Hid (Went b s (i + 1) w w1) := (W.out.drewN _).trans hwent
  clear hwent
  go_wp2_with fail
  go_ret
  exact ⟨rfl, W1.out⟩

set_option maxHeartbeats 400000 in
theorem escapedByte_out (s : ByteArray) (b i : Nat) (w : World) (h : Sc w b s i) (hlt : s.size ≤ i) :
    Calls Try.prog 70 #[.pointer (some ⟨b, 0, none⟩)] w fun e w' => e = .returned (.string ques) ∧ Went b s i w w' := by
  have W : Hid (Went b s i w w) := Went.refl h
  clear h
  have hne : (pk s i == -1) = true := by rw [pk_out hlt]; rfl
  go_enter Try.func70, Try.ntmps70
  go_wp2_with fail
  refine (peek_c s b (i) _ (i) _ (W.out.1) ⟨by omega, by omega, by omega⟩).mono ?_
  rintro e wq ⟨rfl, nq, rfl⟩
  go_wp2_with fail
  go_ret
  exact ⟨rfl, W.out.drewN _⟩
end Go.Proofs.Ytlliliddljkbfaa
