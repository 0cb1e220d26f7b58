/-
  The reference's number; comments.
-/
import Derived.Test.YtlliliddljkbfaaRef1
namespace Go.Proofs.Ytlliliddljkbfaa
open Go.RowKit Sp
set_option maxRecDepth 100000

set_option maxHeartbeats 1000000 in
theorem number_no (s : ByteArray) (i k0 : Nat) (w : World) (hs : s.size ≤ 600) (hi : i ≤ s.size) (HK0 : Hid (sgn s i = k0)) (h0 : k0 ≤ 700) (d0 : digI (a0 s k0) = false) (p0 : (a0 s k0 == 46) = false) (r : Int) (HV : Hid (((i : Nat) : Int) = r)) :
    Calls Try.prog 33 #[.string s, .int .i64 (i : Int)] w fun e w' => e = .returned (.int .i64 r) ∧ w' = w := by
  have _h := hi
  have _h0 := h0
  go_enter Try.func33, Try.ntmps33
  go_wp2_with fail
  refine (signed_r s _ i _ (by omega) (by omega) (by omega)).mono ?_
  rw [HK0.out]
  rintro e wq ⟨rfl, rfl⟩
  go_wp2_with fail
  refine (at_r s _ (k0) _ (by omega) (by omega)).mono ?_
  rintro e wq ⟨rfl, rfl⟩
  go_wp2_with fail
  refine (isDigit_r _ _).mono ?_
  rintro e wq ⟨rfl, rfl⟩
  go_wp2_with fail
  refine (at_r s _ (k0) _ (by omega) (by omega)).mono ?_
  rintro e wq ⟨rfl, rfl⟩
  go_wp2_with fail
  go_ret
  exact ⟨rint HV.out, rfl⟩

set_option maxHeartbeats 1000000 in
theorem number_nof (s : ByteArray) (i k0 : Nat) (w : World) (hs : s.size ≤ 600) (hi : i ≤ s.size) (HK0 : Hid (sgn s i = k0)) (h0 : k0 ≤ 700) (d0 : digI (a0 s k0) = false) (p0 : (a0 s k0 == 46) = true) (q0 : digI (a0 s (k0 + 1)) = false) (r : Int) (HV : Hid (((i : Nat) : Int) = r)) :
    Calls Try.prog 33 #[.string s, .int .i64 (i : Int)] w fun e w' => e = .returned (.int .i64 r) ∧ w' = w := by
  have _h := hi
  have _h0 := h0
  go_enter Try.func33, Try.ntmps33
  go_wp2_with fail
  refine (signed_r s _ i _ (by omega) (by omega) (by omega)).mono ?_
  rw [HK0.out]
  rintro e wq ⟨rfl, rfl⟩
  go_wp2_with fail
  refine (at_r s _ (k0) _ (by omega) (by omega)).mono ?_
  rintro e wq ⟨rfl, rfl⟩
  go_wp2_with fail
  refine (isDigit_r _ _).mono ?_
  rintro e wq ⟨rfl, rfl⟩
  go_wp2_with fail
  refine (at_r s _ (k0) _ (by omega) (by omega)).mono ?_
  rintro e wq ⟨rfl, rfl⟩
  go_wp2_with fail
  refine (at_r s _ (k0 + 1) _ (by omega) (by omega)).mono ?_
  rintro e wq ⟨rfl, rfl⟩
  go_wp2_with fail
  refine (isDigit_r _ _).mono ?_
  rintro e wq ⟨rfl, rfl⟩
  go_wp2_with fail
  go_ret
  exact ⟨rint HV.out, rfl⟩

set_option maxHeartbeats 1000000 in
theorem number_d_nodot_101y (s : ByteArray) (i k0 : Nat) (w : World) (hs : s.size ≤ 600) (hi : i ≤ s.size) (HK0 : Hid (sgn s i = k0)) (h0 : k0 ≤ 700) (d0 : digI (a0 s k0) = true) (p0 : (a0 s k0 == 46) = false) (k1 : Nat) (HK1 : Hid (dig s k0 = k1)) (h1 : k1 ≤ 700) (p1 : (a0 s k1 == 46) = false) (t1 : (a0 s k1 == 101) = true) (k3 : Nat) (HK3 : Hid (sgn s (k1 + 1) = k3)) (h3 : k3 ≤ 800) (d3 : digI (a0 s k3) = true) (r : Int) (HV : Hid (((dig s k3 : Nat) : Int) = r)) :
    Calls Try.prog 33 #[.string s, .int .i64 (i : Int)] w fun e w' => e = .returned (.int .i64 r) ∧ w' = w := by
  have _h := hi
  have _h0 := h0
  have _h1 := h1
  have _h3 := h3
  go_enter Try.func33, Try.ntmps33
  go_wp2_with fail
  refine (signed_r s _ i _ (by omega) (by omega) (by omega)).mono ?_
  rw [HK0.out]
  rintro e wq ⟨rfl, rfl⟩
  go_wp2_with fail
  refine (at_r s _ (k0) _ (by omega) (by omega)).mono ?_
  rintro e wq ⟨rfl, rfl⟩
  go_wp2_with fail
  refine (isDigit_r _ _).mono ?_
  rintro e wq ⟨rfl, rfl⟩
  go_wp2_with fail
  refine (at_r s _ (k0) _ (by omega) (by omega)).mono ?_
  rintro e wq ⟨rfl, rfl⟩
  go_wp2_with fail
  refine (digits_r s _ k0 _ (by omega) (by omega) (by omega)).mono ?_
  rw [HK1.out]
  rintro e wq ⟨rfl, rfl⟩
  go_wp2_with fail
  refine (at_r s _ (k1) _ (by omega) (by omega)).mono ?_
  rintro e wq ⟨rfl, rfl⟩
  go_wp2_with fail
  refine (at_r s _ (k1) _ (by omega) (by omega)).mono ?_
  rintro e wq ⟨rfl, rfl⟩
  go_wp2_with fail
  refine (signed_r s _ (k1 + 1) _ (by omega) (by omega) (by omega)).mono ?_
  rw [HK3.out]
  rintro e wq ⟨rfl, rfl⟩
  go_wp2_with fail
  refine (at_r s _ (k3) _ (by omega) (by omega)).mono ?_
  rintro e wq ⟨rfl, rfl⟩
  go_wp2_with fail
  refine (isDigit_r _ _).mono ?_
  rintro e wq ⟨rfl, rfl⟩
  go_wp2_with fail
  refine (digits_r s _ k3 _ (by omega) (by omega) (by omega)).mono ?_
  rintro e wq ⟨rfl, rfl⟩
  go_wp2_with fail
  go_ret
  exact ⟨rint HV.out, rfl⟩

set_option maxHeartbeats 1000000 in
theorem number_d_nodot_101n (s : ByteArray) (i k0 : Nat) (w : World) (hs : s.size ≤ 600) (hi : i ≤ s.size) (HK0 : Hid (sgn s i = k0)) (h0 : k0 ≤ 700) (d0 : digI (a0 s k0) = true) (p0 : (a0 s k0 == 46) = false) (k1 : Nat) (HK1 : Hid (dig s k0 = k1)) (h1 : k1 ≤ 700) (p1 : (a0 s k1 == 46) = false) (t1 : (a0 s k1 == 101) = true) (k3 : Nat) (HK3 : Hid (sgn s (k1 + 1) = k3)) (h3 : k3 ≤ 800) (d3 : digI (a0 s k3) = false) (r : Int) (HV : Hid (((k1 : Nat) : Int) = r)) :
    Calls Try.prog 33 #[.string s, .int .i64 (i : Int)] w fun e w' => e = .returned (.int .i64 r) ∧ w' = w := by
  have _h := hi
  have _h0 := h0
  have _h1 := h1
  have _h3 := h3
  go_enter Try.func33, Try.ntmps33
  go_wp2_with fail
  refine (signed_r s _ i _ (by omega) (by omega) (by omega)).mono ?_
  rw [HK0.out]
  rintro e wq ⟨rfl, rfl⟩
  go_wp2_with fail
  refine (at_r s _ (k0) _ (by omega) (by omega)).mono ?_
  rintro e wq ⟨rfl, rfl⟩
  go_wp2_with fail
  refine (isDigit_r _ _).mono ?_
  rintro e wq ⟨rfl, rfl⟩
  go_wp2_with fail
  refine (at_r s _ (k0) _ (by omega) (by omega)).mono ?_
  rintro e wq ⟨rfl, rfl⟩
  go_wp2_with fail
  refine (digits_r s _ k0 _ (by omega) (by omega) (by omega)).mono ?_
  rw [HK1.out]
  rintro e wq ⟨rfl, rfl⟩
  go_wp2_with fail
  refine (at_r s _ (k1) _ (by omega) (by omega)).mono ?_
  rintro e wq ⟨rfl, rfl⟩
  go_wp2_with fail
  refine (at_r s _ (k1) _ (by omega) (by omega)).mono ?_
  rintro e wq ⟨rfl, rfl⟩
  go_wp2_with fail
  refine (signed_r s _ (k1 + 1) _ (by omega) (by omega) (by omega)).mono ?_
  rw [HK3.out]
  rintro e wq ⟨rfl, rfl⟩
  go_wp2_with fail
  refine (at_r s _ (k3) _ (by omega) (by omega)).mono ?_
  rintro e wq ⟨rfl, rfl⟩
  go_wp2_with fail
  refine (isDigit_r _ _).mono ?_
  rintro e wq ⟨rfl, rfl⟩
  go_wp2_with fail
  go_ret
  exact ⟨rint HV.out, rfl⟩

set_option maxHeartbeats 1000000 in
theorem number_d_nodot_69y (s : ByteArray) (i k0 : Nat) (w : World) (hs : s.size ≤ 600) (hi : i ≤ s.size) (HK0 : Hid (sgn s i = k0)) (h0 : k0 ≤ 700) (d0 : digI (a0 s k0) = true) (p0 : (a0 s k0 == 46) = false) (k1 : Nat) (HK1 : Hid (dig s k0 = k1)) (h1 : k1 ≤ 700) (p1 : (a0 s k1 == 46) = false) (t1 : (a0 s k1 == 101) = false) (t2 : (a0 s k1 == 69) = true) (k3 : Nat) (HK3 : Hid (sgn s (k1 + 1) = k3)) (h3 : k3 ≤ 800) (d3 : digI (a0 s k3) = true) (r : Int) (HV : Hid (((dig s k3 : Nat) : Int) = r)) :
    Calls Try.prog 33 #[.string s, .int .i64 (i : Int)] w fun e w' => e = .returned (.int .i64 r) ∧ w' = w := by
  have _h := hi
  have _h0 := h0
  have _h1 := h1
  have _h3 := h3
  go_enter Try.func33, Try.ntmps33
  go_wp2_with fail
  refine (signed_r s _ i _ (by omega) (by omega) (by omega)).mono ?_
  rw [HK0.out]
  rintro e wq ⟨rfl, rfl⟩
  go_wp2_with fail
  refine (at_r s _ (k0) _ (by omega) (by omega)).mono ?_
  rintro e wq ⟨rfl, rfl⟩
  go_wp2_with fail
  refine (isDigit_r _ _).mono ?_
  rintro e wq ⟨rfl, rfl⟩
  go_wp2_with fail
  refine (at_r s _ (k0) _ (by omega) (by omega)).mono ?_
  rintro e wq ⟨rfl, rfl⟩
  go_wp2_with fail
  refine (digits_r s _ k0 _ (by omega) (by omega) (by omega)).mono ?_
  rw [HK1.out]
  rintro e wq ⟨rfl, rfl⟩
  go_wp2_with fail
  refine (at_r s _ (k1) _ (by omega) (by omega)).mono ?_
  rintro e wq ⟨rfl, rfl⟩
  go_wp2_with fail
  refine (at_r s _ (k1) _ (by omega) (by omega)).mono ?_
  rintro e wq ⟨rfl, rfl⟩
  go_wp2_with fail
  refine (at_r s _ (k1) _ (by omega) (by omega)).mono ?_
  rintro e wq ⟨rfl, rfl⟩
  go_wp2_with fail
  refine (signed_r s _ (k1 + 1) _ (by omega) (by omega) (by omega)).mono ?_
  rw [HK3.out]
  rintro e wq ⟨rfl, rfl⟩
  go_wp2_with fail
  refine (at_r s _ (k3) _ (by omega) (by omega)).mono ?_
  rintro e wq ⟨rfl, rfl⟩
  go_wp2_with fail
  refine (isDigit_r _ _).mono ?_
  rintro e wq ⟨rfl, rfl⟩
  go_wp2_with fail
  refine (digits_r s _ k3 _ (by omega) (by omega) (by omega)).mono ?_
  rintro e wq ⟨rfl, rfl⟩
  go_wp2_with fail
  go_ret
  exact ⟨rint HV.out, rfl⟩

set_option maxHeartbeats 1000000 in
theorem number_d_nodot_69n (s : ByteArray) (i k0 : Nat) (w : World) (hs : s.size ≤ 600) (hi : i ≤ s.size) (HK0 : Hid (sgn s i = k0)) (h0 : k0 ≤ 700) (d0 : digI (a0 s k0) = true) (p0 : (a0 s k0 == 46) = false) (k1 : Nat) (HK1 : Hid (dig s k0 = k1)) (h1 : k1 ≤ 700) (p1 : (a0 s k1 == 46) = false) (t1 : (a0 s k1 == 101) = false) (t2 : (a0 s k1 == 69) = true) (k3 : Nat) (HK3 : Hid (sgn s (k1 + 1) = k3)) (h3 : k3 ≤ 800) (d3 : digI (a0 s k3) = false) (r : Int) (HV : Hid (((k1 : Nat) : Int) = r)) :
    Calls Try.prog 33 #[.string s, .int .i64 (i : Int)] w fun e w' => e = .returned (.int .i64 r) ∧ w' = w := by
  have _h := hi
  have _h0 := h0
  have _h1 := h1
  have _h3 := h3
  go_enter Try.func33, Try.ntmps33
  go_wp2_with fail
  refine (signed_r s _ i _ (by omega) (by omega) (by omega)).mono ?_
  rw [HK0.out]
  rintro e wq ⟨rfl, rfl⟩
  go_wp2_with fail
  refine (at_r s _ (k0) _ (by omega) (by omega)).mono ?_
  rintro e wq ⟨rfl, rfl⟩
  go_wp2_with fail
  refine (isDigit_r _ _).mono ?_
  rintro e wq ⟨rfl, rfl⟩
  go_wp2_with fail
  refine (at_r s _ (k0) _ (by omega) (by omega)).mono ?_
  rintro e wq ⟨rfl, rfl⟩
  go_wp2_with fail
  refine (digits_r s _ k0 _ (by omega) (by omega) (by omega)).mono ?_
  rw [HK1.out]
  rintro e wq ⟨rfl, rfl⟩
  go_wp2_with fail
  refine (at_r s _ (k1) _ (by omega) (by omega)).mono ?_
  rintro e wq ⟨rfl, rfl⟩
  go_wp2_with fail
  refine (at_r s _ (k1) _ (by omega) (by omega)).mono ?_
  rintro e wq ⟨rfl, rfl⟩
  go_wp2_with fail
  refine (at_r s _ (k1) _ (by omega) (by omega)).mono ?_
  rintro e wq ⟨rfl, rfl⟩
  go_wp2_with fail
  refine (signed_r s _ (k1 + 1) _ (by omega) (by omega) (by omega)).mono ?_
  rw [HK3.out]
  rintro e wq ⟨rfl, rfl⟩
  go_wp2_with fail
  refine (at_r s _ (k3) _ (by omega) (by omega)).mono ?_
  rintro e wq ⟨rfl, rfl⟩
  go_wp2_with fail
  refine (isDigit_r _ _).mono ?_
  rintro e wq ⟨rfl, rfl⟩
  go_wp2_with fail
  go_ret
  exact ⟨rint HV.out, rfl⟩

set_option maxHeartbeats 1000000 in
theorem number_d_nodot_none (s : ByteArray) (i k0 : Nat) (w : World) (hs : s.size ≤ 600) (hi : i ≤ s.size) (HK0 : Hid (sgn s i = k0)) (h0 : k0 ≤ 700) (d0 : digI (a0 s k0) = true) (p0 : (a0 s k0 == 46) = false) (k1 : Nat) (HK1 : Hid (dig s k0 = k1)) (h1 : k1 ≤ 700) (p1 : (a0 s k1 == 46) = false) (t1 : (a0 s k1 == 101) = false) (t2 : (a0 s k1 == 69) = false) (r : Int) (HV : Hid (((k1 : Nat) : Int) = r)) :
    Calls Try.prog 33 #[.string s, .int .i64 (i : Int)] w fun e w' => e = .returned (.int .i64 r) ∧ w' = w := by
  have _h := hi
  have _h0 := h0
  have _h1 := h1
  go_enter Try.func33, Try.ntmps33
  go_wp2_with fail
  refine (signed_r s _ i _ (by omega) (by omega) (by omega)).mono ?_
  rw [HK0.out]
  rintro e wq ⟨rfl, rfl⟩
  go_wp2_with fail
  refine (at_r s _ (k0) _ (by omega) (by omega)).mono ?_
  rintro e wq ⟨rfl, rfl⟩
  go_wp2_with fail
  refine (isDigit_r _ _).mono ?_
  rintro e wq ⟨rfl, rfl⟩
  go_wp2_with fail
  refine (at_r s _ (k0) _ (by omega) (by omega)).mono ?_
  rintro e wq ⟨rfl, rfl⟩
  go_wp2_with fail
  refine (digits_r s _ k0 _ (by omega) (by omega) (by omega)).mono ?_
  rw [HK1.out]
  rintro e wq ⟨rfl, rfl⟩
  go_wp2_with fail
  refine (at_r s _ (k1) _ (by omega) (by omega)).mono ?_
  rintro e wq ⟨rfl, rfl⟩
  go_wp2_with fail
  refine (at_r s _ (k1) _ (by omega) (by omega)).mono ?_
  rintro e wq ⟨rfl, rfl⟩
  go_wp2_with fail
  refine (at_r s _ (k1) _ (by omega) (by omega)).mono ?_
  rintro e wq ⟨rfl, rfl⟩
  go_wp2_with fail
  go_ret
  exact ⟨rint HV.out, rfl⟩

set_option maxHeartbeats 1000000 in
theorem number_d_nodig_101y (s : ByteArray) (i k0 : Nat) (w : World) (hs : s.size ≤ 600) (hi : i ≤ s.size) (HK0 : Hid (sgn s i = k0)) (h0 : k0 ≤ 700) (d0 : digI (a0 s k0) = true) (p0 : (a0 s k0 == 46) = false) (k1 : Nat) (HK1 : Hid (dig s k0 = k1)) (h1 : k1 ≤ 700) (p1 : (a0 s k1 == 46) = true) (q1 : digI (a0 s (k1 + 1)) = false) (t1 : (a0 s k1 == 101) = true) (k3 : Nat) (HK3 : Hid (sgn s (k1 + 1) = k3)) (h3 : k3 ≤ 800) (d3 : digI (a0 s k3) = true) (r : Int) (HV : Hid (((dig s k3 : Nat) : Int) = r)) :
    Calls Try.prog 33 #[.string s, .int .i64 (i : Int)] w fun e w' => e = .returned (.int .i64 r) ∧ w' = w := by
  have _h := hi
  have _h0 := h0
  have _h1 := h1
  have _h3 := h3
  go_enter Try.func33, Try.ntmps33
  go_wp2_with fail
  refine (signed_r s _ i _ (by omega) (by omega) (by omega)).mono ?_
  rw [HK0.out]
  rintro e wq ⟨rfl, rfl⟩
  go_wp2_with fail
  refine (at_r s _ (k0) _ (by omega) (by omega)).mono ?_
  rintro e wq ⟨rfl, rfl⟩
  go_wp2_with fail
  refine (isDigit_r _ _).mono ?_
  rintro e wq ⟨rfl, rfl⟩
  go_wp2_with fail
  refine (at_r s _ (k0) _ (by omega) (by omega)).mono ?_
  rintro e wq ⟨rfl, rfl⟩
  go_wp2_with fail
  refine (digits_r s _ k0 _ (by omega) (by omega) (by omega)).mono ?_
  rw [HK1.out]
  rintro e wq ⟨rfl, rfl⟩
  go_wp2_with fail
  refine (at_r s _ (k1) _ (by omega) (by omega)).mono ?_
  rintro e wq ⟨rfl, rfl⟩
  go_wp2_with fail
  refine (at_r s _ (k1 + 1) _ (by omega) (by omega)).mono ?_
  rintro e wq ⟨rfl, rfl⟩
  go_wp2_with fail
  refine (isDigit_r _ _).mono ?_
  rintro e wq ⟨rfl, rfl⟩
  go_wp2_with fail
  refine (at_r s _ (k1) _ (by omega) (by omega)).mono ?_
  rintro e wq ⟨rfl, rfl⟩
  go_wp2_with fail
  refine (signed_r s _ (k1 + 1) _ (by omega) (by omega) (by omega)).mono ?_
  rw [HK3.out]
  rintro e wq ⟨rfl, rfl⟩
  go_wp2_with fail
  refine (at_r s _ (k3) _ (by omega) (by omega)).mono ?_
  rintro e wq ⟨rfl, rfl⟩
  go_wp2_with fail
  refine (isDigit_r _ _).mono ?_
  rintro e wq ⟨rfl, rfl⟩
  go_wp2_with fail
  refine (digits_r s _ k3 _ (by omega) (by omega) (by omega)).mono ?_
  rintro e wq ⟨rfl, rfl⟩
  go_wp2_with fail
  go_ret
  exact ⟨rint HV.out, rfl⟩

set_option maxHeartbeats 1000000 in
theorem number_d_nodig_101n (s : ByteArray) (i k0 : Nat) (w : World) (hs : s.size ≤ 600) (hi : i ≤ s.size) (HK0 : Hid (sgn s i = k0)) (h0 : k0 ≤ 700) (d0 : digI (a0 s k0) = true) (p0 : (a0 s k0 == 46) = false) (k1 : Nat) (HK1 : Hid (dig s k0 = k1)) (h1 : k1 ≤ 700) (p1 : (a0 s k1 == 46) = true) (q1 : digI (a0 s (k1 + 1)) = false) (t1 : (a0 s k1 == 101) = true) (k3 : Nat) (HK3 : Hid (sgn s (k1 + 1) = k3)) (h3 : k3 ≤ 800) (d3 : digI (a0 s k3) = false) (r : Int) (HV : Hid (((k1 : Nat) : Int) = r)) :
    Calls Try.prog 33 #[.string s, .int .i64 (i : Int)] w fun e w' => e = .returned (.int .i64 r) ∧ w' = w := by
  have _h := hi
  have _h0 := h0
  have _h1 := h1
  have _h3 := h3
  go_enter Try.func33, Try.ntmps33
  go_wp2_with fail
  refine (signed_r s _ i _ (by omega) (by omega) (by omega)).mono ?_
  rw [HK0.out]
  rintro e wq ⟨rfl, rfl⟩
  go_wp2_with fail
  refine (at_r s _ (k0) _ (by omega) (by omega)).mono ?_
  rintro e wq ⟨rfl, rfl⟩
  go_wp2_with fail
  refine (isDigit_r _ _).mono ?_
  rintro e wq ⟨rfl, rfl⟩
  go_wp2_with fail
  refine (at_r s _ (k0) _ (by omega) (by omega)).mono ?_
  rintro e wq ⟨rfl, rfl⟩
  go_wp2_with fail
  refine (digits_r s _ k0 _ (by omega) (by omega) (by omega)).mono ?_
  rw [HK1.out]
  rintro e wq ⟨rfl, rfl⟩
  go_wp2_with fail
  refine (at_r s _ (k1) _ (by omega) (by omega)).mono ?_
  rintro e wq ⟨rfl, rfl⟩
  go_wp2_with fail
  refine (at_r s _ (k1 + 1) _ (by omega) (by omega)).mono ?_
  rintro e wq ⟨rfl, rfl⟩
  go_wp2_with fail
  refine (isDigit_r _ _).mono ?_
  rintro e wq ⟨rfl, rfl⟩
  go_wp2_with fail
  refine (at_r s _ (k1) _ (by omega) (by omega)).mono ?_
  rintro e wq ⟨rfl, rfl⟩
  go_wp2_with fail
  refine (signed_r s _ (k1 + 1) _ (by omega) (by omega) (by omega)).mono ?_
  rw [HK3.out]
  rintro e wq ⟨rfl, rfl⟩
  go_wp2_with fail
  refine (at_r s _ (k3) _ (by omega) (by omega)).mono ?_
  rintro e wq ⟨rfl, rfl⟩
  go_wp2_with fail
  refine (isDigit_r _ _).mono ?_
  rintro e wq ⟨rfl, rfl⟩
  go_wp2_with fail
  go_ret
  exact ⟨rint HV.out, rfl⟩

set_option maxHeartbeats 1000000 in
theorem number_d_nodig_69y (s : ByteArray) (i k0 : Nat) (w : World) (hs : s.size ≤ 600) (hi : i ≤ s.size) (HK0 : Hid (sgn s i = k0)) (h0 : k0 ≤ 700) (d0 : digI (a0 s k0) = true) (p0 : (a0 s k0 == 46) = false) (k1 : Nat) (HK1 : Hid (dig s k0 = k1)) (h1 : k1 ≤ 700) (p1 : (a0 s k1 == 46) = true) (q1 : digI (a0 s (k1 + 1)) = false) (t1 : (a0 s k1 == 101) = false) (t2 : (a0 s k1 == 69) = true) (k3 : Nat) (HK3 : Hid (sgn s (k1 + 1) = k3)) (h3 : k3 ≤ 800) (d3 : digI (a0 s k3) = true) (r : Int) (HV : Hid (((dig s k3 : Nat) : Int) = r)) :
    Calls Try.prog 33 #[.string s, .int .i64 (i : Int)] w fun e w' => e = .returned (.int .i64 r) ∧ w' = w := by
  have _h := hi
  have _h0 := h0
  have _h1 := h1
  have _h3 := h3
  go_enter Try.func33, Try.ntmps33
  go_wp2_with fail
  refine (signed_r s _ i _ (by omega) (by omega) (by omega)).mono ?_
  rw [HK0.out]
  rintro e wq ⟨rfl, rfl⟩
  go_wp2_with fail
  refine (at_r s _ (k0) _ (by omega) (by omega)).mono ?_
  rintro e wq ⟨rfl, rfl⟩
  go_wp2_with fail
  refine (isDigit_r _ _).mono ?_
  rintro e wq ⟨rfl, rfl⟩
  go_wp2_with fail
  refine (at_r s _ (k0) _ (by omega) (by omega)).mono ?_
  rintro e wq ⟨rfl, rfl⟩
  go_wp2_with fail
  refine (digits_r s _ k0 _ (by omega) (by omega) (by omega)).mono ?_
  rw [HK1.out]
  rintro e wq ⟨rfl, rfl⟩
  go_wp2_with fail
  refine (at_r s _ (k1) _ (by omega) (by omega)).mono ?_
  rintro e wq ⟨rfl, rfl⟩
  go_wp2_with fail
  refine (at_r s _ (k1 + 1) _ (by omega) (by omega)).mono ?_
  rintro e wq ⟨rfl, rfl⟩
  go_wp2_with fail
  refine (isDigit_r _ _).mono ?_
  rintro e wq ⟨rfl, rfl⟩
  go_wp2_with fail
  refine (at_r s _ (k1) _ (by omega) (by omega)).mono ?_
  rintro e wq ⟨rfl, rfl⟩
  go_wp2_with fail
  refine (at_r s _ (k1) _ (by omega) (by omega)).mono ?_
  rintro e wq ⟨rfl, rfl⟩
  go_wp2_with fail
  refine (signed_r s _ (k1 + 1) _ (by omega) (by omega) (by omega)).mono ?_
  rw [HK3.out]
  rintro e wq ⟨rfl, rfl⟩
  go_wp2_with fail
  refine (at_r s _ (k3) _ (by omega) (by omega)).mono ?_
  rintro e wq ⟨rfl, rfl⟩
  go_wp2_with fail
  refine (isDigit_r _ _).mono ?_
  rintro e wq ⟨rfl, rfl⟩
  go_wp2_with fail
  refine (digits_r s _ k3 _ (by omega) (by omega) (by omega)).mono ?_
  rintro e wq ⟨rfl, rfl⟩
  go_wp2_with fail
  go_ret
  exact ⟨rint HV.out, rfl⟩

set_option maxHeartbeats 1000000 in
theorem number_d_nodig_69n (s : ByteArray) (i k0 : Nat) (w : World) (hs : s.size ≤ 600) (hi : i ≤ s.size) (HK0 : Hid (sgn s i = k0)) (h0 : k0 ≤ 700) (d0 : digI (a0 s k0) = true) (p0 : (a0 s k0 == 46) = false) (k1 : Nat) (HK1 : Hid (dig s k0 = k1)) (h1 : k1 ≤ 700) (p1 : (a0 s k1 == 46) = true) (q1 : digI (a0 s (k1 + 1)) = false) (t1 : (a0 s k1 == 101) = false) (t2 : (a0 s k1 == 69) = true) (k3 : Nat) (HK3 : Hid (sgn s (k1 + 1) = k3)) (h3 : k3 ≤ 800) (d3 : digI (a0 s k3) = false) (r : Int) (HV : Hid (((k1 : Nat) : Int) = r)) :
    Calls Try.prog 33 #[.string s, .int .i64 (i : Int)] w fun e w' => e = .returned (.int .i64 r) ∧ w' = w := by
  have _h := hi
  have _h0 := h0
  have _h1 := h1
  have _h3 := h3
  go_enter Try.func33, Try.ntmps33
  go_wp2_with fail
  refine (signed_r s _ i _ (by omega) (by omega) (by omega)).mono ?_
  rw [HK0.out]
  rintro e wq ⟨rfl, rfl⟩
  go_wp2_with fail
  refine (at_r s _ (k0) _ (by omega) (by omega)).mono ?_
  rintro e wq ⟨rfl, rfl⟩
  go_wp2_with fail
  refine (isDigit_r _ _).mono ?_
  rintro e wq ⟨rfl, rfl⟩
  go_wp2_with fail
  refine (at_r s _ (k0) _ (by omega) (by omega)).mono ?_
  rintro e wq ⟨rfl, rfl⟩
  go_wp2_with fail
  refine (digits_r s _ k0 _ (by omega) (by omega) (by omega)).mono ?_
  rw [HK1.out]
  rintro e wq ⟨rfl, rfl⟩
  go_wp2_with fail
  refine (at_r s _ (k1) _ (by omega) (by omega)).mono ?_
  rintro e wq ⟨rfl, rfl⟩
  go_wp2_with fail
  refine (at_r s _ (k1 + 1) _ (by omega) (by omega)).mono ?_
  rintro e wq ⟨rfl, rfl⟩
  go_wp2_with fail
  refine (isDigit_r _ _).mono ?_
  rintro e wq ⟨rfl, rfl⟩
  go_wp2_with fail
  refine (at_r s _ (k1) _ (by omega) (by omega)).mono ?_
  rintro e wq ⟨rfl, rfl⟩
  go_wp2_with fail
  refine (at_r s _ (k1) _ (by omega) (by omega)).mono ?_
  rintro e wq ⟨rfl, rfl⟩
  go_wp2_with fail
  refine (signed_r s _ (k1 + 1) _ (by omega) (by omega) (by omega)).mono ?_
  rw [HK3.out]
  rintro e wq ⟨rfl, rfl⟩
  go_wp2_with fail
  refine (at_r s _ (k3) _ (by omega) (by omega)).mono ?_
  rintro e wq ⟨rfl, rfl⟩
  go_wp2_with fail
  refine (isDigit_r _ _).mono ?_
  rintro e wq ⟨rfl, rfl⟩
  go_wp2_with fail
  go_ret
  exact ⟨rint HV.out, rfl⟩

set_option maxHeartbeats 1000000 in
theorem number_d_nodig_none (s : ByteArray) (i k0 : Nat) (w : World) (hs : s.size ≤ 600) (hi : i ≤ s.size) (HK0 : Hid (sgn s i = k0)) (h0 : k0 ≤ 700) (d0 : digI (a0 s k0) = true) (p0 : (a0 s k0 == 46) = false) (k1 : Nat) (HK1 : Hid (dig s k0 = k1)) (h1 : k1 ≤ 700) (p1 : (a0 s k1 == 46) = true) (q1 : digI (a0 s (k1 + 1)) = false) (t1 : (a0 s k1 == 101) = false) (t2 : (a0 s k1 == 69) = false) (r : Int) (HV : Hid (((k1 : Nat) : Int) = r)) :
    Calls Try.prog 33 #[.string s, .int .i64 (i : Int)] w fun e w' => e = .returned (.int .i64 r) ∧ w' = w := by
  have _h := hi
  have _h0 := h0
  have _h1 := h1
  go_enter Try.func33, Try.ntmps33
  go_wp2_with fail
  refine (signed_r s _ i _ (by omega) (by omega) (by omega)).mono ?_
  rw [HK0.out]
  rintro e wq ⟨rfl, rfl⟩
  go_wp2_with fail
  refine (at_r s _ (k0) _ (by omega) (by omega)).mono ?_
  rintro e wq ⟨rfl, rfl⟩
  go_wp2_with fail
  refine (isDigit_r _ _).mono ?_
  rintro e wq ⟨rfl, rfl⟩
  go_wp2_with fail
  refine (at_r s _ (k0) _ (by omega) (by omega)).mono ?_
  rintro e wq ⟨rfl, rfl⟩
  go_wp2_with fail
  refine (digits_r s _ k0 _ (by omega) (by omega) (by omega)).mono ?_
  rw [HK1.out]
  rintro e wq ⟨rfl, rfl⟩
  go_wp2_with fail
  refine (at_r s _ (k1) _ (by omega) (by omega)).mono ?_
  rintro e wq ⟨rfl, rfl⟩
  go_wp2_with fail
  refine (at_r s _ (k1 + 1) _ (by omega) (by omega)).mono ?_
  rintro e wq ⟨rfl, rfl⟩
  go_wp2_with fail
  refine (isDigit_r _ _).mono ?_
  rintro e wq ⟨rfl, rfl⟩
  go_wp2_with fail
  refine (at_r s _ (k1) _ (by omega) (by omega)).mono ?_
  rintro e wq ⟨rfl, rfl⟩
  go_wp2_with fail
  refine (at_r s _ (k1) _ (by omega) (by omega)).mono ?_
  rintro e wq ⟨rfl, rfl⟩
  go_wp2_with fail
  go_ret
  exact ⟨rint HV.out, rfl⟩

set_option maxHeartbeats 1000000 in
theorem number_d_yes_101y (s : ByteArray) (i k0 : Nat) (w : World) (hs : s.size ≤ 600) (hi : i ≤ s.size) (HK0 : Hid (sgn s i = k0)) (h0 : k0 ≤ 700) (d0 : digI (a0 s k0) = true) (p0 : (a0 s k0 == 46) = false) (k1 : Nat) (HK1 : Hid (dig s k0 = k1)) (h1 : k1 ≤ 700) (p1 : (a0 s k1 == 46) = true) (q1 : digI (a0 s (k1 + 1)) = true) (k2 : Nat) (HK2 : Hid (dig s (k1 + 1) = k2)) (h2 : k2 ≤ 700) (t1 : (a0 s k2 == 101) = true) (k3 : Nat) (HK3 : Hid (sgn s (k2 + 1) = k3)) (h3 : k3 ≤ 800) (d3 : digI (a0 s k3) = true) (r : Int) (HV : Hid (((dig s k3 : Nat) : Int) = r)) :
    Calls Try.prog 33 #[.string s, .int .i64 (i : Int)] w fun e w' => e = .returned (.int .i64 r) ∧ w' = w := by
  have _h := hi
  have _h0 := h0
  have _h1 := h1
  have _h2 := h2
  have _h3 := h3
  go_enter Try.func33, Try.ntmps33
  go_wp2_with fail
  refine (signed_r s _ i _ (by omega) (by omega) (by omega)).mono ?_
  rw [HK0.out]
  rintro e wq ⟨rfl, rfl⟩
  go_wp2_with fail
  refine (at_r s _ (k0) _ (by omega) (by omega)).mono ?_
  rintro e wq ⟨rfl, rfl⟩
  go_wp2_with fail
  refine (isDigit_r _ _).mono ?_
  rintro e wq ⟨rfl, rfl⟩
  go_wp2_with fail
  refine (at_r s _ (k0) _ (by omega) (by omega)).mono ?_
  rintro e wq ⟨rfl, rfl⟩
  go_wp2_with fail
  refine (digits_r s _ k0 _ (by omega) (by omega) (by omega)).mono ?_
  rw [HK1.out]
  rintro e wq ⟨rfl, rfl⟩
  go_wp2_with fail
  refine (at_r s _ (k1) _ (by omega) (by omega)).mono ?_
  rintro e wq ⟨rfl, rfl⟩
  go_wp2_with fail
  refine (at_r s _ (k1 + 1) _ (by omega) (by omega)).mono ?_
  rintro e wq ⟨rfl, rfl⟩
  go_wp2_with fail
  refine (isDigit_r _ _).mono ?_
  rintro e wq ⟨rfl, rfl⟩
  go_wp2_with fail
  refine (digits_r s _ (k1 + 1) _ (by omega) (by omega) (by omega)).mono ?_
  rw [HK2.out]
  rintro e wq ⟨rfl, rfl⟩
  go_wp2_with fail
  refine (at_r s _ (k2) _ (by omega) (by omega)).mono ?_
  rintro e wq ⟨rfl, rfl⟩
  go_wp2_with fail
  refine (signed_r s _ (k2 + 1) _ (by omega) (by omega) (by omega)).mono ?_
  rw [HK3.out]
  rintro e wq ⟨rfl, rfl⟩
  go_wp2_with fail
  refine (at_r s _ (k3) _ (by omega) (by omega)).mono ?_
  rintro e wq ⟨rfl, rfl⟩
  go_wp2_with fail
  refine (isDigit_r _ _).mono ?_
  rintro e wq ⟨rfl, rfl⟩
  go_wp2_with fail
  refine (digits_r s _ k3 _ (by omega) (by omega) (by omega)).mono ?_
  rintro e wq ⟨rfl, rfl⟩
  go_wp2_with fail
  go_ret
  exact ⟨rint HV.out, rfl⟩

set_option maxHeartbeats 1000000 in
theorem number_d_yes_101n (s : ByteArray) (i k0 : Nat) (w : World) (hs : s.size ≤ 600) (hi : i ≤ s.size) (HK0 : Hid (sgn s i = k0)) (h0 : k0 ≤ 700) (d0 : digI (a0 s k0) = true) (p0 : (a0 s k0 == 46) = false) (k1 : Nat) (HK1 : Hid (dig s k0 = k1)) (h1 : k1 ≤ 700) (p1 : (a0 s k1 == 46) = true) (q1 : digI (a0 s (k1 + 1)) = true) (k2 : Nat) (HK2 : Hid (dig s (k1 + 1) = k2)) (h2 : k2 ≤ 700) (t1 : (a0 s k2 == 101) = true) (k3 : Nat) (HK3 : Hid (sgn s (k2 + 1) = k3)) (h3 : k3 ≤ 800) (d3 : digI (a0 s k3) = false) (r : Int) (HV : Hid (((k2 : Nat) : Int) = r)) :
    Calls Try.prog 33 #[.string s, .int .i64 (i : Int)] w fun e w' => e = .returned (.int .i64 r) ∧ w' = w := by
  have _h := hi
  have _h0 := h0
  have _h1 := h1
  have _h2 := h2
  have _h3 := h3
  go_enter Try.func33, Try.ntmps33
  go_wp2_with fail
  refine (signed_r s _ i _ (by omega) (by omega) (by omega)).mono ?_
  rw [HK0.out]
  rintro e wq ⟨rfl, rfl⟩
  go_wp2_with fail
  refine (at_r s _ (k0) _ (by omega) (by omega)).mono ?_
  rintro e wq ⟨rfl, rfl⟩
  go_wp2_with fail
  refine (isDigit_r _ _).mono ?_
  rintro e wq ⟨rfl, rfl⟩
  go_wp2_with fail
  refine (at_r s _ (k0) _ (by omega) (by omega)).mono ?_
  rintro e wq ⟨rfl, rfl⟩
  go_wp2_with fail
  refine (digits_r s _ k0 _ (by omega) (by omega) (by omega)).mono ?_
  rw [HK1.out]
  rintro e wq ⟨rfl, rfl⟩
  go_wp2_with fail
  refine (at_r s _ (k1) _ (by omega) (by omega)).mono ?_
  rintro e wq ⟨rfl, rfl⟩
  go_wp2_with fail
  refine (at_r s _ (k1 + 1) _ (by omega) (by omega)).mono ?_
  rintro e wq ⟨rfl, rfl⟩
  go_wp2_with fail
  refine (isDigit_r _ _).mono ?_
  rintro e wq ⟨rfl, rfl⟩
  go_wp2_with fail
  refine (digits_r s _ (k1 + 1) _ (by omega) (by omega) (by omega)).mono ?_
  rw [HK2.out]
  rintro e wq ⟨rfl, rfl⟩
  go_wp2_with fail
  refine (at_r s _ (k2) _ (by omega) (by omega)).mono ?_
  rintro e wq ⟨rfl, rfl⟩
  go_wp2_with fail
  refine (signed_r s _ (k2 + 1) _ (by omega) (by omega) (by omega)).mono ?_
  rw [HK3.out]
  rintro e wq ⟨rfl, rfl⟩
  go_wp2_with fail
  refine (at_r s _ (k3) _ (by omega) (by omega)).mono ?_
  rintro e wq ⟨rfl, rfl⟩
  go_wp2_with fail
  refine (isDigit_r _ _).mono ?_
  rintro e wq ⟨rfl, rfl⟩
  go_wp2_with fail
  go_ret
  exact ⟨rint HV.out, rfl⟩

set_option maxHeartbeats 1000000 in
theorem number_d_yes_69y (s : ByteArray) (i k0 : Nat) (w : World) (hs : s.size ≤ 600) (hi : i ≤ s.size) (HK0 : Hid (sgn s i = k0)) (h0 : k0 ≤ 700) (d0 : digI (a0 s k0) = true) (p0 : (a0 s k0 == 46) = false) (k1 : Nat) (HK1 : Hid (dig s k0 = k1)) (h1 : k1 ≤ 700) (p1 : (a0 s k1 == 46) = true) (q1 : digI (a0 s (k1 + 1)) = true) (k2 : Nat) (HK2 : Hid (dig s (k1 + 1) = k2)) (h2 : k2 ≤ 700) (t1 : (a0 s k2 == 101) = false) (t2 : (a0 s k2 == 69) = true) (k3 : Nat) (HK3 : Hid (sgn s (k2 + 1) = k3)) (h3 : k3 ≤ 800) (d3 : digI (a0 s k3) = true) (r : Int) (HV : Hid (((dig s k3 : Nat) : Int) = r)) :
    Calls Try.prog 33 #[.string s, .int .i64 (i : Int)] w fun e w' => e = .returned (.int .i64 r) ∧ w' = w := by
  have _h := hi
  have _h0 := h0
  have _h1 := h1
  have _h2 := h2
  have _h3 := h3
  go_enter Try.func33, Try.ntmps33
  go_wp2_with fail
  refine (signed_r s _ i _ (by omega) (by omega) (by omega)).mono ?_
  rw [HK0.out]
  rintro e wq ⟨rfl, rfl⟩
  go_wp2_with fail
  refine (at_r s _ (k0) _ (by omega) (by omega)).mono ?_
  rintro e wq ⟨rfl, rfl⟩
  go_wp2_with fail
  refine (isDigit_r _ _).mono ?_
  rintro e wq ⟨rfl, rfl⟩
  go_wp2_with fail
  refine (at_r s _ (k0) _ (by omega) (by omega)).mono ?_
  rintro e wq ⟨rfl, rfl⟩
  go_wp2_with fail
  refine (digits_r s _ k0 _ (by omega) (by omega) (by omega)).mono ?_
  rw [HK1.out]
  rintro e wq ⟨rfl, rfl⟩
  go_wp2_with fail
  refine (at_r s _ (k1) _ (by omega) (by omega)).mono ?_
  rintro e wq ⟨rfl, rfl⟩
  go_wp2_with fail
  refine (at_r s _ (k1 + 1) _ (by omega) (by omega)).mono ?_
  rintro e wq ⟨rfl, rfl⟩
  go_wp2_with fail
  refine (isDigit_r _ _).mono ?_
  rintro e wq ⟨rfl, rfl⟩
  go_wp2_with fail
  refine (digits_r s _ (k1 + 1) _ (by omega) (by omega) (by omega)).mono ?_
  rw [HK2.out]
  rintro e wq ⟨rfl, rfl⟩
  go_wp2_with fail
  refine (at_r s _ (k2) _ (by omega) (by omega)).mono ?_
  rintro e wq ⟨rfl, rfl⟩
  go_wp2_with fail
  refine (at_r s _ (k2) _ (by omega) (by omega)).mono ?_
  rintro e wq ⟨rfl, rfl⟩
  go_wp2_with fail
  refine (signed_r s _ (k2 + 1) _ (by omega) (by omega) (by omega)).mono ?_
  rw [HK3.out]
  rintro e wq ⟨rfl, rfl⟩
  go_wp2_with fail
  refine (at_r s _ (k3) _ (by omega) (by omega)).mono ?_
  rintro e wq ⟨rfl, rfl⟩
  go_wp2_with fail
  refine (isDigit_r _ _).mono ?_
  rintro e wq ⟨rfl, rfl⟩
  go_wp2_with fail
  refine (digits_r s _ k3 _ (by omega) (by omega) (by omega)).mono ?_
  rintro e wq ⟨rfl, rfl⟩
  go_wp2_with fail
  go_ret
  exact ⟨rint HV.out, rfl⟩

set_option maxHeartbeats 1000000 in
theorem number_d_yes_69n (s : ByteArray) (i k0 : Nat) (w : World) (hs : s.size ≤ 600) (hi : i ≤ s.size) (HK0 : Hid (sgn s i = k0)) (h0 : k0 ≤ 700) (d0 : digI (a0 s k0) = true) (p0 : (a0 s k0 == 46) = false) (k1 : Nat) (HK1 : Hid (dig s k0 = k1)) (h1 : k1 ≤ 700) (p1 : (a0 s k1 == 46) = true) (q1 : digI (a0 s (k1 + 1)) = true) (k2 : Nat) (HK2 : Hid (dig s (k1 + 1) = k2)) (h2 : k2 ≤ 700) (t1 : (a0 s k2 == 101) = false) (t2 : (a0 s k2 == 69) = true) (k3 : Nat) (HK3 : Hid (sgn s (k2 + 1) = k3)) (h3 : k3 ≤ 800) (d3 : digI (a0 s k3) = false) (r : Int) (HV : Hid (((k2 : Nat) : Int) = r)) :
    Calls Try.prog 33 #[.string s, .int .i64 (i : Int)] w fun e w' => e = .returned (.int .i64 r) ∧ w' = w := by
  have _h := hi
  have _h0 := h0
  have _h1 := h1
  have _h2 := h2
  have _h3 := h3
  go_enter Try.func33, Try.ntmps33
  go_wp2_with fail
  refine (signed_r s _ i _ (by omega) (by omega) (by omega)).mono ?_
  rw [HK0.out]
  rintro e wq ⟨rfl, rfl⟩
  go_wp2_with fail
  refine (at_r s _ (k0) _ (by omega) (by omega)).mono ?_
  rintro e wq ⟨rfl, rfl⟩
  go_wp2_with fail
  refine (isDigit_r _ _).mono ?_
  rintro e wq ⟨rfl, rfl⟩
  go_wp2_with fail
  refine (at_r s _ (k0) _ (by omega) (by omega)).mono ?_
  rintro e wq ⟨rfl, rfl⟩
  go_wp2_with fail
  refine (digits_r s _ k0 _ (by omega) (by omega) (by omega)).mono ?_
  rw [HK1.out]
  rintro e wq ⟨rfl, rfl⟩
  go_wp2_with fail
  refine (at_r s _ (k1) _ (by omega) (by omega)).mono ?_
  rintro e wq ⟨rfl, rfl⟩
  go_wp2_with fail
  refine (at_r s _ (k1 + 1) _ (by omega) (by omega)).mono ?_
  rintro e wq ⟨rfl, rfl⟩
  go_wp2_with fail
  refine (isDigit_r _ _).mono ?_
  rintro e wq ⟨rfl, rfl⟩
  go_wp2_with fail
  refine (digits_r s _ (k1 + 1) _ (by omega) (by omega) (by omega)).mono ?_
  rw [HK2.out]
  rintro e wq ⟨rfl, rfl⟩
  go_wp2_with fail
  refine (at_r s _ (k2) _ (by omega) (by omega)).mono ?_
  rintro e wq ⟨rfl, rfl⟩
  go_wp2_with fail
  refine (at_r s _ (k2) _ (by omega) (by omega)).mono ?_
  rintro e wq ⟨rfl, rfl⟩
  go_wp2_with fail
  refine (signed_r s _ (k2 + 1) _ (by omega) (by omega) (by omega)).mono ?_
  rw [HK3.out]
  rintro e wq ⟨rfl, rfl⟩
  go_wp2_with fail
  refine (at_r s _ (k3) _ (by omega) (by omega)).mono ?_
  rintro e wq ⟨rfl, rfl⟩
  go_wp2_with fail
  refine (isDigit_r _ _).mono ?_
  rintro e wq ⟨rfl, rfl⟩
  go_wp2_with fail
  go_ret
  exact ⟨rint HV.out, rfl⟩

set_option maxHeartbeats 1000000 in
theorem number_d_yes_none (s : ByteArray) (i k0 : Nat) (w : World) (hs : s.size ≤ 600) (hi : i ≤ s.size) (HK0 : Hid (sgn s i = k0)) (h0 : k0 ≤ 700) (d0 : digI (a0 s k0) = true) (p0 : (a0 s k0 == 46) = false) (k1 : Nat) (HK1 : Hid (dig s k0 = k1)) (h1 : k1 ≤ 700) (p1 : (a0 s k1 == 46) = true) (q1 : digI (a0 s (k1 + 1)) = true) (k2 : Nat) (HK2 : Hid (dig s (k1 + 1) = k2)) (h2 : k2 ≤ 700) (t1 : (a0 s k2 == 101) = false) (t2 : (a0 s k2 == 69) = false) (r : Int) (HV : Hid (((k2 : Nat) : Int) = r)) :
    Calls Try.prog 33 #[.string s, .int .i64 (i : Int)] w fun e w' => e = .returned (.int .i64 r) ∧ w' = w := by
  have _h := hi
  have _h0 := h0
  have _h1 := h1
  have _h2 := h2
  go_enter Try.func33, Try.ntmps33
  go_wp2_with fail
  refine (signed_r s _ i _ (by omega) (by omega) (by omega)).mono ?_
  rw [HK0.out]
  rintro e wq ⟨rfl, rfl⟩
  go_wp2_with fail
  refine (at_r s _ (k0) _ (by omega) (by omega)).mono ?_
  rintro e wq ⟨rfl, rfl⟩
  go_wp2_with fail
  refine (isDigit_r _ _).mono ?_
  rintro e wq ⟨rfl, rfl⟩
  go_wp2_with fail
  refine (at_r s _ (k0) _ (by omega) (by omega)).mono ?_
  rintro e wq ⟨rfl, rfl⟩
  go_wp2_with fail
  refine (digits_r s _ k0 _ (by omega) (by omega) (by omega)).mono ?_
  rw [HK1.out]
  rintro e wq ⟨rfl, rfl⟩
  go_wp2_with fail
  refine (at_r s _ (k1) _ (by omega) (by omega)).mono ?_
  rintro e wq ⟨rfl, rfl⟩
  go_wp2_with fail
  refine (at_r s _ (k1 + 1) _ (by omega) (by omega)).mono ?_
  rintro e wq ⟨rfl, rfl⟩
  go_wp2_with fail
  refine (isDigit_r _ _).mono ?_
  rintro e wq ⟨rfl, rfl⟩
  go_wp2_with fail
  refine (digits_r s _ (k1 + 1) _ (by omega) (by omega) (by omega)).mono ?_
  rw [HK2.out]
  rintro e wq ⟨rfl, rfl⟩
  go_wp2_with fail
  refine (at_r s _ (k2) _ (by omega) (by omega)).mono ?_
  rintro e wq ⟨rfl, rfl⟩
  go_wp2_with fail
  refine (at_r s _ (k2) _ (by omega) (by omega)).mono ?_
  rintro e wq ⟨rfl, rfl⟩
  go_wp2_with fail
  go_ret
  exact ⟨rint HV.out, rfl⟩

set_option maxHeartbeats 1000000 in
theorem number_f_nodot_101y (s : ByteArray) (i k0 : Nat) (w : World) (hs : s.size ≤ 600) (hi : i ≤ s.size) (HK0 : Hid (sgn s i = k0)) (h0 : k0 ≤ 700) (d0 : digI (a0 s k0) = false) (p0 : (a0 s k0 == 46) = true) (q0 : digI (a0 s (k0 + 1)) = true) (k1 : Nat) (HK1 : Hid (dig s k0 = k1)) (h1 : k1 ≤ 700) (p1 : (a0 s k1 == 46) = false) (t1 : (a0 s k1 == 101) = true) (k3 : Nat) (HK3 : Hid (sgn s (k1 + 1) = k3)) (h3 : k3 ≤ 800) (d3 : digI (a0 s k3) = true) (r : Int) (HV : Hid (((dig s k3 : Nat) : Int) = r)) :
    Calls Try.prog 33 #[.string s, .int .i64 (i : Int)] w fun e w' => e = .returned (.int .i64 r) ∧ w' = w := by
  have _h := hi
  have _h0 := h0
  have _h1 := h1
  have _h3 := h3
  go_enter Try.func33, Try.ntmps33
  go_wp2_with fail
  refine (signed_r s _ i _ (by omega) (by omega) (by omega)).mono ?_
  rw [HK0.out]
  rintro e wq ⟨rfl, rfl⟩
  go_wp2_with fail
  refine (at_r s _ (k0) _ (by omega) (by omega)).mono ?_
  rintro e wq ⟨rfl, rfl⟩
  go_wp2_with fail
  refine (isDigit_r _ _).mono ?_
  rintro e wq ⟨rfl, rfl⟩
  go_wp2_with fail
  refine (at_r s _ (k0) _ (by omega) (by omega)).mono ?_
  rintro e wq ⟨rfl, rfl⟩
  go_wp2_with fail
  refine (at_r s _ (k0 + 1) _ (by omega) (by omega)).mono ?_
  rintro e wq ⟨rfl, rfl⟩
  go_wp2_with fail
  refine (isDigit_r _ _).mono ?_
  rintro e wq ⟨rfl, rfl⟩
  go_wp2_with fail
  refine (digits_r s _ k0 _ (by omega) (by omega) (by omega)).mono ?_
  rw [HK1.out]
  rintro e wq ⟨rfl, rfl⟩
  go_wp2_with fail
  refine (at_r s _ (k1) _ (by omega) (by omega)).mono ?_
  rintro e wq ⟨rfl, rfl⟩
  go_wp2_with fail
  refine (at_r s _ (k1) _ (by omega) (by omega)).mono ?_
  rintro e wq ⟨rfl, rfl⟩
  go_wp2_with fail
  refine (signed_r s _ (k1 + 1) _ (by omega) (by omega) (by omega)).mono ?_
  rw [HK3.out]
  rintro e wq ⟨rfl, rfl⟩
  go_wp2_with fail
  refine (at_r s _ (k3) _ (by omega) (by omega)).mono ?_
  rintro e wq ⟨rfl, rfl⟩
  go_wp2_with fail
  refine (isDigit_r _ _).mono ?_
  rintro e wq ⟨rfl, rfl⟩
  go_wp2_with fail
  refine (digits_r s _ k3 _ (by omega) (by omega) (by omega)).mono ?_
  rintro e wq ⟨rfl, rfl⟩
  go_wp2_with fail
  go_ret
  exact ⟨rint HV.out, rfl⟩

set_option maxHeartbeats 1000000 in
theorem number_f_nodot_101n (s : ByteArray) (i k0 : Nat) (w : World) (hs : s.size ≤ 600) (hi : i ≤ s.size) (HK0 : Hid (sgn s i = k0)) (h0 : k0 ≤ 700) (d0 : digI (a0 s k0) = false) (p0 : (a0 s k0 == 46) = true) (q0 : digI (a0 s (k0 + 1)) = true) (k1 : Nat) (HK1 : Hid (dig s k0 = k1)) (h1 : k1 ≤ 700) (p1 : (a0 s k1 == 46) = false) (t1 : (a0 s k1 == 101) = true) (k3 : Nat) (HK3 : Hid (sgn s (k1 + 1) = k3)) (h3 : k3 ≤ 800) (d3 : digI (a0 s k3) = false) (r : Int) (HV : Hid (((k1 : Nat) : Int) = r)) :
    Calls Try.prog 33 #[.string s, .int .i64 (i : Int)] w fun e w' => e = .returned (.int .i64 r) ∧ w' = w := by
  have _h := hi
  have _h0 := h0
  have _h1 := h1
  have _h3 := h3
  go_enter Try.func33, Try.ntmps33
  go_wp2_with fail
  refine (signed_r s _ i _ (by omega) (by omega) (by omega)).mono ?_
  rw [HK0.out]
  rintro e wq ⟨rfl, rfl⟩
  go_wp2_with fail
  refine (at_r s _ (k0) _ (by omega) (by omega)).mono ?_
  rintro e wq ⟨rfl, rfl⟩
  go_wp2_with fail
  refine (isDigit_r _ _).mono ?_
  rintro e wq ⟨rfl, rfl⟩
  go_wp2_with fail
  refine (at_r s _ (k0) _ (by omega) (by omega)).mono ?_
  rintro e wq ⟨rfl, rfl⟩
  go_wp2_with fail
  refine (at_r s _ (k0 + 1) _ (by omega) (by omega)).mono ?_
  rintro e wq ⟨rfl, rfl⟩
  go_wp2_with fail
  refine (isDigit_r _ _).mono ?_
  rintro e wq ⟨rfl, rfl⟩
  go_wp2_with fail
  refine (digits_r s _ k0 _ (by omega) (by omega) (by omega)).mono ?_
  rw [HK1.out]
  rintro e wq ⟨rfl, rfl⟩
  go_wp2_with fail
  refine (at_r s _ (k1) _ (by omega) (by omega)).mono ?_
  rintro e wq ⟨rfl, rfl⟩
  go_wp2_with fail
  refine (at_r s _ (k1) _ (by omega) (by omega)).mono ?_
  rintro e wq ⟨rfl, rfl⟩
  go_wp2_with fail
  refine (signed_r s _ (k1 + 1) _ (by omega) (by omega) (by omega)).mono ?_
  rw [HK3.out]
  rintro e wq ⟨rfl, rfl⟩
  go_wp2_with fail
  refine (at_r s _ (k3) _ (by omega) (by omega)).mono ?_
  rintro e wq ⟨rfl, rfl⟩
  go_wp2_with fail
  refine (isDigit_r _ _).mono ?_
  rintro e wq ⟨rfl, rfl⟩
  go_wp2_with fail
  go_ret
  exact ⟨rint HV.out, rfl⟩

set_option maxHeartbeats 1000000 in
theorem number_f_nodot_69y (s : ByteArray) (i k0 : Nat) (w : World) (hs : s.size ≤ 600) (hi : i ≤ s.size) (HK0 : Hid (sgn s i = k0)) (h0 : k0 ≤ 700) (d0 : digI (a0 s k0) = false) (p0 : (a0 s k0 == 46) = true) (q0 : digI (a0 s (k0 + 1)) = true) (k1 : Nat) (HK1 : Hid (dig s k0 = k1)) (h1 : k1 ≤ 700) (p1 : (a0 s k1 == 46) = false) (t1 : (a0 s k1 == 101) = false) (t2 : (a0 s k1 == 69) = true) (k3 : Nat) (HK3 : Hid (sgn s (k1 + 1) = k3)) (h3 : k3 ≤ 800) (d3 : digI (a0 s k3) = true) (r : Int) (HV : Hid (((dig s k3 : Nat) : Int) = r)) :
    Calls Try.prog 33 #[.string s, .int .i64 (i : Int)] w fun e w' => e = .returned (.int .i64 r) ∧ w' = w := by
  have _h := hi
  have _h0 := h0
  have _h1 := h1
  have _h3 := h3
  go_enter Try.func33, Try.ntmps33
  go_wp2_with fail
  refine (signed_r s _ i _ (by omega) (by omega) (by omega)).mono ?_
  rw [HK0.out]
  rintro e wq ⟨rfl, rfl⟩
  go_wp2_with fail
  refine (at_r s _ (k0) _ (by omega) (by omega)).mono ?_
  rintro e wq ⟨rfl, rfl⟩
  go_wp2_with fail
  refine (isDigit_r _ _).mono ?_
  rintro e wq ⟨rfl, rfl⟩
  go_wp2_with fail
  refine (at_r s _ (k0) _ (by omega) (by omega)).mono ?_
  rintro e wq ⟨rfl, rfl⟩
  go_wp2_with fail
  refine (at_r s _ (k0 + 1) _ (by omega) (by omega)).mono ?_
  rintro e wq ⟨rfl, rfl⟩
  go_wp2_with fail
  refine (isDigit_r _ _).mono ?_
  rintro e wq ⟨rfl, rfl⟩
  go_wp2_with fail
  refine (digits_r s _ k0 _ (by omega) (by omega) (by omega)).mono ?_
  rw [HK1.out]
  rintro e wq ⟨rfl, rfl⟩
  go_wp2_with fail
  refine (at_r s _ (k1) _ (by omega) (by omega)).mono ?_
  rintro e wq ⟨rfl, rfl⟩
  go_wp2_with fail
  refine (at_r s _ (k1) _ (by omega) (by omega)).mono ?_
  rintro e wq ⟨rfl, rfl⟩
  go_wp2_with fail
  refine (at_r s _ (k1) _ (by omega) (by omega)).mono ?_
  rintro e wq ⟨rfl, rfl⟩
  go_wp2_with fail
  refine (signed_r s _ (k1 + 1) _ (by omega) (by omega) (by omega)).mono ?_
  rw [HK3.out]
  rintro e wq ⟨rfl, rfl⟩
  go_wp2_with fail
  refine (at_r s _ (k3) _ (by omega) (by omega)).mono ?_
  rintro e wq ⟨rfl, rfl⟩
  go_wp2_with fail
  refine (isDigit_r _ _).mono ?_
  rintro e wq ⟨rfl, rfl⟩
  go_wp2_with fail
  refine (digits_r s _ k3 _ (by omega) (by omega) (by omega)).mono ?_
  rintro e wq ⟨rfl, rfl⟩
  go_wp2_with fail
  go_ret
  exact ⟨rint HV.out, rfl⟩

set_option maxHeartbeats 1000000 in
theorem number_f_nodot_69n (s : ByteArray) (i k0 : Nat) (w : World) (hs : s.size ≤ 600) (hi : i ≤ s.size) (HK0 : Hid (sgn s i = k0)) (h0 : k0 ≤ 700) (d0 : digI (a0 s k0) = false) (p0 : (a0 s k0 == 46) = true) (q0 : digI (a0 s (k0 + 1)) = true) (k1 : Nat) (HK1 : Hid (dig s k0 = k1)) (h1 : k1 ≤ 700) (p1 : (a0 s k1 == 46) = false) (t1 : (a0 s k1 == 101) = false) (t2 : (a0 s k1 == 69) = true) (k3 : Nat) (HK3 : Hid (sgn s (k1 + 1) = k3)) (h3 : k3 ≤ 800) (d3 : digI (a0 s k3) = false) (r : Int) (HV : Hid (((k1 : Nat) : Int) = r)) :
    Calls Try.prog 33 #[.string s, .int .i64 (i : Int)] w fun e w' => e = .returned (.int .i64 r) ∧ w' = w := by
  have _h := hi
  have _h0 := h0
  have _h1 := h1
  have _h3 := h3
  go_enter Try.func33, Try.ntmps33
  go_wp2_with fail
  refine (signed_r s _ i _ (by omega) (by omega) (by omega)).mono ?_
  rw [HK0.out]
  rintro e wq ⟨rfl, rfl⟩
  go_wp2_with fail
  refine (at_r s _ (k0) _ (by omega) (by omega)).mono ?_
  rintro e wq ⟨rfl, rfl⟩
  go_wp2_with fail
  refine (isDigit_r _ _).mono ?_
  rintro e wq ⟨rfl, rfl⟩
  go_wp2_with fail
  refine (at_r s _ (k0) _ (by omega) (by omega)).mono ?_
  rintro e wq ⟨rfl, rfl⟩
  go_wp2_with fail
  refine (at_r s _ (k0 + 1) _ (by omega) (by omega)).mono ?_
  rintro e wq ⟨rfl, rfl⟩
  go_wp2_with fail
  refine (isDigit_r _ _).mono ?_
  rintro e wq ⟨rfl, rfl⟩
  go_wp2_with fail
  refine (digits_r s _ k0 _ (by omega) (by omega) (by omega)).mono ?_
  rw [HK1.out]
  rintro e wq ⟨rfl, rfl⟩
  go_wp2_with fail
  refine (at_r s _ (k1) _ (by omega) (by omega)).mono ?_
  rintro e wq ⟨rfl, rfl⟩
  go_wp2_with fail
  refine (at_r s _ (k1) _ (by omega) (by omega)).mono ?_
  rintro e wq ⟨rfl, rfl⟩
  go_wp2_with fail
  refine (at_r s _ (k1) _ (by omega) (by omega)).mono ?_
  rintro e wq ⟨rfl, rfl⟩
  go_wp2_with fail
  refine (signed_r s _ (k1 + 1) _ (by omega) (by omega) (by omega)).mono ?_
  rw [HK3.out]
  rintro e wq ⟨rfl, rfl⟩
  go_wp2_with fail
  refine (at_r s _ (k3) _ (by omega) (by omega)).mono ?_
  rintro e wq ⟨rfl, rfl⟩
  go_wp2_with fail
  refine (isDigit_r _ _).mono ?_
  rintro e wq ⟨rfl, rfl⟩
  go_wp2_with fail
  go_ret
  exact ⟨rint HV.out, rfl⟩

set_option maxHeartbeats 1000000 in
theorem number_f_nodot_none (s : ByteArray) (i k0 : Nat) (w : World) (hs : s.size ≤ 600) (hi : i ≤ s.size) (HK0 : Hid (sgn s i = k0)) (h0 : k0 ≤ 700) (d0 : digI (a0 s k0) = false) (p0 : (a0 s k0 == 46) = true) (q0 : digI (a0 s (k0 + 1)) = true) (k1 : Nat) (HK1 : Hid (dig s k0 = k1)) (h1 : k1 ≤ 700) (p1 : (a0 s k1 == 46) = false) (t1 : (a0 s k1 == 101) = false) (t2 : (a0 s k1 == 69) = false) (r : Int) (HV : Hid (((k1 : Nat) : Int) = r)) :
    Calls Try.prog 33 #[.string s, .int .i64 (i : Int)] w fun e w' => e = .returned (.int .i64 r) ∧ w' = w := by
  have _h := hi
  have _h0 := h0
  have _h1 := h1
  go_enter Try.func33, Try.ntmps33
  go_wp2_with fail
  refine (signed_r s _ i _ (by omega) (by omega) (by omega)).mono ?_
  rw [HK0.out]
  rintro e wq ⟨rfl, rfl⟩
  go_wp2_with fail
  refine (at_r s _ (k0) _ (by omega) (by omega)).mono ?_
  rintro e wq ⟨rfl, rfl⟩
  go_wp2_with fail
  refine (isDigit_r _ _).mono ?_
  rintro e wq ⟨rfl, rfl⟩
  go_wp2_with fail
  refine (at_r s _ (k0) _ (by omega) (by omega)).mono ?_
  rintro e wq ⟨rfl, rfl⟩
  go_wp2_with fail
  refine (at_r s _ (k0 + 1) _ (by omega) (by omega)).mono ?_
  rintro e wq ⟨rfl, rfl⟩
  go_wp2_with fail
  refine (isDigit_r _ _).mono ?_
  rintro e wq ⟨rfl, rfl⟩
  go_wp2_with fail
  refine (digits_r s _ k0 _ (by omega) (by omega) (by omega)).mono ?_
  rw [HK1.out]
  rintro e wq ⟨rfl, rfl⟩
  go_wp2_with fail
  refine (at_r s _ (k1) _ (by omega) (by omega)).mono ?_
  rintro e wq ⟨rfl, rfl⟩
  go_wp2_with fail
  refine (at_r s _ (k1) _ (by omega) (by omega)).mono ?_
  rintro e wq ⟨rfl, rfl⟩
  go_wp2_with fail
  refine (at_r s _ (k1) _ (by omega) (by omega)).mono ?_
  rintro e wq ⟨rfl, rfl⟩
  go_wp2_with fail
  go_ret
  exact ⟨rint HV.out, rfl⟩

set_option maxHeartbeats 1000000 in
theorem number_f_nodig_101y (s : ByteArray) (i k0 : Nat) (w : World) (hs : s.size ≤ 600) (hi : i ≤ s.size) (HK0 : Hid (sgn s i = k0)) (h0 : k0 ≤ 700) (d0 : digI (a0 s k0) = false) (p0 : (a0 s k0 == 46) = true) (q0 : digI (a0 s (k0 + 1)) = true) (k1 : Nat) (HK1 : Hid (dig s k0 = k1)) (h1 : k1 ≤ 700) (p1 : (a0 s k1 == 46) = true) (q1 : digI (a0 s (k1 + 1)) = false) (t1 : (a0 s k1 == 101) = true) (k3 : Nat) (HK3 : Hid (sgn s (k1 + 1) = k3)) (h3 : k3 ≤ 800) (d3 : digI (a0 s k3) = true) (r : Int) (HV : Hid (((dig s k3 : Nat) : Int) = r)) :
    Calls Try.prog 33 #[.string s, .int .i64 (i : Int)] w fun e w' => e = .returned (.int .i64 r) ∧ w' = w := by
  have _h := hi
  have _h0 := h0
  have _h1 := h1
  have _h3 := h3
  go_enter Try.func33, Try.ntmps33
  go_wp2_with fail
  refine (signed_r s _ i _ (by omega) (by omega) (by omega)).mono ?_
  rw [HK0.out]
  rintro e wq ⟨rfl, rfl⟩
  go_wp2_with fail
  refine (at_r s _ (k0) _ (by omega) (by omega)).mono ?_
  rintro e wq ⟨rfl, rfl⟩
  go_wp2_with fail
  refine (isDigit_r _ _).mono ?_
  rintro e wq ⟨rfl, rfl⟩
  go_wp2_with fail
  refine (at_r s _ (k0) _ (by omega) (by omega)).mono ?_
  rintro e wq ⟨rfl, rfl⟩
  go_wp2_with fail
  refine (at_r s _ (k0 + 1) _ (by omega) (by omega)).mono ?_
  rintro e wq ⟨rfl, rfl⟩
  go_wp2_with fail
  refine (isDigit_r _ _).mono ?_
  rintro e wq ⟨rfl, rfl⟩
  go_wp2_with fail
  refine (digits_r s _ k0 _ (by omega) (by omega) (by omega)).mono ?_
  rw [HK1.out]
  rintro e wq ⟨rfl, rfl⟩
  go_wp2_with fail
  refine (at_r s _ (k1) _ (by omega) (by omega)).mono ?_
  rintro e wq ⟨rfl, rfl⟩
  go_wp2_with fail
  refine (at_r s _ (k1 + 1) _ (by omega) (by omega)).mono ?_
  rintro e wq ⟨rfl, rfl⟩
  go_wp2_with fail
  refine (isDigit_r _ _).mono ?_
  rintro e wq ⟨rfl, rfl⟩
  go_wp2_with fail
  refine (at_r s _ (k1) _ (by omega) (by omega)).mono ?_
  rintro e wq ⟨rfl, rfl⟩
  go_wp2_with fail
  refine (signed_r s _ (k1 + 1) _ (by omega) (by omega) (by omega)).mono ?_
  rw [HK3.out]
  rintro e wq ⟨rfl, rfl⟩
  go_wp2_with fail
  refine (at_r s _ (k3) _ (by omega) (by omega)).mono ?_
  rintro e wq ⟨rfl, rfl⟩
  go_wp2_with fail
  refine (isDigit_r _ _).mono ?_
  rintro e wq ⟨rfl, rfl⟩
  go_wp2_with fail
  refine (digits_r s _ k3 _ (by omega) (by omega) (by omega)).mono ?_
  rintro e wq ⟨rfl, rfl⟩
  go_wp2_with fail
  go_ret
  exact ⟨rint HV.out, rfl⟩

set_option maxHeartbeats 1000000 in
theorem number_f_nodig_101n (s : ByteArray) (i k0 : Nat) (w : World) (hs : s.size ≤ 600) (hi : i ≤ s.size) (HK0 : Hid (sgn s i = k0)) (h0 : k0 ≤ 700) (d0 : digI (a0 s k0) = false) (p0 : (a0 s k0 == 46) = true) (q0 : digI (a0 s (k0 + 1)) = true) (k1 : Nat) (HK1 : Hid (dig s k0 = k1)) (h1 : k1 ≤ 700) (p1 : (a0 s k1 == 46) = true) (q1 : digI (a0 s (k1 + 1)) = false) (t1 : (a0 s k1 == 101) = true) (k3 : Nat) (HK3 : Hid (sgn s (k1 + 1) = k3)) (h3 : k3 ≤ 800) (d3 : digI (a0 s k3) = false) (r : Int) (HV : Hid (((k1 : Nat) : Int) = r)) :
    Calls Try.prog 33 #[.string s, .int .i64 (i : Int)] w fun e w' => e = .returned (.int .i64 r) ∧ w' = w := by
  have _h := hi
  have _h0 := h0
  have _h1 := h1
  have _h3 := h3
  go_enter Try.func33, Try.ntmps33
  go_wp2_with fail
  refine (signed_r s _ i _ (by omega) (by omega) (by omega)).mono ?_
  rw [HK0.out]
  rintro e wq ⟨rfl, rfl⟩
  go_wp2_with fail
  refine (at_r s _ (k0) _ (by omega) (by omega)).mono ?_
  rintro e wq ⟨rfl, rfl⟩
  go_wp2_with fail
  refine (isDigit_r _ _).mono ?_
  rintro e wq ⟨rfl, rfl⟩
  go_wp2_with fail
  refine (at_r s _ (k0) _ (by omega) (by omega)).mono ?_
  rintro e wq ⟨rfl, rfl⟩
  go_wp2_with fail
  refine (at_r s _ (k0 + 1) _ (by omega) (by omega)).mono ?_
  rintro e wq ⟨rfl, rfl⟩
  go_wp2_with fail
  refine (isDigit_r _ _).mono ?_
  rintro e wq ⟨rfl, rfl⟩
  go_wp2_with fail
  refine (digits_r s _ k0 _ (by omega) (by omega) (by omega)).mono ?_
  rw [HK1.out]
  rintro e wq ⟨rfl, rfl⟩
  go_wp2_with fail
  refine (at_r s _ (k1) _ (by omega) (by omega)).mono ?_
  rintro e wq ⟨rfl, rfl⟩
  go_wp2_with fail
  refine (at_r s _ (k1 + 1) _ (by omega) (by omega)).mono ?_
  rintro e wq ⟨rfl, rfl⟩
  go_wp2_with fail
  refine (isDigit_r _ _).mono ?_
  rintro e wq ⟨rfl, rfl⟩
  go_wp2_with fail
  refine (at_r s _ (k1) _ (by omega) (by omega)).mono ?_
  rintro e wq ⟨rfl, rfl⟩
  go_wp2_with fail
  refine (signed_r s _ (k1 + 1) _ (by omega) (by omega) (by omega)).mono ?_
  rw [HK3.out]
  rintro e wq ⟨rfl, rfl⟩
  go_wp2_with fail
  refine (at_r s _ (k3) _ (by omega) (by omega)).mono ?_
  rintro e wq ⟨rfl, rfl⟩
  go_wp2_with fail
  refine (isDigit_r _ _).mono ?_
  rintro e wq ⟨rfl, rfl⟩
  go_wp2_with fail
  go_ret
  exact ⟨rint HV.out, rfl⟩

set_option maxHeartbeats 1000000 in
theorem number_f_nodig_69y (s : ByteArray) (i k0 : Nat) (w : World) (hs : s.size ≤ 600) (hi : i ≤ s.size) (HK0 : Hid (sgn s i = k0)) (h0 : k0 ≤ 700) (d0 : digI (a0 s k0) = false) (p0 : (a0 s k0 == 46) = true) (q0 : digI (a0 s (k0 + 1)) = true) (k1 : Nat) (HK1 : Hid (dig s k0 = k1)) (h1 : k1 ≤ 700) (p1 : (a0 s k1 == 46) = true) (q1 : digI (a0 s (k1 + 1)) = false) (t1 : (a0 s k1 == 101) = false) (t2 : (a0 s k1 == 69) = true) (k3 : Nat) (HK3 : Hid (sgn s (k1 + 1) = k3)) (h3 : k3 ≤ 800) (d3 : digI (a0 s k3) = true) (r : Int) (HV : Hid (((dig s k3 : Nat) : Int) = r)) :
    Calls Try.prog 33 #[.string s, .int .i64 (i : Int)] w fun e w' => e = .returned (.int .i64 r) ∧ w' = w := by
  have _h := hi
  have _h0 := h0
  have _h1 := h1
  have _h3 := h3
  go_enter Try.func33, Try.ntmps33
  go_wp2_with fail
  refine (signed_r s _ i _ (by omega) (by omega) (by omega)).mono ?_
  rw [HK0.out]
  rintro e wq ⟨rfl, rfl⟩
  go_wp2_with fail
  refine (at_r s _ (k0) _ (by omega) (by omega)).mono ?_
  rintro e wq ⟨rfl, rfl⟩
  go_wp2_with fail
  refine (isDigit_r _ _).mono ?_
  rintro e wq ⟨rfl, rfl⟩
  go_wp2_with fail
  refine (at_r s _ (k0) _ (by omega) (by omega)).mono ?_
  rintro e wq ⟨rfl, rfl⟩
  go_wp2_with fail
  refine (at_r s _ (k0 + 1) _ (by omega) (by omega)).mono ?_
  rintro e wq ⟨rfl, rfl⟩
  go_wp2_with fail
  refine (isDigit_r _ _).mono ?_
  rintro e wq ⟨rfl, rfl⟩
  go_wp2_with fail
  refine (digits_r s _ k0 _ (by omega) (by omega) (by omega)).mono ?_
  rw [HK1.out]
  rintro e wq ⟨rfl, rfl⟩
  go_wp2_with fail
  refine (at_r s _ (k1) _ (by omega) (by omega)).mono ?_
  rintro e wq ⟨rfl, rfl⟩
  go_wp2_with fail
  refine (at_r s _ (k1 + 1) _ (by omega) (by omega)).mono ?_
  rintro e wq ⟨rfl, rfl⟩
  go_wp2_with fail
  refine (isDigit_r _ _).mono ?_
  rintro e wq ⟨rfl, rfl⟩
  go_wp2_with fail
  refine (at_r s _ (k1) _ (by omega) (by omega)).mono ?_
  rintro e wq ⟨rfl, rfl⟩
  go_wp2_with fail
  refine (at_r s _ (k1) _ (by omega) (by omega)).mono ?_
  rintro e wq ⟨rfl, rfl⟩
  go_wp2_with fail
  refine (signed_r s _ (k1 + 1) _ (by omega) (by omega) (by omega)).mono ?_
  rw [HK3.out]
  rintro e wq ⟨rfl, rfl⟩
  go_wp2_with fail
  refine (at_r s _ (k3) _ (by omega) (by omega)).mono ?_
  rintro e wq ⟨rfl, rfl⟩
  go_wp2_with fail
  refine (isDigit_r _ _).mono ?_
  rintro e wq ⟨rfl, rfl⟩
  go_wp2_with fail
  refine (digits_r s _ k3 _ (by omega) (by omega) (by omega)).mono ?_
  rintro e wq ⟨rfl, rfl⟩
  go_wp2_with fail
  go_ret
  exact ⟨rint HV.out, rfl⟩

set_option maxHeartbeats 1000000 in
theorem number_f_nodig_69n (s : ByteArray) (i k0 : Nat) (w : World) (hs : s.size ≤ 600) (hi : i ≤ s.size) (HK0 : Hid (sgn s i = k0)) (h0 : k0 ≤ 700) (d0 : digI (a0 s k0) = false) (p0 : (a0 s k0 == 46) = true) (q0 : digI (a0 s (k0 + 1)) = true) (k1 : Nat) (HK1 : Hid (dig s k0 = k1)) (h1 : k1 ≤ 700) (p1 : (a0 s k1 == 46) = true) (q1 : digI (a0 s (k1 + 1)) = false) (t1 : (a0 s k1 == 101) = false) (t2 : (a0 s k1 == 69) = true) (k3 : Nat) (HK3 : Hid (sgn s (k1 + 1) = k3)) (h3 : k3 ≤ 800) (d3 : digI (a0 s k3) = false) (r : Int) (HV : Hid (((k1 : Nat) : Int) = r)) :
    Calls Try.prog 33 #[.string s, .int .i64 (i : Int)] w fun e w' => e = .returned (.int .i64 r) ∧ w' = w := by
  have _h := hi
  have _h0 := h0
  have _h1 := h1
  have _h3 := h3
  go_enter Try.func33, Try.ntmps33
  go_wp2_with fail
  refine (signed_r s _ i _ (by omega) (by omega) (by omega)).mono ?_
  rw [HK0.out]
  rintro e wq ⟨rfl, rfl⟩
  go_wp2_with fail
  refine (at_r s _ (k0) _ (by omega) (by omega)).mono ?_
  rintro e wq ⟨rfl, rfl⟩
  go_wp2_with fail
  refine (isDigit_r _ _).mono ?_
  rintro e wq ⟨rfl, rfl⟩
  go_wp2_with fail
  refine (at_r s _ (k0) _ (by omega) (by omega)).mono ?_
  rintro e wq ⟨rfl, rfl⟩
  go_wp2_with fail
  refine (at_r s _ (k0 + 1) _ (by omega) (by omega)).mono ?_
  rintro e wq ⟨rfl, rfl⟩
  go_wp2_with fail
  refine (isDigit_r _ _).mono ?_
  rintro e wq ⟨rfl, rfl⟩
  go_wp2_with fail
  refine (digits_r s _ k0 _ (by omega) (by omega) (by omega)).mono ?_
  rw [HK1.out]
  rintro e wq ⟨rfl, rfl⟩
  go_wp2_with fail
  refine (at_r s _ (k1) _ (by omega) (by omega)).mono ?_
  rintro e wq ⟨rfl, rfl⟩
  go_wp2_with fail
  refine (at_r s _ (k1 + 1) _ (by omega) (by omega)).mono ?_
  rintro e wq ⟨rfl, rfl⟩
  go_wp2_with fail
  refine (isDigit_r _ _).mono ?_
  rintro e wq ⟨rfl, rfl⟩
  go_wp2_with fail
  refine (at_r s _ (k1) _ (by omega) (by omega)).mono ?_
  rintro e wq ⟨rfl, rfl⟩
  go_wp2_with fail
  refine (at_r s _ (k1) _ (by omega) (by omega)).mono ?_
  rintro e wq ⟨rfl, rfl⟩
  go_wp2_with fail
  refine (signed_r s _ (k1 + 1) _ (by omega) (by omega) (by omega)).mono ?_
  rw [HK3.out]
  rintro e wq ⟨rfl, rfl⟩
  go_wp2_with fail
  refine (at_r s _ (k3) _ (by omega) (by omega)).mono ?_
  rintro e wq ⟨rfl, rfl⟩
  go_wp2_with fail
  refine (isDigit_r _ _).mono ?_
  rintro e wq ⟨rfl, rfl⟩
  go_wp2_with fail
  go_ret
  exact ⟨rint HV.out, rfl⟩

set_option maxHeartbeats 1000000 in
theorem number_f_nodig_none (s : ByteArray) (i k0 : Nat) (w : World) (hs : s.size ≤ 600) (hi : i ≤ s.size) (HK0 : Hid (sgn s i = k0)) (h0 : k0 ≤ 700) (d0 : digI (a0 s k0) = false) (p0 : (a0 s k0 == 46) = true) (q0 : digI (a0 s (k0 + 1)) = true) (k1 : Nat) (HK1 : Hid (dig s k0 = k1)) (h1 : k1 ≤ 700) (p1 : (a0 s k1 == 46) = true) (q1 : digI (a0 s (k1 + 1)) = false) (t1 : (a0 s k1 == 101) = false) (t2 : (a0 s k1 == 69) = false) (r : Int) (HV : Hid (((k1 : Nat) : Int) = r)) :
    Calls Try.prog 33 #[.string s, .int .i64 (i : Int)] w fun e w' => e = .returned (.int .i64 r) ∧ w' = w := by
  have _h := hi
  have _h0 := h0
  have _h1 := h1
  go_enter Try.func33, Try.ntmps33
  go_wp2_with fail
  refine (signed_r s _ i _ (by omega) (by omega) (by omega)).mono ?_
  rw [HK0.out]
  rintro e wq ⟨rfl, rfl⟩
  go_wp2_with fail
  refine (at_r s _ (k0) _ (by omega) (by omega)).mono ?_
  rintro e wq ⟨rfl, rfl⟩
  go_wp2_with fail
  refine (isDigit_r _ _).mono ?_
  rintro e wq ⟨rfl, rfl⟩
  go_wp2_with fail
  refine (at_r s _ (k0) _ (by omega) (by omega)).mono ?_
  rintro e wq ⟨rfl, rfl⟩
  go_wp2_with fail
  refine (at_r s _ (k0 + 1) _ (by omega) (by omega)).mono ?_
  rintro e wq ⟨rfl, rfl⟩
  go_wp2_with fail
  refine (isDigit_r _ _).mono ?_
  rintro e wq ⟨rfl, rfl⟩
  go_wp2_with fail
  refine (digits_r s _ k0 _ (by omega) (by omega) (by omega)).mono ?_
  rw [HK1.out]
  rintro e wq ⟨rfl, rfl⟩
  go_wp2_with fail
  refine (at_r s _ (k1) _ (by omega) (by omega)).mono ?_
  rintro e wq ⟨rfl, rfl⟩
  go_wp2_with fail
  refine (at_r s _ (k1 + 1) _ (by omega) (by omega)).mono ?_
  rintro e wq ⟨rfl, rfl⟩
  go_wp2_with fail
  refine (isDigit_r _ _).mono ?_
  rintro e wq ⟨rfl, rfl⟩
  go_wp2_with fail
  refine (at_r s _ (k1) _ (by omega) (by omega)).mono ?_
  rintro e wq ⟨rfl, rfl⟩
  go_wp2_with fail
  refine (at_r s _ (k1) _ (by omega) (by omega)).mono ?_
  rintro e wq ⟨rfl, rfl⟩
  go_wp2_with fail
  go_ret
  exact ⟨rint HV.out, rfl⟩

set_option maxHeartbeats 1000000 in
theorem number_f_yes_101y (s : ByteArray) (i k0 : Nat) (w : World) (hs : s.size ≤ 600) (hi : i ≤ s.size) (HK0 : Hid (sgn s i = k0)) (h0 : k0 ≤ 700) (d0 : digI (a0 s k0) = false) (p0 : (a0 s k0 == 46) = true) (q0 : digI (a0 s (k0 + 1)) = true) (k1 : Nat) (HK1 : Hid (dig s k0 = k1)) (h1 : k1 ≤ 700) (p1 : (a0 s k1 == 46) = true) (q1 : digI (a0 s (k1 + 1)) = true) (k2 : Nat) (HK2 : Hid (dig s (k1 + 1) = k2)) (h2 : k2 ≤ 700) (t1 : (a0 s k2 == 101) = true) (k3 : Nat) (HK3 : Hid (sgn s (k2 + 1) = k3)) (h3 : k3 ≤ 800) (d3 : digI (a0 s k3) = true) (r : Int) (HV : Hid (((dig s k3 : Nat) : Int) = r)) :
    Calls Try.prog 33 #[.string s, .int .i64 (i : Int)] w fun e w' => e = .returned (.int .i64 r) ∧ w' = w := by
  have _h := hi
  have _h0 := h0
  have _h1 := h1
  have _h2 := h2
  have _h3 := h3
  go_enter Try.func33, Try.ntmps33
  go_wp2_with fail
  refine (signed_r s _ i _ (by omega) (by omega) (by omega)).mono ?_
  rw [HK0.out]
  rintro e wq ⟨rfl, rfl⟩
  go_wp2_with fail
  refine (at_r s _ (k0) _ (by omega) (by omega)).mono ?_
  rintro e wq ⟨rfl, rfl⟩
  go_wp2_with fail
  refine (isDigit_r _ _).mono ?_
  rintro e wq ⟨rfl, rfl⟩
  go_wp2_with fail
  refine (at_r s _ (k0) _ (by omega) (by omega)).mono ?_
  rintro e wq ⟨rfl, rfl⟩
  go_wp2_with fail
  refine (at_r s _ (k0 + 1) _ (by omega) (by omega)).mono ?_
  rintro e wq ⟨rfl, rfl⟩
  go_wp2_with fail
  refine (isDigit_r _ _).mono ?_
  rintro e wq ⟨rfl, rfl⟩
  go_wp2_with fail
  refine (digits_r s _ k0 _ (by omega) (by omega) (by omega)).mono ?_
  rw [HK1.out]
  rintro e wq ⟨rfl, rfl⟩
  go_wp2_with fail
  refine (at_r s _ (k1) _ (by omega) (by omega)).mono ?_
  rintro e wq ⟨rfl, rfl⟩
  go_wp2_with fail
  refine (at_r s _ (k1 + 1) _ (by omega) (by omega)).mono ?_
  rintro e wq ⟨rfl, rfl⟩
  go_wp2_with fail
  refine (isDigit_r _ _).mono ?_
  rintro e wq ⟨rfl, rfl⟩
  go_wp2_with fail
  refine (digits_r s _ (k1 + 1) _ (by omega) (by omega) (by omega)).mono ?_
  rw [HK2.out]
  rintro e wq ⟨rfl, rfl⟩
  go_wp2_with fail
  refine (at_r s _ (k2) _ (by omega) (by omega)).mono ?_
  rintro e wq ⟨rfl, rfl⟩
  go_wp2_with fail
  refine (signed_r s _ (k2 + 1) _ (by omega) (by omega) (by omega)).mono ?_
  rw [HK3.out]
  rintro e wq ⟨rfl, rfl⟩
  go_wp2_with fail
  refine (at_r s _ (k3) _ (by omega) (by omega)).mono ?_
  rintro e wq ⟨rfl, rfl⟩
  go_wp2_with fail
  refine (isDigit_r _ _).mono ?_
  rintro e wq ⟨rfl, rfl⟩
  go_wp2_with fail
  refine (digits_r s _ k3 _ (by omega) (by omega) (by omega)).mono ?_
  rintro e wq ⟨rfl, rfl⟩
  go_wp2_with fail
  go_ret
  exact ⟨rint HV.out, rfl⟩

set_option maxHeartbeats 1000000 in
theorem number_f_yes_101n (s : ByteArray) (i k0 : Nat) (w : World) (hs : s.size ≤ 600) (hi : i ≤ s.size) (HK0 : Hid (sgn s i = k0)) (h0 : k0 ≤ 700) (d0 : digI (a0 s k0) = false) (p0 : (a0 s k0 == 46) = true) (q0 : digI (a0 s (k0 + 1)) = true) (k1 : Nat) (HK1 : Hid (dig s k0 = k1)) (h1 : k1 ≤ 700) (p1 : (a0 s k1 == 46) = true) (q1 : digI (a0 s (k1 + 1)) = true) (k2 : Nat) (HK2 : Hid (dig s (k1 + 1) = k2)) (h2 : k2 ≤ 700) (t1 : (a0 s k2 == 101) = true) (k3 : Nat) (HK3 : Hid (sgn s (k2 + 1) = k3)) (h3 : k3 ≤ 800) (d3 : digI (a0 s k3) = false) (r : Int) (HV : Hid (((k2 : Nat) : Int) = r)) :
    Calls Try.prog 33 #[.string s, .int .i64 (i : Int)] w fun e w' => e = .returned (.int .i64 r) ∧ w' = w := by
  have _h := hi
  have _h0 := h0
  have _h1 := h1
  have _h2 := h2
  have _h3 := h3
  go_enter Try.func33, Try.ntmps33
  go_wp2_with fail
  refine (signed_r s _ i _ (by omega) (by omega) (by omega)).mono ?_
  rw [HK0.out]
  rintro e wq ⟨rfl, rfl⟩
  go_wp2_with fail
  refine (at_r s _ (k0) _ (by omega) (by omega)).mono ?_
  rintro e wq ⟨rfl, rfl⟩
  go_wp2_with fail
  refine (isDigit_r _ _).mono ?_
  rintro e wq ⟨rfl, rfl⟩
  go_wp2_with fail
  refine (at_r s _ (k0) _ (by omega) (by omega)).mono ?_
  rintro e wq ⟨rfl, rfl⟩
  go_wp2_with fail
  refine (at_r s _ (k0 + 1) _ (by omega) (by omega)).mono ?_
  rintro e wq ⟨rfl, rfl⟩
  go_wp2_with fail
  refine (isDigit_r _ _).mono ?_
  rintro e wq ⟨rfl, rfl⟩
  go_wp2_with fail
  refine (digits_r s _ k0 _ (by omega) (by omega) (by omega)).mono ?_
  rw [HK1.out]
  rintro e wq ⟨rfl, rfl⟩
  go_wp2_with fail
  refine (at_r s _ (k1) _ (by omega) (by omega)).mono ?_
  rintro e wq ⟨rfl, rfl⟩
  go_wp2_with fail
  refine (at_r s _ (k1 + 1) _ (by omega) (by omega)).mono ?_
  rintro e wq ⟨rfl, rfl⟩
  go_wp2_with fail
  refine (isDigit_r _ _).mono ?_
  rintro e wq ⟨rfl, rfl⟩
  go_wp2_with fail
  refine (digits_r s _ (k1 + 1) _ (by omega) (by omega) (by omega)).mono ?_
  rw [HK2.out]
  rintro e wq ⟨rfl, rfl⟩
  go_wp2_with fail
  refine (at_r s _ (k2) _ (by omega) (by omega)).mono ?_
  rintro e wq ⟨rfl, rfl⟩
  go_wp2_with fail
  refine (signed_r s _ (k2 + 1) _ (by omega) (by omega) (by omega)).mono ?_
  rw [HK3.out]
  rintro e wq ⟨rfl, rfl⟩
  go_wp2_with fail
  refine (at_r s _ (k3) _ (by omega) (by omega)).mono ?_
  rintro e wq ⟨rfl, rfl⟩
  go_wp2_with fail
  refine (isDigit_r _ _).mono ?_
  rintro e wq ⟨rfl, rfl⟩
  go_wp2_with fail
  go_ret
  exact ⟨rint HV.out, rfl⟩

set_option maxHeartbeats 1000000 in
theorem number_f_yes_69y (s : ByteArray) (i k0 : Nat) (w : World) (hs : s.size ≤ 600) (hi : i ≤ s.size) (HK0 : Hid (sgn s i = k0)) (h0 : k0 ≤ 700) (d0 : digI (a0 s k0) = false) (p0 : (a0 s k0 == 46) = true) (q0 : digI (a0 s (k0 + 1)) = true) (k1 : Nat) (HK1 : Hid (dig s k0 = k1)) (h1 : k1 ≤ 700) (p1 : (a0 s k1 == 46) = true) (q1 : digI (a0 s (k1 + 1)) = true) (k2 : Nat) (HK2 : Hid (dig s (k1 + 1) = k2)) (h2 : k2 ≤ 700) (t1 : (a0 s k2 == 101) = false) (t2 : (a0 s k2 == 69) = true) (k3 : Nat) (HK3 : Hid (sgn s (k2 + 1) = k3)) (h3 : k3 ≤ 800) (d3 : digI (a0 s k3) = true) (r : Int) (HV : Hid (((dig s k3 : Nat) : Int) = r)) :
    Calls Try.prog 33 #[.string s, .int .i64 (i : Int)] w fun e w' => e = .returned (.int .i64 r) ∧ w' = w := by
  have _h := hi
  have _h0 := h0
  have _h1 := h1
  have _h2 := h2
  have _h3 := h3
  go_enter Try.func33, Try.ntmps33
  go_wp2_with fail
  refine (signed_r s _ i _ (by omega) (by omega) (by omega)).mono ?_
  rw [HK0.out]
  rintro e wq ⟨rfl, rfl⟩
  go_wp2_with fail
  refine (at_r s _ (k0) _ (by omega) (by omega)).mono ?_
  rintro e wq ⟨rfl, rfl⟩
  go_wp2_with fail
  refine (isDigit_r _ _).mono ?_
  rintro e wq ⟨rfl, rfl⟩
  go_wp2_with fail
  refine (at_r s _ (k0) _ (by omega) (by omega)).mono ?_
  rintro e wq ⟨rfl, rfl⟩
  go_wp2_with fail
  refine (at_r s _ (k0 + 1) _ (by omega) (by omega)).mono ?_
  rintro e wq ⟨rfl, rfl⟩
  go_wp2_with fail
  refine (isDigit_r _ _).mono ?_
  rintro e wq ⟨rfl, rfl⟩
  go_wp2_with fail
  refine (digits_r s _ k0 _ (by omega) (by omega) (by omega)).mono ?_
  rw [HK1.out]
  rintro e wq ⟨rfl, rfl⟩
  go_wp2_with fail
  refine (at_r s _ (k1) _ (by omega) (by omega)).mono ?_
  rintro e wq ⟨rfl, rfl⟩
  go_wp2_with fail
  refine (at_r s _ (k1 + 1) _ (by omega) (by omega)).mono ?_
  rintro e wq ⟨rfl, rfl⟩
  go_wp2_with fail
  refine (isDigit_r _ _).mono ?_
  rintro e wq ⟨rfl, rfl⟩
  go_wp2_with fail
  refine (digits_r s _ (k1 + 1) _ (by omega) (by omega) (by omega)).mono ?_
  rw [HK2.out]
  rintro e wq ⟨rfl, rfl⟩
  go_wp2_with fail
  refine (at_r s _ (k2) _ (by omega) (by omega)).mono ?_
  rintro e wq ⟨rfl, rfl⟩
  go_wp2_with fail
  refine (at_r s _ (k2) _ (by omega) (by omega)).mono ?_
  rintro e wq ⟨rfl, rfl⟩
  go_wp2_with fail
  refine (signed_r s _ (k2 + 1) _ (by omega) (by omega) (by omega)).mono ?_
  rw [HK3.out]
  rintro e wq ⟨rfl, rfl⟩
  go_wp2_with fail
  refine (at_r s _ (k3) _ (by omega) (by omega)).mono ?_
  rintro e wq ⟨rfl, rfl⟩
  go_wp2_with fail
  refine (isDigit_r _ _).mono ?_
  rintro e wq ⟨rfl, rfl⟩
  go_wp2_with fail
  refine (digits_r s _ k3 _ (by omega) (by omega) (by omega)).mono ?_
  rintro e wq ⟨rfl, rfl⟩
  go_wp2_with fail
  go_ret
  exact ⟨rint HV.out, rfl⟩

set_option maxHeartbeats 1000000 in
theorem number_f_yes_69n (s : ByteArray) (i k0 : Nat) (w : World) (hs : s.size ≤ 600) (hi : i ≤ s.size) (HK0 : Hid (sgn s i = k0)) (h0 : k0 ≤ 700) (d0 : digI (a0 s k0) = false) (p0 : (a0 s k0 == 46) = true) (q0 : digI (a0 s (k0 + 1)) = true) (k1 : Nat) (HK1 : Hid (dig s k0 = k1)) (h1 : k1 ≤ 700) (p1 : (a0 s k1 == 46) = true) (q1 : digI (a0 s (k1 + 1)) = true) (k2 : Nat) (HK2 : Hid (dig s (k1 + 1) = k2)) (h2 : k2 ≤ 700) (t1 : (a0 s k2 == 101) = false) (t2 : (a0 s k2 == 69) = true) (k3 : Nat) (HK3 : Hid (sgn s (k2 + 1) = k3)) (h3 : k3 ≤ 800) (d3 : digI (a0 s k3) = false) (r : Int) (HV : Hid (((k2 : Nat) : Int) = r)) :
    Calls Try.prog 33 #[.string s, .int .i64 (i : Int)] w fun e w' => e = .returned (.int .i64 r) ∧ w' = w := by
  have _h := hi
  have _h0 := h0
  have _h1 := h1
  have _h2 := h2
  have _h3 := h3
  go_enter Try.func33, Try.ntmps33
  go_wp2_with fail
  refine (signed_r s _ i _ (by omega) (by omega) (by omega)).mono ?_
  rw [HK0.out]
  rintro e wq ⟨rfl, rfl⟩
  go_wp2_with fail
  refine (at_r s _ (k0) _ (by omega) (by omega)).mono ?_
  rintro e wq ⟨rfl, rfl⟩
  go_wp2_with fail
  refine (isDigit_r _ _).mono ?_
  rintro e wq ⟨rfl, rfl⟩
  go_wp2_with fail
  refine (at_r s _ (k0) _ (by omega) (by omega)).mono ?_
  rintro e wq ⟨rfl, rfl⟩
  go_wp2_with fail
  refine (at_r s _ (k0 + 1) _ (by omega) (by omega)).mono ?_
  rintro e wq ⟨rfl, rfl⟩
  go_wp2_with fail
  refine (isDigit_r _ _).mono ?_
  rintro e wq ⟨rfl, rfl⟩
  go_wp2_with fail
  refine (digits_r s _ k0 _ (by omega) (by omega) (by omega)).mono ?_
  rw [HK1.out]
  rintro e wq ⟨rfl, rfl⟩
  go_wp2_with fail
  refine (at_r s _ (k1) _ (by omega) (by omega)).mono ?_
  rintro e wq ⟨rfl, rfl⟩
  go_wp2_with fail
  refine (at_r s _ (k1 + 1) _ (by omega) (by omega)).mono ?_
  rintro e wq ⟨rfl, rfl⟩
  go_wp2_with fail
  refine (isDigit_r _ _).mono ?_
  rintro e wq ⟨rfl, rfl⟩
  go_wp2_with fail
  refine (digits_r s _ (k1 + 1) _ (by omega) (by omega) (by omega)).mono ?_
  rw [HK2.out]
  rintro e wq ⟨rfl, rfl⟩
  go_wp2_with fail
  refine (at_r s _ (k2) _ (by omega) (by omega)).mono ?_
  rintro e wq ⟨rfl, rfl⟩
  go_wp2_with fail
  refine (at_r s _ (k2) _ (by omega) (by omega)).mono ?_
  rintro e wq ⟨rfl, rfl⟩
  go_wp2_with fail
  refine (signed_r s _ (k2 + 1) _ (by omega) (by omega) (by omega)).mono ?_
  rw [HK3.out]
  rintro e wq ⟨rfl, rfl⟩
  go_wp2_with fail
  refine (at_r s _ (k3) _ (by omega) (by omega)).mono ?_
  rintro e wq ⟨rfl, rfl⟩
  go_wp2_with fail
  refine (isDigit_r _ _).mono ?_
  rintro e wq ⟨rfl, rfl⟩
  go_wp2_with fail
  go_ret
  exact ⟨rint HV.out, rfl⟩

set_option maxHeartbeats 1000000 in
theorem number_f_yes_none (s : ByteArray) (i k0 : Nat) (w : World) (hs : s.size ≤ 600) (hi : i ≤ s.size) (HK0 : Hid (sgn s i = k0)) (h0 : k0 ≤ 700) (d0 : digI (a0 s k0) = false) (p0 : (a0 s k0 == 46) = true) (q0 : digI (a0 s (k0 + 1)) = true) (k1 : Nat) (HK1 : Hid (dig s k0 = k1)) (h1 : k1 ≤ 700) (p1 : (a0 s k1 == 46) = true) (q1 : digI (a0 s (k1 + 1)) = true) (k2 : Nat) (HK2 : Hid (dig s (k1 + 1) = k2)) (h2 : k2 ≤ 700) (t1 : (a0 s k2 == 101) = false) (t2 : (a0 s k2 == 69) = false) (r : Int) (HV : Hid (((k2 : Nat) : Int) = r)) :
    Calls Try.prog 33 #[.string s, .int .i64 (i : Int)] w fun e w' => e = .returned (.int .i64 r) ∧ w' = w := by
  have _h := hi
  have _h0 := h0
  have _h1 := h1
  have _h2 := h2
  go_enter Try.func33, Try.ntmps33
  go_wp2_with fail
  refine (signed_r s _ i _ (by omega) (by omega) (by omega)).mono ?_
  rw [HK0.out]
  rintro e wq ⟨rfl, rfl⟩
  go_wp2_with fail
  refine (at_r s _ (k0) _ (by omega) (by omega)).mono ?_
  rintro e wq ⟨rfl, rfl⟩
  go_wp2_with fail
  refine (isDigit_r _ _).mono ?_
  rintro e wq ⟨rfl, rfl⟩
  go_wp2_with fail
  refine (at_r s _ (k0) _ (by omega) (by omega)).mono ?_
  rintro e wq ⟨rfl, rfl⟩
  go_wp2_with fail
  refine (at_r s _ (k0 + 1) _ (by omega) (by omega)).mono ?_
  rintro e wq ⟨rfl, rfl⟩
  go_wp2_with fail
  refine (isDigit_r _ _).mono ?_
  rintro e wq ⟨rfl, rfl⟩
  go_wp2_with fail
  refine (digits_r s _ k0 _ (by omega) (by omega) (by omega)).mono ?_
  rw [HK1.out]
  rintro e wq ⟨rfl, rfl⟩
  go_wp2_with fail
  refine (at_r s _ (k1) _ (by omega) (by omega)).mono ?_
  rintro e wq ⟨rfl, rfl⟩
  go_wp2_with fail
  refine (at_r s _ (k1 + 1) _ (by omega) (by omega)).mono ?_
  rintro e wq ⟨rfl, rfl⟩
  go_wp2_with fail
  refine (isDigit_r _ _).mono ?_
  rintro e wq ⟨rfl, rfl⟩
  go_wp2_with fail
  refine (digits_r s _ (k1 + 1) _ (by omega) (by omega) (by omega)).mono ?_
  rw [HK2.out]
  rintro e wq ⟨rfl, rfl⟩
  go_wp2_with fail
  refine (at_r s _ (k2) _ (by omega) (by omega)).mono ?_
  rintro e wq ⟨rfl, rfl⟩
  go_wp2_with fail
  refine (at_r s _ (k2) _ (by omega) (by omega)).mono ?_
  rintro e wq ⟨rfl, rfl⟩
  go_wp2_with fail
  go_ret
  exact ⟨rint HV.out, rfl⟩

theorem number_r (s : ByteArray) (i : Int) (k : Nat) (w : World) (hi : i = k) (hs : s.size ≤ 600) (hk : k ≤ s.size) :
    Calls Try.prog 33 #[.string s, .int .i64 i] w fun e w' => e = .returned (.int .i64 ((if numB s k = true then numE s k else k : Nat) : Int)) ∧ w' = w := by
  subst hi
  obtain ⟨k0, HK0⟩ : ∃ k0, Hid (sgn s k = k0) := ⟨_, rfl⟩
  have h0 : k0 ≤ s.size := by rw [← HK0.out]; exact sgn_le hk
  obtain ⟨k1, HK1⟩ : ∃ k1, Hid (dig s k0 = k1) := ⟨_, rfl⟩
  have h1 : k1 ≤ s.size := by rw [← HK1.out]; exact dig_le h0
  have hN : numE s k = expE s (fracE s k1) := by unfold numE; rw [HK0.out, HK1.out]
  have hB : numB s k = (digI (a0 s k0) || (a0 s k0 == 46 && digI (a0 s (k0 + 1)))) := by unfold numB; rw [HK0.out, a0_dig, a0_dig, a0_beq s k0 46 (by omega)]
  have dot : (a0 s k0 == 46) = true → digI (a0 s k0) = false := fun h => by
    have e : a0 s k0 = 46 := by simpa using h
    rw [e]; rfl
  have frac : ∀ (p1 : (a0 s k1 == 46) = false), fracE s k1 = k1 := fun p1 => by
    rw [a0_beq s k1 46 (by omega)] at p1
    unfold fracE; rw [if_neg (fun h => by simp [h.1] at p1)]
  have frac2 : ∀ (q1 : digI (a0 s (k1 + 1)) = false), fracE s k1 = k1 := fun q1 => by
    rw [a0_dig] at q1
    unfold fracE; rw [if_neg (fun h => by simp [h.2] at q1)]
  have frac3 : (a0 s k1 == 46) = true → digI (a0 s (k1 + 1)) = true → fracE s k1 = dig s (k1 + 1) := fun p1 q1 => by
    rw [a0_beq s k1 46 (by omega)] at p1
    rw [a0_dig] at q1
    unfold fracE; rw [if_pos ⟨by simpa using p1, q1⟩]
  have ex0 : ∀ j, (a0 s j == 101) = false → (a0 s j == 69) = false → expE s j = j := fun j t1 t2 => by
    rw [a0_beq s j 101 (by omega)] at t1
    rw [a0_beq s j 69 (by omega)] at t2
    unfold expE; rw [if_neg (fun h => by rcases h with h | h <;> simp [h] at t1 t2)]
  have ex1 : ∀ j, ((a0 s j == 101) = true ∨ (a0 s j == 69) = true) → digI (a0 s (sgn s (j + 1))) = true → expE s j = dig s (sgn s (j + 1)) := fun j t d => by
    rw [a0_beq s j 101 (by omega), a0_beq s j 69 (by omega)] at t
    rw [a0_dig] at d
    unfold expE; rw [if_pos (by simpa using t), if_pos d]
  have ex2 : ∀ j, ((a0 s j == 101) = true ∨ (a0 s j == 69) = true) → digI (a0 s (sgn s (j + 1))) = false → expE s j = j := fun j t d => by
    rw [a0_beq s j 101 (by omega), a0_beq s j 69 (by omega)] at t
    rw [a0_dig] at d
    unfold expE; rw [if_pos (by simpa using t), if_neg (by simp [d])]
  cases d0 : digI (a0 s k0)
  · cases p0 : (a0 s k0 == 46)
    · rw [if_neg (by rw [hB, d0, p0]; simp)]
      exact number_no s k k0 w hs hk HK0 (by omega) d0 p0 _ rfl
    · cases q0 : digI (a0 s (k0 + 1))
      · rw [if_neg (by rw [hB, d0, p0, q0]; simp)]
        exact number_nof s k k0 w hs hk HK0 (by omega) d0 p0 q0 _ rfl
      · rw [if_pos (by rw [hB, d0, p0, q0]; simp), hN]
        cases p1 : (a0 s k1 == 46)
        · cases t1 : (a0 s k1 == 101)
          · cases t2 : (a0 s k1 == 69)
            · exact number_f_nodot_none s k k0 w hs hk HK0 (by omega) d0 p0 q0 k1 HK1 (by omega) p1 t1 t2 _ (by show _ = _; rw [frac p1, ex0 _ t1 t2])
            · cases d3 : digI (a0 s (sgn s (k1 + 1)))
              · exact number_f_nodot_69n s k k0 w hs hk HK0 (by omega) d0 p0 q0 k1 HK1 (by omega) p1 t1 t2 _ rfl (by have := sgn_le1 s (k1 + 1); omega) d3 _ (by show _ = _; rw [frac p1, ex2 _ (.inr t2) d3])
              · exact number_f_nodot_69y s k k0 w hs hk HK0 (by omega) d0 p0 q0 k1 HK1 (by omega) p1 t1 t2 _ rfl (by have := sgn_le1 s (k1 + 1); omega) d3 _ (by show _ = _; rw [frac p1, ex1 _ (.inr t2) d3])
          · cases d3 : digI (a0 s (sgn s (k1 + 1)))
            · exact number_f_nodot_101n s k k0 w hs hk HK0 (by omega) d0 p0 q0 k1 HK1 (by omega) p1 t1 _ rfl (by have := sgn_le1 s (k1 + 1); omega) d3 _ (by show _ = _; rw [frac p1, ex2 _ (.inl t1) d3])
            · exact number_f_nodot_101y s k k0 w hs hk HK0 (by omega) d0 p0 q0 k1 HK1 (by omega) p1 t1 _ rfl (by have := sgn_le1 s (k1 + 1); omega) d3 _ (by show _ = _; rw [frac p1, ex1 _ (.inl t1) d3])
        · cases q1 : digI (a0 s (k1 + 1))
          · cases t1 : (a0 s k1 == 101)
            · cases t2 : (a0 s k1 == 69)
              · exact number_f_nodig_none s k k0 w hs hk HK0 (by omega) d0 p0 q0 k1 HK1 (by omega) p1 q1 t1 t2 _ (by show _ = _; rw [frac2 q1, ex0 _ t1 t2])
              · cases d3 : digI (a0 s (sgn s (k1 + 1)))
                · exact number_f_nodig_69n s k k0 w hs hk HK0 (by omega) d0 p0 q0 k1 HK1 (by omega) p1 q1 t1 t2 _ rfl (by have := sgn_le1 s (k1 + 1); omega) d3 _ (by show _ = _; rw [frac2 q1, ex2 _ (.inr t2) d3])
                · exact number_f_nodig_69y s k k0 w hs hk HK0 (by omega) d0 p0 q0 k1 HK1 (by omega) p1 q1 t1 t2 _ rfl (by have := sgn_le1 s (k1 + 1); omega) d3 _ (by show _ = _; rw [frac2 q1, ex1 _ (.inr t2) d3])
            · cases d3 : digI (a0 s (sgn s (k1 + 1)))
              · exact number_f_nodig_101n s k k0 w hs hk HK0 (by omega) d0 p0 q0 k1 HK1 (by omega) p1 q1 t1 _ rfl (by have := sgn_le1 s (k1 + 1); omega) d3 _ (by show _ = _; rw [frac2 q1, ex2 _ (.inl t1) d3])
              · exact number_f_nodig_101y s k k0 w hs hk HK0 (by omega) d0 p0 q0 k1 HK1 (by omega) p1 q1 t1 _ rfl (by have := sgn_le1 s (k1 + 1); omega) d3 _ (by show _ = _; rw [frac2 q1, ex1 _ (.inl t1) d3])
          · have h2 : dig s (k1 + 1) ≤ s.size := dig_le (by rw [a0_dig] at q1; have := pk_lt (s := s) (i := k1 + 1) (by have := dig_nn q1; omega); omega)
            cases t1 : (a0 s (dig s (k1 + 1)) == 101)
            · cases t2 : (a0 s (dig s (k1 + 1)) == 69)
              · exact number_f_yes_none s k k0 w hs hk HK0 (by omega) d0 p0 q0 k1 HK1 (by omega) p1 q1 _ rfl (by omega) t1 t2 _ (by show _ = _; rw [frac3 p1 q1, ex0 _ t1 t2])
              · cases d3 : digI (a0 s (sgn s ((dig s (k1 + 1)) + 1)))
                · exact number_f_yes_69n s k k0 w hs hk HK0 (by omega) d0 p0 q0 k1 HK1 (by omega) p1 q1 _ rfl (by omega) t1 t2 _ rfl (by have := sgn_le1 s ((dig s (k1 + 1)) + 1); omega) d3 _ (by show _ = _; rw [frac3 p1 q1, ex2 _ (.inr t2) d3])
                · exact number_f_yes_69y s k k0 w hs hk HK0 (by omega) d0 p0 q0 k1 HK1 (by omega) p1 q1 _ rfl (by omega) t1 t2 _ rfl (by have := sgn_le1 s ((dig s (k1 + 1)) + 1); omega) d3 _ (by show _ = _; rw [frac3 p1 q1, ex1 _ (.inr t2) d3])
            · cases d3 : digI (a0 s (sgn s ((dig s (k1 + 1)) + 1)))
              · exact number_f_yes_101n s k k0 w hs hk HK0 (by omega) d0 p0 q0 k1 HK1 (by omega) p1 q1 _ rfl (by omega) t1 _ rfl (by have := sgn_le1 s ((dig s (k1 + 1)) + 1); omega) d3 _ (by show _ = _; rw [frac3 p1 q1, ex2 _ (.inl t1) d3])
              · exact number_f_yes_101y s k k0 w hs hk HK0 (by omega) d0 p0 q0 k1 HK1 (by omega) p1 q1 _ rfl (by omega) t1 _ rfl (by have := sgn_le1 s ((dig s (k1 + 1)) + 1); omega) d3 _ (by show _ = _; rw [frac3 p1 q1, ex1 _ (.inl t1) d3])
  · have p0 : (a0 s k0 == 46) = false := by
      cases h : (a0 s k0 == 46)
      · rfl
      · rw [dot h] at d0; cases d0
    rw [if_pos (by rw [hB, d0]; simp), hN]
    cases p1 : (a0 s k1 == 46)
    · cases t1 : (a0 s k1 == 101)
      · cases t2 : (a0 s k1 == 69)
        · exact number_d_nodot_none s k k0 w hs hk HK0 (by omega) d0 p0 k1 HK1 (by omega) p1 t1 t2 _ (by show _ = _; rw [frac p1, ex0 _ t1 t2])
        · cases d3 : digI (a0 s (sgn s (k1 + 1)))
          · exact number_d_nodot_69n s k k0 w hs hk HK0 (by omega) d0 p0 k1 HK1 (by omega) p1 t1 t2 _ rfl (by have := sgn_le1 s (k1 + 1); omega) d3 _ (by show _ = _; rw [frac p1, ex2 _ (.inr t2) d3])
          · exact number_d_nodot_69y s k k0 w hs hk HK0 (by omega) d0 p0 k1 HK1 (by omega) p1 t1 t2 _ rfl (by have := sgn_le1 s (k1 + 1); omega) d3 _ (by show _ = _; rw [frac p1, ex1 _ (.inr t2) d3])
      · cases d3 : digI (a0 s (sgn s (k1 + 1)))
        · exact number_d_nodot_101n s k k0 w hs hk HK0 (by omega) d0 p0 k1 HK1 (by omega) p1 t1 _ rfl (by have := sgn_le1 s (k1 + 1); omega) d3 _ (by show _ = _; rw [frac p1, ex2 _ (.inl t1) d3])
        · exact number_d_nodot_101y s k k0 w hs hk HK0 (by omega) d0 p0 k1 HK1 (by omega) p1 t1 _ rfl (by have := sgn_le1 s (k1 + 1); omega) d3 _ (by show _ = _; rw [frac p1, ex1 _ (.inl t1) d3])
    · cases q1 : digI (a0 s (k1 + 1))
      · cases t1 : (a0 s k1 == 101)
        · cases t2 : (a0 s k1 == 69)
          · exact number_d_nodig_none s k k0 w hs hk HK0 (by omega) d0 p0 k1 HK1 (by omega) p1 q1 t1 t2 _ (by show _ = _; rw [frac2 q1, ex0 _ t1 t2])
          · cases d3 : digI (a0 s (sgn s (k1 + 1)))
            · exact number_d_nodig_69n s k k0 w hs hk HK0 (by omega) d0 p0 k1 HK1 (by omega) p1 q1 t1 t2 _ rfl (by have := sgn_le1 s (k1 + 1); omega) d3 _ (by show _ = _; rw [frac2 q1, ex2 _ (.inr t2) d3])
            · exact number_d_nodig_69y s k k0 w hs hk HK0 (by omega) d0 p0 k1 HK1 (by omega) p1 q1 t1 t2 _ rfl (by have := sgn_le1 s (k1 + 1); omega) d3 _ (by show _ = _; rw [frac2 q1, ex1 _ (.inr t2) d3])
        · cases d3 : digI (a0 s (sgn s (k1 + 1)))
          · exact number_d_nodig_101n s k k0 w hs hk HK0 (by omega) d0 p0 k1 HK1 (by omega) p1 q1 t1 _ rfl (by have := sgn_le1 s (k1 + 1); omega) d3 _ (by show _ = _; rw [frac2 q1, ex2 _ (.inl t1) d3])
          · exact number_d_nodig_101y s k k0 w hs hk HK0 (by omega) d0 p0 k1 HK1 (by omega) p1 q1 t1 _ rfl (by have := sgn_le1 s (k1 + 1); omega) d3 _ (by show _ = _; rw [frac2 q1, ex1 _ (.inl t1) d3])
      · have h2 : dig s (k1 + 1) ≤ s.size := dig_le (by rw [a0_dig] at q1; have := pk_lt (s := s) (i := k1 + 1) (by have := dig_nn q1; omega); omega)
        cases t1 : (a0 s (dig s (k1 + 1)) == 101)
        · cases t2 : (a0 s (dig s (k1 + 1)) == 69)
          · exact number_d_yes_none s k k0 w hs hk HK0 (by omega) d0 p0 k1 HK1 (by omega) p1 q1 _ rfl (by omega) t1 t2 _ (by show _ = _; rw [frac3 p1 q1, ex0 _ t1 t2])
          · cases d3 : digI (a0 s (sgn s ((dig s (k1 + 1)) + 1)))
            · exact number_d_yes_69n s k k0 w hs hk HK0 (by omega) d0 p0 k1 HK1 (by omega) p1 q1 _ rfl (by omega) t1 t2 _ rfl (by have := sgn_le1 s ((dig s (k1 + 1)) + 1); omega) d3 _ (by show _ = _; rw [frac3 p1 q1, ex2 _ (.inr t2) d3])
            · exact number_d_yes_69y s k k0 w hs hk HK0 (by omega) d0 p0 k1 HK1 (by omega) p1 q1 _ rfl (by omega) t1 t2 _ rfl (by have := sgn_le1 s ((dig s (k1 + 1)) + 1); omega) d3 _ (by show _ = _; rw [frac3 p1 q1, ex1 _ (.inr t2) d3])
        · cases d3 : digI (a0 s (sgn s ((dig s (k1 + 1)) + 1)))
          · exact number_d_yes_101n s k k0 w hs hk HK0 (by omega) d0 p0 k1 HK1 (by omega) p1 q1 _ rfl (by omega) t1 _ rfl (by have := sgn_le1 s ((dig s (k1 + 1)) + 1); omega) d3 _ (by show _ = _; rw [frac3 p1 q1, ex2 _ (.inl t1) d3])
          · exact number_d_yes_101y s k k0 w hs hk HK0 (by omega) d0 p0 k1 HK1 (by omega) p1 q1 _ rfl (by omega) t1 _ rfl (by have := sgn_le1 s ((dig s (k1 + 1)) + 1); omega) d3 _ (by show _ = _; rw [frac3 p1 q1, ex1 _ (.inl t1) d3])
end Go.Proofs.Ytlliliddljkbfaa
