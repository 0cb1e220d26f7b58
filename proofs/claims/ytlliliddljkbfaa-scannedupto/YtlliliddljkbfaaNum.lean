/-
  The scanner reads a number.
-/
import Derived.Test.YtlliliddljkbfaaMove2
namespace Go.Proofs.Ytlliliddljkbfaa
open Go.RowKit Sp
set_option maxRecDepth 100000

theorem rstr {a b : ByteArray} (h : a = b) : Ending.returned (.string a) = .returned (.string b) := by rw [h]

set_option maxHeartbeats 1000000 in
theorem number_c (s : ByteArray) (b i : Nat) (w : World) (h : Sc w b s i) :
    Calls Try.prog 52 #[.pointer (some ⟨b, 0, none⟩)] w fun e w' => e = .returned (.string (s.extract i (numE s i))) ∧ Went b s (numE s i) w w' := by
  have W : Hid (Went b s i w w) := Went.refl h
  clear h
  have c00 := W.out.1.c0
  have c10 := W.out.1.c1
  have cf0 := W.out.1.f1
  have cl0 := W.out.1.lt
  have cs0 := W.out.1.len
  have ce0 := W.out.1.le
  have hge := numE_ge s i
  have hle := numE_le W.out.1.le
  cases hsg : signI (pk s i)
  · have hk : Hid (sgn s i = i) := by show sgn s i = i; simp [sgn, hsg]
    have hd0 := dig_le (s := s) (i := i) (by omega)
    generalize hkk : dig s (i) = k at hd0
    have HK : Hid (dig s (i) = k) := hkk
    clear hkk
    cases e46 : (pk s k == 46)
    · have HV : Hid (numE s i = expE s k) := by show numE s i = _; simp only [numE, fracE, hk.out, HK.out]; rw [if_neg (fun h => by simp [h.1] at e46)]
      go_enter Try.func52, Try.ntmps52
      go_wp2_with fail
      refine (peek_c s b (i) _ (i) _ (W.out.1) ⟨by omega, by omega, by omega⟩).mono ?_
      rintro e wq ⟨rfl, nq, rfl⟩
      go_wp2_with fail
      refine (isSign_c _ _).mono ?_
      rintro e wq ⟨rfl, rfl⟩
      go_wp2_with fail
      refine (passDigits_c s b i _ (W.out.1.drewN _)).mono ?_
      rintro e w1 ⟨rfl, hwent⟩
      have W1' : Hid (Went b s (dig s i) w w1) := (W.out.drewN _).trans hwent
      clear hwent
      have W1 : Hid (Went b s k w w1) := by have := W1'.out; rw [HK.out] at this; exact this
      clear W1'
      have c01 := W1.out.1.c0
      have c11 := W1.out.1.c1
      have cf1 := W1.out.1.f1
      have cl1 := W1.out.1.lt
      have cs1 := W1.out.1.len
      have ce1 := W1.out.1.le
      go_wp2_with fail
      refine (peek_c s b (k) _ (k) _ (W1.out.1) ⟨by omega, by omega, by omega⟩).mono ?_
      rintro e wq ⟨rfl, nq, rfl⟩
      go_wp2_with fail
      refine (passExponent_c s b k _ (W1.out.1.drewN _)).mono ?_
      rintro e w3 ⟨rfl, hwent⟩
      have W3' : Hid (Went b s (expE s k) w w3) := (W1.out.drewN _).trans hwent
      clear hwent
      have W3 : Hid (Went b s (numE s i) w w3) := by have := W3'.out; rw [← HV.out] at this; exact this
      clear W3'
      have c03 := W3.out.1.c0
      have c13 := W3.out.1.c1
      have cf3 := W3.out.1.f1
      have cl3 := W3.out.1.lt
      have cs3 := W3.out.1.len
      have ce3 := W3.out.1.le
      go_wp2_with fail
      go_quiet (fail)
      go_wp2_with fail
      go_ret
      exact ⟨rfl, W3.out.drewN _⟩
    · cases edg : digI (pk s (k + 1))
      · have HV : Hid (numE s i = expE s k) := by show numE s i = _; simp only [numE, fracE, hk.out, HK.out]; rw [if_neg (fun h => by simp [h.2] at edg)]
        go_enter Try.func52, Try.ntmps52
        go_wp2_with fail
        refine (peek_c s b (i) _ (i) _ (W.out.1) ⟨by omega, by omega, by omega⟩).mono ?_
        rintro e wq ⟨rfl, nq, rfl⟩
        go_wp2_with fail
        refine (isSign_c _ _).mono ?_
        rintro e wq ⟨rfl, rfl⟩
        go_wp2_with fail
        refine (passDigits_c s b i _ (W.out.1.drewN _)).mono ?_
        rintro e w1 ⟨rfl, hwent⟩
        have W1' : Hid (Went b s (dig s i) w w1) := (W.out.drewN _).trans hwent
        clear hwent
        have W1 : Hid (Went b s k w w1) := by have := W1'.out; rw [HK.out] at this; exact this
        clear W1'
        have c01 := W1.out.1.c0
        have c11 := W1.out.1.c1
        have cf1 := W1.out.1.f1
        have cl1 := W1.out.1.lt
        have cs1 := W1.out.1.len
        have ce1 := W1.out.1.le
        go_wp2_with fail
        refine (peek_c s b (k) _ (k) _ (W1.out.1) ⟨by omega, by omega, by omega⟩).mono ?_
        rintro e wq ⟨rfl, nq, rfl⟩
        go_wp2_with fail
        refine (peek_c s b (k) _ (k + 1) _ (W1.out.1.drewN _) ⟨by omega, by omega, by omega⟩).mono ?_
        rintro e wq ⟨rfl, nq, rfl⟩
        go_wp2_with fail
        refine (isDigit_c _ _).mono ?_
        rintro e wq ⟨rfl, rfl⟩
        go_wp2_with fail
        refine (passExponent_c s b k _ (W1.out.1.drewN _)).mono ?_
        rintro e w3 ⟨rfl, hwent⟩
        have W3' : Hid (Went b s (expE s k) w w3) := (W1.out.drewN _).trans hwent
        clear hwent
        have W3 : Hid (Went b s (numE s i) w w3) := by have := W3'.out; rw [← HV.out] at this; exact this
        clear W3'
        have c03 := W3.out.1.c0
        have c13 := W3.out.1.c1
        have cf3 := W3.out.1.f1
        have cl3 := W3.out.1.lt
        have cs3 := W3.out.1.len
        have ce3 := W3.out.1.le
        go_wp2_with fail
        go_quiet (fail)
        go_wp2_with fail
        go_ret
        exact ⟨rfl, W3.out.drewN _⟩
      · have hlt : k + 1 < s.size := pk_lt (by have := dig_nn edg; omega)
        have HV : Hid (numE s i = expE s (dig s (k + 1))) := by show numE s i = _; simp only [numE, fracE, hk.out, HK.out]; rw [if_pos ⟨by simpa using e46, edg⟩]
        go_enter Try.func52, Try.ntmps52
        go_wp2_with fail
        refine (peek_c s b (i) _ (i) _ (W.out.1) ⟨by omega, by omega, by omega⟩).mono ?_
        rintro e wq ⟨rfl, nq, rfl⟩
        go_wp2_with fail
        refine (isSign_c _ _).mono ?_
        rintro e wq ⟨rfl, rfl⟩
        go_wp2_with fail
        refine (passDigits_c s b i _ (W.out.1.drewN _)).mono ?_
        rintro e w1 ⟨rfl, hwent⟩
        have W1' : Hid (Went b s (dig s i) w w1) := (W.out.drewN _).trans hwent
        clear hwent
        have W1 : Hid (Went b s k w w1) := by have := W1'.out; rw [HK.out] at this; exact this
        clear W1'
        have c01 := W1.out.1.c0
        have c11 := W1.out.1.c1
        have cf1 := W1.out.1.f1
        have cl1 := W1.out.1.lt
        have cs1 := W1.out.1.len
        have ce1 := W1.out.1.le
        go_wp2_with fail
        refine (peek_c s b (k) _ (k) _ (W1.out.1) ⟨by omega, by omega, by omega⟩).mono ?_
        rintro e wq ⟨rfl, nq, rfl⟩
        go_wp2_with fail
        refine (peek_c s b (k) _ (k + 1) _ (W1.out.1.drewN _) ⟨by omega, by omega, by omega⟩).mono ?_
        rintro e wq ⟨rfl, nq, rfl⟩
        go_wp2_with fail
        refine (isDigit_c _ _).mono ?_
        rintro e wq ⟨rfl, rfl⟩
        go_wp2_with fail
        refine (passDigits_c s b (k + 1) _ ((W1.out.1.drewN _).setv _ (k + 1) (by omega) (by omega))).mono ?_
        rintro e w2 ⟨rfl, hwent⟩
        have W2 : Hid (Went b s (dig s (k + 1)) w w2) := ((W1.out.drewN _).setv _ (k + 1) (by omega) (by omega)).trans hwent
        clear hwent
        go_wp2_with fail
        refine (passExponent_c s b (dig s (k + 1)) _ W2.out.1).mono ?_
        rintro e w3 ⟨rfl, hwent⟩
        have W3' : Hid (Went b s (expE s (dig s (k + 1))) w w3) := W2.out.trans hwent
        clear hwent
        have W3 : Hid (Went b s (numE s i) w w3) := by have := W3'.out; rw [← HV.out] at this; exact this
        clear W3'
        have c03 := W3.out.1.c0
        have c13 := W3.out.1.c1
        have cf3 := W3.out.1.f1
        have cl3 := W3.out.1.lt
        have cs3 := W3.out.1.len
        have ce3 := W3.out.1.le
        go_wp2_with fail
        go_quiet (fail)
        go_wp2_with fail
        go_ret
        exact ⟨rfl, W3.out.drewN _⟩
  · have hk : Hid (sgn s i = i + 1) := by show sgn s i = i + 1; simp [sgn, hsg]
    have hlt0 : i < s.size := pk_lt (sign_nn hsg)
    have hd0 := dig_le (s := s) (i := i + 1) (by omega)
    generalize hkk : dig s (i + 1) = k at hd0
    have HK : Hid (dig s (i + 1) = k) := hkk
    clear hkk
    cases e46 : (pk s k == 46)
    · have HV : Hid (numE s i = expE s k) := by show numE s i = _; simp only [numE, fracE, hk.out, HK.out]; rw [if_neg (fun h => by simp [h.1] at e46)]
      go_enter Try.func52, Try.ntmps52
      go_wp2_with fail
      refine (peek_c s b (i) _ (i) _ (W.out.1) ⟨by omega, by omega, by omega⟩).mono ?_
      rintro e wq ⟨rfl, nq, rfl⟩
      go_wp2_with fail
      refine (isSign_c _ _).mono ?_
      rintro e wq ⟨rfl, rfl⟩
      go_wp2_with fail
      refine (passDigits_c s b (i + 1) _ ((W.out.1.drewN _).setv _ (i + 1) (by omega) (by omega))).mono ?_
      rintro e w1 ⟨rfl, hwent⟩
      have W1' : Hid (Went b s (dig s (i + 1)) w w1) := ((W.out.drewN _).setv _ (i + 1) (by omega) (by omega)).trans hwent
      clear hwent
      have W1 : Hid (Went b s k w w1) := by have := W1'.out; rw [HK.out] at this; exact this
      clear W1'
      have c01 := W1.out.1.c0
      have c11 := W1.out.1.c1
      have cf1 := W1.out.1.f1
      have cl1 := W1.out.1.lt
      have cs1 := W1.out.1.len
      have ce1 := W1.out.1.le
      go_wp2_with fail
      refine (peek_c s b (k) _ (k) _ (W1.out.1) ⟨by omega, by omega, by omega⟩).mono ?_
      rintro e wq ⟨rfl, nq, rfl⟩
      go_wp2_with fail
      refine (passExponent_c s b k _ (W1.out.1.drewN _)).mono ?_
      rintro e w3 ⟨rfl, hwent⟩
      have W3' : Hid (Went b s (expE s k) w w3) := (W1.out.drewN _).trans hwent
      clear hwent
      have W3 : Hid (Went b s (numE s i) w w3) := by have := W3'.out; rw [← HV.out] at this; exact this
      clear W3'
      have c03 := W3.out.1.c0
      have c13 := W3.out.1.c1
      have cf3 := W3.out.1.f1
      have cl3 := W3.out.1.lt
      have cs3 := W3.out.1.len
      have ce3 := W3.out.1.le
      go_wp2_with fail
      go_quiet (fail)
      go_wp2_with fail
      go_ret
      exact ⟨rfl, W3.out.drewN _⟩
    · cases edg : digI (pk s (k + 1))
      · have HV : Hid (numE s i = expE s k) := by show numE s i = _; simp only [numE, fracE, hk.out, HK.out]; rw [if_neg (fun h => by simp [h.2] at edg)]
        go_enter Try.func52, Try.ntmps52
        go_wp2_with fail
        refine (peek_c s b (i) _ (i) _ (W.out.1) ⟨by omega, by omega, by omega⟩).mono ?_
        rintro e wq ⟨rfl, nq, rfl⟩
        go_wp2_with fail
        refine (isSign_c _ _).mono ?_
        rintro e wq ⟨rfl, rfl⟩
        go_wp2_with fail
        refine (passDigits_c s b (i + 1) _ ((W.out.1.drewN _).setv _ (i + 1) (by omega) (by omega))).mono ?_
        rintro e w1 ⟨rfl, hwent⟩
        have W1' : Hid (Went b s (dig s (i + 1)) w w1) := ((W.out.drewN _).setv _ (i + 1) (by omega) (by omega)).trans hwent
        clear hwent
        have W1 : Hid (Went b s k w w1) := by have := W1'.out; rw [HK.out] at this; exact this
        clear W1'
        have c01 := W1.out.1.c0
        have c11 := W1.out.1.c1
        have cf1 := W1.out.1.f1
        have cl1 := W1.out.1.lt
        have cs1 := W1.out.1.len
        have ce1 := W1.out.1.le
        go_wp2_with fail
        refine (peek_c s b (k) _ (k) _ (W1.out.1) ⟨by omega, by omega, by omega⟩).mono ?_
        rintro e wq ⟨rfl, nq, rfl⟩
        go_wp2_with fail
        refine (peek_c s b (k) _ (k + 1) _ (W1.out.1.drewN _) ⟨by omega, by omega, by omega⟩).mono ?_
        rintro e wq ⟨rfl, nq, rfl⟩
        go_wp2_with fail
        refine (isDigit_c _ _).mono ?_
        rintro e wq ⟨rfl, rfl⟩
        go_wp2_with fail
        refine (passExponent_c s b k _ (W1.out.1.drewN _)).mono ?_
        rintro e w3 ⟨rfl, hwent⟩
        have W3' : Hid (Went b s (expE s k) w w3) := (W1.out.drewN _).trans hwent
        clear hwent
        have W3 : Hid (Went b s (numE s i) w w3) := by have := W3'.out; rw [← HV.out] at this; exact this
        clear W3'
        have c03 := W3.out.1.c0
        have c13 := W3.out.1.c1
        have cf3 := W3.out.1.f1
        have cl3 := W3.out.1.lt
        have cs3 := W3.out.1.len
        have ce3 := W3.out.1.le
        go_wp2_with fail
        go_quiet (fail)
        go_wp2_with fail
        go_ret
        exact ⟨rfl, W3.out.drewN _⟩
      · have hlt : k + 1 < s.size := pk_lt (by have := dig_nn edg; omega)
        have HV : Hid (numE s i = expE s (dig s (k + 1))) := by show numE s i = _; simp only [numE, fracE, hk.out, HK.out]; rw [if_pos ⟨by simpa using e46, edg⟩]
        go_enter Try.func52, Try.ntmps52
        go_wp2_with fail
        refine (peek_c s b (i) _ (i) _ (W.out.1) ⟨by omega, by omega, by omega⟩).mono ?_
        rintro e wq ⟨rfl, nq, rfl⟩
        go_wp2_with fail
        refine (isSign_c _ _).mono ?_
        rintro e wq ⟨rfl, rfl⟩
        go_wp2_with fail
        refine (passDigits_c s b (i + 1) _ ((W.out.1.drewN _).setv _ (i + 1) (by omega) (by omega))).mono ?_
        rintro e w1 ⟨rfl, hwent⟩
        have W1' : Hid (Went b s (dig s (i + 1)) w w1) := ((W.out.drewN _).setv _ (i + 1) (by omega) (by omega)).trans hwent
        clear hwent
        have W1 : Hid (Went b s k w w1) := by have := W1'.out; rw [HK.out] at this; exact this
        clear W1'
        have c01 := W1.out.1.c0
        have c11 := W1.out.1.c1
        have cf1 := W1.out.1.f1
        have cl1 := W1.out.1.lt
        have cs1 := W1.out.1.len
        have ce1 := W1.out.1.le
        go_wp2_with fail
        refine (peek_c s b (k) _ (k) _ (W1.out.1) ⟨by omega, by omega, by omega⟩).mono ?_
        rintro e wq ⟨rfl, nq, rfl⟩
        go_wp2_with fail
        refine (peek_c s b (k) _ (k + 1) _ (W1.out.1.drewN _) ⟨by omega, by omega, by omega⟩).mono ?_
        rintro e wq ⟨rfl, nq, rfl⟩
        go_wp2_with fail
        refine (isDigit_c _ _).mono ?_
        rintro e wq ⟨rfl, rfl⟩
        go_wp2_with fail
        refine (passDigits_c s b (k + 1) _ ((W1.out.1.drewN _).setv _ (k + 1) (by omega) (by omega))).mono ?_
        rintro e w2 ⟨rfl, hwent⟩
        have W2 : Hid (Went b s (dig s (k + 1)) w w2) := ((W1.out.drewN _).setv _ (k + 1) (by omega) (by omega)).trans hwent
        clear hwent
        go_wp2_with fail
        refine (passExponent_c s b (dig s (k + 1)) _ W2.out.1).mono ?_
        rintro e w3 ⟨rfl, hwent⟩
        have W3' : Hid (Went b s (expE s (dig s (k + 1))) w w3) := W2.out.trans hwent
        clear hwent
        have W3 : Hid (Went b s (numE s i) w w3) := by have := W3'.out; rw [← HV.out] at this; exact this
        clear W3'
        have c03 := W3.out.1.c0
        have c13 := W3.out.1.c1
        have cf3 := W3.out.1.f1
        have cl3 := W3.out.1.lt
        have cs3 := W3.out.1.len
        have ce3 := W3.out.1.le
        go_wp2_with fail
        go_quiet (fail)
        go_wp2_with fail
        go_ret
        exact ⟨rfl, W3.out.drewN _⟩
end Go.Proofs.Ytlliliddljkbfaa
