/-
  The scanner's methods that read a number.
-/
import Derived.Test.YtlliliddljkbfaaMove1
namespace Go.Proofs.Ytlliliddljkbfaa
open Go.RowKit Sp
set_option maxRecDepth 100000

set_option maxHeartbeats 400000 in
theorem passDigits_c (s : ByteArray) (b i : Nat) (w : World) (h : Sc w b s i) :
    Calls Try.prog 71 #[.pointer (some ⟨b, 0, none⟩)] w fun e w' => e = .returned (.tuple #[]) ∧ Went b s (Sp.dig s i) w w' := by
  have HS : Hid (Sc w b s i) := h
  clear h
  go_enter Try.func71, Try.ntmps71
  go_wp2_with fail
  refine wp_scope_fwd (fun Q' hF => ?_)
  go_wp2_with fail
  go_loopg [] s.size (fun g wr => ∃ k : Nat, s.size ≤ k + g ∧ Aside (digF s g k = Sp.dig s i ∧ Went b s k w wr))
  case atStart => exact ⟨i, by omega, rfl, Went.refl HS.out⟩
  case round =>
    obtain ⟨k, hk, hA⟩ := hrel
    have H1 : Hid (digF s gk k = Sp.dig s i) := hA.out.1
    have H2 : Hid (Went b s k w wr) := hA.out.2
    clear hA
    have h0 := H2.out.1.c0
    have h1 := H2.out.1.c1
    have hf := H2.out.1.f1
    have hl := H2.out.1.lt
    have hs := H2.out.1.len
    cases hbl : digI (pk s k)
    · have HV : Hid (Sp.dig s i = k) := by
        show Sp.dig s i = k
        rw [← H1.out]
        cases gk with
        | zero => rfl
        | succ f => unfold digF; rw [if_neg (by simp [hbl])]
      go_wp2_with fail
      refine (peek_c s b k _ k _ H2.out.1 ⟨by omega, by omega, by omega⟩).mono ?_
      rintro e w1 ⟨rfl, n1, rfl⟩
      go_wp2_with fail
      refine (isDigit_c _ _).mono ?_
      rintro e w1 ⟨rfl, rfl⟩
      go_wp2_with fail
      go_step3
      refine hF.go 0 _ _ _ rfl ?_
      go_wp2
      simp only [Exit.noGoto]
      go_end0
      refine ⟨rfl, ?_⟩
      rw [HV.out]
      exact H2.out.drewN _
    · have hlt : k < s.size := pk_lt (by have := dig_nn hbl; omega)
      obtain ⟨f, rfl⟩ : ∃ f, gk = f + 1 := ⟨gk - 1, by omega⟩
      have HV : Hid (digF s f (k + 1) = Sp.dig s i) := by
        have := H1.out
        unfold digF at this
        rw [if_pos hbl] at this
        exact this
      go_wp2_with fail
      refine (peek_c s b k _ k _ H2.out.1 ⟨by omega, by omega, by omega⟩).mono ?_
      rintro e w1 ⟨rfl, n1, rfl⟩
      go_wp2_with fail
      refine (isDigit_c _ _).mono ?_
      rintro e w1 ⟨rfl, rfl⟩
      go_wp2_with fail
      go_roundg f
      case measure => omega
      case rel => 
        rw [ofNat1]
        exact ⟨k + 1, by omega, HV.out, (H2.out.drewN _).set (k + 1) (by omega)⟩

set_option maxHeartbeats 1000000 in
theorem passExponent_c (s : ByteArray) (b i : Nat) (w : World) (h : Sc w b s i) :
    Calls Try.prog 72 #[.pointer (some ⟨b, 0, none⟩)] w fun e w' => e = .returned (.tuple #[]) ∧ Went b s (expE s i) w w' := by
  have W : Hid (Went b s i w w) := Went.refl h
  clear h
  have c00 := W.out.1.c0
  have c10 := W.out.1.c1
  have cf0 := W.out.1.f1
  have cl0 := W.out.1.lt
  have cs0 := W.out.1.len
  have ce0 := W.out.1.le
  cases h1 : (pk s i != 101) <;> cases h2 : (pk s i != 69)
  · exfalso
    simp at h1 h2; omega
  · have E : Hid (pk s i = 101) := by show pk s i = 101; simpa using h1
    cases hsg : signI (pk s (i + 1))
    · cases hd : digI (pk s (i + 1))
      · have HV : Hid (expE s i = i) := by show expE s i = i; simp [expE, E.out, sgn, hsg, hd]
        go_enter Try.func72, Try.ntmps72
        go_wp2_with fail
        refine (peek_c s b (i) _ (i) _ (W.out.1) ⟨by omega, by omega, by omega⟩).mono ?_
        rintro e wq ⟨rfl, nq, rfl⟩
        go_wp2_with fail
        refine (peek_c s b (i) _ (i + 1) _ (W.out.1.drewN _) ⟨by omega, by omega, by omega⟩).mono ?_
        rintro e wq ⟨rfl, nq, rfl⟩
        go_wp2_with fail
        refine (isSign_c _ _).mono ?_
        rintro e wq ⟨rfl, rfl⟩
        go_wp2_with fail
        refine (peek_c s b (i) _ (i + 1) _ (W.out.1.drewN _) ⟨by omega, by omega, by omega⟩).mono ?_
        rintro e wq ⟨rfl, nq, rfl⟩
        go_wp2_with fail
        refine (isDigit_c _ _).mono ?_
        rintro e wq ⟨rfl, rfl⟩
        go_wp2_with fail
        go_end0
        refine ⟨rfl, ?_⟩
        rw [HV.out]
        exact W.out.drewN _
      · have hlt : i + 1 < s.size := pk_lt (by have := dig_nn hd; omega)
        have HV : Hid (expE s i = dig s (i + 1)) := by show expE s i = _; simp [expE, E.out, sgn, hsg, hd]
        go_enter Try.func72, Try.ntmps72
        go_wp2_with fail
        refine (peek_c s b (i) _ (i) _ (W.out.1) ⟨by omega, by omega, by omega⟩).mono ?_
        rintro e wq ⟨rfl, nq, rfl⟩
        go_wp2_with fail
        refine (peek_c s b (i) _ (i + 1) _ (W.out.1.drewN _) ⟨by omega, by omega, by omega⟩).mono ?_
        rintro e wq ⟨rfl, nq, rfl⟩
        go_wp2_with fail
        refine (isSign_c _ _).mono ?_
        rintro e wq ⟨rfl, rfl⟩
        go_wp2_with fail
        refine (peek_c s b (i) _ (i + 1) _ (W.out.1.drewN _) ⟨by omega, by omega, by omega⟩).mono ?_
        rintro e wq ⟨rfl, nq, rfl⟩
        go_wp2_with fail
        refine (isDigit_c _ _).mono ?_
        rintro e wq ⟨rfl, rfl⟩
        go_wp2_with fail
        refine (passDigits_c s b (i + 1) _ ((W.out.1.drewN _).setv _ (i + 1) (by omega) (by omega))).mono ?_
        rintro e w1 ⟨rfl, hwent⟩
        have W1 : Hid (Went b s (dig s (i + 1)) w w1) := ((W.out.drewN _).setv _ (i + 1) (by omega) (by omega)).trans hwent
        clear hwent
        go_wp2_with fail
        go_end0
        refine ⟨rfl, ?_⟩
        rw [HV.out]
        exact W1.out
    · cases hd : digI (pk s (i + 2))
      · have HV : Hid (expE s i = i) := by show expE s i = i; simp [expE, E.out, sgn, hsg, hd]
        go_enter Try.func72, Try.ntmps72
        go_wp2_with fail
        refine (peek_c s b (i) _ (i) _ (W.out.1) ⟨by omega, by omega, by omega⟩).mono ?_
        rintro e wq ⟨rfl, nq, rfl⟩
        go_wp2_with fail
        refine (peek_c s b (i) _ (i + 1) _ (W.out.1.drewN _) ⟨by omega, by omega, by omega⟩).mono ?_
        rintro e wq ⟨rfl, nq, rfl⟩
        go_wp2_with fail
        refine (isSign_c _ _).mono ?_
        rintro e wq ⟨rfl, rfl⟩
        go_wp2_with fail
        refine (peek_c s b (i) _ (i + 2) _ (W.out.1.drewN _) ⟨by omega, by omega, by omega⟩).mono ?_
        rintro e wq ⟨rfl, nq, rfl⟩
        go_wp2_with fail
        refine (isDigit_c _ _).mono ?_
        rintro e wq ⟨rfl, rfl⟩
        go_wp2_with fail
        go_end0
        refine ⟨rfl, ?_⟩
        rw [HV.out]
        exact W.out.drewN _
      · have hlt : i + 2 < s.size := pk_lt (by have := dig_nn hd; omega)
        have HV : Hid (expE s i = dig s (i + 2)) := by show expE s i = _; simp [expE, E.out, sgn, hsg, hd]
        go_enter Try.func72, Try.ntmps72
        go_wp2_with fail
        refine (peek_c s b (i) _ (i) _ (W.out.1) ⟨by omega, by omega, by omega⟩).mono ?_
        rintro e wq ⟨rfl, nq, rfl⟩
        go_wp2_with fail
        refine (peek_c s b (i) _ (i + 1) _ (W.out.1.drewN _) ⟨by omega, by omega, by omega⟩).mono ?_
        rintro e wq ⟨rfl, nq, rfl⟩
        go_wp2_with fail
        refine (isSign_c _ _).mono ?_
        rintro e wq ⟨rfl, rfl⟩
        go_wp2_with fail
        refine (peek_c s b (i) _ (i + 2) _ (W.out.1.drewN _) ⟨by omega, by omega, by omega⟩).mono ?_
        rintro e wq ⟨rfl, nq, rfl⟩
        go_wp2_with fail
        refine (isDigit_c _ _).mono ?_
        rintro e wq ⟨rfl, rfl⟩
        go_wp2_with fail
        refine (passDigits_c s b (i + 2) _ ((W.out.1.drewN _).setv _ (i + 2) (by omega) (by omega))).mono ?_
        rintro e w1 ⟨rfl, hwent⟩
        have W1 : Hid (Went b s (dig s (i + 2)) w w1) := ((W.out.drewN _).setv _ (i + 2) (by omega) (by omega)).trans hwent
        clear hwent
        go_wp2_with fail
        go_end0
        refine ⟨rfl, ?_⟩
        rw [HV.out]
        exact W1.out
  · have E : Hid (pk s i = 69) := by show pk s i = 69; simpa using h2
    cases hsg : signI (pk s (i + 1))
    · cases hd : digI (pk s (i + 1))
      · have HV : Hid (expE s i = i) := by show expE s i = i; simp [expE, E.out, sgn, hsg, hd]
        go_enter Try.func72, Try.ntmps72
        go_wp2_with fail
        refine (peek_c s b (i) _ (i) _ (W.out.1) ⟨by omega, by omega, by omega⟩).mono ?_
        rintro e wq ⟨rfl, nq, rfl⟩
        go_wp2_with fail
        refine (peek_c s b (i) _ (i) _ (W.out.1.drewN _) ⟨by omega, by omega, by omega⟩).mono ?_
        rintro e wq ⟨rfl, nq, rfl⟩
        go_wp2_with fail
        refine (peek_c s b (i) _ (i + 1) _ (W.out.1.drewN _) ⟨by omega, by omega, by omega⟩).mono ?_
        rintro e wq ⟨rfl, nq, rfl⟩
        go_wp2_with fail
        refine (isSign_c _ _).mono ?_
        rintro e wq ⟨rfl, rfl⟩
        go_wp2_with fail
        refine (peek_c s b (i) _ (i + 1) _ (W.out.1.drewN _) ⟨by omega, by omega, by omega⟩).mono ?_
        rintro e wq ⟨rfl, nq, rfl⟩
        go_wp2_with fail
        refine (isDigit_c _ _).mono ?_
        rintro e wq ⟨rfl, rfl⟩
        go_wp2_with fail
        go_end0
        refine ⟨rfl, ?_⟩
        rw [HV.out]
        exact W.out.drewN _
      · have hlt : i + 1 < s.size := pk_lt (by have := dig_nn hd; omega)
        have HV : Hid (expE s i = dig s (i + 1)) := by show expE s i = _; simp [expE, E.out, sgn, hsg, hd]
        go_enter Try.func72, Try.ntmps72
        go_wp2_with fail
        refine (peek_c s b (i) _ (i) _ (W.out.1) ⟨by omega, by omega, by omega⟩).mono ?_
        rintro e wq ⟨rfl, nq, rfl⟩
        go_wp2_with fail
        refine (peek_c s b (i) _ (i) _ (W.out.1.drewN _) ⟨by omega, by omega, by omega⟩).mono ?_
        rintro e wq ⟨rfl, nq, rfl⟩
        go_wp2_with fail
        refine (peek_c s b (i) _ (i + 1) _ (W.out.1.drewN _) ⟨by omega, by omega, by omega⟩).mono ?_
        rintro e wq ⟨rfl, nq, rfl⟩
        go_wp2_with fail
        refine (isSign_c _ _).mono ?_
        rintro e wq ⟨rfl, rfl⟩
        go_wp2_with fail
        refine (peek_c s b (i) _ (i + 1) _ (W.out.1.drewN _) ⟨by omega, by omega, by omega⟩).mono ?_
        rintro e wq ⟨rfl, nq, rfl⟩
        go_wp2_with fail
        refine (isDigit_c _ _).mono ?_
        rintro e wq ⟨rfl, rfl⟩
        go_wp2_with fail
        refine (passDigits_c s b (i + 1) _ ((W.out.1.drewN _).setv _ (i + 1) (by omega) (by omega))).mono ?_
        rintro e w1 ⟨rfl, hwent⟩
        have W1 : Hid (Went b s (dig s (i + 1)) w w1) := ((W.out.drewN _).setv _ (i + 1) (by omega) (by omega)).trans hwent
        clear hwent
        go_wp2_with fail
        go_end0
        refine ⟨rfl, ?_⟩
        rw [HV.out]
        exact W1.out
    · cases hd : digI (pk s (i + 2))
      · have HV : Hid (expE s i = i) := by show expE s i = i; simp [expE, E.out, sgn, hsg, hd]
        go_enter Try.func72, Try.ntmps72
        go_wp2_with fail
        refine (peek_c s b (i) _ (i) _ (W.out.1) ⟨by omega, by omega, by omega⟩).mono ?_
        rintro e wq ⟨rfl, nq, rfl⟩
        go_wp2_with fail
        refine (peek_c s b (i) _ (i) _ (W.out.1.drewN _) ⟨by omega, by omega, by omega⟩).mono ?_
        rintro e wq ⟨rfl, nq, rfl⟩
        go_wp2_with fail
        refine (peek_c s b (i) _ (i + 1) _ (W.out.1.drewN _) ⟨by omega, by omega, by omega⟩).mono ?_
        rintro e wq ⟨rfl, nq, rfl⟩
        go_wp2_with fail
        refine (isSign_c _ _).mono ?_
        rintro e wq ⟨rfl, rfl⟩
        go_wp2_with fail
        refine (peek_c s b (i) _ (i + 2) _ (W.out.1.drewN _) ⟨by omega, by omega, by omega⟩).mono ?_
        rintro e wq ⟨rfl, nq, rfl⟩
        go_wp2_with fail
        refine (isDigit_c _ _).mono ?_
        rintro e wq ⟨rfl, rfl⟩
        go_wp2_with fail
        go_end0
        refine ⟨rfl, ?_⟩
        rw [HV.out]
        exact W.out.drewN _
      · have hlt : i + 2 < s.size := pk_lt (by have := dig_nn hd; omega)
        have HV : Hid (expE s i = dig s (i + 2)) := by show expE s i = _; simp [expE, E.out, sgn, hsg, hd]
        go_enter Try.func72, Try.ntmps72
        go_wp2_with fail
        refine (peek_c s b (i) _ (i) _ (W.out.1) ⟨by omega, by omega, by omega⟩).mono ?_
        rintro e wq ⟨rfl, nq, rfl⟩
        go_wp2_with fail
        refine (peek_c s b (i) _ (i) _ (W.out.1.drewN _) ⟨by omega, by omega, by omega⟩).mono ?_
        rintro e wq ⟨rfl, nq, rfl⟩
        go_wp2_with fail
        refine (peek_c s b (i) _ (i + 1) _ (W.out.1.drewN _) ⟨by omega, by omega, by omega⟩).mono ?_
        rintro e wq ⟨rfl, nq, rfl⟩
        go_wp2_with fail
        refine (isSign_c _ _).mono ?_
        rintro e wq ⟨rfl, rfl⟩
        go_wp2_with fail
        refine (peek_c s b (i) _ (i + 2) _ (W.out.1.drewN _) ⟨by omega, by omega, by omega⟩).mono ?_
        rintro e wq ⟨rfl, nq, rfl⟩
        go_wp2_with fail
        refine (isDigit_c _ _).mono ?_
        rintro e wq ⟨rfl, rfl⟩
        go_wp2_with fail
        refine (passDigits_c s b (i + 2) _ ((W.out.1.drewN _).setv _ (i + 2) (by omega) (by omega))).mono ?_
        rintro e w1 ⟨rfl, hwent⟩
        have W1 : Hid (Went b s (dig s (i + 2)) w w1) := ((W.out.drewN _).setv _ (i + 2) (by omega) (by omega)).trans hwent
        clear hwent
        go_wp2_with fail
        go_end0
        refine ⟨rfl, ?_⟩
        rw [HV.out]
        exact W1.out
  · have HV : Hid (expE s i = i) := by
      show expE s i = i
      have g1 : pk s i ≠ 101 := by simpa using h1
      have g2 : pk s i ≠ 69 := by simpa using h2
      simp [expE, g1, g2]
    go_enter Try.func72, Try.ntmps72
    go_wp2_with fail
    refine (peek_c s b (i) _ (i) _ (W.out.1) ⟨by omega, by omega, by omega⟩).mono ?_
    rintro e wq ⟨rfl, nq, rfl⟩
    go_wp2_with fail
    refine (peek_c s b (i) _ (i) _ (W.out.1.drewN _) ⟨by omega, by omega, by omega⟩).mono ?_
    rintro e wq ⟨rfl, nq, rfl⟩
    go_wp2_with fail
    refine bodyPost_ret (results_none rfl _ _ _) rfl ?_
    refine ⟨rfl, ?_⟩
    rw [HV.out]
    exact W.out.drewN _
end Go.Proofs.Ytlliliddljkbfaa
