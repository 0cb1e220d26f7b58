import Derived.Test.YtlliliddljkbfaaGreatC7
namespace Go.Proofs.YtlliliddljkbfaaGreat
set_option maxHeartbeats 64000000
set_option maxRecDepth 100000
open Go.RowKit Sp
theorem passDigits_c (s : ByteArray) (b i : Nat) (w : World) (h : Sc w b s i) :
    Calls Tryz.prog 289 #[.pointer (some ⟨b, 0, none⟩)] w fun e w' => e = .returned (.tuple #[]) ∧ Went b s (Sp.dig s i) w w' := by
  have HS : Hid (Sc w b s i) := h
  clear h
  go_enter Tryz.func289, Tryz.ntmps289
  go_wp2_with fail
  refine wp_scope_fwd (fun Q' hF => ?_)
  go_wp2_with fail
  go_loopg [] s.size (fun g wr => ∃ k : Nat, s.size ≤ k + g ∧ Aside (digF s g k = Sp.dig s i ∧ Went b s k w wr))
  case atStart => exact ⟨i, by omega, rfl, Went.refl HS.out⟩
  case round =>
    obtain ⟨k, hk, hA⟩ := hrel
    have H1 : Hid (digF s gk k = Sp.dig s i) := hA.out.1
    have H2 : Hid (Went b s k w wr) := hA.out.2
    clear hA
    have h0 := H2.out.1.c0
    have h1 := H2.out.1.c1
    have hf := H2.out.1.f1
    have hl := H2.out.1.lt
    have hs := H2.out.1.len
    cases hbl : digI (pk s k)
    · have HV : Hid (Sp.dig s i = k) := by
        show Sp.dig s i = k
        rw [← H1.out]
        cases gk with
        | zero => rfl
        | succ f => unfold digF; rw [if_neg (by simp [hbl])]
      go_wp2_with fail
      refine (peek_c s b k _ k _ H2.out.1 ⟨by omega, by omega, by omega⟩).mono ?_
      rintro e w1 ⟨rfl, n1, rfl⟩
      go_wp2_with fail
      refine (isDigit_c _ _).mono ?_
      rintro e w1 ⟨rfl, rfl⟩
      go_wp2_with fail
      go_step3
      refine hF.go 0 _ _ _ rfl ?_
      go_wp2
      simp only [Exit.noGoto]
      go_end0
      refine ⟨rfl, ?_⟩
      rw [HV.out]
      exact H2.out.drewN _
    · have hlt : k < s.size := pk_lt (by have := dig_nn hbl; omega)
      obtain ⟨f, rfl⟩ : ∃ f, gk = f + 1 := ⟨gk - 1, by omega⟩
      have HV : Hid (digF s f (k + 1) = Sp.dig s i) := by
        have := H1.out
        unfold digF at this
        rw [if_pos hbl] at this
        exact this
      go_wp2_with fail
      refine (peek_c s b k _ k _ H2.out.1 ⟨by omega, by omega, by omega⟩).mono ?_
      rintro e w1 ⟨rfl, n1, rfl⟩
      go_wp2_with fail
      refine (isDigit_c _ _).mono ?_
      rintro e w1 ⟨rfl, rfl⟩
      go_wp2_with fail
      go_roundg f
      case measure => omega
      case rel =>
        rw [ofNat1]
        exact ⟨k + 1, by omega, HV.out, (H2.out.drewN _).set (k + 1) (by omega)⟩
theorem passExponent_c (s : ByteArray) (b i : Nat) (w : World) (h : Sc w b s i) :
    Calls Tryz.prog 290 #[.pointer (some ⟨b, 0, none⟩)] w fun e w' => e = .returned (.tuple #[]) ∧ Went b s (expE s i) w w' := by
  have W : Hid (Went b s i w w) := Went.refl h
  clear h
  have c00 := W.out.1.c0
  have c10 := W.out.1.c1
  have cf0 := W.out.1.f1
  have cl0 := W.out.1.lt
  have cs0 := W.out.1.len
  have ce0 := W.out.1.le
  cases h1 : (pk s i != 101) <;> cases h2 : (pk s i != 69)
  · exfalso
    simp at h1 h2; omega
  · have E : Hid (pk s i = 101) := by show pk s i = 101; simpa using h1
    cases hsg : signI (pk s (i + 1))
    · cases hd : digI (pk s (i + 1))
      · have HV : Hid (expE s i = i) := by show expE s i = i; simp [expE, E.out, sgn, hsg, hd]
        go_enter Tryz.func290, Tryz.ntmps290
        go_wp2_with fail
        refine (peek_c s b (i) _ (i) _ (W.out.1) ⟨by omega, by omega, by omega⟩).mono ?_
        rintro e wq ⟨rfl, nq, rfl⟩
        go_wp2_with fail
        refine (peek_c s b (i) _ (i + 1) _ (W.out.1.drewN _) ⟨by omega, by omega, by omega⟩).mono ?_
        rintro e wq ⟨rfl, nq, rfl⟩
        go_wp2_with fail
        refine (isSign_c _ _).mono ?_
        rintro e wq ⟨rfl, rfl⟩
        go_wp2_with fail
        refine (peek_c s b (i) _ (i + 1) _ (W.out.1.drewN _) ⟨by omega, by omega, by omega⟩).mono ?_
        rintro e wq ⟨rfl, nq, rfl⟩
        go_wp2_with fail
        refine (isDigit_c _ _).mono ?_
        rintro e wq ⟨rfl, rfl⟩
        go_wp2_with fail
        go_end0
        refine ⟨rfl, ?_⟩
        rw [HV.out]
        exact W.out.drewN _
      · have hlt : i + 1 < s.size := pk_lt (by have := dig_nn hd; omega)
        have HV : Hid (expE s i = dig s (i + 1)) := by show expE s i = _; simp [expE, E.out, sgn, hsg, hd]
        go_enter Tryz.func290, Tryz.ntmps290
        go_wp2_with fail
        refine (peek_c s b (i) _ (i) _ (W.out.1) ⟨by omega, by omega, by omega⟩).mono ?_
        rintro e wq ⟨rfl, nq, rfl⟩
        go_wp2_with fail
        refine (peek_c s b (i) _ (i + 1) _ (W.out.1.drewN _) ⟨by omega, by omega, by omega⟩).mono ?_
        rintro e wq ⟨rfl, nq, rfl⟩
        go_wp2_with fail
        refine (isSign_c _ _).mono ?_
        rintro e wq ⟨rfl, rfl⟩
        go_wp2_with fail
        refine (peek_c s b (i) _ (i + 1) _ (W.out.1.drewN _) ⟨by omega, by omega, by omega⟩).mono ?_
        rintro e wq ⟨rfl, nq, rfl⟩
        go_wp2_with fail
        refine (isDigit_c _ _).mono ?_
        rintro e wq ⟨rfl, rfl⟩
        go_wp2_with fail
        refine (passDigits_c s b (i + 1) _ ((W.out.1.drewN _).setv _ (i + 1) (by omega) (by omega))).mono ?_
        rintro e w1 ⟨rfl, hwent⟩
        have W1 : Hid (Went b s (dig s (i + 1)) w w1) := ((W.out.drewN _).setv _ (i + 1) (by omega) (by omega)).trans hwent
        clear hwent
        go_wp2_with fail
        go_end0
        refine ⟨rfl, ?_⟩
        rw [HV.out]
        exact W1.out
    · cases hd : digI (pk s (i + 2))
      · have HV : Hid (expE s i = i) := by show expE s i = i; simp [expE, E.out, sgn, hsg, hd]
        go_enter Tryz.func290, Tryz.ntmps290
        go_wp2_with fail
        refine (peek_c s b (i) _ (i) _ (W.out.1) ⟨by omega, by omega, by omega⟩).mono ?_
        rintro e wq ⟨rfl, nq, rfl⟩
        go_wp2_with fail
        refine (peek_c s b (i) _ (i + 1) _ (W.out.1.drewN _) ⟨by omega, by omega, by omega⟩).mono ?_
        rintro e wq ⟨rfl, nq, rfl⟩
        go_wp2_with fail
        refine (isSign_c _ _).mono ?_
        rintro e wq ⟨rfl, rfl⟩
        go_wp2_with fail
        refine (peek_c s b (i) _ (i + 2) _ (W.out.1.drewN _) ⟨by omega, by omega, by omega⟩).mono ?_
        rintro e wq ⟨rfl, nq, rfl⟩
        go_wp2_with fail
        refine (isDigit_c _ _).mono ?_
        rintro e wq ⟨rfl, rfl⟩
        go_wp2_with fail
        go_end0
        refine ⟨rfl, ?_⟩
        rw [HV.out]
        exact W.out.drewN _
      · have hlt : i + 2 < s.size := pk_lt (by have := dig_nn hd; omega)
        have HV : Hid (expE s i = dig s (i + 2)) := by show expE s i = _; simp [expE, E.out, sgn, hsg, hd]
        go_enter Tryz.func290, Tryz.ntmps290
        go_wp2_with fail
        refine (peek_c s b (i) _ (i) _ (W.out.1) ⟨by omega, by omega, by omega⟩).mono ?_
        rintro e wq ⟨rfl, nq, rfl⟩
        go_wp2_with fail
        refine (peek_c s b (i) _ (i + 1) _ (W.out.1.drewN _) ⟨by omega, by omega, by omega⟩).mono ?_
        rintro e wq ⟨rfl, nq, rfl⟩
        go_wp2_with fail
        refine (isSign_c _ _).mono ?_
        rintro e wq ⟨rfl, rfl⟩
        go_wp2_with fail
        refine (peek_c s b (i) _ (i + 2) _ (W.out.1.drewN _) ⟨by omega, by omega, by omega⟩).mono ?_
        rintro e wq ⟨rfl, nq, rfl⟩
        go_wp2_with fail
        refine (isDigit_c _ _).mono ?_
        rintro e wq ⟨rfl, rfl⟩
        go_wp2_with fail
        refine (passDigits_c s b (i + 2) _ ((W.out.1.drewN _).setv _ (i + 2) (by omega) (by omega))).mono ?_
        rintro e w1 ⟨rfl, hwent⟩
        have W1 : Hid (Went b s (dig s (i + 2)) w w1) := ((W.out.drewN _).setv _ (i + 2) (by omega) (by omega)).trans hwent
        clear hwent
        go_wp2_with fail
        go_end0
        refine ⟨rfl, ?_⟩
        rw [HV.out]
        exact W1.out
  · have E : Hid (pk s i = 69) := by show pk s i = 69; simpa using h2
    cases hsg : signI (pk s (i + 1))
    · cases hd : digI (pk s (i + 1))
      · have HV : Hid (expE s i = i) := by show expE s i = i; simp [expE, E.out, sgn, hsg, hd]
        go_enter Tryz.func290, Tryz.ntmps290
        go_wp2_with fail
        refine (peek_c s b (i) _ (i) _ (W.out.1) ⟨by omega, by omega, by omega⟩).mono ?_
        rintro e wq ⟨rfl, nq, rfl⟩
        go_wp2_with fail
        refine (peek_c s b (i) _ (i) _ (W.out.1.drewN _) ⟨by omega, by omega, by omega⟩).mono ?_
        rintro e wq ⟨rfl, nq, rfl⟩
        go_wp2_with fail
        refine (peek_c s b (i) _ (i + 1) _ (W.out.1.drewN _) ⟨by omega, by omega, by omega⟩).mono ?_
        rintro e wq ⟨rfl, nq, rfl⟩
        go_wp2_with fail
        refine (isSign_c _ _).mono ?_
        rintro e wq ⟨rfl, rfl⟩
        go_wp2_with fail
        refine (peek_c s b (i) _ (i + 1) _ (W.out.1.drewN _) ⟨by omega, by omega, by omega⟩).mono ?_
        rintro e wq ⟨rfl, nq, rfl⟩
        go_wp2_with fail
        refine (isDigit_c _ _).mono ?_
        rintro e wq ⟨rfl, rfl⟩
        go_wp2_with fail
        go_end0
        refine ⟨rfl, ?_⟩
        rw [HV.out]
        exact W.out.drewN _
      · have hlt : i + 1 < s.size := pk_lt (by have := dig_nn hd; omega)
        have HV : Hid (expE s i = dig s (i + 1)) := by show expE s i = _; simp [expE, E.out, sgn, hsg, hd]
        go_enter Tryz.func290, Tryz.ntmps290
        go_wp2_with fail
        refine (peek_c s b (i) _ (i) _ (W.out.1) ⟨by omega, by omega, by omega⟩).mono ?_
        rintro e wq ⟨rfl, nq, rfl⟩
        go_wp2_with fail
        refine (peek_c s b (i) _ (i) _ (W.out.1.drewN _) ⟨by omega, by omega, by omega⟩).mono ?_
        rintro e wq ⟨rfl, nq, rfl⟩
        go_wp2_with fail
        refine (peek_c s b (i) _ (i + 1) _ (W.out.1.drewN _) ⟨by omega, by omega, by omega⟩).mono ?_
        rintro e wq ⟨rfl, nq, rfl⟩
        go_wp2_with fail
        refine (isSign_c _ _).mono ?_
        rintro e wq ⟨rfl, rfl⟩
        go_wp2_with fail
        refine (peek_c s b (i) _ (i + 1) _ (W.out.1.drewN _) ⟨by omega, by omega, by omega⟩).mono ?_
        rintro e wq ⟨rfl, nq, rfl⟩
        go_wp2_with fail
        refine (isDigit_c _ _).mono ?_
        rintro e wq ⟨rfl, rfl⟩
        go_wp2_with fail
        refine (passDigits_c s b (i + 1) _ ((W.out.1.drewN _).setv _ (i + 1) (by omega) (by omega))).mono ?_
        rintro e w1 ⟨rfl, hwent⟩
        have W1 : Hid (Went b s (dig s (i + 1)) w w1) := ((W.out.drewN _).setv _ (i + 1) (by omega) (by omega)).trans hwent
        clear hwent
        go_wp2_with fail
        go_end0
        refine ⟨rfl, ?_⟩
        rw [HV.out]
        exact W1.out
    · cases hd : digI (pk s (i + 2))
      · have HV : Hid (expE s i = i) := by show expE s i = i; simp [expE, E.out, sgn, hsg, hd]
        go_enter Tryz.func290, Tryz.ntmps290
        go_wp2_with fail
        refine (peek_c s b (i) _ (i) _ (W.out.1) ⟨by omega, by omega, by omega⟩).mono ?_
        rintro e wq ⟨rfl, nq, rfl⟩
        go_wp2_with fail
        refine (peek_c s b (i) _ (i) _ (W.out.1.drewN _) ⟨by omega, by omega, by omega⟩).mono ?_
        rintro e wq ⟨rfl, nq, rfl⟩
        go_wp2_with fail
        refine (peek_c s b (i) _ (i + 1) _ (W.out.1.drewN _) ⟨by omega, by omega, by omega⟩).mono ?_
        rintro e wq ⟨rfl, nq, rfl⟩
        go_wp2_with fail
        refine (isSign_c _ _).mono ?_
        rintro e wq ⟨rfl, rfl⟩
        go_wp2_with fail
        refine (peek_c s b (i) _ (i + 2) _ (W.out.1.drewN _) ⟨by omega, by omega, by omega⟩).mono ?_
        rintro e wq ⟨rfl, nq, rfl⟩
        go_wp2_with fail
        refine (isDigit_c _ _).mono ?_
        rintro e wq ⟨rfl, rfl⟩
        go_wp2_with fail
        go_end0
        refine ⟨rfl, ?_⟩
        rw [HV.out]
        exact W.out.drewN _
      · have hlt : i + 2 < s.size := pk_lt (by have := dig_nn hd; omega)
        have HV : Hid (expE s i = dig s (i + 2)) := by show expE s i = _; simp [expE, E.out, sgn, hsg, hd]
        go_enter Tryz.func290, Tryz.ntmps290
        go_wp2_with fail
        refine (peek_c s b (i) _ (i) _ (W.out.1) ⟨by omega, by omega, by omega⟩).mono ?_
        rintro e wq ⟨rfl, nq, rfl⟩
        go_wp2_with fail
        refine (peek_c s b (i) _ (i) _ (W.out.1.drewN _) ⟨by omega, by omega, by omega⟩).mono ?_
        rintro e wq ⟨rfl, nq, rfl⟩
        go_wp2_with fail
        refine (peek_c s b (i) _ (i + 1) _ (W.out.1.drewN _) ⟨by omega, by omega, by omega⟩).mono ?_
        rintro e wq ⟨rfl, nq, rfl⟩
        go_wp2_with fail
        refine (isSign_c _ _).mono ?_
        rintro e wq ⟨rfl, rfl⟩
        go_wp2_with fail
        refine (peek_c s b (i) _ (i + 2) _ (W.out.1.drewN _) ⟨by omega, by omega, by omega⟩).mono ?_
        rintro e wq ⟨rfl, nq, rfl⟩
        go_wp2_with fail
        refine (isDigit_c _ _).mono ?_
        rintro e wq ⟨rfl, rfl⟩
        go_wp2_with fail
        refine (passDigits_c s b (i + 2) _ ((W.out.1.drewN _).setv _ (i + 2) (by omega) (by omega))).mono ?_
        rintro e w1 ⟨rfl, hwent⟩
        have W1 : Hid (Went b s (dig s (i + 2)) w w1) := ((W.out.drewN _).setv _ (i + 2) (by omega) (by omega)).trans hwent
        clear hwent
        go_wp2_with fail
        go_end0
        refine ⟨rfl, ?_⟩
        rw [HV.out]
        exact W1.out
  · have HV : Hid (expE s i = i) := by
      show expE s i = i
      have g1 : pk s i ≠ 101 := by simpa using h1
      have g2 : pk s i ≠ 69 := by simpa using h2
      simp [expE, g1, g2]
    go_enter Tryz.func290, Tryz.ntmps290
    go_wp2_with fail
    refine (peek_c s b (i) _ (i) _ (W.out.1) ⟨by omega, by omega, by omega⟩).mono ?_
    rintro e wq ⟨rfl, nq, rfl⟩
    go_wp2_with fail
    refine (peek_c s b (i) _ (i) _ (W.out.1.drewN _) ⟨by omega, by omega, by omega⟩).mono ?_
    rintro e wq ⟨rfl, nq, rfl⟩
    go_wp2_with fail
    refine bodyPost_ret (results_none rfl _ _ _) rfl ?_
    refine ⟨rfl, ?_⟩
    rw [HV.out]
    exact W.out.drewN _
theorem number_c (s : ByteArray) (b i : Nat) (w : World) (h : Sc w b s i) :
    Calls Tryz.prog 242 #[.pointer (some ⟨b, 0, none⟩)] w fun e w' => e = .returned (.string (s.extract i (numE s i))) ∧ Went b s (numE s i) w w' := by
  have W : Hid (Went b s i w w) := Went.refl h
  clear h
  have c00 := W.out.1.c0
  have c10 := W.out.1.c1
  have cf0 := W.out.1.f1
  have cl0 := W.out.1.lt
  have cs0 := W.out.1.len
  have ce0 := W.out.1.le
  have hge := numE_ge s i
  have hle := numE_le W.out.1.le
  cases hsg : signI (pk s i)
  · have hk : Hid (sgn s i = i) := by show sgn s i = i; simp [sgn, hsg]
    have hd0 := dig_le (s := s) (i := i) (by omega)
    generalize hkk : dig s (i) = k at hd0
    have HK : Hid (dig s (i) = k) := hkk
    clear hkk
    cases e46 : (pk s k == 46)
    · have HV : Hid (numE s i = expE s k) := by show numE s i = _; simp only [numE, fracE, hk.out, HK.out]; rw [if_neg (fun h => by simp [h.1] at e46)]
      go_enter Tryz.func242, Tryz.ntmps242
      go_wp2_with fail
      refine (peek_c s b (i) _ (i) _ (W.out.1) ⟨by omega, by omega, by omega⟩).mono ?_
      rintro e wq ⟨rfl, nq, rfl⟩
      go_wp2_with fail
      refine (isSign_c _ _).mono ?_
      rintro e wq ⟨rfl, rfl⟩
      go_wp2_with fail
      refine (passDigits_c s b i _ (W.out.1.drewN _)).mono ?_
      rintro e w1 ⟨rfl, hwent⟩
      have W1' : Hid (Went b s (dig s i) w w1) := (W.out.drewN _).trans hwent
      clear hwent
      have W1 : Hid (Went b s k w w1) := by have := W1'.out; rw [HK.out] at this; exact this
      clear W1'
      have c01 := W1.out.1.c0
      have c11 := W1.out.1.c1
      have cf1 := W1.out.1.f1
      have cl1 := W1.out.1.lt
      have cs1 := W1.out.1.len
      have ce1 := W1.out.1.le
      go_wp2_with fail
      refine (peek_c s b (k) _ (k) _ (W1.out.1) ⟨by omega, by omega, by omega⟩).mono ?_
      rintro e wq ⟨rfl, nq, rfl⟩
      go_wp2_with fail
      refine (passExponent_c s b k _ (W1.out.1.drewN _)).mono ?_
      rintro e w3 ⟨rfl, hwent⟩
      have W3' : Hid (Went b s (expE s k) w w3) := (W1.out.drewN _).trans hwent
      clear hwent
      have W3 : Hid (Went b s (numE s i) w w3) := by have := W3'.out; rw [← HV.out] at this; exact this
      clear W3'
      have c03 := W3.out.1.c0
      have c13 := W3.out.1.c1
      have cf3 := W3.out.1.f1
      have cl3 := W3.out.1.lt
      have cs3 := W3.out.1.len
      have ce3 := W3.out.1.le
      go_wp2_with fail
      go_quiet (fail)
      go_wp2_with fail
      go_ret
      exact ⟨rfl, W3.out.drewN _⟩
    · cases edg : digI (pk s (k + 1))
      · have HV : Hid (numE s i = expE s k) := by show numE s i = _; simp only [numE, fracE, hk.out, HK.out]; rw [if_neg (fun h => by simp [h.2] at edg)]
        go_enter Tryz.func242, Tryz.ntmps242
        go_wp2_with fail
        refine (peek_c s b (i) _ (i) _ (W.out.1) ⟨by omega, by omega, by omega⟩).mono ?_
        rintro e wq ⟨rfl, nq, rfl⟩
        go_wp2_with fail
        refine (isSign_c _ _).mono ?_
        rintro e wq ⟨rfl, rfl⟩
        go_wp2_with fail
        refine (passDigits_c s b i _ (W.out.1.drewN _)).mono ?_
        rintro e w1 ⟨rfl, hwent⟩
        have W1' : Hid (Went b s (dig s i) w w1) := (W.out.drewN _).trans hwent
        clear hwent
        have W1 : Hid (Went b s k w w1) := by have := W1'.out; rw [HK.out] at this; exact this
        clear W1'
        have c01 := W1.out.1.c0
        have c11 := W1.out.1.c1
        have cf1 := W1.out.1.f1
        have cl1 := W1.out.1.lt
        have cs1 := W1.out.1.len
        have ce1 := W1.out.1.le
        go_wp2_with fail
        refine (peek_c s b (k) _ (k) _ (W1.out.1) ⟨by omega, by omega, by omega⟩).mono ?_
        rintro e wq ⟨rfl, nq, rfl⟩
        go_wp2_with fail
        refine (peek_c s b (k) _ (k + 1) _ (W1.out.1.drewN _) ⟨by omega, by omega, by omega⟩).mono ?_
        rintro e wq ⟨rfl, nq, rfl⟩
        go_wp2_with fail
        refine (isDigit_c _ _).mono ?_
        rintro e wq ⟨rfl, rfl⟩
        go_wp2_with fail
        refine (passExponent_c s b k _ (W1.out.1.drewN _)).mono ?_
        rintro e w3 ⟨rfl, hwent⟩
        have W3' : Hid (Went b s (expE s k) w w3) := (W1.out.drewN _).trans hwent
        clear hwent
        have W3 : Hid (Went b s (numE s i) w w3) := by have := W3'.out; rw [← HV.out] at this; exact this
        clear W3'
        have c03 := W3.out.1.c0
        have c13 := W3.out.1.c1
        have cf3 := W3.out.1.f1
        have cl3 := W3.out.1.lt
        have cs3 := W3.out.1.len
        have ce3 := W3.out.1.le
        go_wp2_with fail
        go_quiet (fail)
        go_wp2_with fail
        go_ret
        exact ⟨rfl, W3.out.drewN _⟩
      · have hlt : k + 1 < s.size := pk_lt (by have := dig_nn edg; omega)
        have HV : Hid (numE s i = expE s (dig s (k + 1))) := by show numE s i = _; simp only [numE, fracE, hk.out, HK.out]; rw [if_pos ⟨by simpa using e46, edg⟩]
        go_enter Tryz.func242, Tryz.ntmps242
        go_wp2_with fail
        refine (peek_c s b (i) _ (i) _ (W.out.1) ⟨by omega, by omega, by omega⟩).mono ?_
        rintro e wq ⟨rfl, nq, rfl⟩
        go_wp2_with fail
        refine (isSign_c _ _).mono ?_
        rintro e wq ⟨rfl, rfl⟩
        go_wp2_with fail
        refine (passDigits_c s b i _ (W.out.1.drewN _)).mono ?_
        rintro e w1 ⟨rfl, hwent⟩
        have W1' : Hid (Went b s (dig s i) w w1) := (W.out.drewN _).trans hwent
        clear hwent
        have W1 : Hid (Went b s k w w1) := by have := W1'.out; rw [HK.out] at this; exact this
        clear W1'
        have c01 := W1.out.1.c0
        have c11 := W1.out.1.c1
        have cf1 := W1.out.1.f1
        have cl1 := W1.out.1.lt
        have cs1 := W1.out.1.len
        have ce1 := W1.out.1.le
        go_wp2_with fail
        refine (peek_c s b (k) _ (k) _ (W1.out.1) ⟨by omega, by omega, by omega⟩).mono ?_
        rintro e wq ⟨rfl, nq, rfl⟩
        go_wp2_with fail
        refine (peek_c s b (k) _ (k + 1) _ (W1.out.1.drewN _) ⟨by omega, by omega, by omega⟩).mono ?_
        rintro e wq ⟨rfl, nq, rfl⟩
        go_wp2_with fail
        refine (isDigit_c _ _).mono ?_
        rintro e wq ⟨rfl, rfl⟩
        go_wp2_with fail
        refine (passDigits_c s b (k + 1) _ ((W1.out.1.drewN _).setv _ (k + 1) (by omega) (by omega))).mono ?_
        rintro e w2 ⟨rfl, hwent⟩
        have W2 : Hid (Went b s (dig s (k + 1)) w w2) := ((W1.out.drewN _).setv _ (k + 1) (by omega) (by omega)).trans hwent
        clear hwent
        go_wp2_with fail
        refine (passExponent_c s b (dig s (k + 1)) _ W2.out.1).mono ?_
        rintro e w3 ⟨rfl, hwent⟩
        have W3' : Hid (Went b s (expE s (dig s (k + 1))) w w3) := W2.out.trans hwent
        clear hwent
        have W3 : Hid (Went b s (numE s i) w w3) := by have := W3'.out; rw [← HV.out] at this; exact this
        clear W3'
        have c03 := W3.out.1.c0
        have c13 := W3.out.1.c1
        have cf3 := W3.out.1.f1
        have cl3 := W3.out.1.lt
        have cs3 := W3.out.1.len
        have ce3 := W3.out.1.le
        go_wp2_with fail
        go_quiet (fail)
        go_wp2_with fail
        go_ret
        exact ⟨rfl, W3.out.drewN _⟩
  · have hk : Hid (sgn s i = i + 1) := by show sgn s i = i + 1; simp [sgn, hsg]
    have hlt0 : i < s.size := pk_lt (sign_nn hsg)
    have hd0 := dig_le (s := s) (i := i + 1) (by omega)
    generalize hkk : dig s (i + 1) = k at hd0
    have HK : Hid (dig s (i + 1) = k) := hkk
    clear hkk
    cases e46 : (pk s k == 46)
    · have HV : Hid (numE s i = expE s k) := by show numE s i = _; simp only [numE, fracE, hk.out, HK.out]; rw [if_neg (fun h => by simp [h.1] at e46)]
      go_enter Tryz.func242, Tryz.ntmps242
      go_wp2_with fail
      refine (peek_c s b (i) _ (i) _ (W.out.1) ⟨by omega, by omega, by omega⟩).mono ?_
      rintro e wq ⟨rfl, nq, rfl⟩
      go_wp2_with fail
      refine (isSign_c _ _).mono ?_
      rintro e wq ⟨rfl, rfl⟩
      go_wp2_with fail
      refine (passDigits_c s b (i + 1) _ ((W.out.1.drewN _).setv _ (i + 1) (by omega) (by omega))).mono ?_
      rintro e w1 ⟨rfl, hwent⟩
      have W1' : Hid (Went b s (dig s (i + 1)) w w1) := ((W.out.drewN _).setv _ (i + 1) (by omega) (by omega)).trans hwent
      clear hwent
      have W1 : Hid (Went b s k w w1) := by have := W1'.out; rw [HK.out] at this; exact this
      clear W1'
      have c01 := W1.out.1.c0
      have c11 := W1.out.1.c1
      have cf1 := W1.out.1.f1
      have cl1 := W1.out.1.lt
      have cs1 := W1.out.1.len
      have ce1 := W1.out.1.le
      go_wp2_with fail
      refine (peek_c s b (k) _ (k) _ (W1.out.1) ⟨by omega, by omega, by omega⟩).mono ?_
      rintro e wq ⟨rfl, nq, rfl⟩
      go_wp2_with fail
      refine (passExponent_c s b k _ (W1.out.1.drewN _)).mono ?_
      rintro e w3 ⟨rfl, hwent⟩
      have W3' : Hid (Went b s (expE s k) w w3) := (W1.out.drewN _).trans hwent
      clear hwent
      have W3 : Hid (Went b s (numE s i) w w3) := by have := W3'.out; rw [← HV.out] at this; exact this
      clear W3'
      have c03 := W3.out.1.c0
      have c13 := W3.out.1.c1
      have cf3 := W3.out.1.f1
      have cl3 := W3.out.1.lt
      have cs3 := W3.out.1.len
      have ce3 := W3.out.1.le
      go_wp2_with fail
      go_quiet (fail)
      go_wp2_with fail
      go_ret
      exact ⟨rfl, W3.out.drewN _⟩
    · cases edg : digI (pk s (k + 1))
      · have HV : Hid (numE s i = expE s k) := by show numE s i = _; simp only [numE, fracE, hk.out, HK.out]; rw [if_neg (fun h => by simp [h.2] at edg)]
        go_enter Tryz.func242, Tryz.ntmps242
        go_wp2_with fail
        refine (peek_c s b (i) _ (i) _ (W.out.1) ⟨by omega, by omega, by omega⟩).mono ?_
        rintro e wq ⟨rfl, nq, rfl⟩
        go_wp2_with fail
        refine (isSign_c _ _).mono ?_
        rintro e wq ⟨rfl, rfl⟩
        go_wp2_with fail
        refine (passDigits_c s b (i + 1) _ ((W.out.1.drewN _).setv _ (i + 1) (by omega) (by omega))).mono ?_
        rintro e w1 ⟨rfl, hwent⟩
        have W1' : Hid (Went b s (dig s (i + 1)) w w1) := ((W.out.drewN _).setv _ (i + 1) (by omega) (by omega)).trans hwent
        clear hwent
        have W1 : Hid (Went b s k w w1) := by have := W1'.out; rw [HK.out] at this; exact this
        clear W1'
        have c01 := W1.out.1.c0
        have c11 := W1.out.1.c1
        have cf1 := W1.out.1.f1
        have cl1 := W1.out.1.lt
        have cs1 := W1.out.1.len
        have ce1 := W1.out.1.le
        go_wp2_with fail
        refine (peek_c s b (k) _ (k) _ (W1.out.1) ⟨by omega, by omega, by omega⟩).mono ?_
        rintro e wq ⟨rfl, nq, rfl⟩
        go_wp2_with fail
        refine (peek_c s b (k) _ (k + 1) _ (W1.out.1.drewN _) ⟨by omega, by omega, by omega⟩).mono ?_
        rintro e wq ⟨rfl, nq, rfl⟩
        go_wp2_with fail
        refine (isDigit_c _ _).mono ?_
        rintro e wq ⟨rfl, rfl⟩
        go_wp2_with fail
        refine (passExponent_c s b k _ (W1.out.1.drewN _)).mono ?_
        rintro e w3 ⟨rfl, hwent⟩
        have W3' : Hid (Went b s (expE s k) w w3) := (W1.out.drewN _).trans hwent
        clear hwent
        have W3 : Hid (Went b s (numE s i) w w3) := by have := W3'.out; rw [← HV.out] at this; exact this
        clear W3'
        have c03 := W3.out.1.c0
        have c13 := W3.out.1.c1
        have cf3 := W3.out.1.f1
        have cl3 := W3.out.1.lt
        have cs3 := W3.out.1.len
        have ce3 := W3.out.1.le
        go_wp2_with fail
        go_quiet (fail)
        go_wp2_with fail
        go_ret
        exact ⟨rfl, W3.out.drewN _⟩
      · have hlt : k + 1 < s.size := pk_lt (by have := dig_nn edg; omega)
        have HV : Hid (numE s i = expE s (dig s (k + 1))) := by show numE s i = _; simp only [numE, fracE, hk.out, HK.out]; rw [if_pos ⟨by simpa using e46, edg⟩]
        go_enter Tryz.func242, Tryz.ntmps242
        go_wp2_with fail
        refine (peek_c s b (i) _ (i) _ (W.out.1) ⟨by omega, by omega, by omega⟩).mono ?_
        rintro e wq ⟨rfl, nq, rfl⟩
        go_wp2_with fail
        refine (isSign_c _ _).mono ?_
        rintro e wq ⟨rfl, rfl⟩
        go_wp2_with fail
        refine (passDigits_c s b (i + 1) _ ((W.out.1.drewN _).setv _ (i + 1) (by omega) (by omega))).mono ?_
        rintro e w1 ⟨rfl, hwent⟩
        have W1' : Hid (Went b s (dig s (i + 1)) w w1) := ((W.out.drewN _).setv _ (i + 1) (by omega) (by omega)).trans hwent
        clear hwent
        have W1 : Hid (Went b s k w w1) := by have := W1'.out; rw [HK.out] at this; exact this
        clear W1'
        have c01 := W1.out.1.c0
        have c11 := W1.out.1.c1
        have cf1 := W1.out.1.f1
        have cl1 := W1.out.1.lt
        have cs1 := W1.out.1.len
        have ce1 := W1.out.1.le
        go_wp2_with fail
        refine (peek_c s b (k) _ (k) _ (W1.out.1) ⟨by omega, by omega, by omega⟩).mono ?_
        rintro e wq ⟨rfl, nq, rfl⟩
        go_wp2_with fail
        refine (peek_c s b (k) _ (k + 1) _ (W1.out.1.drewN _) ⟨by omega, by omega, by omega⟩).mono ?_
        rintro e wq ⟨rfl, nq, rfl⟩
        go_wp2_with fail
        refine (isDigit_c _ _).mono ?_
        rintro e wq ⟨rfl, rfl⟩
        go_wp2_with fail
        refine (passDigits_c s b (k + 1) _ ((W1.out.1.drewN _).setv _ (k + 1) (by omega) (by omega))).mono ?_
        rintro e w2 ⟨rfl, hwent⟩
        have W2 : Hid (Went b s (dig s (k + 1)) w w2) := ((W1.out.drewN _).setv _ (k + 1) (by omega) (by omega)).trans hwent
        clear hwent
        go_wp2_with fail
        refine (passExponent_c s b (dig s (k + 1)) _ W2.out.1).mono ?_
        rintro e w3 ⟨rfl, hwent⟩
        have W3' : Hid (Went b s (expE s (dig s (k + 1))) w w3) := W2.out.trans hwent
        clear hwent
        have W3 : Hid (Went b s (numE s i) w w3) := by have := W3'.out; rw [← HV.out] at this; exact this
        clear W3'
        have c03 := W3.out.1.c0
        have c13 := W3.out.1.c1
        have cf3 := W3.out.1.f1
        have cl3 := W3.out.1.lt
        have cs3 := W3.out.1.len
        have ce3 := W3.out.1.le
        go_wp2_with fail
        go_quiet (fail)
        go_wp2_with fail
        go_ret
        exact ⟨rfl, W3.out.drewN _⟩
end Go.Proofs.YtlliliddljkbfaaGreat
