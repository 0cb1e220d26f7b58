/-
  The reference reads an escape.
-/
import Derived.Test.YtlliliddljkbfaaRef1
import Derived.Test.YtlliliddljkbfaaEsc
namespace Go.Proofs.Ytlliliddljkbfaa
open Go.RowKit Sp
set_option maxRecDepth 100000

theorem rsi {a b : ByteArray} {x y : Int} (h1 : a = b) (h2 : x = y) : Ending.returned (.tuple #[.string a, .int .i64 x]) = .returned (.tuple #[.string b, .int .i64 y]) := by rw [h1, h2]
theorem slice1 (s : ByteArray) (k : Nat) (h : k < s.size) (w : World) : (Instr.slice 9 (.string s) (some (.int .i64 (k : Int))) (some (.int .i64 ((k : Int) + 1))) none).run Try.prog w = .ok (.string (one s k)) w := by
  rw [run_slice_string_if w 9 s .i64 .i64 _ _ Try.underlying9, if_pos ⟨by omega, by omega⟩, if_pos ⟨by omega, by omega⟩]
  congr 3

set_option maxHeartbeats 400000 in
theorem escape_end_r (s : ByteArray) (k : Nat) (w : World) (hs : s.size ≤ 600) (hk : s.size = k + 1) :
    Calls Try.prog 61 #[.string s, .int .i64 (k : Int)] w fun e w' => e = .returned (.tuple #[.string ques, .int .i64 ((k + 1 : Nat) : Int)]) ∧ Below w.heap.size w w' := by
  have h1 : (s.size : Int) ≤ (k : Int) + 1 := by omega
  have h2 : (k : Int) + 1 ≤ 600 := by omega
  clear hk
  go_enter Try.func61, Try.ntmps61
  go_wp2_with fail
  go_ret2
  exact ⟨rsi rfl (by omega), Below.refl _ _⟩

set_option maxHeartbeats 2000000 in
theorem escape_r (s : ByteArray) (i : Int) (k : Nat) (w : World) (hi : i = k) (hs : s.size ≤ 600) (hk : k < s.size) :
    Calls Try.prog 61 #[.string s, .int .i64 i] w fun e w' => e = .returned (.tuple #[.string (esc s k).1, .int .i64 ((esc s k).2 : Int)]) ∧ Below w.heap.size w w' := by
  subst hi
  by_cases hend : s.size = k + 1
  · have e : esc s k = (ques, k + 1) := by
      have hx : hexF s 6 (k + 1) 0 = (0, k + 1) := by
        unfold hexF
        rw [pk_out (by omega), if_neg (by decide)]
      unfold esc; dsimp only; rw [hx, if_pos rfl, if_neg (by omega)]
    rw [e]
    exact escape_end_r s k w hs hend
  · have hk1 : k + 1 < s.size := by omega
    have h1 : (k : Int) + 1 < (s.size : Int) := by omega
    clear hend
    go_enter Try.func61, Try.ntmps61
    go_wp2_with fail
    go_loopg [6, 7] 6 (fun g n6 n7 wr => ∃ d n : Nat, d + g = 6 ∧ n < 16 ^ d ∧ k + 1 + d ≤ s.size ∧ n6 = .int .i64 (n : Int) ∧ n7 = .int .i64 (d : Int) ∧ Aside (hexF s g (k + 1 + d) n = hexF s 6 (k + 1) 0 ∧ w = wr))
    case atStart => exact ⟨0, 0, by omega, by decide, by omega, rfl, rfl, rfl, rfl⟩
    case round =>
      obtain ⟨d, n, hd, hn, hds, rfl, rfl, hA⟩ := hrel
      have H1 : Hid (hexF s gk (k + 1 + d) n = hexF s 6 (k + 1) 0) := hA.out.1
      obtain rfl := hA.out.2
      clear hA
      obtain ⟨j, HJ⟩ : ∃ j, Hid (j = k + 1 + d) := ⟨_, rfl⟩
      have hj1 : k + 1 + d ≤ j := by have := HJ.out; omega
      have hj2 : j ≤ k + 1 + d := by have := HJ.out; omega
      have hnb : n < 16777216 := by
        have h1 : 16 ^ d ≤ 16 ^ 6 := Nat.pow_le_pow_right (by omega) (by omega)
        have h2 : (16 : Nat) ^ 6 = 16777216 := by decide
        omega
      have HP : Hid (n < 16 ^ d) := hn
      clear hn
      have hxl := hex_lo (a0 s j)
      have hxh := hex_hi (a0 s j)
      have hal := a0_lo s j
      have hah := a0_hi s j
      by_cases h6 : d < 6
      · have h6' : (d : Int) < 6 := by omega
        obtain ⟨f, rfl⟩ : ∃ f, gk = f + 1 := ⟨gk - 1, by omega⟩
        by_cases hx : 0 ≤ hexI (a0 s j)
        · have hx2 : 0 ≤ hexI (pk s j) := by rw [a0_hex] at hx; exact hx
          have hlt : j < s.size := pk_lt (hex_nn hx2)
          have HE : Hid (hexI (a0 s j) = hexI (pk s j)) := a0_hex s j
          have hix : ∀ w : World, (Instr.index 9 (.string s) (.int .i64 ((k : Int) + 1 + (d : Int)))).run Try.prog w = .ok (.int .u8 (pk s j)) w := fun w => by
            rw [show ((k : Int) + 1 + (d : Int)) = ((j : Nat) : Int) from by omega]; exact index_pk s j hlt w
          have hpl := pk_nn hlt
          have hph := pk_hi s j
          have hx3 := hex_hi (pk s j)
          have HV : Hid (hexF s f (k + 1 + (d + 1)) (n * 16 + (hexI (pk s j)).toNat) = hexF s 6 (k + 1) 0) := by
            show _ = _
            rw [← H1.out]
            conv => rhs; unfold hexF
            have e := HJ.out
            rw [← e, if_pos hx2, e]
            rfl
          have HN : Hid (n * 16 + (hexI (pk s j)).toNat < 16 ^ (d + 1)) := by
            show _ < _
            rw [Nat.pow_succ]
            have := HP.out
            omega
          go_wp2_with fail
          refine (at_r s _ (j) _ (by omega) (by omega)).mono ?_
          rintro e wq ⟨rfl, rfl⟩
          go_wp2_with fail
          refine (hex_r _ _ (by omega) (by omega)).mono ?_
          rintro e wq ⟨rfl, rfl⟩
          go_wp2_with fail
          refine (hex_r _ _ (by omega) (by omega)).mono ?_
          rintro e wq ⟨rfl, rfl⟩
          go_wp2_with fail
          go_roundg f
          case measure => omega
          case rel => exact ⟨d + 1, n * 16 + (hexI (pk s j)).toNat, by omega, HN.out, by omega, by congr 1; omega, by congr 1, HV.out, rfl⟩
        · have hx' : hexI (a0 s j) < 0 := by omega
          have HR : Hid (hexF s 6 (k + 1) 0 = (n, j)) := by
            show _ = _
            rw [a0_hex] at hx
            rw [← H1.out, ← HJ.out]
            unfold hexF
            rw [if_neg hx]
          by_cases hd0 : d = 0
          · have hd0' : ((d : Int) == 0) = true := by simp [hd0]
            have HD : Hid (d = 0) := hd0
            clear hd0
            have hde : d ≤ 0 := by have := HD.out; omega
            have hsl := slice1 s (k + 1) hk1
            have hsl' : ∀ w : World, (Instr.slice 9 (.string s) (some (.int .i64 ((k : Int) + 1))) (some (.int .i64 ((k : Int) + 1 + 1))) none).run Try.prog w = .ok (.string (one s (k + 1))) w := hsl
            clear hsl
            have HV : Hid (esc s k = (one s (k + 1), k + 2)) := by
              show esc s k = _
              unfold esc; dsimp only; rw [HR.out, if_pos (by show j = k + 1; omega), if_pos hk1]
            go_wp2_with fail
            refine (at_r s _ (j) _ (by omega) (by omega)).mono ?_
            rintro e wq ⟨rfl, rfl⟩
            go_wp2_with fail
            refine (hex_r _ _ (by omega) (by omega)).mono ?_
            rintro e wq ⟨rfl, rfl⟩
            go_wp2_with fail
            go_ret2
            rw [HV.out]
            exact ⟨rsi rfl (by omega), Below.refl _ _⟩
          · have hd0' : ((d : Int) == 0) = false := by simp [hd0]
            have hdp : 0 < d := by omega
            clear hd0
            cases hbl : blankI (a0 s j)
            · by_cases hn1 : n < 1
              · have HV : Hid (esc s k = (ques, j)) := by
                  show esc s k = _
                  unfold esc; dsimp only; rw [HR.out]; dsimp only; rw [if_neg (by omega), if_neg (by omega), if_neg (by rw [← a0_blank, hbl]; simp)]
                go_wp2_with fail
                refine (at_r s _ (j) _ (by omega) (by omega)).mono ?_
                rintro e wq ⟨rfl, rfl⟩
                go_wp2_with fail
                refine (hex_r _ _ (by omega) (by omega)).mono ?_
                rintro e wq ⟨rfl, rfl⟩
                go_wp2_with fail
                refine (at_r s _ (j) _ (by omega) (by omega)).mono ?_
                rintro e wq ⟨rfl, rfl⟩
                go_wp2_with fail
                refine (isBlank_r _ _).mono ?_
                rintro e wq ⟨rfl, rfl⟩
                go_wp2_with fail
                go_ret2
                rw [HV.out]
                exact ⟨rsi rfl (by omega), Below.refl _ _⟩
              · by_cases hn2 : 255 < n
                · have HV : Hid (esc s k = (ques, j)) := by
                    show esc s k = _
                    unfold esc; dsimp only; rw [HR.out]; dsimp only; rw [if_neg (by omega), if_neg (by omega), if_neg (by rw [← a0_blank, hbl]; simp)]
                  go_wp2_with fail
                  refine (at_r s _ (j) _ (by omega) (by omega)).mono ?_
                  rintro e wq ⟨rfl, rfl⟩
                  go_wp2_with fail
                  refine (hex_r _ _ (by omega) (by omega)).mono ?_
                  rintro e wq ⟨rfl, rfl⟩
                  go_wp2_with fail
                  refine (at_r s _ (j) _ (by omega) (by omega)).mono ?_
                  rintro e wq ⟨rfl, rfl⟩
                  go_wp2_with fail
                  refine (isBlank_r _ _).mono ?_
                  rintro e wq ⟨rfl, rfl⟩
                  go_wp2_with fail
                  go_ret2
                  rw [HV.out]
                  exact ⟨rsi rfl (by omega), Below.refl _ _⟩
                · have hcv := fun (w : World) => conv1 n w.heap.size (by omega) w rfl
                  have HV : Hid (esc s k = (byte1 n, j)) := by
                    show esc s k = _
                    unfold esc; dsimp only; rw [HR.out]; dsimp only; rw [if_neg (by omega), if_pos ⟨by omega, by omega⟩, if_neg (by rw [← a0_blank, hbl]; simp)]
                  go_wp2_with fail
                  refine (at_r s _ (j) _ (by omega) (by omega)).mono ?_
                  rintro e wq ⟨rfl, rfl⟩
                  go_wp2_with fail
                  refine (hex_r _ _ (by omega) (by omega)).mono ?_
                  rintro e wq ⟨rfl, rfl⟩
                  go_wp2_with fail
                  refine (at_r s _ (j) _ (by omega) (by omega)).mono ?_
                  rintro e wq ⟨rfl, rfl⟩
                  go_wp2_with fail
                  refine (isBlank_r _ _).mono ?_
                  rintro e wq ⟨rfl, rfl⟩
                  go_wp2_with fail
                  go_ret2
                  rw [HV.out]
                  exact ⟨rsi rfl (by omega), (Below.refl _ _).alloc (Nat.le_refl _) _⟩
            · by_cases hn1 : n < 1
              · have HV : Hid (esc s k = (ques, j + 1)) := by
                  show esc s k = _
                  unfold esc; dsimp only; rw [HR.out]; dsimp only; rw [if_neg (by omega), if_neg (by omega), if_pos (by rw [← a0_blank]; exact hbl)]
                go_wp2_with fail
                refine (at_r s _ (j) _ (by omega) (by omega)).mono ?_
                rintro e wq ⟨rfl, rfl⟩
                go_wp2_with fail
                refine (hex_r _ _ (by omega) (by omega)).mono ?_
                rintro e wq ⟨rfl, rfl⟩
                go_wp2_with fail
                refine (at_r s _ (j) _ (by omega) (by omega)).mono ?_
                rintro e wq ⟨rfl, rfl⟩
                go_wp2_with fail
                refine (isBlank_r _ _).mono ?_
                rintro e wq ⟨rfl, rfl⟩
                go_wp2_with fail
                go_ret2
                rw [HV.out]
                exact ⟨rsi rfl (by omega), Below.refl _ _⟩
              · by_cases hn2 : 255 < n
                · have HV : Hid (esc s k = (ques, j + 1)) := by
                    show esc s k = _
                    unfold esc; dsimp only; rw [HR.out]; dsimp only; rw [if_neg (by omega), if_neg (by omega), if_pos (by rw [← a0_blank]; exact hbl)]
                  go_wp2_with fail
                  refine (at_r s _ (j) _ (by omega) (by omega)).mono ?_
                  rintro e wq ⟨rfl, rfl⟩
                  go_wp2_with fail
                  refine (hex_r _ _ (by omega) (by omega)).mono ?_
                  rintro e wq ⟨rfl, rfl⟩
                  go_wp2_with fail
                  refine (at_r s _ (j) _ (by omega) (by omega)).mono ?_
                  rintro e wq ⟨rfl, rfl⟩
                  go_wp2_with fail
                  refine (isBlank_r _ _).mono ?_
                  rintro e wq ⟨rfl, rfl⟩
                  go_wp2_with fail
                  go_ret2
                  rw [HV.out]
                  exact ⟨rsi rfl (by omega), Below.refl _ _⟩
                · have hcv := fun (w : World) => conv1 n w.heap.size (by omega) w rfl
                  have HV : Hid (esc s k = (byte1 n, j + 1)) := by
                    show esc s k = _
                    unfold esc; dsimp only; rw [HR.out]; dsimp only; rw [if_neg (by omega), if_pos ⟨by omega, by omega⟩, if_pos (by rw [← a0_blank]; exact hbl)]
                  go_wp2_with fail
                  refine (at_r s _ (j) _ (by omega) (by omega)).mono ?_
                  rintro e wq ⟨rfl, rfl⟩
                  go_wp2_with fail
                  refine (hex_r _ _ (by omega) (by omega)).mono ?_
                  rintro e wq ⟨rfl, rfl⟩
                  go_wp2_with fail
                  refine (at_r s _ (j) _ (by omega) (by omega)).mono ?_
                  rintro e wq ⟨rfl, rfl⟩
                  go_wp2_with fail
                  refine (isBlank_r _ _).mono ?_
                  rintro e wq ⟨rfl, rfl⟩
                  go_wp2_with fail
                  go_ret2
                  rw [HV.out]
                  exact ⟨rsi rfl (by omega), (Below.refl _ _).alloc (Nat.le_refl _) _⟩
      · have h6' : (6 : Int) ≤ (d : Int) := by omega
        have hd0' : ((d : Int) == 0) = false := by simp; omega
        have hdp : 0 < d := by omega
        have HR : Hid (hexF s 6 (k + 1) 0 = (n, j)) := by
          show _ = _
          obtain rfl : gk = 0 := by omega
          rw [← H1.out, ← HJ.out]
          rfl
        cases hbl : blankI (a0 s j)
        · by_cases hn1 : n < 1
          · have HV : Hid (esc s k = (ques, j)) := by
              show esc s k = _
              unfold esc; dsimp only; rw [HR.out]; dsimp only; rw [if_neg (by omega), if_neg (by omega), if_neg (by rw [← a0_blank, hbl]; simp)]
            go_wp2_with fail
            refine (at_r s _ (j) _ (by omega) (by omega)).mono ?_
            rintro e wq ⟨rfl, rfl⟩
            go_wp2_with fail
            refine (isBlank_r _ _).mono ?_
            rintro e wq ⟨rfl, rfl⟩
            go_wp2_with fail
            go_ret2
            rw [HV.out]
            exact ⟨rsi rfl (by omega), Below.refl _ _⟩
          · by_cases hn2 : 255 < n
            · have HV : Hid (esc s k = (ques, j)) := by
                show esc s k = _
                unfold esc; dsimp only; rw [HR.out]; dsimp only; rw [if_neg (by omega), if_neg (by omega), if_neg (by rw [← a0_blank, hbl]; simp)]
              go_wp2_with fail
              refine (at_r s _ (j) _ (by omega) (by omega)).mono ?_
              rintro e wq ⟨rfl, rfl⟩
              go_wp2_with fail
              refine (isBlank_r _ _).mono ?_
              rintro e wq ⟨rfl, rfl⟩
              go_wp2_with fail
              go_ret2
              rw [HV.out]
              exact ⟨rsi rfl (by omega), Below.refl _ _⟩
            · have hcv := fun (w : World) => conv1 n w.heap.size (by omega) w rfl
              have HV : Hid (esc s k = (byte1 n, j)) := by
                show esc s k = _
                unfold esc; dsimp only; rw [HR.out]; dsimp only; rw [if_neg (by omega), if_pos ⟨by omega, by omega⟩, if_neg (by rw [← a0_blank, hbl]; simp)]
              go_wp2_with fail
              refine (at_r s _ (j) _ (by omega) (by omega)).mono ?_
              rintro e wq ⟨rfl, rfl⟩
              go_wp2_with fail
              refine (isBlank_r _ _).mono ?_
              rintro e wq ⟨rfl, rfl⟩
              go_wp2_with fail
              go_ret2
              rw [HV.out]
              exact ⟨rsi rfl (by omega), (Below.refl _ _).alloc (Nat.le_refl _) _⟩
        · by_cases hn1 : n < 1
          · have HV : Hid (esc s k = (ques, j + 1)) := by
              show esc s k = _
              unfold esc; dsimp only; rw [HR.out]; dsimp only; rw [if_neg (by omega), if_neg (by omega), if_pos (by rw [← a0_blank]; exact hbl)]
            go_wp2_with fail
            refine (at_r s _ (j) _ (by omega) (by omega)).mono ?_
            rintro e wq ⟨rfl, rfl⟩
            go_wp2_with fail
            refine (isBlank_r _ _).mono ?_
            rintro e wq ⟨rfl, rfl⟩
            go_wp2_with fail
            go_ret2
            rw [HV.out]
            exact ⟨rsi rfl (by omega), Below.refl _ _⟩
          · by_cases hn2 : 255 < n
            · have HV : Hid (esc s k = (ques, j + 1)) := by
                show esc s k = _
                unfold esc; dsimp only; rw [HR.out]; dsimp only; rw [if_neg (by omega), if_neg (by omega), if_pos (by rw [← a0_blank]; exact hbl)]
              go_wp2_with fail
              refine (at_r s _ (j) _ (by omega) (by omega)).mono ?_
              rintro e wq ⟨rfl, rfl⟩
              go_wp2_with fail
              refine (isBlank_r _ _).mono ?_
              rintro e wq ⟨rfl, rfl⟩
              go_wp2_with fail
              go_ret2
              rw [HV.out]
              exact ⟨rsi rfl (by omega), Below.refl _ _⟩
            · have hcv := fun (w : World) => conv1 n w.heap.size (by omega) w rfl
              have HV : Hid (esc s k = (byte1 n, j + 1)) := by
                show esc s k = _
                unfold esc; dsimp only; rw [HR.out]; dsimp only; rw [if_neg (by omega), if_pos ⟨by omega, by omega⟩, if_pos (by rw [← a0_blank]; exact hbl)]
              go_wp2_with fail
              refine (at_r s _ (j) _ (by omega) (by omega)).mono ?_
              rintro e wq ⟨rfl, rfl⟩
              go_wp2_with fail
              refine (isBlank_r _ _).mono ?_
              rintro e wq ⟨rfl, rfl⟩
              go_wp2_with fail
              go_ret2
              rw [HV.out]
              exact ⟨rsi rfl (by omega), (Below.refl _ _).alloc (Nat.le_refl _) _⟩
end Go.Proofs.Ytlliliddljkbfaa
