/-
  The reference's functions that look at a place.
-/
import Derived.Test.YtlliliddljkbfaaBase
import Derived.Test.YtlliliddljkbfaaPreLaws
namespace Go.Proofs.Ytlliliddljkbfaa
open Go.RowKit Sp
set_option maxRecDepth 100000

/-- The byte at a place as the reference tells it; 0: there is none. -/
def a0 (s : ByteArray) (k : Nat) : Int := if k < s.size then pk s k else 0
theorem a0_in {s : ByteArray} {k : Nat} (h : k < s.size) : a0 s k = pk s k := by unfold a0; rw [if_pos h]
theorem a0_out {s : ByteArray} {k : Nat} (h : s.size ≤ k) : a0 s k = 0 := by unfold a0; rw [if_neg (by omega)]
theorem a0_lo (s : ByteArray) (k : Nat) : 0 ≤ a0 s k := by unfold a0; split; (exact pk_nn ‹_›); omega
theorem a0_hi (s : ByteArray) (k : Nat) : a0 s k ≤ 255 := by unfold a0; split; (exact pk_hi s k); omega
theorem a0_fun {α : Type} (f : Int → α) (hf : f 0 = f (-1)) (s : ByteArray) (k : Nat) : f (a0 s k) = f (pk s k) := by
  by_cases h : k < s.size
  · rw [a0_in h]
  · rw [a0_out (by omega), pk_out (by omega), hf]
theorem a0_dig (s : ByteArray) (k : Nat) : digI (a0 s k) = digI (pk s k) := a0_fun digI rfl s k
theorem a0_lett (s : ByteArray) (k : Nat) : lettI (a0 s k) = lettI (pk s k) := a0_fun lettI rfl s k
theorem a0_name (s : ByteArray) (k : Nat) : nameI (a0 s k) = nameI (pk s k) := a0_fun nameI rfl s k
theorem a0_blank (s : ByteArray) (k : Nat) : blankI (a0 s k) = blankI (pk s k) := a0_fun blankI rfl s k
theorem a0_quote (s : ByteArray) (k : Nat) : quoteI (a0 s k) = quoteI (pk s k) := a0_fun quoteI rfl s k
theorem a0_hex (s : ByteArray) (k : Nat) : hexI (a0 s k) = hexI (pk s k) := a0_fun hexI rfl s k
theorem a0_beq (s : ByteArray) (k : Nat) (n : Int) (hn : 0 < n) : (a0 s k == n) = (pk s k == n) :=
  a0_fun (fun c => c == n) (by show ((0 : Int) == n) = ((-1 : Int) == n); rw [Bool.eq_iff_iff]; simp; omega) s k
theorem a0_bne (s : ByteArray) (k : Nat) (n : Int) (hn : 0 < n) : (a0 s k != n) = (pk s k != n) := by
  unfold bne; rw [a0_beq s k n hn]

set_option maxHeartbeats 400000 in
theorem at_r (s : ByteArray) (i : Int) (k : Nat) (w : World) (hi : i = k) (_hs : s.size ≤ 600) :
    Calls Try.prog 36 #[.string s, .int .i64 i] w fun e w' => e = .returned (.int .u8 (a0 s k)) ∧ w' = w := by
  subst hi
  by_cases h : k < s.size
  · have hix := index_pk s k h
    have h1 : (k : Int) < (s.size : Int) := by omega
    go_enter Try.func36, Try.ntmps36
    go_wp2_with fail
    go_ret
    exact ⟨rint (a0_in h).symm, rfl⟩
  · have h1 : (s.size : Int) ≤ (k : Int) := by omega
    go_enter Try.func36, Try.ntmps36
    go_wp2_with fail
    go_ret
    exact ⟨rint (a0_out (by omega)).symm, rfl⟩

set_option maxHeartbeats 400000 in
theorem escapes_r (s : ByteArray) (i : Int) (k : Nat) (w : World) (hi : i = k) (hs : s.size ≤ 600) (hk : k ≤ 1000) :
    Calls Try.prog 37 #[.string s, .int .i64 i] w fun e w' => e = .returned (.bool (escB s k)) ∧ w' = w := by
  subst hi
  cases h92 : (pk s k == 92)
  · have e1 : (a0 s k == 92) = false := by rw [a0_beq s k 92 (by omega)]; exact h92
    have HV : Hid (escB s k = false) := by show escB s k = false; simp [escB, h92]
    go_enter Try.func37, Try.ntmps37
    go_wp2_with fail
    refine (at_r s _ (k) _ (by omega) (by omega)).mono ?_
    rintro e wq ⟨rfl, rfl⟩
    go_wp2_with fail
    go_ret
    exact ⟨rbool HV.out.symm, rfl⟩
  · have e1 : (a0 s k == 92) = true := by rw [a0_beq s k 92 (by omega)]; exact h92
    have HV : Hid (escB s k = (a0 s (k + 1) != 10)) := by show escB s k = _; rw [a0_bne s (k + 1) 10 (by omega)]; simp [escB, h92]
    go_enter Try.func37, Try.ntmps37
    go_wp2_with fail
    refine (at_r s _ (k) _ (by omega) (by omega)).mono ?_
    rintro e wq ⟨rfl, rfl⟩
    go_wp2_with fail
    refine (at_r s _ (k + 1) _ (by omega) (by omega)).mono ?_
    rintro e wq ⟨rfl, rfl⟩
    go_wp2_with fail
    go_ret
    exact ⟨rbool HV.out.symm, rfl⟩

set_option maxHeartbeats 1000000 in
theorem begins_r (s : ByteArray) (i : Int) (k : Nat) (w : World) (hi : i = k) (hs : s.size ≤ 600) (hk : k ≤ 900) :
    Calls Try.prog 34 #[.string s, .int .i64 i] w fun e w' => e = .returned (.bool (begB s k)) ∧ w' = w := by
  subst hi
  cases h45 : (pk s k == 45)
  · have e1 : (a0 s k == 45) = false := by rw [a0_beq s k 45 (by omega)]; exact h45
    have n45 : ¬ pk s k = 45 := by simpa using h45
    have HV : Hid (begB s k = (lettI (a0 s k) || escB s k)) := by show begB s k = _; rw [a0_lett]; simp [begB, n45]
    clear n45
    cases hl : lettI (a0 s k)
    all_goals
      go_enter Try.func34, Try.ntmps34
      go_wp2_with fail
      refine (at_r s _ (k) _ (by omega) (by omega)).mono ?_
      rintro e wq ⟨rfl, rfl⟩
      go_wp2_with fail
      refine (escapes_r s _ k _ (by omega) (by omega) (by omega)).mono ?_
      rintro e wq ⟨rfl, rfl⟩
      go_wp2_with fail
      refine (isLetter_r _ _).mono ?_
      rintro e wq ⟨rfl, rfl⟩
      go_wp2_with fail
      go_ret
      exact ⟨rbool (by rw [HV.out, hl]; simp), rfl⟩
  · have e1 : (a0 s k == 45) = true := by rw [a0_beq s k 45 (by omega)]; exact h45
    have n45 : pk s k = 45 := by simpa using h45
    have HV : Hid (begB s k = (lettI (a0 s (k + 1)) || a0 s (k + 1) == 45 || escB s (k + 1))) := by show begB s k = _; rw [a0_lett, a0_beq s (k + 1) 45 (by omega)]; simp [begB, n45]
    clear n45
    cases hl : lettI (a0 s (k + 1)) <;> cases hd : (a0 s (k + 1) == 45)
    all_goals
      go_enter Try.func34, Try.ntmps34
      go_wp2_with fail
      refine (at_r s _ (k) _ (by omega) (by omega)).mono ?_
      rintro e wq ⟨rfl, rfl⟩
      go_wp2_with fail
      refine (escapes_r s _ k _ (by omega) (by omega) (by omega)).mono ?_
      rintro e wq ⟨rfl, rfl⟩
      go_wp2_with fail
      refine (isLetter_r _ _).mono ?_
      rintro e wq ⟨rfl, rfl⟩
      go_wp2_with fail
      refine (at_r s _ (k + 1) _ (by omega) (by omega)).mono ?_
      rintro e wq ⟨rfl, rfl⟩
      go_wp2_with fail
      refine (isLetter_r _ _).mono ?_
      rintro e wq ⟨rfl, rfl⟩
      go_wp2_with fail
      refine (escapes_r s _ (k + 1) _ (by omega) (by omega) (by omega)).mono ?_
      rintro e wq ⟨rfl, rfl⟩
      go_wp2_with fail
      go_ret
      exact ⟨rbool (by rw [HV.out, hl, hd]; simp), rfl⟩

set_option maxHeartbeats 400000 in
theorem signed_r (s : ByteArray) (i : Int) (k : Nat) (w : World) (hi : i = k) (hs : s.size ≤ 600) (hk : k ≤ 1000) :
    Calls Try.prog 57 #[.string s, .int .i64 i] w fun e w' => e = .returned (.int .i64 (sgn s k)) ∧ w' = w := by
  subst hi
  cases h43 : (pk s k == 43)
  · have e1 : (a0 s k == 43) = false := by rw [a0_beq s k 43 (by omega)]; exact h43
    cases h45 : (pk s k == 45)
    · have e2 : (a0 s k == 45) = false := by rw [a0_beq s k 45 (by omega)]; exact h45
      have HV : Hid (sgn s k = k) := by show sgn s k = k; simp [sgn, signI, h43, h45]
      go_enter Try.func57, Try.ntmps57
      go_wp2_with fail
      refine (at_r s _ (k) _ (by omega) (by omega)).mono ?_
      rintro e wq ⟨rfl, rfl⟩
      go_wp2_with fail
      refine (at_r s _ (k) _ (by omega) (by omega)).mono ?_
      rintro e wq ⟨rfl, rfl⟩
      go_wp2_with fail
      go_ret
      exact ⟨rint (by rw [HV.out]), rfl⟩
    · have e2 : (a0 s k == 45) = true := by rw [a0_beq s k 45 (by omega)]; exact h45
      have HV : Hid (sgn s k = k + 1) := by show sgn s k = _; simp [sgn, signI, h45]
      go_enter Try.func57, Try.ntmps57
      go_wp2_with fail
      refine (at_r s _ (k) _ (by omega) (by omega)).mono ?_
      rintro e wq ⟨rfl, rfl⟩
      go_wp2_with fail
      refine (at_r s _ (k) _ (by omega) (by omega)).mono ?_
      rintro e wq ⟨rfl, rfl⟩
      go_wp2_with fail
      go_ret
      exact ⟨rint (by rw [HV.out]; omega), rfl⟩
  · have e1 : (a0 s k == 43) = true := by rw [a0_beq s k 43 (by omega)]; exact h43
    have HV : Hid (sgn s k = k + 1) := by show sgn s k = _; simp [sgn, signI, h43]
    go_enter Try.func57, Try.ntmps57
    go_wp2_with fail
    refine (at_r s _ (k) _ (by omega) (by omega)).mono ?_
    rintro e wq ⟨rfl, rfl⟩
    go_wp2_with fail
    go_ret
    exact ⟨rint (by rw [HV.out]; omega), rfl⟩

set_option maxHeartbeats 400000 in
theorem digits_r (s : ByteArray) (i : Int) (k : Nat) (w : World) (hi : i = k) (hs : s.size ≤ 600) (hk : k ≤ 1000) :
    Calls Try.prog 59 #[.string s, .int .i64 i] w fun e w' => e = .returned (.int .i64 (dig s k)) ∧ w' = w := by
  subst hi
  go_enter Try.func59, Try.ntmps59
  go_wp2_with fail
  go_loopg [1] s.size (fun g v1 wr => ∃ j : Nat, s.size ≤ j + g ∧ j ≤ 1000 ∧ v1 = .int .i64 (j : Int) ∧ Aside (digF s g j = dig s k ∧ w = wr))
  case atStart => exact ⟨k, by omega, hk, rfl, rfl, rfl⟩
  case round =>
    obtain ⟨j, hj, hj2, rfl, hA⟩ := hrel
    have H1 : Hid (digF s gk j = dig s k) := hA.out.1
    obtain rfl := hA.out.2
    clear hA
    cases hd : digI (pk s j)
    · have e1 : digI (a0 s j) = false := by rw [a0_dig]; exact hd
      have HV : Hid (dig s k = j) := by
        show _ = _
        rw [← H1.out]
        cases gk with
        | zero => rfl
        | succ f => unfold digF; rw [if_neg (by simp [hd])]
      go_wp2_with fail
      refine (at_r s _ (j) _ (by omega) (by omega)).mono ?_
      rintro e wq ⟨rfl, rfl⟩
      go_wp2_with fail
      refine (isDigit_r _ _).mono ?_
      rintro e wq ⟨rfl, rfl⟩
      go_wp2_with fail
      go_ret
      exact ⟨rint (by rw [HV.out]), rfl⟩
    · have e1 : digI (a0 s j) = true := by rw [a0_dig]; exact hd
      have hlt : j < s.size := pk_lt (by have := dig_nn hd; omega)
      obtain ⟨f, rfl⟩ : ∃ f, gk = f + 1 := ⟨gk - 1, by omega⟩
      have HV : Hid (digF s f (j + 1) = dig s k) := by
        have := H1.out
        unfold digF at this
        rw [if_pos hd] at this
        exact this
      go_wp2_with fail
      refine (at_r s _ (j) _ (by omega) (by omega)).mono ?_
      rintro e wq ⟨rfl, rfl⟩
      go_wp2_with fail
      refine (isDigit_r _ _).mono ?_
      rintro e wq ⟨rfl, rfl⟩
      go_wp2_with fail
      go_roundg f
      case measure => omega
      case rel => exact ⟨j + 1, by omega, by omega, by congr 1, HV.out, rfl⟩

set_option maxHeartbeats 400000 in
theorem sees_r (s : ByteArray) (i : Int) (k : Nat) (t : ByteArray) (w : World) (hi : i = k) (hs : s.size ≤ 600) (hk : k ≤ s.size) (ht : t.size ≤ 100) :
    Calls Try.prog 31 #[.string s, .int .i64 i, .string t] w fun e w' => e = .returned (.bool (pre s k t.data.toList)) ∧ w' = w := by
  subst hi
  rw [← sees_pre s k t hk]
  by_cases h : k + t.size ≤ s.size
  · have h1 : (k : Int) + (t.size : Int) ≤ (s.size : Int) := by omega
    have hd : decide (k + t.size ≤ s.size) = true := by simpa using h
    rw [hd, Bool.true_and]
    have hsl : ∀ w : World, (Instr.slice 9 (.string s) (some (.int .i64 (k : Int))) (some (.int .i64 ((k : Int) + (t.size : Int)))) none).run Try.prog w = .ok (.string (s.extract k (k + t.size))) w := by
      intro w
      rw [run_slice_string_if w 9 s .i64 .i64 _ _ Try.underlying9, if_pos ⟨by omega, h1⟩, if_pos ⟨by omega, by omega⟩]
      congr 3
    go_enter Try.func31, Try.ntmps31
    go_wp2_with fail
    go_ret
    exact ⟨rfl, rfl⟩
  · have h1 : (s.size : Int) < (k : Int) + (t.size : Int) := by omega
    have hd : decide (k + t.size ≤ s.size) = false := by simpa using h
    rw [hd, Bool.false_and]
    go_enter Try.func31, Try.ntmps31
    go_wp2_with fail
    go_ret
    exact ⟨rfl, rfl⟩

set_option maxHeartbeats 400000 in
theorem blanks_r (s : ByteArray) (i : Int) (k : Nat) (w : World) (hi : i = k) (hs : s.size ≤ 600) (hk : k ≤ 1000) :
    Calls Try.prog 38 #[.string s, .int .i64 i] w fun e w' => e = .returned (.int .i64 (Sp.blk s k)) ∧ w' = w := by
  subst hi
  go_enter Try.func38, Try.ntmps38
  go_wp2_with fail
  go_loopg [1] s.size (fun g v1 wr => ∃ j : Nat, s.size ≤ j + g ∧ j ≤ 1000 ∧ v1 = .int .i64 (j : Int) ∧ Aside (blkF s g j = Sp.blk s k ∧ w = wr))
  case atStart => exact ⟨k, by omega, hk, rfl, rfl, rfl⟩
  case round =>
    obtain ⟨j, hj, hj2, rfl, hA⟩ := hrel
    have H1 : Hid (blkF s gk j = Sp.blk s k) := hA.out.1
    obtain rfl := hA.out.2
    clear hA
    by_cases hlt : j < s.size
    · have h1 : (j : Int) < (s.size : Int) := by omega
      have hix := index_pk s j hlt
      cases hb : blankI (pk s j)
      · have HV : Hid (Sp.blk s k = j) := by
          show _ = _
          rw [← H1.out]
          cases gk with
          | zero => rfl
          | succ f => unfold blkF; rw [if_neg (by simp [hb])]
        go_wp2_with fail
        refine (isBlank_r _ _).mono ?_
        rintro e wq ⟨rfl, rfl⟩
        go_wp2_with fail
        go_ret
        exact ⟨rint (by rw [HV.out]), rfl⟩
      · obtain ⟨f, rfl⟩ : ∃ f, gk = f + 1 := ⟨gk - 1, by omega⟩
        have HV : Hid (blkF s f (j + 1) = Sp.blk s k) := by
          have := H1.out
          unfold blkF at this
          rw [if_pos hb] at this
          exact this
        go_wp2_with fail
        refine (isBlank_r _ _).mono ?_
        rintro e wq ⟨rfl, rfl⟩
        go_wp2_with fail
        go_roundg f
        case measure => omega
        case rel => exact ⟨j + 1, by omega, by omega, by congr 1, HV.out, rfl⟩
    · have h1 : (s.size : Int) ≤ (j : Int) := by omega
      have HV : Hid (Sp.blk s k = j) := by
        show _ = _
        rw [← H1.out]
        have hp := pk_out (s := s) (i := j) (by omega)
        cases gk with
        | zero => rfl
        | succ f => unfold blkF; rw [hp, if_neg (by simp [blankI])]
      go_wp2_with fail
      go_ret
      exact ⟨rint (by rw [HV.out]), rfl⟩
end Go.Proofs.Ytlliliddljkbfaa
