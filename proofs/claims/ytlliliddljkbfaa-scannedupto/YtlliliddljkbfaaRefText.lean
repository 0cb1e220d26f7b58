/-
  The reference reads a text in quotes.
-/
import Derived.Test.YtlliliddljkbfaaRefBad
namespace Go.Proofs.Ytlliliddljkbfaa
open Go.RowKit Sp
set_option maxRecDepth 100000

set_option maxRecDepth 100000 in
set_option maxHeartbeats 3000000 in
theorem quoted_r (s : ByteArray) (i : Int) (k : Nat) (q : Int) (w : World) (hi : i = k) (hs : s.size ≤ 600) (hk : k ≤ s.size) :
    Calls Try.prog 39 #[.string s, .int .i64 i, .int .u8 q] w fun e w' => e = .returned (.tuple #[tokV (txt s q k).1, .int .i64 ((txt s q k).2 : Int)]) ∧ Below w.heap.size w w' := by
  subst hi
  have W0 : Hid (RW w (w.alloc (.cells #[.int .i64 0, .string ⟨#[]⟩, .string ⟨#[]⟩] 35 (0, 0)))) := RW.new w
  go_enter Try.func39, Try.ntmps39
  go_wp2_with fail
  go_loopg [1, 8] s.size (fun g v1 v8 wr => ∃ (j : Nat) (acc : ByteArray), s.size ≤ j + g ∧ j ≤ s.size ∧ acc.size ≤ j ∧ v1 = .int .i64 (j : Int) ∧ v8 = .string acc ∧ Aside (txtF s q g j acc = txt s q k ∧ RW w wr))
  case atStart => exact ⟨k, ByteArray.empty, by omega, hk, by simp, rfl, rfl, rfl, W0.out⟩
  case round =>
    obtain ⟨j, acc, hj, hj2, hac, rfl, rfl, hA⟩ := hrel
    have H1 : Hid (txtF s q gk j acc = txt s q k) := hA.out.1
    have HW : Hid (RW w wr) := hA.out.2
    clear hA W0
    have RR : Hid (Res wr w.heap.size) := HW.out.2
    by_cases hlt : j < s.size
    · have h1 : (j : Int) < (s.size : Int) := by omega
      have hix := index_pk s j hlt
      obtain ⟨f, rfl⟩ : ∃ f, gk = f + 1 := ⟨gk - 1, by omega⟩
      have H1' := H1.out
      unfold txtF at H1'
      rw [if_neg (by omega)] at H1'
      by_cases hq : pk s j = q
      · have e1 : (pk s j == q) = true := by simpa using hq
        rw [if_pos hq] at H1'
        have HV : Hid (txt s q k = (Tok.w 2 acc, j + 1)) := H1'.symm
        clear hq H1'
        have r0 := RR.out.c0
        have r1 := RR.out.c1
        have r2 := RR.out.c2
        have rf := RR.out.f
        have rl := RR.out.lt
        go_wp2_with fail
        refine (escapes_r s _ j _ (by omega) (by omega) (by omega)).mono ?_
        rintro e wq ⟨rfl, rfl⟩
        go_wp2_with fail
        refine bodyPost_ret (v := .tuple #[tokV (Tok.w 2 acc), .int .i64 ((j : Int) + 1)]) (by simp [results, Try.results39, go_sem, tokV, Tok.w, r0, r1, r2]; rfl) rfl ⟨?_, HW.out.set3 _ _ _⟩
        rw [HV.out]; rfl
      · have e1 : (pk s j == q) = false := by simpa using hq
        rw [if_neg hq] at H1'
        by_cases h10 : pk s j = 10
        · have e2 : (pk s j == 10) = true := by rw [h10]; rfl
          rw [if_pos h10] at H1'
          have HV : Hid (txt s q k = (Tok.k 3, j)) := H1'.symm
          clear hq h10 H1'
          have r0 := RR.out.c0
          have r1 := RR.out.c1
          have r2 := RR.out.c2
          have rf := RR.out.f
          have rl := RR.out.lt
          go_wp2_with fail
          refine (escapes_r s _ j _ (by omega) (by omega) (by omega)).mono ?_
          rintro e wq ⟨rfl, rfl⟩
          go_wp2_with fail
          refine bodyPost_ret (v := .tuple #[tokV (Tok.k 3), .int .i64 ((j : Int))]) (by simp [results, Try.results39, go_sem, tokV, Tok.k, r0, r1, r2]; rfl) rfl ⟨?_, HW.out.set3 _ _ _⟩
          rw [HV.out]
        · have e2 : (pk s j == 10) = false := by simpa using h10
          rw [if_neg h10] at H1'
          by_cases h92 : pk s j = 92
          · have e3 : (pk s j == 92) = true := by rw [h92]; rfl
            rw [if_pos h92] at H1'
            by_cases hl1 : s.size ≤ j + 1
            · rw [if_pos hl1] at H1'
              have e4 : ((j : Int) + 1 == (s.size : Int)) = true := by simp; omega
              have HV : Hid (txtF s q f (j + 1) acc = txt s q k) := H1'
              clear hq h10 h92 H1' RR
              go_wp2_with fail
              refine (escapes_r s _ j _ (by omega) (by omega) (by omega)).mono ?_
              rintro e wq ⟨rfl, rfl⟩
              go_wp2_with fail
              go_roundg f
              case measure => omega
              case rel => exact ⟨j + 1, acc, by omega, by omega, by omega, by congr 1, rfl, HV.out, HW.out⟩
            · rw [if_neg hl1] at H1'
              have e4 : ((j : Int) + 1 == (s.size : Int)) = false := by simp; omega
              have hix2 : ∀ w : World, (Instr.index 9 (.string s) (.int .i64 ((j : Int) + 1))).run Try.prog w = .ok (.int .u8 (pk s (j + 1))) w := fun w => index_pk s (j + 1) (by omega) w
              by_cases hln : pk s (j + 1) = 10
              · have e5 : (pk s (j + 1) == 10) = true := by rw [hln]; rfl
                rw [if_pos hln] at H1'
                have HV : Hid (txtF s q f (j + 2) acc = txt s q k) := H1'
                clear hq h10 h92 H1' hln RR
                go_wp2_with fail
                refine (escapes_r s _ j _ (by omega) (by omega) (by omega)).mono ?_
                rintro e wq ⟨rfl, rfl⟩
                go_wp2_with fail
                go_roundg f
                case measure => omega
                case rel => exact ⟨j + 2, acc, by omega, by omega, by omega, by congr 1, rfl, HV.out, HW.out⟩
              · have e5 : (pk s (j + 1) == 10) = false := by simpa using hln
                rw [if_neg hln] at H1'
                have he : escB s j = true := by simp [escB, h92, hln]
                have hge := esc_le hlt
                have hgt := esc_gt s j
                obtain ⟨x, p, HX⟩ : ∃ x p, Hid (esc s j = (x, p)) := ⟨_, _, rfl⟩
                have hxs : x.size ≤ 1 := by have := size_esc (s := s) (i := j); rw [HX.out] at this; exact Nat.le_of_eq this
                rw [HX.out] at H1' hge hgt
                have HV : Hid (txtF s q f p (acc ++ x) = txt s q k) := H1'
                clear hq h10 h92 H1' hln RR
                go_wp2_with fail
                refine (escapes_r s _ j _ (by omega) (by omega) (by omega)).mono ?_
                rintro e wq ⟨rfl, rfl⟩
                go_wp2_with fail
                refine (escape_r s _ j _ (by omega) (by omega) (by omega)).mono ?_
                rw [HX.out]
                rintro e w1 ⟨rfl, hb⟩
                have HW1 : Hid (RW w w1) := HW.out.below hb
                clear hb
                go_wp2_with fail
                go_roundg f
                case measure => omega
                case rel => exact ⟨p, acc ++ x, by omega, by omega, by simp; omega, rfl, rfl, HV.out, HW1.out⟩
          · have e3 : (pk s j == 92) = false := by simpa using h92
            rw [if_neg h92] at H1'
            have he : escB s j = false := by simp [escB, e3]
            have hsl := slice1 s j hlt
            have hsz : (one s j).size ≤ 1 := by rw [size_one hlt]; omega
            have HV : Hid (txtF s q f (j + 1) (acc ++ one s j) = txt s q k) := H1'
            clear hq h10 h92 H1' RR
            go_wp2_with fail
            refine (escapes_r s _ j _ (by omega) (by omega) (by omega)).mono ?_
            rintro e wq ⟨rfl, rfl⟩
            go_wp2_with fail
            go_roundg f
            case measure => omega
            case rel => exact ⟨j + 1, acc ++ one s j, by omega, by omega, by simp; omega, by congr 1, rfl, HV.out, HW.out⟩
    · have h1 : (s.size : Int) ≤ (j : Int) := by omega
      have HV : Hid (txt s q k = (Tok.w 2 acc, j)) := by
        show _ = _
        rw [← H1.out]
        cases gk with
        | zero => rfl
        | succ f => unfold txtF; rw [if_pos (by omega)]
      have r0 := RR.out.c0
      have r1 := RR.out.c1
      have r2 := RR.out.c2
      have rf := RR.out.f
      have rl := RR.out.lt
      go_wp2_with fail
      refine bodyPost_ret (v := .tuple #[tokV (Tok.w 2 acc), .int .i64 ((j : Int))]) (by simp [results, Try.results39, go_sem, tokV, Tok.w, r0, r1, r2]; rfl) rfl ⟨?_, HW.out.set3 _ _ _⟩
      rw [HV.out]
end Go.Proofs.Ytlliliddljkbfaa
