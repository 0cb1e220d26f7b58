/-
  The reference passes over a bad link.
-/
import Derived.Test.YtlliliddljkbfaaRefName
import Derived.Test.YtlliliddljkbfaaText
namespace Go.Proofs.Ytlliliddljkbfaa
open Go.RowKit Sp
set_option maxRecDepth 100000

/-- Behind the call's beginning: nothing old has turned; the result's block is as it was made. -/
def RW (w wr : World) : Prop := Below w.heap.size w wr ∧ Res wr w.heap.size
theorem RW.new (w : World) : RW w (w.alloc (.cells #[.int .i64 0, .string ⟨#[]⟩, .string ⟨#[]⟩] 35 (0, 0))) := ⟨(Below.refl _ _).alloc (Nat.le_refl _) _, Res.new w⟩
theorem RW.below {w wr w1 : World} (h : RW w wr) (hb : Below wr.heap.size wr w1) : RW w w1 := ⟨h.1.trans (hb.mono h.1.size), h.2.below hb⟩
theorem RW.set3 {w wr : World} (h : RW w wr) (a b c : Value) : Below w.heap.size w (((wr.setCell ⟨w.heap.size, 0, none⟩ a).setCell ⟨w.heap.size, 1, none⟩ b).setCell ⟨w.heap.size, 2, none⟩ c) :=
  ((h.1.setCell (Nat.le_refl _) _).setCell (Nat.le_refl _) _).setCell (Nat.le_refl _) _
theorem rtok {t t' : Tok} {x y : Int} (h1 : t = t') (h2 : x = y) : Ending.returned (.tuple #[tokV t, .int .i64 x]) = .returned (.tuple #[tokV t', .int .i64 y]) := by rw [h1, h2]

set_option maxHeartbeats 1000000 in
theorem badLink_r (s : ByteArray) (i : Int) (k : Nat) (w : World) (hi : i = k) (hs : s.size ≤ 600) (hk : k ≤ s.size) :
    Calls Try.prog 76 #[.string s, .int .i64 i] w fun e w' => e = .returned (.tuple #[tokV (Tok.k 13), .int .i64 (bad s k : Int)]) ∧ Below w.heap.size w w' := by
  subst hi
  have W0 : Hid (RW w (w.alloc (.cells #[.int .i64 0, .string ⟨#[]⟩, .string ⟨#[]⟩] 35 (0, 0)))) := RW.new w
  go_enter Try.func76, Try.ntmps76
  go_wp2_with fail
  go_loopg [1] s.size (fun g v1 wr => ∃ j : Nat, s.size ≤ j + g ∧ j ≤ s.size ∧ v1 = .int .i64 (j : Int) ∧ Aside (badF s g j = bad s k ∧ RW w wr))
  case atStart => exact ⟨k, by omega, hk, rfl, rfl, W0.out⟩
  case round =>
    obtain ⟨j, hj, hj2, rfl, hA⟩ := hrel
    have H1 : Hid (badF s gk j = bad s k) := hA.out.1
    have HW : Hid (RW w wr) := hA.out.2
    clear hA W0
    have RR : Hid (Res wr w.heap.size) := HW.out.2
    by_cases hlt : j < s.size
    · have h1 : (j : Int) < (s.size : Int) := by omega
      have hix := index_pk s j hlt
      obtain ⟨f, rfl⟩ : ∃ f, gk = f + 1 := ⟨gk - 1, by omega⟩
      have H1' := H1.out
      unfold badF at H1'
      rw [if_neg (by omega)] at H1'
      by_cases h41 : pk s j = 41
      · rw [if_pos h41] at H1'
        have HV : Hid (bad s k = j + 1) := H1'.symm
        have e1 : (pk s j != 41) = false := by rw [h41]; rfl
        have hm : (min ((j : Int) + 1) (s.size : Int)) = (j : Int) + 1 := by omega
        clear h41 H1'
        have r0 := RR.out.c0
        have r1 := RR.out.c1
        have r2 := RR.out.c2
        have rf := RR.out.f
        have rl := RR.out.lt
        go_wp2_with fail
        refine bodyPost_ret (v := .tuple #[tokV (Tok.k 13), .int .i64 ((j : Int) + 1)]) (by simp [results, Try.results76, go_sem, tokV, Tok.k, r0, r1, r2]; rfl) rfl ⟨?_, HW.out.set3 _ _ _⟩
        rw [HV.out]; rfl
      · have e1 : (pk s j != 41) = true := by simpa using h41
        rw [if_neg h41] at H1'
        clear h41 RR
        cases he : escB s j
        · rw [if_neg (by simp [he])] at H1'
          have HV : Hid (badF s f (j + 1) = bad s k) := H1'
          clear H1'
          go_wp2_with fail
          refine (escapes_r s _ j _ (by omega) (by omega) (by omega)).mono ?_
          rintro e wq ⟨rfl, rfl⟩
          go_wp2_with fail
          go_roundg f
          case measure => omega
          case rel => exact ⟨j + 1, by omega, by omega, by congr 1, HV.out, HW.out⟩
        · rw [if_pos he] at H1'
          have hge := esc_le hlt
          have hgt := esc_gt s j
          have HV : Hid (badF s f (esc s j).2 = bad s k) := H1'
          clear H1'
          go_wp2_with fail
          refine (escapes_r s _ j _ (by omega) (by omega) (by omega)).mono ?_
          rintro e wq ⟨rfl, rfl⟩
          go_wp2_with fail
          refine (escape_r s _ j _ (by omega) (by omega) (by omega)).mono ?_
          rintro e w1 ⟨rfl, hb⟩
          have HW1 : Hid (RW w w1) := HW.out.below hb
          clear hb
          go_wp2_with fail
          go_roundg f
          case measure => omega
          case rel => exact ⟨(esc s j).2, by omega, by omega, rfl, HV.out, HW1.out⟩
    · have h1 : (s.size : Int) ≤ (j : Int) := by omega
      have hm : (min ((j : Int) + 1) (s.size : Int)) = (s.size : Int) := by omega
      have HV : Hid (bad s k = j) := by
        show _ = _
        rw [← H1.out]
        cases gk with
        | zero => rfl
        | succ f => unfold badF; rw [if_pos (by omega)]
      have r0 := RR.out.c0
      have r1 := RR.out.c1
      have r2 := RR.out.c2
      have rf := RR.out.f
      have rl := RR.out.lt
      go_wp2_with fail
      refine bodyPost_ret (v := .tuple #[tokV (Tok.k 13), .int .i64 ((s.size : Int))]) (by simp [results, Try.results76, go_sem, tokV, Tok.k, r0, r1, r2]; rfl) rfl ⟨?_, HW.out.set3 _ _ _⟩
      rw [HV.out, show (j : Nat) = s.size from by omega]
end Go.Proofs.Ytlliliddljkbfaa
