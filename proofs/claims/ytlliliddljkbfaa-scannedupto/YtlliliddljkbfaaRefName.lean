/-
  The reference reads a name.
-/
import Derived.Test.YtlliliddljkbfaaRefEsc
namespace Go.Proofs.Ytlliliddljkbfaa
open Go.RowKit Sp
set_option maxRecDepth 100000

set_option maxHeartbeats 1000000 in
theorem name_r (s : ByteArray) (i : Int) (k : Nat) (w : World) (hi : i = k) (hs : s.size ≤ 600) (hk : k ≤ s.size) :
    Calls Try.prog 40 #[.string s, .int .i64 i] w fun e w' => e = .returned (.tuple #[.string (Sp.name s k).1, .int .i64 ((Sp.name s k).2 : Int)]) ∧ Below w.heap.size w w' := by
  subst hi
  go_enter Try.func40, Try.ntmps40
  go_wp2_with fail
  go_loopg [1, 6] s.size (fun g v1 v6 wr => ∃ (j : Nat) (acc : ByteArray), s.size ≤ j + g ∧ j ≤ s.size ∧ acc.size ≤ j ∧ v1 = .int .i64 (j : Int) ∧ v6 = .string acc ∧ Aside (nameF s g j acc = Sp.name s k ∧ Below w.heap.size w wr))
  case atStart => exact ⟨k, ByteArray.empty, by omega, hk, by simp, rfl, rfl, rfl, Below.refl _ _⟩
  case round =>
    obtain ⟨j, acc, hj, hj2, hac, rfl, rfl, hA⟩ := hrel
    have H1 : Hid (nameF s gk j acc = Sp.name s k) := hA.out.1
    have HB : Hid (Below w.heap.size w wr) := hA.out.2
    clear hA
    by_cases hlt : j < s.size
    · have h1 : (j : Int) < (s.size : Int) := by omega
      have hix := index_pk s j hlt
      obtain ⟨f, rfl⟩ : ∃ f, gk = f + 1 := ⟨gk - 1, by omega⟩
      have H1' := H1.out
      unfold nameF at H1'
      cases hn : nameI (pk s j)
      · rw [if_neg (by simp [hn])] at H1'
        cases he : escB s j
        · rw [if_neg (by simp [he])] at H1'
          have HV : Hid ((acc, j) = Sp.name s k) := H1'
          clear H1'
          go_wp2_with fail
          refine (isName_r _ _).mono ?_
          rintro e wq ⟨rfl, rfl⟩
          go_wp2_with fail
          refine (escapes_r s _ j _ (by omega) (by omega) (by omega)).mono ?_
          rintro e wq ⟨rfl, rfl⟩
          go_wp2_with fail
          go_ret2
          rw [← HV.out]
          exact ⟨rfl, HB.out⟩
        · rw [if_pos he] at H1'
          have hge := esc_le hlt
          have hgt := esc_gt s j
          have hsz : Hid ((esc s j).1.size = 1) := size_esc
          obtain ⟨x, q, HX⟩ : ∃ x q, Hid (esc s j = (x, q)) := ⟨_, _, rfl⟩
          rw [HX.out] at H1' hge hgt
          have hxs : x.size ≤ 1 := by have := hsz.out; rw [HX.out] at this; exact Nat.le_of_eq this
          have HV : Hid (nameF s f q (acc ++ x) = Sp.name s k) := H1'
          clear H1' hsz
          go_wp2_with fail
          refine (isName_r _ _).mono ?_
          rintro e wq ⟨rfl, rfl⟩
          go_wp2_with fail
          refine (escapes_r s _ j _ (by omega) (by omega) (by omega)).mono ?_
          rintro e wq ⟨rfl, rfl⟩
          go_wp2_with fail
          refine (escape_r s _ j _ (by omega) (by omega) (by omega)).mono ?_
          rw [HX.out]
          rintro e w1 ⟨rfl, hb⟩
          have HB1 : Hid (Below w.heap.size w w1) := HB.out.trans (hb.mono HB.out.size)
          clear hb
          go_wp2_with fail
          go_roundg f
          case measure => omega
          case rel => exact ⟨q, acc ++ x, by omega, by omega, by simp; omega, rfl, rfl, HV.out, HB1.out⟩
      · rw [if_pos hn] at H1'
        have HV : Hid (nameF s f (j + 1) (acc ++ one s j) = Sp.name s k) := H1'
        have hsz : (one s j).size ≤ 1 := by rw [size_one hlt]; omega
        have hsl := slice1 s j hlt
        clear H1'
        go_wp2_with fail
        refine (isName_r _ _).mono ?_
        rintro e wq ⟨rfl, rfl⟩
        go_wp2_with fail
        refine (escapes_r s _ j _ (by omega) (by omega) (by omega)).mono ?_
        rintro e wq ⟨rfl, rfl⟩
        go_wp2_with fail
        go_roundg f
        case measure => omega
        case rel => exact ⟨j + 1, acc ++ one s j, by omega, by omega, by simp; omega, by congr 1, rfl, HV.out, HB.out⟩
    · have h1 : (s.size : Int) ≤ (j : Int) := by omega
      have HV : Hid ((acc, j) = Sp.name s k) := by
        show _ = _
        rw [← H1.out]
        have hp := pk_out (s := s) (i := j) (by omega)
        cases gk with
        | zero => rfl
        | succ f => unfold nameF; rw [if_neg (by rw [hp]; decide), if_neg (by simp [escB, hp])]
      go_wp2_with fail
      go_ret2
      rw [← HV.out]
      exact ⟨rfl, HB.out⟩
end Go.Proofs.Ytlliliddljkbfaa
