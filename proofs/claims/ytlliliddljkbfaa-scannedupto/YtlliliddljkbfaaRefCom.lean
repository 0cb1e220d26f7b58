/-
  The reference passes comments over.
-/
import Derived.Test.YtlliliddljkbfaaRef1
namespace Go.Proofs.Ytlliliddljkbfaa
open Go.RowKit Sp
set_option maxRecDepth 100000

theorem pre2 (s : ByteArray) (i : Nat) (a b : UInt8) : pre s i [a, b] = (pk s i == (a.toNat : Int) && pk s (i + 1) == (b.toNat : Int)) := by simp [pre]

set_option maxHeartbeats 1000000 in
theorem comments_r (s : ByteArray) (i : Int) (k : Nat) (w : World) (hi : i = k) (hs : s.size ≤ 600) (hk : k ≤ s.size) :
    Calls Try.prog 16 #[.string s, .int .i64 i] w fun e w' => e = .returned (.int .i64 (com s k)) ∧ w' = w := by
  subst hi
  go_enter Try.func16, Try.ntmps16
  go_wp2_with fail
  go_loopg [1, 5] s.size (fun g v1 v5 wr => ∃ j : Nat, s.size ≤ j + g ∧ j ≤ s.size ∧ v1 = .int .i64 (j : Int) ∧ Aside (comF s g j = com s k ∧ w = wr))
  case atStart => exact ⟨k, by omega, hk, rfl, rfl, rfl⟩
  case round =>
    obtain ⟨j, hj, hj2, rfl, hA⟩ := hrel
    have H1 : Hid (comF s gk j = com s k) := hA.out.1
    obtain rfl := hA.out.2
    clear hA
    cases hp : pre s j [47, 42]
    · have HV : Hid (com s k = j) := by
        show _ = _
        rw [pre2] at hp
        rw [← H1.out]
        cases gk with
        | zero => rfl
        | succ f => unfold comF; rw [if_neg (fun h => by simp [h] at hp)]
      go_wp2_with fail
      refine (sees_r s _ j _ _ (by omega) (by omega) (by omega) (by decide)).mono ?_
      rintro e wq ⟨rfl, rfl⟩
      go_wp2_with fail
      go_ret
      exact ⟨rint (by rw [HV.out]), rfl⟩
    · have ho : pk s j = 47 ∧ pk s (j + 1) = 42 := by rw [pre2] at hp; simpa using hp
      have hlt : j + 1 < s.size := pk_lt (by omega)
      have hge := star_ge s (j + 2)
      have hle := star_le (s := s) (k := j + 2) (by omega)
      obtain ⟨f, rfl⟩ : ∃ f, gk = f + 1 := ⟨gk - 1, by omega⟩
      have H1' := H1.out
      unfold comF at H1'
      rw [if_pos ho] at H1'
      have HC : Hid ((if s.size ≤ star s (j + 2) then s.size else comF s f (star s (j + 2) + 2)) = com s k) := H1'
      clear ho H1' H1
      go_wp2_with fail
      refine (sees_r s _ j _ _ (by omega) (by omega) (by omega) (by decide)).mono ?_
      rintro e wq ⟨rfl, rfl⟩
      go_wp2_with fail
      go_loopg [5] s.size (fun g v5 wr => ∃ q : Nat, s.size ≤ q + g ∧ q ≤ s.size ∧ j + 2 ≤ q ∧ v5 = .int .i64 (q : Int) ∧ Aside (starF s g q = star s (j + 2) ∧ wq = wr))
      case atStart => exact ⟨j + 2, by omega, by omega, by omega, rfl, rfl, rfl⟩
      case round =>
        obtain ⟨q, hq, hq2, hq3, rfl, hA⟩ := hrel
        have H2 : Hid (starF s gk q = star s (j + 2)) := hA.out.1
        obtain rfl := hA.out.2
        clear hA
        by_cases hql : q < s.size
        · have h1 : (q : Int) < (s.size : Int) := by omega
          cases hp2 : pre s q [42, 47]
          · obtain ⟨f2, rfl⟩ : ∃ f2, gk = f2 + 1 := ⟨gk - 1, by omega⟩
            have HV : Hid (starF s f2 (q + 1) = star s (j + 2)) := by
              show _ = _
              rw [pre2] at hp2
              rw [← H2.out]
              conv => rhs; unfold starF
              rw [if_pos ⟨hql, fun h => by simp [h] at hp2⟩]
            go_wp2_with fail
            refine (sees_r s _ q _ _ (by omega) (by omega) (by omega) (by decide)).mono ?_
            rintro e wq ⟨rfl, rfl⟩
            go_wp2_with fail
            go_roundg f2
            case measure => omega
            case rel => exact ⟨q + 1, by omega, by omega, by omega, by congr 1, HV.out, rfl⟩
          · have HV : Hid (star s (j + 2) = q) := by
              show _ = _
              rw [pre2] at hp2
              rw [← H2.out]
              cases gk with
              | zero => rfl
              | succ f2 => unfold starF; rw [if_neg (fun h => h.2 (by simpa using hp2))]
            have hq4 : q + 2 ≤ s.size := by
              rw [pre2] at hp2
              have h47 : pk s (q + 1) = 47 := by simp at hp2; exact hp2.2
              have := pk_lt (s := s) (i := q + 1) (by omega); omega
            have HE : Hid (comF s f (q + 2) = com s k) := by
              have := HC.out
              rw [HV.out, if_neg (by omega)] at this
              exact this
            go_wp2_with fail
            refine (sees_r s _ q _ _ (by omega) (by omega) (by omega) (by decide)).mono ?_
            rintro e wq ⟨rfl, rfl⟩
            go_wp2_with fail
            go_roundg f
            case measure => omega
            case rel => exact ⟨q + 2, by omega, by omega, by congr 1, HE.out, rfl⟩
        · have h1 : (s.size : Int) ≤ (q : Int) := by omega
          have HV : Hid (com s k = s.size) := by
            have e1 : star s (j + 2) = q := by
              rw [← H2.out]
              cases gk with
              | zero => rfl
              | succ f2 => unfold starF; rw [if_neg (fun h => hql h.1)]
            have := HC.out
            rw [e1, if_pos (by omega)] at this
            exact this.symm
          go_wp2_with fail
          go_ret
          exact ⟨rint (by rw [HV.out]), rfl⟩
end Go.Proofs.Ytlliliddljkbfaa
