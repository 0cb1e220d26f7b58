/-
  The scanner's methods that go forward: take, passBlanks, passDigits.
-/
import Derived.Test.YtlliliddljkbfaaBase
import Derived.Test.YtlliliddljkbfaaFwd
namespace Go.Proofs.Ytlliliddljkbfaa
open Go.RowKit Sp
set_option maxRecDepth 100000

/-- What a method hands on: the scanner stands at a new place; nothing else has turned. -/
def Went (b : Nat) (s : ByteArray) (k : Nat) (w w' : World) : Prop := Sc w' b s k ∧ Turn b w w'
theorem Went.drewN {b k : Nat} {s : ByteArray} {w w' : World} (h : Went b s k w w') (n : Nat) : Went b s k w (w'.drewN n) := ⟨h.1.drewN n, h.2.drewN n⟩
theorem Went.set {b k : Nat} {s : ByteArray} {w w' : World} (h : Went b s k w w') (j : Nat) (hj : j ≤ s.size) : Went b s j w (w'.setCell ⟨b, 1, none⟩ (.int .i64 (j : Int))) := ⟨h.1.set j hj, h.2.setCell 1 _⟩
theorem Went.alloc {b k : Nat} {s : ByteArray} {w w' : World} (h : Went b s k w w') (o : Obj) : Went b s k w (w'.alloc o) := ⟨h.1.alloc o, h.2.alloc o⟩
theorem Went.refl {b k : Nat} {s : ByteArray} {w : World} (h : Sc w b s k) : Went b s k w w := ⟨h, Turn.refl _ _⟩
theorem Went.trans {b j k : Nat} {s : ByteArray} {w w1 w2 : World} (h : Went b s j w w1) (h' : Went b s k w1 w2) : Went b s k w w2 := ⟨h'.1, h.2.trans h'.2⟩
theorem Sc.setv {w : World} {b i : Nat} {s : ByteArray} (h : Sc w b s i) (v : Int) (j : Nat) (hv : v = j) (hj : j ≤ s.size) : Sc (w.setCell ⟨b, 1, none⟩ (.int .i64 v)) b s j := by rw [hv]; exact h.set j hj
theorem Went.setv {b k : Nat} {s : ByteArray} {w w' : World} (h : Went b s k w w') (v : Int) (j : Nat) (hv : v = j) (hj : j ≤ s.size) : Went b s j w (w'.setCell ⟨b, 1, none⟩ (.int .i64 v)) := by rw [hv]; exact h.set j hj
theorem ofNat1 (i : Nat) : (i : Int) + 1 = ((i + 1 : Nat) : Int) := by omega

set_option maxHeartbeats 400000 in
theorem take_c (s : ByteArray) (b i : Nat) (w : World) (h : Sc w b s i) (hi : i < s.size) :
    Calls Try.prog 30 #[.pointer (some ⟨b, 0, none⟩)] w fun e w' => e = .returned (.string (one s i)) ∧ Went b s (i + 1) w w' := by
  have HS : Hid (Sc w b s i) := h
  have h0 := h.c0
  have h1 := h.c1
  have hf := h.f1
  have hl := h.lt
  have hs := h.len
  clear h
  go_enter Try.func30, Try.ntmps30
  go_wp2
  go_quiet (fail)
  go_wp2
  go_ret
  refine ⟨rfl, ?_⟩
  rw [ofNat1]
  exact ((Went.refl HS.out).set (i + 1) (by omega)).drewN _

set_option maxHeartbeats 400000 in
theorem passBlanks_c (s : ByteArray) (b i : Nat) (w : World) (h : Sc w b s i) :
    Calls Try.prog 21 #[.pointer (some ⟨b, 0, none⟩)] w fun e w' => e = .returned (.tuple #[]) ∧ Went b s (Sp.blk s i) w w' := by
  have HS : Hid (Sc w b s i) := h
  clear h
  go_enter Try.func21, Try.ntmps21
  go_wp2_with fail
  refine wp_scope_fwd (fun Q' hF => ?_)
  go_wp2_with fail
  go_loopg [] s.size (fun g wr => ∃ k : Nat, s.size ≤ k + g ∧ Aside (blkF s g k = Sp.blk s i ∧ Went b s k w wr))
  case atStart => exact ⟨i, by omega, rfl, Went.refl HS.out⟩
  case round =>
    obtain ⟨k, hk, hA⟩ := hrel
    have H1 : Hid (blkF s gk k = Sp.blk s i) := hA.out.1
    have H2 : Hid (Went b s k w wr) := hA.out.2
    clear hA
    have h0 := H2.out.1.c0
    have h1 := H2.out.1.c1
    have hf := H2.out.1.f1
    have hl := H2.out.1.lt
    have hs := H2.out.1.len
    cases hbl : blankI (pk s k)
    · have HV : Hid (Sp.blk s i = k) := by
        show Sp.blk s i = k
        rw [← H1.out]
        cases gk with
        | zero => rfl
        | succ f => unfold blkF; rw [if_neg (by simp [hbl])]
      go_wp2_with fail
      refine (peek_c s b k _ k _ H2.out.1 ⟨by omega, by omega, by omega⟩).mono ?_
      rintro e w1 ⟨rfl, n1, rfl⟩
      go_wp2_with fail
      refine (isBlank_c _ _).mono ?_
      rintro e w1 ⟨rfl, rfl⟩
      go_wp2_with fail
      go_step3
      refine hF.go 0 _ _ _ rfl ?_
      go_wp2
      simp only [Exit.noGoto]
      go_end0
      refine ⟨rfl, ?_⟩
      rw [HV.out]
      exact H2.out.drewN _
    · have hlt : k < s.size := pk_lt (blank_nn hbl)
      obtain ⟨f, rfl⟩ : ∃ f, gk = f + 1 := ⟨gk - 1, by omega⟩
      have HV : Hid (blkF s f (k + 1) = Sp.blk s i) := by
        have := H1.out
        unfold blkF at this
        rw [if_pos hbl] at this
        exact this
      go_wp2_with fail
      refine (peek_c s b k _ k _ H2.out.1 ⟨by omega, by omega, by omega⟩).mono ?_
      rintro e w1 ⟨rfl, n1, rfl⟩
      go_wp2_with fail
      refine (isBlank_c _ _).mono ?_
      rintro e w1 ⟨rfl, rfl⟩
      go_wp2_with fail
      go_roundg f
      case measure => omega
      case rel => 
        rw [ofNat1]
        exact ⟨k + 1, by omega, HV.out, (H2.out.drewN _).set (k + 1) (by omega)⟩
end Go.Proofs.Ytlliliddljkbfaa
