/-
  Texts in small letters: the program's Small and the reference's lower.
-/
import Derived.Test.YtlliliddljkbfaaRows1
import Derived.Test.YtlliliddljkbfaaSpecLaws
namespace Go.Proofs.Ytlliliddljkbfaa
open Go.RowKit Sp
set_option maxRecDepth 100000

theorem small_nat (c : UInt8) : (smallB c).toNat = if 65 ≤ c.toNat ∧ c.toNat ≤ 90 then c.toNat + 32 else c.toNat := by
  unfold smallB
  have h := c.toNat_lt
  by_cases h1 : 65 ≤ c ∧ c ≤ 90
  · rw [if_pos h1]
    have h2 : 65 ≤ c.toNat ∧ c.toNat ≤ 90 := by simpa [UInt8.le_iff_toNat_le] using h1
    rw [if_pos h2, UInt8.toNat_add]
    simp; omega
  · rw [if_neg h1, if_neg (by simpa [UInt8.le_iff_toNat_le] using h1)]

/-- Block g holds the bytes of s, of which the first k are small. -/
def Bytes (w : World) (g : Nat) (s : ByteArray) (k : Nat) : Prop :=
  (∀ j (hj : j < s.size), w.cell? ⟨g, j, none⟩ = some (.int .u8 (if j < k then ((smallB s[j]).toNat : Int) else (s[j].toNat : Int)))) ∧
  (∀ j, j < s.size → w.frozen? ⟨g, j, none⟩ = false) ∧ g < w.heap.size
theorem Bytes.step {w : World} {g : Nat} {s : ByteArray} {k : Nat} (h : Bytes w g s k) (hk : k < s.size) : Bytes (w.setCell ⟨g, k, none⟩ (.int .u8 ((smallB s[k]).toNat : Int))) g s (k + 1) := by
  refine ⟨fun j hj => ?_, fun j hj => ?_, by simpa [World.setCell] using h.2.2⟩
  · by_cases e : j = k
    · subst e
      rw [if_pos (by omega)]
      apply World.cell?_setCell_same
      exact h.1 j hj
    · have h1 := h.1 j hj
      have h2 : (w.setCell ⟨g, k, none⟩ (.int .u8 ((smallB s[k]).toNat : Int))).cell? ⟨g, j, none⟩ = w.cell? ⟨g, j, none⟩ := by
        apply World.cell?_setCell_other
        intro h0
        exact e (congrArg Addr.off h0).symm
      rw [h2, h1]
      congr 2
      by_cases h3 : j < k
      · rw [if_pos h3, if_pos (by omega)]
      · rw [if_neg h3, if_neg (by omega)]
  · have := h.2.1 j hj
    simpa using this
theorem Bytes.stay {w : World} {g : Nat} {s : ByteArray} {k : Nat} (h : Bytes w g s k) (hk : k < s.size) (e : smallB s[k] = s[k]) : Bytes w g s (k + 1) := by
  refine ⟨fun j hj => ?_, h.2.1, h.2.2⟩
  rw [h.1 j hj]
  congr 2
  by_cases h3 : j < k
  · rw [if_pos h3, if_pos (by omega)]
  · rw [if_neg h3]
    by_cases h4 : j < k + 1
    · obtain rfl : j = k := by omega
      rw [if_pos h4, e]
    · rw [if_neg h4]
theorem Bytes.conv {w : World} {g : Nat} {s : ByteArray} {k cap : Nat} (h : Bytes w g s k) (hk : s.size ≤ k) :
    (convert 48 9 (.slice (some ⟨g, 0, none⟩) s.size cap)).run Try.prog w = .ok (.string (small s)) w := by
  have hl : (s.data.toList.map smallB).length = s.size := by simp
  have := run_convert_bytes_back (P := Try.prog) w 48 9 5 ⟨g, 0, none⟩ cap (s.data.toList.map smallB) Try.underlying48 Try.underlying5 Try.underlying9 (by
    intro j hj
    rw [hl] at hj
    rw [Addr.add_lit, Nat.zero_add, h.1 j hj, if_pos (by omega)]
    simp
    rfl)
  rw [hl] at this
  exact this
theorem bytes_of (s : ByteArray) (w : World) : ∃ w1 cap, (convert 9 48 (.string s)).run Try.prog w = .ok (.slice (some ⟨w.heap.size, 0, none⟩) s.size cap) w1 ∧ (Bytes w1 w.heap.size s 0 ∧ Below w.heap.size w w1) ∧ w.heap.size < w1.heap.size := by
  refine ⟨_, _, run_bytes_of_string (P := Try.prog) w 9 48 5 s Try.underlying9 Try.underlying48 Try.underlying5, ⟨⟨?_, ?_, ?_⟩, ?_⟩, ?_⟩
  · intro j hj
    rw [if_neg (by omega)]
    have e := World.cell?_alloc_mark w.drew (bytesRow s (grownCap w s.size 0 5)) 5 ((bytesRow s (grownCap w s.size 0 5)).size, (bytesRow s (grownCap w s.size 0 5)).size + 1) j
    have e2 : w.drew.heap.size = w.heap.size := rfl
    rw [e2] at e
    rw [e]
    unfold bytesRow
    rw [Array.getElem?_append_left (by simpa using hj)]
    simp [hj]
    rfl
  · intro j hj
    have hsz : s.size ≤ (bytesRow s (grownCap w s.size 0 5)).size := by simp [bytesRow]
    unfold World.frozen?
    have e := heap_alloc_new w.drew (.cells (bytesRow s (grownCap w s.size 0 5)) 5 ((bytesRow s (grownCap w s.size 0 5)).size, (bytesRow s (grownCap w s.size 0 5)).size + 1))
    have e2 : w.drew.heap.size = w.heap.size := rfl
    rw [e2] at e
    rw [e]
    simp
    omega
  · simp
  · exact ((Below.refl _ w).drew).alloc (Nat.le_refl _) _
  · simp

set_option maxHeartbeats 1000000 in
theorem Small_c (s : ByteArray) (w : World) (hs : s.size ≤ 4000000) :
    Calls Try.prog 54 #[.string s] w fun e w' => e = .returned (.string (small s)) ∧ Below w.heap.size w w' := by
  obtain ⟨w1, cap, hrun, hbs, hsz⟩ := bytes_of s w
  have HB : Hid (Bytes w1 w.heap.size s 0) := hbs.1
  have HW : Hid (Below w.heap.size w w1) := hbs.2
  clear hbs
  go_enter Try.func54, Try.ntmps54
  go_wp2_with fail
  go_loopg [10] s.size (fun g v10 wr => ∃ k : Nat, k + g = s.size ∧ v10 = .int .i64 (k : Int) ∧ Aside (Bytes wr w.heap.size s k ∧ Below w.heap.size w wr))
  case atStart => exact ⟨0, by omega, rfl, HB.out, HW.out⟩
  case round =>
    obtain ⟨k, hk, rfl, hA⟩ := hrel
    have H1 : Hid (Bytes wr w.heap.size s k) := hA.out.1
    have H2 : Hid (Below w.heap.size w wr) := hA.out.2
    clear hA
    by_cases hlt : k < s.size
    · have hc : wr.cell? ⟨w.heap.size, k, none⟩ = some (.int .u8 (s[k].toNat : Int)) := by rw [H1.out.1 k hlt, if_neg (by omega)]
      have hf := H1.out.2.1 k hlt
      have hl := H1.out.2.2
      have hb : s[k].toNat < 256 := s[k].toNat_lt
      have HS : Hid ((smallB s[k]).toNat = if 65 ≤ s[k].toNat ∧ s[k].toNat ≤ 90 then s[k].toNat + 32 else s[k].toNat) := small_nat _
      have HK : Hid (Bytes (wr.setCell ⟨w.heap.size, k, none⟩ (.int .u8 ((smallB s[k]).toNat : Int))) w.heap.size s (k + 1)) := H1.out.step hlt
      have HN : Hid (smallB s[k] = s[k] → Bytes wr w.heap.size s (k + 1)) := H1.out.stay hlt
      have HE : Hid ((smallB s[k]).toNat = s[k].toNat → smallB s[k] = s[k]) := fun h => UInt8.toNat_inj.1 h
      generalize hn : s[k].toNat = n at *
      clear hn
      by_cases h65 : 65 ≤ n
      · by_cases h90 : n ≤ 90
        · have h65' : (65 : Int) ≤ (n : Int) := by omega
          have h90' : (n : Int) ≤ 90 := by omega
          go_wp2_with fail
          go_roundg (gk - 1)
          case measure => omega
          case rel =>
            refine ⟨k + 1, by omega, by congr 1, ?_, H2.out.setCell (Nat.le_refl _) _⟩
            have e := HS.out
            rw [if_pos ⟨h65, h90⟩] at e
            have := HK.out
            rw [e] at this
            first
            | exact this
            | (have e2 : ((n + 32 : Nat) : Int) = (n : Int) - 65 + 97 := by omega
               rw [e2] at this; exact this)
        · have h90' : (90 : Int) < (n : Int) := by omega
          have h65' : (65 : Int) ≤ (n : Int) := by omega
          go_wp2_with fail
          go_roundg (gk - 1)
          case measure => omega
          case rel => exact ⟨k + 1, by omega, by congr 1, HN.out (HE.out (by rw [HS.out, if_neg (by omega)])), H2.out⟩
      · have h65' : (n : Int) < 65 := by omega
        go_wp2_with fail
        go_roundg (gk - 1)
        case measure => omega
        case rel => exact ⟨k + 1, by omega, by congr 1, HN.out (HE.out (by rw [HS.out, if_neg (by omega)])), H2.out⟩
    · have hcv := H1.out.conv (cap := cap) (by omega)
      go_wp2_with fail
      go_ret
      exact ⟨rfl, H2.out⟩
set_option maxHeartbeats 1000000 in
theorem lower_r (s : ByteArray) (w : World) (hs : s.size ≤ 4000000) :
    Calls Try.prog 62 #[.string s] w fun e w' => e = .returned (.string (small s)) ∧ Below w.heap.size w w' := by
  obtain ⟨w1, cap, hrun, hbs, hsz⟩ := bytes_of s w
  have HB : Hid (Bytes w1 w.heap.size s 0) := hbs.1
  have HW : Hid (Below w.heap.size w w1) := hbs.2
  clear hbs
  go_enter Try.func62, Try.ntmps62
  go_wp2_with fail
  go_loopg [4] s.size (fun g v10 wr => ∃ k : Nat, k + g = s.size ∧ v10 = .int .i64 (k : Int) ∧ Aside (Bytes wr w.heap.size s k ∧ Below w.heap.size w wr))
  case atStart => exact ⟨0, by omega, rfl, HB.out, HW.out⟩
  case round =>
    obtain ⟨k, hk, rfl, hA⟩ := hrel
    have H1 : Hid (Bytes wr w.heap.size s k) := hA.out.1
    have H2 : Hid (Below w.heap.size w wr) := hA.out.2
    clear hA
    by_cases hlt : k < s.size
    · have hc : wr.cell? ⟨w.heap.size, k, none⟩ = some (.int .u8 (s[k].toNat : Int)) := by rw [H1.out.1 k hlt, if_neg (by omega)]
      have hf := H1.out.2.1 k hlt
      have hl := H1.out.2.2
      have hb : s[k].toNat < 256 := s[k].toNat_lt
      have HS : Hid ((smallB s[k]).toNat = if 65 ≤ s[k].toNat ∧ s[k].toNat ≤ 90 then s[k].toNat + 32 else s[k].toNat) := small_nat _
      have HK : Hid (Bytes (wr.setCell ⟨w.heap.size, k, none⟩ (.int .u8 ((smallB s[k]).toNat : Int))) w.heap.size s (k + 1)) := H1.out.step hlt
      have HN : Hid (smallB s[k] = s[k] → Bytes wr w.heap.size s (k + 1)) := H1.out.stay hlt
      have HE : Hid ((smallB s[k]).toNat = s[k].toNat → smallB s[k] = s[k]) := fun h => UInt8.toNat_inj.1 h
      generalize hn : s[k].toNat = n at *
      clear hn
      by_cases h65 : 65 ≤ n
      · by_cases h90 : n ≤ 90
        · have h65' : (65 : Int) ≤ (n : Int) := by omega
          have h90' : (n : Int) ≤ 90 := by omega
          go_wp2_with fail
          go_roundg (gk - 1)
          case measure => omega
          case rel =>
            refine ⟨k + 1, by omega, by congr 1, ?_, H2.out.setCell (Nat.le_refl _) _⟩
            have e := HS.out
            rw [if_pos ⟨h65, h90⟩] at e
            have := HK.out
            rw [e] at this
            first
            | exact this
            | (have e2 : ((n + 32 : Nat) : Int) = (n : Int) - 65 + 97 := by omega
               rw [e2] at this; exact this)
        · have h90' : (90 : Int) < (n : Int) := by omega
          have h65' : (65 : Int) ≤ (n : Int) := by omega
          go_wp2_with fail
          go_roundg (gk - 1)
          case measure => omega
          case rel => exact ⟨k + 1, by omega, by congr 1, HN.out (HE.out (by rw [HS.out, if_neg (by omega)])), H2.out⟩
      · have h65' : (n : Int) < 65 := by omega
        go_wp2_with fail
        go_roundg (gk - 1)
        case measure => omega
        case rel => exact ⟨k + 1, by omega, by congr 1, HN.out (HE.out (by rw [HS.out, if_neg (by omega)])), H2.out⟩
    · have hcv := H1.out.conv (cap := cap) (by omega)
      go_wp2_with fail
      go_ret
      exact ⟨rfl, H2.out⟩
end Go.Proofs.Ytlliliddljkbfaa
