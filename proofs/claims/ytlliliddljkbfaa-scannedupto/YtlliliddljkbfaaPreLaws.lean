/-
  Plain laws: a text that stands at a place; the end of a comment.
-/
import Derived.Test.YtlliliddljkbfaaSpecLaws
import Derived.Lib.Index
import Derived.Lib.IndexBytes
import Derived.Lib.Strings
namespace Go.Proofs.Ytlliliddljkbfaa.Sp
open Go

/-- Do these bytes stand at a place? -/
def pre (s : ByteArray) : Nat → List UInt8 → Bool
  | _, [] => true
  | i, a :: r => pk s i == (a.toNat : Int) && pre s (i + 1) r

theorem drop_cons {s : ByteArray} {i : Nat} (h : i < s.size) : s.data.toList.drop i = s[i] :: s.data.toList.drop (i + 1) := by
  rw [List.drop_eq_getElem_cons (by simpa using h)]; rfl
theorem byte_eq (a b : UInt8) : ((a.toNat : Int) == (b.toNat : Int)) = (b == a) := by
  rw [Bool.eq_iff_iff]
  simp only [beq_iff_eq]
  constructor
  · intro h; exact (UInt8.toNat_inj.1 (by omega)).symm
  · intro h; rw [h]
theorem pre_drop (s : ByteArray) : ∀ (l : List UInt8) (i : Nat), l.isPrefixOf (s.data.toList.drop i) = pre s i l
  | [], i => by simp [pre]
  | a :: r, i => by
    by_cases h : i < s.size
    · rw [drop_cons h, List.isPrefixOf, pre_drop s r (i + 1), pre, pk_in h, byte_eq]
    · have : s.data.toList.drop i = [] := List.drop_eq_nil_of_le (by simpa using h)
      rw [this, pre, pk_out (by omega)]
      have : ((-1 : Int) == (a.toNat : Int)) = false := by rw [beq_eq_false_iff_ne]; omega
      rw [this]
      simp
theorem has_pre (s : ByteArray) (i : Nat) (l : ByteArray) : Lib.hasPrefix (s.extract i s.size).data.toList l.data.toList = pre s i l.data.toList := by
  rw [Lib.extract_to_end, Lib.hasPrefix, pre_drop]
theorem pre_len {s : ByteArray} : ∀ {l : List UInt8} {i : Nat}, pre s i l = true → i ≤ s.size → i + l.length ≤ s.size
  | [], i, _, h => by simpa using h
  | a :: r, i, h, h0 => by
    simp only [pre, Bool.and_eq_true, beq_iff_eq] at h
    have h1 : i < s.size := pk_lt (by omega)
    have := pre_len h.2 (by omega)
    simp only [List.length_cons]; omega
/-- As the reference asks it. -/
theorem sees_pre (s : ByteArray) (i : Nat) (t : ByteArray) (hi : i ≤ s.size) : (decide (i + t.size ≤ s.size) && ((s.extract i (i + t.size)).toList == t.toList)) = pre s i t.data.toList := by
  have ht : t.toList = t.data.toList := by rw [ByteArray.toList_eq]
  have he : (s.extract i (i + t.size)).toList = (s.data.toList.drop i).take t.size := by
    rw [ByteArray.toList_eq, Lib.extract_data]; congr 1; omega
  have hts : t.data.toList.length = t.size := rfl
  rw [ht, he, ← pre_drop, Bool.eq_iff_iff]
  simp only [Bool.and_eq_true, decide_eq_true_eq, beq_iff_eq, List.isPrefixOf_iff_prefix]
  constructor
  · rintro ⟨_, h2⟩
    rw [← h2]; exact List.take_prefix _ _
  · intro h
    have hl := h.length_le
    simp only [List.length_drop, Array.length_toList, hts] at hl
    have hsz : s.data.size = s.size := rfl
    refine ⟨by omega, ?_⟩
    have := List.prefix_iff_eq_take.1 h
    rw [hts] at this
    exact this.symm

theorem index_starF (s : ByteArray) : ∀ f k, s.size ≤ k + f → k ≤ s.size → Lib.index (s.data.toList.drop k) [42, 47] = if starF s f k < s.size then ((starF s f k : Nat) : Int) - k else -1
  | 0, k, h, h' => by
    have : s.data.toList.drop k = [] := List.drop_eq_nil_of_le (by simp; exact h)
    rw [this, starF, if_neg (by omega)]; rfl
  | f + 1, k, h, h' => by
    by_cases hk : k < s.size
    · have hp : ([42, 47] : List UInt8).isPrefixOf (s[k] :: s.data.toList.drop (k + 1)) = (pk s k == 42 && pk s (k + 1) == 47) := by
        rw [← drop_cons hk, pre_drop]; simp [pre]
      rw [drop_cons hk, Lib.index, hp]
      by_cases hs : pk s k = 42 ∧ pk s (k + 1) = 47
      · have e1 : starF s (f + 1) k = k := by unfold starF; rw [if_neg (fun h => h.2 hs)]
        have e2 : (pk s k == 42 && pk s (k + 1) == 47) = true := by simp [hs]
        rw [e1, e2, if_pos rfl, if_pos hk]; omega
      · have e1 : starF s (f + 1) k = starF s f (k + 1) := by conv => lhs; unfold starF
                                                              rw [if_pos ⟨hk, hs⟩]
        have e2 : (pk s k == 42 && pk s (k + 1) == 47) = false := by
          rw [Bool.eq_false_iff]; intro h; exact hs (by simpa using h)
        have hge := starF_ge s f (k + 1)
        rw [e1, e2, if_neg (by simp), index_starF s f (k + 1) (by omega) (by omega)]
        by_cases h2 : starF s f (k + 1) < s.size
        · rw [if_pos h2, if_pos h2, if_neg (by rw [beq_iff_eq]; omega)]; omega
        · rw [if_neg h2, if_neg h2, if_pos (by rfl)]
    · have hd : s.data.toList.drop k = [] := List.drop_eq_nil_of_le (by simp; omega)
      have hge := starF_ge s (f + 1) k
      rw [hd, if_neg (by omega)]; rfl
theorem index_star {s : ByteArray} {k : Nat} (h : k ≤ s.size) : Lib.index (s.extract k s.size).data.toList [42, 47] = if star s k < s.size then ((star s k : Nat) : Int) - k else -1 := by
  rw [Lib.extract_to_end]
  exact index_starF s s.size k (by omega) h
theorem index_star_in {s : ByteArray} {k : Nat} (h : k ≤ s.size) (h' : star s k < s.size) : Lib.index (s.extract k s.size).data.toList [42, 47] = ((star s k : Nat) : Int) - k := by
  rw [index_star h, if_pos h']
theorem index_star_out {s : ByteArray} {k : Nat} (h : k ≤ s.size) (h' : s.size ≤ star s k) : Lib.index (s.extract k s.size).data.toList [42, 47] = -1 := by
  rw [index_star h, if_neg (by omega)]
end Go.Proofs.Ytlliliddljkbfaa.Sp
