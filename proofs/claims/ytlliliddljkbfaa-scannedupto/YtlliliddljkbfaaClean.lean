/-
  clean: one kind of line end, no byte 0: the program's way.
-/
import Derived.Test.YtlliliddljkbfaaRows1
import Derived.Test.YtlliliddljkbfaaSpecLaws
import Derived.Test.YtlliliddljkbfaaBase
namespace Go.Proofs.Ytlliliddljkbfaa
open Go.RowKit Sp
set_option maxRecDepth 100000

def u8s (l : List UInt8) : List Value := l.map fun b => Value.int .u8 (b.toNat : Int)
theorem u8s_append (a b : List UInt8) : u8s (a ++ b) = u8s a ++ u8s b := by simp [u8s]
theorem u8s_one (b : UInt8) : u8s [b] = [Value.int .u8 (b.toNat : Int)] := rfl
theorem u8s_length (l : List UInt8) : (u8s l).length = l.length := by simp [u8s]
theorem u8_oneCell (n : Int) : ∀ u ∈ [Value.int .u8 n], u.oneCell' = true := by simp [Value.oneCell']
theorem clB_len (s : ByteArray) (i : Nat) : (clB s i).length ≤ 1 := by
  unfold clB
  split
  · split
    · simp
    · split
      · simp
      · split <;> simp
  · simp
theorem cleanTo_len (s : ByteArray) : ∀ k, (cleanTo s k).length ≤ k
  | 0 => by simp [cleanTo]
  | k + 1 => by
    have := cleanTo_len s k
    have := clB_len s k
    simp [cleanTo]; omega
theorem clean_size (s : ByteArray) : (clean s).size ≤ s.size := by
  have := cleanTo_len s s.size
  show (cleanTo s s.size).toArray.size ≤ s.size
  simpa using this
theorem byte_at {s : ByteArray} {k : Nat} (h : k < s.size) (n : Nat) (hn : n < 256) : s[k] = UInt8.ofNat n ↔ pk s k = (n : Int) := by
  rw [pk_in h]
  constructor
  · intro e; rw [e]; simp; omega
  · intro e
    apply UInt8.toNat_inj.1
    simp; omega
theorem b13 {s : ByteArray} {k : Nat} (h : k < s.size) : s[k] = 13 ↔ pk s k = 13 := byte_at h 13 (by omega)
theorem b12 {s : ByteArray} {k : Nat} (h : k < s.size) : s[k] = 12 ↔ pk s k = 12 := byte_at h 12 (by omega)
theorem b00 {s : ByteArray} {k : Nat} (h : k < s.size) : s[k] = 0 ↔ pk s k = 0 := byte_at h 0 (by omega)
/-- What comes of a byte, by its number. -/
theorem clB_eq {s : ByteArray} {k : Nat} (h : k < s.size) : clB s k = if pk s k = 13 ∧ pk s (k + 1) = 10 then [] else if pk s k = 13 ∨ pk s k = 12 then [10] else if pk s k = 0 then [63] else [s[k]] := by
  unfold clB
  rw [dif_pos h]
  simp only [b13 h, b12 h, b00 h]
theorem clB_skip {s : ByteArray} {k : Nat} (h : k < s.size) (h1 : pk s k = 13) (h2 : pk s (k + 1) = 10) : clB s k = [] := by
  rw [clB_eq h, if_pos ⟨h1, h2⟩]
theorem clB_line {s : ByteArray} {k : Nat} (h : k < s.size) (h1 : pk s k = 13 ∨ pk s k = 12) (h2 : ¬ (pk s k = 13 ∧ pk s (k + 1) = 10)) : clB s k = [10] := by
  rw [clB_eq h, if_neg h2, if_pos h1]
theorem clB_nul {s : ByteArray} {k : Nat} (h : k < s.size) (h1 : pk s k = 0) : clB s k = [63] := by
  rw [clB_eq h, if_neg (by omega), if_neg (by omega), if_pos h1]
theorem clB_else {s : ByteArray} {k : Nat} (h : k < s.size) (h1 : pk s k ≠ 13) (h2 : pk s k ≠ 12) (h3 : pk s k ≠ 0) : clB s k = [s[k]] := by
  rw [clB_eq h, if_neg (by omega), if_neg (by omega), if_neg h3]

set_option maxHeartbeats 3000000 in
theorem clean_c (s : ByteArray) (w : World) (hs : s.size ≤ 600) :
    Calls Try.prog 11 #[.string s] w fun e w' => e = .returned (.string (Sp.clean s)) ∧ Below w.heap.size w w' := by
  obtain ⟨iU, hiU, hzU, hsU, hbU⟩ := info_u8
  have HI : Hid (Try.prog.info? 5 = some iU ∧ iU.zero = some (.int .u8 0) ∧ iU.size = 1 ∧ iU.bytes = 1) := ⟨hiU, hzU, hsU, hbU⟩
  clear hiU hzU hsU hbU
  go_enter Try.func11, Try.ntmps11
  go_wp2_with (at_make; refine wpList_make_own _ rfl _ _ 48 rfl w.heap.size 5 iU (.int .u8 0) 1 Try.underlying48 HI.out.1 HI.out.2.1 HI.out.2.2.1 _ _ _ s.size rfl rfl rfl ?_ ?_ ?_ ?_)
  · rw [HI.out.2.2.2]; omega
  · unfold maxLen; omega
  · exact Nat.le_refl _
  intro w1 hown1 hgr1
  have HB1 : Hid (Below w.heap.size w w1) := (Below.refl _ _).grown hgr1 (Nat.le_refl _) (fun _ h => by cases h)
  have HO1 : Hid (w1.ownsRow w.heap.size 5 1 (.slice (some ⟨w.heap.size, 0, none⟩) 0 s.size) 0 []) := hown1
  clear hown1 hgr1
  go_wp2_with fail
  go_loopg [3, 11] s.size (fun g v3 v11 wr => ∃ (v : Value) (k : Nat), v = v3 ∧ k + g = s.size ∧ v11 = .int .i64 (k : Int) ∧ Aside (wr.ownsRow w.heap.size 5 1 v (cleanTo s k).length (u8s (cleanTo s k)) ∧ Below w.heap.size w wr))
  case atStart => exact ⟨_, 0, rfl, by omega, rfl, HO1.out, HB1.out⟩
  case round =>
    obtain ⟨v3, k, rfl, hk, rfl, hA⟩ := hrel
    have HO : Hid (wr.ownsRow w.heap.size 5 1 v3 (cleanTo s k).length (u8s (cleanTo s k))) := hA.out.1
    have HB : Hid (Below w.heap.size w wr) := hA.out.2
    clear hA
    have hcl := cleanTo_len s k
    by_cases hlt : k < s.size
    · have hix := index_pk s k hlt
      have hsz := HB.out.size
      have hnn := pk_nn hlt
      have hhi := pk_hi s k
      have HT : Hid (cleanTo s (k + 1) = cleanTo s k ++ clB s k) := rfl
      by_cases h13 : pk s k = 13
      · have e1 : (pk s k == 13) = true := by rw [h13]; rfl
        by_cases hnx : k + 1 < s.size
        · have hnx' : (k : Int) + 1 < (s.size : Int) := by omega
          have hix2 : ∀ w : World, (Instr.index 9 (.string s) (.int .i64 ((k : Int) + 1))).run Try.prog w = .ok (.int .u8 (pk s (k + 1))) w := fun w => index_pk s (k + 1) hnx w
          by_cases h10 : pk s (k + 1) = 10
          · have e2 : (pk s (k + 1) == 10) = true := by rw [h10]; rfl
            have HC : Hid (cleanTo s (k + 1) = cleanTo s k) := by show _ = _; rw [HT.out, clB_skip hlt h13 h10, List.append_nil]
            clear h13 h10
            go_wp2_with fail
            go_roundg (gk - 1)
            case measure => omega
            case rel => exact ⟨v3, k + 1, rfl, by omega, by congr 1, by rw [HC.out]; exact HO.out, HB.out⟩
          · have e2 : (pk s (k + 1) == 10) = false := by simpa using h10
            have HC : Hid (cleanTo s (k + 1) = cleanTo s k ++ [10]) := by show _ = _; rw [HT.out, clB_line hlt (.inl h13) (fun h => h10 h.2)]
            clear h13 h10
            go_wp2_with (at_builtin; refine wpList_append_own _ rfl _ _ 48 rfl w.heap.size 5 iU (.int .u8 0) 1 1 Try.underlying48 HI.out.1 HI.out.2.1 HI.out.2.2.1 HI.out.2.2.2 rfl (by omega) v3 (cleanTo s k).length (u8s (cleanTo s k)) rfl (HO.out.alloc _) ⟨wr.heap.size, 0, none⟩ 1 1 [.int .u8 (10)] rfl rfl (cell_one_new _ _ _) (u8_oneCell _) ?_ ?_ ?_ ?_)
            · unfold maxLen; omega
            · omega
            · first | omega | (simp; omega)
            intro v4 w2 hown2 hgr2 _
            have HO2 : Hid (w2.ownsRow w.heap.size 5 1 v4 ((cleanTo s k).length + 1) (u8s (cleanTo s k) ++ [.int .u8 (10)])) := hown2
            have HB2 : Hid (Below w.heap.size w w2) := (HB.out.alloc hsz _).grown hgr2 (by first | omega | (simp; omega)) (fun r hr => (HO.out.lt r hr).1)
            clear hown2 hgr2
            go_wp2_with fail
            go_roundg (gk - 1)
            case measure => omega
            case rel =>
              refine ⟨v4, k + 1, rfl, by omega, by congr 1, ?_, HB2.out⟩
              rw [HC.out, u8s_append, List.length_append]
              exact HO2.out
        · have hnx' : (s.size : Int) ≤ (k : Int) + 1 := by omega
          have HC : Hid (cleanTo s (k + 1) = cleanTo s k ++ [10]) := by show _ = _; rw [HT.out, clB_line hlt (.inl h13) (fun h => by have := pk_lt (s := s) (i := k + 1) (by omega); omega)]
          clear h13
          go_wp2_with (at_builtin; refine wpList_append_own _ rfl _ _ 48 rfl w.heap.size 5 iU (.int .u8 0) 1 1 Try.underlying48 HI.out.1 HI.out.2.1 HI.out.2.2.1 HI.out.2.2.2 rfl (by omega) v3 (cleanTo s k).length (u8s (cleanTo s k)) rfl (HO.out.alloc _) ⟨wr.heap.size, 0, none⟩ 1 1 [.int .u8 (10)] rfl rfl (cell_one_new _ _ _) (u8_oneCell _) ?_ ?_ ?_ ?_)
          · unfold maxLen; omega
          · omega
          · first | omega | (simp; omega)
          intro v4 w2 hown2 hgr2 _
          have HO2 : Hid (w2.ownsRow w.heap.size 5 1 v4 ((cleanTo s k).length + 1) (u8s (cleanTo s k) ++ [.int .u8 (10)])) := hown2
          have HB2 : Hid (Below w.heap.size w w2) := (HB.out.alloc hsz _).grown hgr2 (by first | omega | (simp; omega)) (fun r hr => (HO.out.lt r hr).1)
          clear hown2 hgr2
          go_wp2_with fail
          go_roundg (gk - 1)
          case measure => omega
          case rel =>
            refine ⟨v4, k + 1, rfl, by omega, by congr 1, ?_, HB2.out⟩
            rw [HC.out, u8s_append, List.length_append]
            exact HO2.out
      · have e1 : (pk s k == 13) = false := by simpa using h13
        by_cases h12 : pk s k = 12
        · have e2 : (pk s k == 12) = true := by rw [h12]; rfl
          have HC : Hid (cleanTo s (k + 1) = cleanTo s k ++ [10]) := by show _ = _; rw [HT.out, clB_line hlt (.inr h12) (fun h => h13 h.1)]
          clear h13 h12
          go_wp2_with (at_builtin; refine wpList_append_own _ rfl _ _ 48 rfl w.heap.size 5 iU (.int .u8 0) 1 1 Try.underlying48 HI.out.1 HI.out.2.1 HI.out.2.2.1 HI.out.2.2.2 rfl (by omega) v3 (cleanTo s k).length (u8s (cleanTo s k)) rfl (HO.out.alloc _) ⟨wr.heap.size, 0, none⟩ 1 1 [.int .u8 (10)] rfl rfl (cell_one_new _ _ _) (u8_oneCell _) ?_ ?_ ?_ ?_)
          · unfold maxLen; omega
          · omega
          · first | omega | (simp; omega)
          intro v4 w2 hown2 hgr2 _
          have HO2 : Hid (w2.ownsRow w.heap.size 5 1 v4 ((cleanTo s k).length + 1) (u8s (cleanTo s k) ++ [.int .u8 (10)])) := hown2
          have HB2 : Hid (Below w.heap.size w w2) := (HB.out.alloc hsz _).grown hgr2 (by first | omega | (simp; omega)) (fun r hr => (HO.out.lt r hr).1)
          clear hown2 hgr2
          go_wp2_with fail
          go_roundg (gk - 1)
          case measure => omega
          case rel =>
            refine ⟨v4, k + 1, rfl, by omega, by congr 1, ?_, HB2.out⟩
            rw [HC.out, u8s_append, List.length_append]
            exact HO2.out
        · have e2 : (pk s k == 12) = false := by simpa using h12
          by_cases h0 : pk s k = 0
          · have e3 : (pk s k == 0) = true := by rw [h0]; rfl
            have HC : Hid (cleanTo s (k + 1) = cleanTo s k ++ [63]) := by show _ = _; rw [HT.out, clB_nul hlt h0]
            clear h13 h12 h0
            go_wp2_with (at_builtin; refine wpList_append_own _ rfl _ _ 48 rfl w.heap.size 5 iU (.int .u8 0) 1 1 Try.underlying48 HI.out.1 HI.out.2.1 HI.out.2.2.1 HI.out.2.2.2 rfl (by omega) v3 (cleanTo s k).length (u8s (cleanTo s k)) rfl (HO.out.alloc _) ⟨wr.heap.size, 0, none⟩ 1 1 [.int .u8 (63)] rfl rfl (cell_one_new _ _ _) (u8_oneCell _) ?_ ?_ ?_ ?_)
            · unfold maxLen; omega
            · omega
            · first | omega | (simp; omega)
            intro v4 w2 hown2 hgr2 _
            have HO2 : Hid (w2.ownsRow w.heap.size 5 1 v4 ((cleanTo s k).length + 1) (u8s (cleanTo s k) ++ [.int .u8 (63)])) := hown2
            have HB2 : Hid (Below w.heap.size w w2) := (HB.out.alloc hsz _).grown hgr2 (by first | omega | (simp; omega)) (fun r hr => (HO.out.lt r hr).1)
            clear hown2 hgr2
            go_wp2_with fail
            go_roundg (gk - 1)
            case measure => omega
            case rel =>
              refine ⟨v4, k + 1, rfl, by omega, by congr 1, ?_, HB2.out⟩
              rw [HC.out, u8s_append, List.length_append]
              exact HO2.out
          · have e3 : (pk s k == 0) = false := by simpa using h0
            have HC : Hid (cleanTo s (k + 1) = cleanTo s k ++ [s[k]]) := by show _ = _; rw [HT.out, clB_else hlt h13 h12 h0]
            have HP : Hid (pk s k = (s[k].toNat : Int)) := pk_in hlt
            clear h13 h12 h0
            go_wp2_with (at_builtin; refine wpList_append_own _ rfl _ _ 48 rfl w.heap.size 5 iU (.int .u8 0) 1 1 Try.underlying48 HI.out.1 HI.out.2.1 HI.out.2.2.1 HI.out.2.2.2 rfl (by omega) v3 (cleanTo s k).length (u8s (cleanTo s k)) rfl (HO.out.alloc _) ⟨wr.heap.size, 0, none⟩ 1 1 [.int .u8 (pk s k)] rfl rfl (cell_one_new _ _ _) (u8_oneCell _) ?_ ?_ ?_ ?_)
            · unfold maxLen; omega
            · omega
            · first | omega | (simp; omega)
            intro v4 w2 hown2 hgr2 _
            have HO2 : Hid (w2.ownsRow w.heap.size 5 1 v4 ((cleanTo s k).length + 1) (u8s (cleanTo s k) ++ [.int .u8 (pk s k)])) := hown2
            have HB2 : Hid (Below w.heap.size w w2) := (HB.out.alloc hsz _).grown hgr2 (by first | omega | (simp; omega)) (fun r hr => (HO.out.lt r hr).1)
            clear hown2 hgr2
            go_wp2_with fail
            go_roundg (gk - 1)
            case measure => omega
            case rel =>
              refine ⟨v4, k + 1, rfl, by omega, by congr 1, ?_, HB2.out⟩
              rw [HC.out, u8s_append, List.length_append]
              have h2 := HO2.out
              rw [HP.out] at h2
              exact h2
    · have hcv : (convert 48 9 v3).run Try.prog wr = .ok (.string (Sp.clean s)) wr := by
        have e : k = s.size := by omega
        have h1 := HO.out
        rw [e] at h1
        exact conv_own (P := Try.prog) wr 48 9 5 Try.underlying48 Try.underlying5 Try.underlying9 (cleanTo s s.size) h1
      go_wp2_with fail
      go_ret
      exact ⟨rfl, HB.out⟩
end Go.Proofs.Ytlliliddljkbfaa
