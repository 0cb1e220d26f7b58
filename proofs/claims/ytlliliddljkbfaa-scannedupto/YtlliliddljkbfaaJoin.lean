/-
  texts.Join puts texts together.
-/
import Derived.Test.YtlliliddljkbfaaRows1
import Derived.Test.YtlliliddljkbfaaSpec
namespace Go.Proofs.Ytlliliddljkbfaa
open Go.RowKit
set_option maxRecDepth 100000

/-- Texts, one behind the other. -/
def joinB : List ByteArray → ByteArray
  | [] => ByteArray.empty
  | x :: r => x ++ joinB r
def total : List ByteArray → Nat
  | [] => 0
  | x :: r => x.size + total r
theorem total_append : ∀ (a b : List ByteArray), total (a ++ b) = total a + total b
  | [], b => by simp [total]
  | x :: a, b => by simp [total, total_append a b]; omega
theorem joinB_append : ∀ (a b : List ByteArray), joinB (a ++ b) = joinB a ++ joinB b
  | [], b => by simp [joinB]
  | x :: a, b => by simp [joinB, joinB_append a b, ByteArray.append_assoc]
theorem size_joinB : ∀ (a : List ByteArray), (joinB a).size = total a
  | [] => rfl
  | x :: a => by simp [joinB, total, size_joinB a]
theorem joinB_snoc (a : List ByteArray) (x : ByteArray) : joinB (a ++ [x]) = joinB a ++ x := by simp [joinB_append, joinB]
theorem take_snoc {α : Type} (l : List α) (k : Nat) (h : k < l.length) : l.take (k + 1) = l.take k ++ [l[k]] := by
  rw [List.take_succ_eq_append_getElem h]
theorem total_take_le (l : List ByteArray) (k : Nat) : total (l.take k) ≤ total l := by
  have := total_append (l.take k) (l.drop k)
  rw [List.take_append_drop] at this
  omega
theorem cells_joinB (a b : ByteArray) : byteCells (a ++ b) = byteCells a ++ byteCells b := by
  simp [byteCells, ByteArray.data_append]

set_option maxHeartbeats 1000000 in
theorem Join_some (ps : List ByteArray) (g cap base : Nat) (w : World) (h : w.ownsRow base 9 1 (.slice (some ⟨g, 0, none⟩) ps.length cap) ps.length (ps.map Value.string)) (hn : ps.length ≤ 1099511627776) (ht : total ps ≤ 1099511627776) :
    Calls Try.prog 46 #[.slice (some ⟨g, 0, none⟩) ps.length cap] w fun e w' => e = .returned (.string (joinB ps)) ∧ Below w.heap.size w w' := by
  have hcell : ∀ k (hk : k < ps.length), w.cell? ⟨g, k, none⟩ = some (.string ps[k]) := by
    intro k hk
    have := h.cells (g := g) rfl k (.string ps[k]) (by simp [hk])
    rwa [Addr.add_lit, Nat.zero_add] at this
  have hglt : g < w.heap.size := (h.lt g rfl).2
  clear h
  have HC : Hid (∀ k (hk : k < ps.length), w.cell? ⟨g, k, none⟩ = some (.string ps[k])) := hcell
  clear hcell
  obtain ⟨iU, hiU, hzU, hsU, hbU⟩ := info_u8
  have HI : Hid (Try.prog.info? 5 = some iU ∧ iU.zero = some (.int .u8 0) ∧ iU.size = 1 ∧ iU.bytes = 1) := ⟨hiU, hzU, hsU, hbU⟩
  clear hiU hzU hsU hbU
  go_enter Try.func46, Try.ntmps46
  go_wp2_with fail
  go_loopg [3, 11] ps.length (fun gg v3 v11 wr => ∃ k : Nat, k + gg = ps.length ∧ v11 = .int .i64 (k : Int) ∧ v3 = .int .i64 (total (ps.take k) : Int) ∧ Aside (w = wr))
  case atStart => exact ⟨0, by omega, rfl, rfl, rfl⟩
  case round =>
    obtain ⟨k, hk, rfl, rfl, hA⟩ := hrel
    obtain rfl := hA.out
    clear hA
    have hle := total_take_le ps k
    by_cases hlt : k < ps.length
    · have hc := HC.out k hlt
      have hT : Hid (total (ps.take (k + 1)) = total (ps.take k) + ps[k].size) := by
        show _ = _
        rw [take_snoc ps k hlt, total_append]; simp [total]
      have hle2 := total_take_le ps (k + 1)
      have hsz : ps[k].size ≤ 1099511627776 := by have := hT.out; omega
      clear hle2
      go_wp2_with fail
      go_roundg (gk - 1)
      case measure => omega
      case rel => exact ⟨k + 1, by omega, by congr 1, by rw [hT.out]; congr 1, rfl⟩
    · have hk2 : Hid (k = ps.length) := by show k = _; omega
      have hT : Hid (ps.take k = ps) := by show _ = _; rw [hk2.out]; simp
      have hsum : Hid (total (ps.take k) = total ps) := by show _ = _; rw [hT.out]
      generalize hm : total (ps.take k) = m at *
      have Hm : Hid (m = total ps) := hsum.out
      clear hm hsum hT
      have hmle : m ≤ 1099511627776 := by omega
      go_wp2_with (at_make; refine wpList_make_own _ rfl _ _ 48 rfl w.heap.size 5 iU (.int .u8 0) 1 Try.underlying48 HI.out.1 HI.out.2.1 HI.out.2.2.1 _ _ _ m rfl rfl rfl ?_ ?_ ?_ ?_)
      · rw [HI.out.2.2.2]; omega
      · unfold maxLen; omega
      · exact Nat.le_refl _
      intro w1 hown1 hgr1
      have hb1 : Below w.heap.size w w1 := (Below.refl _ _).grown hgr1 (Nat.le_refl _) (fun _ h => by cases h)
      have HB1 : Hid (Below w.heap.size w w1) := hb1
      have HO1 : Hid (w1.ownsRow w.heap.size 5 1 (.slice (some ⟨w.heap.size, 0, none⟩) 0 m) 0 []) := hown1
      clear hown1 hgr1 hb1
      go_wp2_with fail
      go_loopg [6, 24] ps.length (fun gg v6 v24 w2 => ∃ j : Nat, j + gg = ps.length ∧ v24 = .int .i64 (j : Int) ∧ v6 = .slice (some ⟨w.heap.size, 0, none⟩) (total (ps.take j)) m ∧
        Aside (w2.ownsRow w.heap.size 5 1 (.slice (some ⟨w.heap.size, 0, none⟩) (total (ps.take j)) m) (total (ps.take j)) (byteCells (joinB (ps.take j))) ∧ Below w.heap.size w w2))
      case atStart => exact ⟨0, by omega, rfl, rfl, HO1.out, HB1.out⟩
      case round =>
        obtain ⟨j, hj, rfl, rfl, hA⟩ := hrel
        have HO : Hid (wr.ownsRow w.heap.size 5 1 (.slice (some ⟨w.heap.size, 0, none⟩) (total (ps.take j)) m) (total (ps.take j)) (byteCells (joinB (ps.take j)))) := hA.out.1
        have HB : Hid (Below w.heap.size w wr) := hA.out.2
        clear hA
        have hle2 := total_take_le ps j
        by_cases hlt2 : j < ps.length
        · have hc : wr.cell? ⟨g, j, none⟩ = some (.string ps[j]) := by
            rw [HB.out.cell (p := ⟨g, j, none⟩) hglt]; exact HC.out j hlt2
          have hT : Hid (total (ps.take (j + 1)) = total (ps.take j) + ps[j].size) := by
            show _ = _
            rw [take_snoc ps j hlt2, total_append]; simp [total]
          have hle3 : total (ps.take j) + ps[j].size ≤ m := by
            have h1 := total_take_le ps (j + 1)
            have h2 := hT.out
            have h3 := Hm.out
            omega
          generalize hpj : ps[j] = q at *
          generalize htj : total (ps.take j) = tj at *
          have Hpj : Hid (ps[j] = q) := hpj
          have Htj : Hid (total (ps.take j) = tj) := htj
          clear hpj htj
          go_wp2_with (at_builtin; refine wpList_append_str _ rfl _ _ 48 9 rfl w.heap.size 5 iU Try.underlying48 Try.underlying9 HI.out.1 HI.out.2.2.1 w.heap.size tj m (byteCells (joinB (ps.take j))) rfl HO.out q rfl hle3 ?_)
          intro w3 hown3 hgr3
          have HO3 : Hid (w3.ownsRow w.heap.size 5 1 (.slice (some ⟨w.heap.size, 0, none⟩) (tj + q.size) m) (tj + q.size) (byteCells (joinB (ps.take j)) ++ byteCells q)) := hown3
          have HB3 : Hid (Below w.heap.size w w3) := HB.out.grown hgr3 HB.out.size (fun k hk => by cases hk; exact Nat.le_refl _)
          clear hown3 hgr3
          go_wp2_with fail
          go_roundg (gk - 1)
          case measure => omega
          case rel =>
            refine ⟨j + 1, by omega, by congr 1, by rw [hT.out], ?_, HB3.out⟩
            rw [hT.out, take_snoc ps j hlt2, joinB_snoc, cells_joinB, Hpj.out]
            exact HO3.out
        · have hT : Hid (ps.take j = ps) := by show _ = _; rw [List.take_of_length_le (by omega)]
          have hcv : (convert 48 9 (.slice (some ⟨w.heap.size, 0, none⟩) (total (ps.take j)) m)).run Try.prog wr = .ok (.string (joinB ps)) wr := by
            have h1 := HO.out
            rw [hT.out] at h1 ⊢
            rw [byteCells_map] at h1
            have h2 := conv_own (P := Try.prog) wr 48 9 5 Try.underlying48 Try.underlying5 Try.underlying9 (base := w.heap.size) (v := .slice (some ⟨w.heap.size, 0, none⟩) (total ps) m) (joinB ps).data.toList (by
              have e : (joinB ps).data.toList.length = total ps := by rw [← size_joinB]; rfl
              rw [e]; exact h1)
            simpa using h2
          go_wp2_with fail
          go_ret
          exact ⟨rfl, HB.out⟩

set_option maxHeartbeats 1000000 in
theorem Join_none (w : World) : Calls Try.prog 46 #[.slice none 0 0] w fun e w' => e = .returned (.string ByteArray.empty) ∧ Below w.heap.size w w' := by
  obtain ⟨iU, hiU, hzU, hsU, hbU⟩ := info_u8
  have HI : Hid (Try.prog.info? 5 = some iU ∧ iU.zero = some (.int .u8 0) ∧ iU.size = 1 ∧ iU.bytes = 1) := ⟨hiU, hzU, hsU, hbU⟩
  clear hiU hzU hsU hbU
  go_enter Try.func46, Try.ntmps46
  go_wp2_with fail
  go_loopg [3, 11] 0 (fun gg v3 v11 wr => v11 = .int .i64 0 ∧ v3 = .int .i64 0 ∧ Aside (w = wr))
  case atStart => exact ⟨rfl, rfl, rfl⟩
  case round =>
    obtain ⟨rfl, rfl, hA⟩ := hrel
    obtain rfl := hA.out
    clear hA
    go_wp2_with (at_make; refine wpList_make_own _ rfl _ _ 48 rfl w.heap.size 5 iU (.int .u8 0) 1 Try.underlying48 HI.out.1 HI.out.2.1 HI.out.2.2.1 _ _ _ 0 rfl rfl rfl ?_ ?_ ?_ ?_)
    · omega
    · unfold maxLen; omega
    · exact Nat.le_refl _
    intro w1 hown1 hgr1
    have HB1 : Hid (Below w.heap.size w w1) := (Below.refl _ _).grown hgr1 (Nat.le_refl _) (fun _ h => by cases h)
    have HO1 : Hid (w1.ownsRow w.heap.size 5 1 (.slice (some ⟨w.heap.size, 0, none⟩) 0 0) 0 []) := hown1
    clear hown1 hgr1
    go_wp2_with fail
    go_loopg [6, 24] 0 (fun gg v6 v24 w2 => v24 = .int .i64 0 ∧ v6 = .slice (some ⟨w.heap.size, 0, none⟩) 0 0 ∧ Aside (w1 = w2))
    case atStart => exact ⟨rfl, rfl, rfl⟩
    case round =>
      obtain ⟨rfl, rfl, hA⟩ := hrel
      obtain rfl := hA.out
      clear hA
      have hcv : (convert 48 9 (.slice (some ⟨w.heap.size, 0, none⟩) 0 0)).run Try.prog w1 = .ok (.string ByteArray.empty) w1 :=
        conv_own (P := Try.prog) w1 48 9 5 Try.underlying48 Try.underlying5 Try.underlying9 (base := w.heap.size) (v := .slice (some ⟨w.heap.size, 0, none⟩) 0 0) [] HO1.out
      go_wp2_with fail
      go_ret
      exact ⟨rfl, HB1.out⟩

/-- Join of an owned list of texts. -/
theorem Join_c (ps : List ByteArray) (base : Nat) (v : Value) (w : World) (h : w.ownsRow base 9 1 v ps.length (ps.map Value.string)) (hn : ps.length ≤ 1099511627776) (ht : total ps ≤ 1099511627776) :
    Calls Try.prog 46 #[v] w fun e w' => e = .returned (.string (joinB ps)) ∧ Below w.heap.size w w' := by
  rcases h.2 with ⟨rfl, h0⟩ | ⟨g, cap, cur, rfl, _⟩
  · have : ps = [] := List.eq_nil_of_length_eq_zero h0
    subst this
    exact Join_none w
  · exact Join_some ps g cap base w h hn ht
end Go.Proofs.Ytlliliddljkbfaa
