import Derived.Test.YtlliliddljkbfaaGreatC1
import Derived.Test.YtlliliddljkbfaaGreatC6
namespace Go.Proofs.YtlliliddljkbfaaGreat
set_option maxHeartbeats 64000000
set_option maxRecDepth 100000
open Go.RowKit
def joinB : List ByteArray → ByteArray
  | [] => ByteArray.empty
  | x :: r => x ++ joinB r
def total : List ByteArray → Nat
  | [] => 0
  | x :: r => x.size + total r
theorem total_append : ∀ (a b : List ByteArray), total (a ++ b) = total a + total b
  | [], b => by simp [total]
  | x :: a, b => by simp [total, total_append a b]; omega
theorem joinB_append : ∀ (a b : List ByteArray), joinB (a ++ b) = joinB a ++ joinB b
  | [], b => by simp [joinB]
  | x :: a, b => by simp [joinB, joinB_append a b, ByteArray.append_assoc]
theorem size_joinB : ∀ (a : List ByteArray), (joinB a).size = total a
  | [] => rfl
  | x :: a => by simp [joinB, total, size_joinB a]
theorem joinB_snoc (a : List ByteArray) (x : ByteArray) : joinB (a ++ [x]) = joinB a ++ x := by simp [joinB_append, joinB]
theorem take_snoc {α : Type} (l : List α) (k : Nat) (h : k < l.length) : l.take (k + 1) = l.take k ++ [l[k]] := by
  rw [List.take_succ_eq_append_getElem h]
theorem total_take_le (l : List ByteArray) (k : Nat) : total (l.take k) ≤ total l := by
  have := total_append (l.take k) (l.drop k)
  rw [List.take_append_drop] at this
  omega
theorem cells_joinB (a b : ByteArray) : byteCells (a ++ b) = byteCells a ++ byteCells b := by
  simp [byteCells, ByteArray.data_append]
theorem Join_some (ps : List ByteArray) (g cap base : Nat) (w : World) (h : w.ownsRow base 9 1 (.slice (some ⟨g, 0, none⟩) ps.length cap) ps.length (ps.map Value.string)) (hn : ps.length ≤ 1099511627776) (ht : total ps ≤ 1099511627776) :
    Calls Tryz.prog 72 #[.slice (some ⟨g, 0, none⟩) ps.length cap] w fun e w' => e = .returned (.string (joinB ps)) ∧ Below w.heap.size w w' := by
  have hcell : ∀ k (hk : k < ps.length), w.cell? ⟨g, k, none⟩ = some (.string ps[k]) := by
    intro k hk
    have := h.cells (g := g) rfl k (.string ps[k]) (by simp [hk])
    rwa [Addr.add_lit, Nat.zero_add] at this
  have hglt : g < w.heap.size := (h.lt g rfl).2
  clear h
  have HC : Hid (∀ k (hk : k < ps.length), w.cell? ⟨g, k, none⟩ = some (.string ps[k])) := hcell
  clear hcell
  obtain ⟨iU, hiU, hzU, hsU, hbU⟩ := info_u8
  have HI : Hid (Tryz.prog.info? 5 = some iU ∧ iU.zero = some (.int .u8 0) ∧ iU.size = 1 ∧ iU.bytes = 1) := ⟨hiU, hzU, hsU, hbU⟩
  clear hiU hzU hsU hbU
  go_enter Tryz.func72, Tryz.ntmps72
  go_wp2_with fail
  go_loopg [3, 11] ps.length (fun gg v3 v11 wr => ∃ k : Nat, k + gg = ps.length ∧ v11 = .int .i64 (k : Int) ∧ v3 = .int .i64 (total (ps.take k) : Int) ∧ Aside (w = wr))
  case atStart => exact ⟨0, by omega, rfl, rfl, rfl⟩
  case round =>
    obtain ⟨k, hk, rfl, rfl, hA⟩ := hrel
    obtain rfl := hA.out
    clear hA
    have hle := total_take_le ps k
    by_cases hlt : k < ps.length
    · have hc := HC.out k hlt
      have hT : Hid (total (ps.take (k + 1)) = total (ps.take k) + ps[k].size) := by
        show _ = _
        rw [take_snoc ps k hlt, total_append]; simp [total]
      have hle2 := total_take_le ps (k + 1)
      have hsz : ps[k].size ≤ 1099511627776 := by have := hT.out; omega
      clear hle2
      go_wp2_with fail
      go_roundg (gk - 1)
      case measure => omega
      case rel => exact ⟨k + 1, by omega, by congr 1, by rw [hT.out]; congr 1, rfl⟩
    · have hk2 : Hid (k = ps.length) := by show k = _; omega
      have hT : Hid (ps.take k = ps) := by show _ = _; rw [hk2.out]; simp
      have hsum : Hid (total (ps.take k) = total ps) := by show _ = _; rw [hT.out]
      generalize hm : total (ps.take k) = m at *
      have Hm : Hid (m = total ps) := hsum.out
      clear hm hsum hT
      have hmle : m ≤ 1099511627776 := by omega
      go_wp2_with (at_make; refine wpList_make_own _ rfl _ _ 145 rfl w.heap.size 5 iU (.int .u8 0) 1 Tryz.underlying145 HI.out.1 HI.out.2.1 HI.out.2.2.1 _ _ _ m rfl rfl rfl ?_ ?_ ?_ ?_)
      · rw [HI.out.2.2.2]; omega
      · unfold maxLen; omega
      · exact Nat.le_refl _
      intro w1 hown1 hgr1
      have hb1 : Below w.heap.size w w1 := (Below.refl _ _).grown hgr1 (Nat.le_refl _) (fun _ h => by cases h)
      have HB1 : Hid (Below w.heap.size w w1) := hb1
      have HO1 : Hid (w1.ownsRow w.heap.size 5 1 (.slice (some ⟨w.heap.size, 0, none⟩) 0 m) 0 []) := hown1
      clear hown1 hgr1 hb1
      go_wp2_with fail
      go_loopg [6, 24] ps.length (fun gg v6 v24 w2 => ∃ j : Nat, j + gg = ps.length ∧ v24 = .int .i64 (j : Int) ∧ v6 = .slice (some ⟨w.heap.size, 0, none⟩) (total (ps.take j)) m ∧
        Aside (w2.ownsRow w.heap.size 5 1 (.slice (some ⟨w.heap.size, 0, none⟩) (total (ps.take j)) m) (total (ps.take j)) (byteCells (joinB (ps.take j))) ∧ Below w.heap.size w w2))
      case atStart => exact ⟨0, by omega, rfl, rfl, HO1.out, HB1.out⟩
      case round =>
        obtain ⟨j, hj, rfl, rfl, hA⟩ := hrel
        have HO : Hid (wr.ownsRow w.heap.size 5 1 (.slice (some ⟨w.heap.size, 0, none⟩) (total (ps.take j)) m) (total (ps.take j)) (byteCells (joinB (ps.take j)))) := hA.out.1
        have HB : Hid (Below w.heap.size w wr) := hA.out.2
        clear hA
        have hle2 := total_take_le ps j
        by_cases hlt2 : j < ps.length
        · have hc : wr.cell? ⟨g, j, none⟩ = some (.string ps[j]) := by
            rw [HB.out.cell (p := ⟨g, j, none⟩) hglt]; exact HC.out j hlt2
          have hT : Hid (total (ps.take (j + 1)) = total (ps.take j) + ps[j].size) := by
            show _ = _
            rw [take_snoc ps j hlt2, total_append]; simp [total]
          have hle3 : total (ps.take j) + ps[j].size ≤ m := by
            have h1 := total_take_le ps (j + 1)
            have h2 := hT.out
            have h3 := Hm.out
            omega
          generalize hpj : ps[j] = q at *
          generalize htj : total (ps.take j) = tj at *
          have Hpj : Hid (ps[j] = q) := hpj
          have Htj : Hid (total (ps.take j) = tj) := htj
          clear hpj htj
          go_wp2_with (at_builtin; refine wpList_append_str _ rfl _ _ 145 9 rfl w.heap.size 5 iU Tryz.underlying145 Tryz.underlying9 HI.out.1 HI.out.2.2.1 w.heap.size tj m (byteCells (joinB (ps.take j))) rfl HO.out q rfl hle3 ?_)
          intro w3 hown3 hgr3
          have HO3 : Hid (w3.ownsRow w.heap.size 5 1 (.slice (some ⟨w.heap.size, 0, none⟩) (tj + q.size) m) (tj + q.size) (byteCells (joinB (ps.take j)) ++ byteCells q)) := hown3
          have HB3 : Hid (Below w.heap.size w w3) := HB.out.grown hgr3 HB.out.size (fun k hk => by cases hk; exact Nat.le_refl _)
          clear hown3 hgr3
          go_wp2_with fail
          go_roundg (gk - 1)
          case measure => omega
          case rel =>
            refine ⟨j + 1, by omega, by congr 1, by rw [hT.out], ?_, HB3.out⟩
            rw [hT.out, take_snoc ps j hlt2, joinB_snoc, cells_joinB, Hpj.out]
            exact HO3.out
        · have hT : Hid (ps.take j = ps) := by show _ = _; rw [List.take_of_length_le (by omega)]
          have hcv : (convert 145 9 (.slice (some ⟨w.heap.size, 0, none⟩) (total (ps.take j)) m)).run Tryz.prog wr = .ok (.string (joinB ps)) wr := by
            have h1 := HO.out
            rw [hT.out] at h1 ⊢
            rw [byteCells_map] at h1
            have h2 := conv_own (P := Tryz.prog) wr 145 9 5 Tryz.underlying145 Tryz.underlying5 Tryz.underlying9 (base := w.heap.size) (v := .slice (some ⟨w.heap.size, 0, none⟩) (total ps) m) (joinB ps).data.toList (by
              have e : (joinB ps).data.toList.length = total ps := by rw [← size_joinB]; rfl
              rw [e]; exact h1)
            simpa using h2
          go_wp2_with fail
          go_ret
          exact ⟨rfl, HB.out⟩
theorem Join_none (w : World) : Calls Tryz.prog 72 #[.slice none 0 0] w fun e w' => e = .returned (.string ByteArray.empty) ∧ Below w.heap.size w w' := by
  obtain ⟨iU, hiU, hzU, hsU, hbU⟩ := info_u8
  have HI : Hid (Tryz.prog.info? 5 = some iU ∧ iU.zero = some (.int .u8 0) ∧ iU.size = 1 ∧ iU.bytes = 1) := ⟨hiU, hzU, hsU, hbU⟩
  clear hiU hzU hsU hbU
  go_enter Tryz.func72, Tryz.ntmps72
  go_wp2_with fail
  go_loopg [3, 11] 0 (fun gg v3 v11 wr => v11 = .int .i64 0 ∧ v3 = .int .i64 0 ∧ Aside (w = wr))
  case atStart => exact ⟨rfl, rfl, rfl⟩
  case round =>
    obtain ⟨rfl, rfl, hA⟩ := hrel
    obtain rfl := hA.out
    clear hA
    go_wp2_with (at_make; refine wpList_make_own _ rfl _ _ 145 rfl w.heap.size 5 iU (.int .u8 0) 1 Tryz.underlying145 HI.out.1 HI.out.2.1 HI.out.2.2.1 _ _ _ 0 rfl rfl rfl ?_ ?_ ?_ ?_)
    · omega
    · unfold maxLen; omega
    · exact Nat.le_refl _
    intro w1 hown1 hgr1
    have HB1 : Hid (Below w.heap.size w w1) := (Below.refl _ _).grown hgr1 (Nat.le_refl _) (fun _ h => by cases h)
    have HO1 : Hid (w1.ownsRow w.heap.size 5 1 (.slice (some ⟨w.heap.size, 0, none⟩) 0 0) 0 []) := hown1
    clear hown1 hgr1
    go_wp2_with fail
    go_loopg [6, 24] 0 (fun gg v6 v24 w2 => v24 = .int .i64 0 ∧ v6 = .slice (some ⟨w.heap.size, 0, none⟩) 0 0 ∧ Aside (w1 = w2))
    case atStart => exact ⟨rfl, rfl, rfl⟩
    case round =>
      obtain ⟨rfl, rfl, hA⟩ := hrel
      obtain rfl := hA.out
      clear hA
      have hcv : (convert 145 9 (.slice (some ⟨w.heap.size, 0, none⟩) 0 0)).run Tryz.prog w1 = .ok (.string ByteArray.empty) w1 :=
        conv_own (P := Tryz.prog) w1 145 9 5 Tryz.underlying145 Tryz.underlying5 Tryz.underlying9 (base := w.heap.size) (v := .slice (some ⟨w.heap.size, 0, none⟩) 0 0) [] HO1.out
      go_wp2_with fail
      go_ret
      exact ⟨rfl, HB1.out⟩
theorem Join_c (ps : List ByteArray) (base : Nat) (v : Value) (w : World) (h : w.ownsRow base 9 1 v ps.length (ps.map Value.string)) (hn : ps.length ≤ 1099511627776) (ht : total ps ≤ 1099511627776) :
    Calls Tryz.prog 72 #[v] w fun e w' => e = .returned (.string (joinB ps)) ∧ Below w.heap.size w w' := by
  rcases h.2 with ⟨rfl, h0⟩ | ⟨g, cap, cur, rfl, _⟩
  · have : ps = [] := List.eq_nil_of_length_eq_zero h0
    subst this
    exact Join_none w
  · exact Join_some ps g cap base w h hn ht
end Go.Proofs.YtlliliddljkbfaaGreat
namespace Go.Proofs.YtlliliddljkbfaaGreat
set_option maxHeartbeats 64000000
set_option maxRecDepth 100000
open Go.RowKit Sp
theorem small_nat (c : UInt8) : (smallB c).toNat = if 65 ≤ c.toNat ∧ c.toNat ≤ 90 then c.toNat + 32 else c.toNat := by
  unfold smallB
  have h := c.toNat_lt
  by_cases h1 : 65 ≤ c ∧ c ≤ 90
  · rw [if_pos h1]
    have h2 : 65 ≤ c.toNat ∧ c.toNat ≤ 90 := by simpa [UInt8.le_iff_toNat_le] using h1
    rw [if_pos h2, UInt8.toNat_add]
    simp; omega
  · rw [if_neg h1, if_neg (by simpa [UInt8.le_iff_toNat_le] using h1)]
def Bytes (w : World) (g : Nat) (s : ByteArray) (k : Nat) : Prop :=
  (∀ j (hj : j < s.size), w.cell? ⟨g, j, none⟩ = some (.int .u8 (if j < k then ((smallB s[j]).toNat : Int) else (s[j].toNat : Int)))) ∧
  (∀ j, j < s.size → w.frozen? ⟨g, j, none⟩ = false) ∧ g < w.heap.size
theorem Bytes.step {w : World} {g : Nat} {s : ByteArray} {k : Nat} (h : Bytes w g s k) (hk : k < s.size) : Bytes (w.setCell ⟨g, k, none⟩ (.int .u8 ((smallB s[k]).toNat : Int))) g s (k + 1) := by
  refine ⟨fun j hj => ?_, fun j hj => ?_, by simpa [World.setCell] using h.2.2⟩
  · by_cases e : j = k
    · subst e
      rw [if_pos (by omega)]
      apply World.cell?_setCell_same
      exact h.1 j hj
    · have h1 := h.1 j hj
      have h2 : (w.setCell ⟨g, k, none⟩ (.int .u8 ((smallB s[k]).toNat : Int))).cell? ⟨g, j, none⟩ = w.cell? ⟨g, j, none⟩ := by
        apply World.cell?_setCell_other
        intro h0
        exact e (congrArg Addr.off h0).symm
      rw [h2, h1]
      congr 2
      by_cases h3 : j < k
      · rw [if_pos h3, if_pos (by omega)]
      · rw [if_neg h3, if_neg (by omega)]
  · have := h.2.1 j hj
    simpa using this
theorem Bytes.stay {w : World} {g : Nat} {s : ByteArray} {k : Nat} (h : Bytes w g s k) (hk : k < s.size) (e : smallB s[k] = s[k]) : Bytes w g s (k + 1) := by
  refine ⟨fun j hj => ?_, h.2.1, h.2.2⟩
  rw [h.1 j hj]
  congr 2
  by_cases h3 : j < k
  · rw [if_pos h3, if_pos (by omega)]
  · rw [if_neg h3]
    by_cases h4 : j < k + 1
    · obtain rfl : j = k := by omega
      rw [if_pos h4, e]
    · rw [if_neg h4]
theorem Bytes.conv {w : World} {g : Nat} {s : ByteArray} {k cap : Nat} (h : Bytes w g s k) (hk : s.size ≤ k) :
    (convert 145 9 (.slice (some ⟨g, 0, none⟩) s.size cap)).run Tryz.prog w = .ok (.string (small s)) w := by
  have hl : (s.data.toList.map smallB).length = s.size := by simp
  have := run_convert_bytes_back (P := Tryz.prog) w 145 9 5 ⟨g, 0, none⟩ cap (s.data.toList.map smallB) Tryz.underlying145 Tryz.underlying5 Tryz.underlying9 (by
    intro j hj
    rw [hl] at hj
    rw [Addr.add_lit, Nat.zero_add, h.1 j hj, if_pos (by omega)]
    simp
    rfl)
  rw [hl] at this
  exact this
theorem bytes_of (s : ByteArray) (w : World) : ∃ w1 cap, (convert 9 145 (.string s)).run Tryz.prog w = .ok (.slice (some ⟨w.heap.size, 0, none⟩) s.size cap) w1 ∧ (Bytes w1 w.heap.size s 0 ∧ Below w.heap.size w w1) ∧ w.heap.size < w1.heap.size := by
  refine ⟨_, _, run_bytes_of_string (P := Tryz.prog) w 9 145 5 s Tryz.underlying9 Tryz.underlying145 Tryz.underlying5, ⟨⟨?_, ?_, ?_⟩, ?_⟩, ?_⟩
  · intro j hj
    rw [if_neg (by omega)]
    have e := World.cell?_alloc_mark w.drew (bytesRow s (grownCap w s.size 0 5)) 5 ((bytesRow s (grownCap w s.size 0 5)).size, (bytesRow s (grownCap w s.size 0 5)).size + 1) j
    have e2 : w.drew.heap.size = w.heap.size := rfl
    rw [e2] at e
    rw [e]
    unfold bytesRow
    rw [Array.getElem?_append_left (by simpa using hj)]
    simp [hj]
    rfl
  · intro j hj
    have hsz : s.size ≤ (bytesRow s (grownCap w s.size 0 5)).size := by simp [bytesRow]
    unfold World.frozen?
    have e := heap_alloc_new w.drew (.cells (bytesRow s (grownCap w s.size 0 5)) 5 ((bytesRow s (grownCap w s.size 0 5)).size, (bytesRow s (grownCap w s.size 0 5)).size + 1))
    have e2 : w.drew.heap.size = w.heap.size := rfl
    rw [e2] at e
    rw [e]
    simp
    omega
  · simp
  · exact ((Below.refl _ w).drew).alloc (Nat.le_refl _) _
  · simp
theorem Small_c (s : ByteArray) (w : World) (hs : s.size ≤ 4000000) :
    Calls Tryz.prog 65 #[.string s] w fun e w' => e = .returned (.string (small s)) ∧ Below w.heap.size w w' := by
  obtain ⟨w1, cap, hrun, hbs, hsz⟩ := bytes_of s w
  have HB : Hid (Bytes w1 w.heap.size s 0) := hbs.1
  have HW : Hid (Below w.heap.size w w1) := hbs.2
  clear hbs
  go_enter Tryz.func65, Tryz.ntmps65
  go_wp2_with fail
  go_loopg [10] s.size (fun g v10 wr => ∃ k : Nat, k + g = s.size ∧ v10 = .int .i64 (k : Int) ∧ Aside (Bytes wr w.heap.size s k ∧ Below w.heap.size w wr))
  case atStart => exact ⟨0, by omega, rfl, HB.out, HW.out⟩
  case round =>
    obtain ⟨k, hk, rfl, hA⟩ := hrel
    have H1 : Hid (Bytes wr w.heap.size s k) := hA.out.1
    have H2 : Hid (Below w.heap.size w wr) := hA.out.2
    clear hA
    by_cases hlt : k < s.size
    · have hc : wr.cell? ⟨w.heap.size, k, none⟩ = some (.int .u8 (s[k].toNat : Int)) := by rw [H1.out.1 k hlt, if_neg (by omega)]
      have hf := H1.out.2.1 k hlt
      have hl := H1.out.2.2
      have hb : s[k].toNat < 256 := s[k].toNat_lt
      have HS : Hid ((smallB s[k]).toNat = if 65 ≤ s[k].toNat ∧ s[k].toNat ≤ 90 then s[k].toNat + 32 else s[k].toNat) := small_nat _
      have HK : Hid (Bytes (wr.setCell ⟨w.heap.size, k, none⟩ (.int .u8 ((smallB s[k]).toNat : Int))) w.heap.size s (k + 1)) := H1.out.step hlt
      have HN : Hid (smallB s[k] = s[k] → Bytes wr w.heap.size s (k + 1)) := H1.out.stay hlt
      have HE : Hid ((smallB s[k]).toNat = s[k].toNat → smallB s[k] = s[k]) := fun h => UInt8.toNat_inj.1 h
      generalize hn : s[k].toNat = n at *
      clear hn
      by_cases h65 : 65 ≤ n
      · by_cases h90 : n ≤ 90
        · have h65' : (65 : Int) ≤ (n : Int) := by omega
          have h90' : (n : Int) ≤ 90 := by omega
          go_wp2_with fail
          go_roundg (gk - 1)
          case measure => omega
          case rel =>
            refine ⟨k + 1, by omega, by congr 1, ?_, H2.out.setCell (Nat.le_refl _) _⟩
            have e := HS.out
            rw [if_pos ⟨h65, h90⟩] at e
            have := HK.out
            rw [e] at this
            first
            | exact this
            | (have e2 : ((n + 32 : Nat) : Int) = (n : Int) - 65 + 97 := (by omega); rw [e2] at this; exact this)
        · have h90' : (90 : Int) < (n : Int) := by omega
          have h65' : (65 : Int) ≤ (n : Int) := by omega
          go_wp2_with fail
          go_roundg (gk - 1)
          case measure => omega
          case rel => exact ⟨k + 1, by omega, by congr 1, HN.out (HE.out (by rw [HS.out, if_neg (by omega)])), H2.out⟩
      · have h65' : (n : Int) < 65 := by omega
        go_wp2_with fail
        go_roundg (gk - 1)
        case measure => omega
        case rel => exact ⟨k + 1, by omega, by congr 1, HN.out (HE.out (by rw [HS.out, if_neg (by omega)])), H2.out⟩
    · have hcv := H1.out.conv (cap := cap) (by omega)
      go_wp2_with fail
      go_ret
      exact ⟨rfl, H2.out⟩
section
attribute [local go_sem] fld_tok fld_ins fld_kind fld_word
def cmb (c : Nat) : Int := if c = 32 then 1 else if c = 62 then 2 else if c = 43 then 3 else if c = 126 then 4 else 0
theorem sign_nil (s : ByteArray) : signT (hdN []).t s = false := by simp [signT, hdN, Tok.k]
theorem combP_gt {l : List Nd} (h : signT (hdN (dropB l)).t (b1 62) = true) : combi l = some (62, dropB (dropB l).tail) := by
  unfold combi
  cases hd : dropB l with
  | nil => rw [hd, sign_nil] at h; cases h
  | cons n r =>
    rw [hd] at h
    simp only [hdN] at h
    simp [sgnN, h]
theorem combP_plus {l : List Nd} (h0 : signT (hdN (dropB l)).t (b1 62) = false) (h : signT (hdN (dropB l)).t (b1 43) = true) : combi l = some (43, dropB (dropB l).tail) := by
  unfold combi
  cases hd : dropB l with
  | nil => rw [hd, sign_nil] at h; cases h
  | cons n r =>
    rw [hd] at h h0
    simp only [hdN] at h h0
    simp [sgnN, h, h0]
theorem combP_tilde {l : List Nd} (h0 : signT (hdN (dropB l)).t (b1 62) = false) (h1 : signT (hdN (dropB l)).t (b1 43) = false) (h : signT (hdN (dropB l)).t (b1 126) = true) : combi l = some (126, dropB (dropB l).tail) := by
  unfold combi
  cases hd : dropB l with
  | nil => rw [hd, sign_nil] at h; cases h
  | cons n r =>
    rw [hd] at h h0 h1
    simp only [hdN] at h h0 h1
    simp [sgnN, h, h0, h1]
theorem combP_blank {l : List Nd} (h0 : signT (hdN (dropB l)).t (b1 62) = false) (h1 : signT (hdN (dropB l)).t (b1 43) = false) (h2 : signT (hdN (dropB l)).t (b1 126) = false) (h : (dropB l).length < l.length) : combi l = some (32, dropB l) := by
  unfold combi
  cases hd : dropB l with
  | nil =>
    have : l ≠ [] := by rintro rfl; simp at h
    simp [this]
  | cons n r =>
    rw [hd] at h h0 h1 h2
    simp only [hdN] at h0 h1 h2
    simp only [sgnN, h0, h1, h2]
    simp only [Bool.false_eq_true, if_false]
    rw [if_pos h]
theorem combP_none {l : List Nd} (h0 : signT (hdN (dropB l)).t (b1 62) = false) (h1 : signT (hdN (dropB l)).t (b1 43) = false) (h2 : signT (hdN (dropB l)).t (b1 126) = false) (h : ¬ (dropB l).length < l.length) : combi l = none := by
  unfold combi
  cases hd : dropB l with
  | nil =>
    have : l = [] := by rw [hd] at h; exact List.eq_nil_of_length_eq_zero (by simp only [List.length_nil] at h; omega)
    simp [this]
  | cons n r =>
    rw [hd] at h h0 h1 h2
    simp only [hdN] at h0 h1 h2
    simp only [sgnN, h0, h1, h2]
    simp only [Bool.false_eq_true, if_false]
    rw [if_neg h]
theorem combinator_c (B b : Nat) (sv : Value) (l : List Nd) (w : World) (h : Rdr B w b sv l) :
    Calls Tryz.prog 198 #[.pointer (some ⟨b, 0, none⟩)] w fun e w' => ∃ sv' l', Rdr B w' b sv' l' ∧ Turn b w w' ∧ (combi l = none ∧ e = .returned (.tuple #[.int .i64 0, .bool false]) ∨ ∃ c, combi l = some (c, l') ∧ e = .returned (.tuple #[.int .i64 (cmb c), .bool true])) := by
  have R1 : Hid (Rdr B w b sv l) := h
  clear h
  obtain ⟨d, Hd⟩ : ∃ d, Hid (dropB l = d) := ⟨_, hid rfl⟩
  obtain ⟨bl, Hbl⟩ : ∃ bl, Hid (decide (d.length < l.length) = bl) := ⟨_, hid rfl⟩
  go_enter Tryz.func198, Tryz.ntmps198
  go_wp2_with fail
  refine (rpass_c B b sv l _ R1.out).mono ?_
  rw [Hd.out, Hbl.out]
  rintro e w1 ⟨sv1, rfl, hR1, hT1⟩
  have R2 : Hid (Rdr B w1 b sv1 d) := hR1
  have T2 : Hid (Turn b w w1) := hT1
  clear hR1 hT1 R1
  go_wp2_with fail
  refine (takeSign_c B b sv1 d (b1 62) _ R2.out).mono ?_
  rintro e w2 ⟨sv2, rfl, hR2, hT2⟩
  have T3 : Hid (Turn b w w2) := T2.out.trans hT2
  clear hT2
  obtain ⟨s1, Hs1⟩ : ∃ s, Hid (signT (hdN d).t (b1 62) = s) := ⟨_, hid rfl⟩
  rw [Hs1.out]
  cases s1
  · have R3 : Hid (Rdr B w2 b sv2 d) := by have := hR2; rw [offS_no Hs1.out] at this; exact this
    clear hR2 R2 T2
    go_wp2_with fail
    refine (takeSign_c B b sv2 d (b1 43) _ R3.out).mono ?_
    rintro e w3 ⟨sv3, rfl, hR3, hT3⟩
    have T4 : Hid (Turn b w w3) := T3.out.trans hT3
    clear hT3
    obtain ⟨s2, Hs2⟩ : ∃ s, Hid (signT (hdN d).t (b1 43) = s) := ⟨_, hid rfl⟩
    rw [Hs2.out]
    cases s2
    · have R4 : Hid (Rdr B w3 b sv3 d) := by have := hR3; rw [offS_no Hs2.out] at this; exact this
      clear hR3 R3 T3
      go_wp2_with fail
      refine (takeSign_c B b sv3 d (b1 126) _ R4.out).mono ?_
      rintro e w4 ⟨sv4, rfl, hR4, hT4⟩
      have T5 : Hid (Turn b w w4) := T4.out.trans hT4
      clear hT4
      obtain ⟨s3, Hs3⟩ : ∃ s, Hid (signT (hdN d).t (b1 126) = s) := ⟨_, hid rfl⟩
      rw [Hs3.out]
      cases s3
      · have R5 : Hid (Rdr B w4 b sv4 d) := by have := hR4; rw [offS_no Hs3.out] at this; exact this
        clear hR4 R4 T4
        cases bl
        · have HV : Hid (combi l = none) := combP_none (by rw [Hd.out]; exact Hs1.out) (by rw [Hd.out]; exact Hs2.out) (by rw [Hd.out]; exact Hs3.out) (by rw [Hd.out]; have := Hbl.out; simpa using this)
          go_wp2_with fail
          go_ret2
          exact ⟨_, _, R5.out, T5.out, .inl ⟨HV.out, rfl⟩⟩
        · have HV : Hid (combi l = some (32, d)) := by
            have := combP_blank (l := l) (by rw [Hd.out]; exact Hs1.out) (by rw [Hd.out]; exact Hs2.out) (by rw [Hd.out]; exact Hs3.out) (by rw [Hd.out]; have := Hbl.out; simpa using this)
            rwa [Hd.out] at this
          go_wp2_with fail
          go_ret2
          exact ⟨_, _, R5.out, T5.out, .inr ⟨32, HV.out, rfl⟩⟩
      · have R5 : Hid (Rdr B w4 b sv4 d.tail) := by have := hR4; rw [offS_yes Hs3.out] at this; exact this
        clear hR4 R4 T4
        have HV : Hid (combi l = some (126, dropB d.tail)) := by
          have := combP_tilde (l := l) (by rw [Hd.out]; exact Hs1.out) (by rw [Hd.out]; exact Hs2.out) (by rw [Hd.out]; exact Hs3.out)
          rwa [Hd.out] at this
        go_wp2_with fail
        refine (rpass_c B b sv4 d.tail _ R5.out).mono ?_
        rintro e w6 ⟨sv6, rfl, hR6, hT6⟩
        have R6 : Hid (Rdr B w6 b sv6 (dropB d.tail)) := hR6
        have T6 : Hid (Turn b w w6) := T5.out.trans hT6
        clear hR6 hT6
        go_wp2_with fail
        go_ret2
        exact ⟨_, _, R6.out, T6.out, .inr ⟨126, HV.out, rfl⟩⟩
    · have R4 : Hid (Rdr B w3 b sv3 d.tail) := by have := hR3; rw [offS_yes Hs2.out] at this; exact this
      clear hR3 R3 T3
      have HV : Hid (combi l = some (43, dropB d.tail)) := by
        have := combP_plus (l := l) (by rw [Hd.out]; exact Hs1.out) (by rw [Hd.out]; exact Hs2.out)
        rwa [Hd.out] at this
      go_wp2_with fail
      refine (rpass_c B b sv3 d.tail _ R4.out).mono ?_
      rintro e w6 ⟨sv6, rfl, hR6, hT6⟩
      have R6 : Hid (Rdr B w6 b sv6 (dropB d.tail)) := hR6
      have T6 : Hid (Turn b w w6) := T4.out.trans hT6
      clear hR6 hT6
      go_wp2_with fail
      go_ret2
      exact ⟨_, _, R6.out, T6.out, .inr ⟨43, HV.out, rfl⟩⟩
  · have R3 : Hid (Rdr B w2 b sv2 d.tail) := by have := hR2; rw [offS_yes Hs1.out] at this; exact this
    clear hR2 R2 T2
    have HV : Hid (combi l = some (62, dropB d.tail)) := by
      have := combP_gt (l := l) (by rw [Hd.out]; exact Hs1.out)
      rwa [Hd.out] at this
    go_wp2_with fail
    refine (rpass_c B b sv2 d.tail _ R3.out).mono ?_
    rintro e w6 ⟨sv6, rfl, hR6, hT6⟩
    have R6 : Hid (Rdr B w6 b sv6 (dropB d.tail)) := hR6
    have T6 : Hid (Turn b w w6) := T3.out.trans hT6
    clear hR6 hT6
    go_wp2_with fail
    go_ret2
    exact ⟨_, _, R6.out, T6.out, .inr ⟨62, HV.out, rfl⟩⟩
end
section
attribute [local go_sem] fld_tok fld_ins fld_kind fld_word
def stB (s : ByteArray) : Bool := decide (s = nRoot ∨ s = nFirst ∨ s = nLast ∨ s = nEmpty)
theorem stB_eq (s : ByteArray) : stB s = ((s.toList == [114, 111, 111, 116]) || (s.toList == [102, 105, 114, 115, 116, 45, 99, 104, 105, 108, 100]) || (s.toList == [108, 97, 115, 116, 45, 99, 104, 105, 108, 100]) || (s.toList == [101, 109, 112, 116, 121])) := by
  simp only [bytes_lit]
  unfold stB nRoot nFirst nLast nEmpty
  simp only [Bool.decide_or, Bool.or_assoc]
theorem isState_c (s : ByteArray) (w : World) : Calls Tryz.prog 305 #[.string s] w fun e w' => e = .returned (.bool (stB s)) ∧ w' = w := by
  have HV : Hid (stB s = ((s.toList == [114, 111, 111, 116]) || (s.toList == [102, 105, 114, 115, 116, 45, 99, 104, 105, 108, 100]) || (s.toList == [108, 97, 115, 116, 45, 99, 104, 105, 108, 100]) || (s.toList == [101, 109, 112, 116, 121]))) := stB_eq s
  cases h1 : (s.toList == [114, 111, 111, 116])
  · cases h2 : (s.toList == [102, 105, 114, 115, 116, 45, 99, 104, 105, 108, 100])
    · cases h3 : (s.toList == [108, 97, 115, 116, 45, 99, 104, 105, 108, 100])
      · cases h4 : (s.toList == [101, 109, 112, 116, 121])
        · rw [h1, h2, h3, h4] at HV
          go_enter Tryz.func305, Tryz.ntmps305
          go_wp2_with fail
          go_ret
          exact ⟨rbool HV.out.symm, rfl⟩
        · rw [h1, h2, h3, h4] at HV
          go_enter Tryz.func305, Tryz.ntmps305
          go_wp2_with fail
          go_ret
          exact ⟨rbool HV.out.symm, rfl⟩
      · rw [h1, h2, h3] at HV
        go_enter Tryz.func305, Tryz.ntmps305
        go_wp2_with fail
        go_ret
        exact ⟨rbool HV.out.symm, rfl⟩
    · rw [h1, h2] at HV
      go_enter Tryz.func305, Tryz.ntmps305
      go_wp2_with fail
      go_ret
      exact ⟨rbool HV.out.symm, rfl⟩
  · rw [h1] at HV
    go_enter Tryz.func305, Tryz.ntmps305
    go_wp2_with fail
    go_ret
    exact ⟨rbool HV.out.symm, rfl⟩
theorem numF_big {v : Nat} (h : 999 < v) (l : List UInt8) : numF v l = none := by
  cases l with
  | nil => unfold numF; rw [if_neg (by omega)]
  | cons c r => unfold numF; rw [if_neg (by omega)]
theorem pk_data {s : ByteArray} {i : Nat} (h : i < s.size) : pk s i = ((s.data.toList[i]'(by simpa using h)).toNat : Int) := by
  rw [pk_in h]; rfl
theorem readNumber_c (s : ByteArray) (w : World) (hs : s.size ≤ 4000000) :
    Calls Tryz.prog 307 #[.string s] w fun e w' => (numF 0 s.data.toList = none ∧ e = .returned (.tuple #[.int .i64 0, .bool false]) ∨ ∃ v : Nat, numF 0 s.data.toList = some v ∧ e = .returned (.tuple #[.int .i64 (v : Int), .bool true])) ∧ w' = w := by
  have hdl : s.data.toList.length = s.size := by simp
  go_enter Tryz.func307, Tryz.ntmps307
  go_wp2_with fail
  go_loopg [4, 8] s.size (fun g v4 v8 wr => ∃ (n i : Nat), v4 = .int .i64 (n : Int) ∧ v8 = .int .i64 (i : Int) ∧ i + g = s.size ∧ n ≤ 999 ∧ Aside (numF 0 s.data.toList = numF n (s.data.toList.drop i) ∧ w = wr))
  case atStart => exact ⟨0, 0, rfl, rfl, by omega, by omega, by simp, rfl⟩
  case round =>
    obtain ⟨n, i, rfl, rfl, hi, hn, hA⟩ := hrel
    have HE : Hid (numF 0 s.data.toList = numF n (s.data.toList.drop i)) := hA.out.1
    obtain rfl := hA.out.2
    clear hA
    by_cases hlt : i < s.size
    · have h1 : (i : Int) < (s.size : Int) := by omega
      have hix := index_pk s i hlt
      have hp0 := pk_lo s i
      have hp1 := pk_hi s i
      have HD : Hid (numF n (s.data.toList.drop i) = if 48 ≤ (pk s i).toNat ∧ (pk s i).toNat ≤ 57 ∧ n ≤ 999 then numF (10 * n + (pk s i).toNat - 48) (s.data.toList.drop (i + 1)) else none) := by
        show _ = _
        rw [List.drop_eq_getElem_cons (by rw [hdl]; exact hlt), pk_data hlt]
        rfl
      have hpp : 0 ≤ pk s i := pk_nn hlt
      obtain ⟨c, Hc⟩ : ∃ c, Hid (pk s i = c) := ⟨_, hid rfl⟩
      rw [Hc.out] at hix hp0 hp1 HD hpp
      by_cases h48 : c < 48
      · have HN : Hid (numF 0 s.data.toList = none) := by
          show _ = _
          rw [HE.out, HD.out, if_neg (by omega)]
        clear HD
        go_wp2_with fail
        go_ret2
        exact ⟨.inl ⟨HN.out, rfl⟩, rfl⟩
      · by_cases h57 : 57 < c
        · have HN : Hid (numF 0 s.data.toList = none) := by
            show _ = _
            rw [HE.out, HD.out, if_neg (by omega)]
          clear HD
          go_wp2_with fail
          go_ret2
          exact ⟨.inl ⟨HN.out, rfl⟩, rfl⟩
        · obtain ⟨k, rfl⟩ : ∃ k : Nat, c = 48 + k := ⟨(c - 48).toNat, by omega⟩
          have hk9 : k ≤ 9 := by omega
          have HN : Hid (numF 0 s.data.toList = numF (10 * n + k) (s.data.toList.drop (i + 1))) := by
            show _ = _
            rw [HE.out, HD.out, if_pos (by omega)]
            congr 1
            omega
          have hw1 : IntKind.u8.wrap (48 + (k : Int) - 48) = (k : Int) := by rw [show (48 + (k : Int) - 48) = (k : Int) from by omega]; rw [IntKind.wrap_u8]; omega
          clear HD HE hp0 hp1 hpp Hc
          by_cases hbig : 999 < n * 10 + k
          · have hb2 : (999 : Int) < (n : Int) * 10 + (k : Int) := by omega
            have HB : Hid (numF 0 s.data.toList = none) := by
              show _ = _
              rw [HN.out, numF_big (by omega)]
            clear HN
            go_wp2_with fail
            go_ret2
            exact ⟨.inl ⟨HB.out, rfl⟩, rfl⟩
          · have hb2 : (n : Int) * 10 + (k : Int) ≤ 999 := by omega
            go_wp2_with fail
            go_roundg (s.size - (i + 1))
            case measure => omega
            case rel => exact ⟨n * 10 + k, i + 1, by congr 1, by congr 1, by omega, by omega, by rw [HN.out, Nat.mul_comm], rfl⟩
    · have h1 : (s.size : Int) ≤ (i : Int) := by omega
      have HN : Hid (numF 0 s.data.toList = some n) := by
        show _ = _
        rw [HE.out, List.drop_of_length_le (by rw [hdl]; omega)]
        unfold numF
        rw [if_pos hn]
      clear HE
      go_wp2_with fail
      go_ret2
      exact ⟨.inr ⟨n, HN.out, rfl⟩, rfl⟩
end
end Go.Proofs.YtlliliddljkbfaaGreat
