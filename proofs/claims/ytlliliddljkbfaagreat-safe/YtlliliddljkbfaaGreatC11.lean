import Derived.Test.YtlliliddljkbfaaGreatC3
import Derived.Test.YtlliliddljkbfaaGreatC5
import Derived.Test.YtlliliddljkbfaaGreatC6
import Derived.Test.YtlliliddljkbfaaGreatC10
namespace Go.Proofs.YtlliliddljkbfaaGreat
set_option maxHeartbeats 64000000
set_option maxRecDepth 100000
open Go.RowKit Sp
def jps (sep : ByteArray) (ps : List ByteArray) : Nat → List ByteArray
  | 0 => []
  | k + 1 => jps sep ps k ++ ((if k = 0 then [] else [sep]) ++ [ps.getD k nob])
theorem jps_succ (sep : ByteArray) (ps : List ByteArray) (k : Nat) : jps sep ps (k + 1) = jps sep ps k ++ ((if k = 0 then [] else [sep]) ++ [ps.getD k nob]) := rfl
theorem jps_len (sep : ByteArray) (ps : List ByteArray) (k : Nat) : (jps sep ps k).length ≤ 2 * k := by
  induction k with
  | zero => simp [jps]
  | succ k ih =>
    rw [jps_succ]
    split <;> simp <;> omega
def jtot (sep : ByteArray) (ps : List ByteArray) : Nat := total ps + ps.length * sep.size
theorem jps_total (sep : ByteArray) (ps : List ByteArray) : ∀ k, k ≤ ps.length → total (jps sep ps k) ≤ total (ps.take k) + k * sep.size := by
  intro k
  induction k with
  | zero => intro _; simp [jps, total]
  | succ k ih =>
    intro hk
    have h := ih (by omega)
    rw [jps_succ, total_append, total_append, List.take_succ_eq_append_getElem (show k < ps.length by omega), total_append, List.getD_eq_getElem?_getD, List.getElem?_eq_getElem (show k < ps.length by omega)]
    have e : total (if k = 0 then [] else [sep]) ≤ sep.size := by split <;> simp [total]
    rw [Nat.add_mul]
    simp only [Option.getD_some]
    omega
theorem jps_join (sep : ByteArray) : ∀ (ps : List ByteArray) (pre : List ByteArray) (k : Nat), 0 < k → pre.length = k → joinB (jps sep (pre ++ ps) (k + ps.length)) = joinB (jps sep (pre ++ ps) k) ++ (if ps = [] then nob else sep ++ joinO sep ps) := by
  intro ps
  induction ps with
  | nil => intro pre k hk hp; simp [app_nob]
  | cons a r ih =>
    intro pre k hk hp
    have h := ih (pre ++ [a]) (k + 1) (by omega) (by simp [hp])
    rw [List.append_assoc, List.singleton_append] at h
    rw [show k + (a :: r).length = k + 1 + r.length by simp; omega, h, jps_succ, if_neg (by omega), joinB_append, joinB_append]
    have hg : (pre ++ a :: r).getD k nob = a := by rw [List.getD_eq_getElem?_getD, List.getElem?_append_right (by omega), hp]; simp
    rw [hg, show (if (a :: r) = [] then nob else sep ++ joinO sep (a :: r)) = sep ++ joinO sep (a :: r) from if_neg (by simp)]
    have e1 : joinB [sep] = sep := by simp [joinB]
    have e2 : joinB [a] = a := by simp [joinB]
    rw [e1, e2]
    cases r with
    | nil =>
      rw [if_pos rfl, app_nob]
      rfl
    | cons b q =>
      rw [if_neg (by simp)]
      show _ ++ (sep ++ a) ++ (sep ++ joinO sep (b :: q)) = _ ++ (sep ++ (a ++ (sep ++ joinO sep (b :: q))))
      rw [ByteArray.append_assoc, ByteArray.append_assoc]
theorem jps_all (sep : ByteArray) (ps : List ByteArray) : joinB (jps sep ps ps.length) = joinO sep ps := by
  cases ps with
  | nil => rfl
  | cons a r =>
    have h := jps_join sep r [a] 1 (by omega) rfl
    rw [show (a :: r).length = 1 + r.length by simp; omega]
    rw [List.singleton_append] at h
    rw [h]
    show joinB (jps sep (a :: r) 1) ++ _ = _
    have e : jps sep (a :: r) 1 = [a] := rfl
    rw [e]
    cases r with
    | nil => simp [joinB, joinO, app_nob]
    | cons b q => rw [if_neg (by simp)]; simp [joinB, joinO]
theorem JoinBy_c (sep : ByteArray) (ps : List ByteArray) (base : Nat) (v : Value) (w : World) (h : w.ownsRow base 9 1 v ps.length (ps.map Value.string)) (hn : ps.length ≤ 4194304) (ht : jtot sep ps ≤ 1099511627776) :
    Calls Tryz.prog 192 #[.string sep, v] w fun e w' => e = .returned (.string (joinO sep ps)) ∧ Below w.heap.size w w' := by
  have HO : Hid (w.ownsRow base 9 1 v ps.length (ps.map Value.string)) := h
  obtain ⟨va, vc, rfl⟩ := own_form h
  clear h
  obtain ⟨iS, hiS⟩ := info_str
  have HI : Hid (Tryz.prog.info? 9 = some iS ∧ iS.zero = some (.string ⟨#[]⟩) ∧ iS.size = 1 ∧ iS.bytes = 16) := hiS
  clear hiS
  go_enter Tryz.func192, Tryz.ntmps192
  go_wp2_with fail
  go_loopg [5, 10] ps.length (fun gg v5 v10 wr => ∃ (u : Value) (k : Nat), u = v5 ∧ k + gg = ps.length ∧ v10 = .int .i64 (k : Int) ∧ Aside (wr.ownsRow w.heap.size 9 1 u (jps sep ps k).length ((jps sep ps k).map Value.string) ∧ Below w.heap.size w wr))
  case atStart => exact ⟨_, 0, rfl, by omega, rfl, World.ownsRow_nil _ _ _ _, Below.refl _ _⟩
  case round =>
    obtain ⟨u, k, rfl, hk, rfl, hA⟩ := hrel
    have O1 : Hid (wr.ownsRow w.heap.size 9 1 u (jps sep ps k).length ((jps sep ps k).map Value.string)) := hA.out.1
    have B1 : Hid (Below w.heap.size w wr) := hA.out.2
    clear hA
    have hsz := B1.out.size
    have hjl := jps_len sep ps k
    by_cases hlt : k < ps.length
    · have h1 : (k : Int) < (ps.length : Int) := by omega
      obtain ⟨g, c', hq⟩ : ∃ g c', Value.slice va ps.length vc = .slice (some ⟨g, 0, none⟩) ps.length c' := by
        rcases HO.out.2 with ⟨hv, hn⟩ | ⟨g, c', _, hv, _⟩
        · omega
        · exact ⟨g, c', hv⟩
      injection hq with hq1 _ hq2
      subst hq1 hq2
      have hgl : g < w.heap.size := (HO.out.lt g rfl).2
      have c0 : wr.cell? ⟨g, k, none⟩ = some (.string (ps.getD k nob)) := by
        have := HO.out.cells (g := g) rfl k (.string (ps.getD k nob)) (by rw [List.getElem?_map, List.getD_eq_getElem?_getD, List.getElem?_eq_getElem hlt]; rfl)
        rw [Addr.add_lit, Nat.zero_add] at this
        rw [B1.out.cell (p := ⟨g, _, none⟩) hgl]; exact this
      have HJ : Hid (jps sep ps (k + 1) = jps sep ps k ++ ((if k = 0 then [] else [sep]) ++ [ps.getD k nob])) := jps_succ sep ps k
      generalize ps.getD k nob = x at *
      by_cases h0 : k = 0
      · subst h0
        have HJ2 : Hid (jps sep ps (0 + 1) = jps sep ps 0 ++ [x]) := HJ.out
        go_wp2_with (at_builtin; go_must (refine wpList_append_own _ rfl _ _ 26 rfl w.heap.size 9 iS (.string ⟨#[]⟩) 1 16 Tryz.underlying26 HI.out.1 HI.out.2.1 HI.out.2.2.1 HI.out.2.2.2 rfl (by omega) u (jps sep ps 0).length ((jps sep ps 0).map Value.string) rfl (O1.out.alloc _) ⟨wr.heap.size, 0, none⟩ 1 1 [.string x] rfl rfl (cell_one_new _ _ _) (str_oneCell _) (by unfold maxLen; omega) (by omega) (by simp; omega) ?_))
        intro v4 w4 hown4 hgr4 _
        have O4 : Hid (w4.ownsRow w.heap.size 9 1 v4 (jps sep ps (0 + 1)).length ((jps sep ps (0 + 1)).map Value.string)) := by show World.ownsRow _ _ _ _ _ _ _; rw [HJ2.out]; first | (rw [List.length_append, List.map_append]; exact hown4) | simpa using hown4
        have B4 : Hid (Below w.heap.size w w4) := (B1.out.alloc hsz _).grown hgr4 (by simp; omega) (fun rr hr => (O1.out.lt rr hr).1)
        clear hown4 hgr4
        go_wp2_with fail
        go_roundg (gk - 1)
        case measure => omega
        case rel => exact ⟨v4, 0 + 1, rfl, by omega, by congr 1, O4.out, B4.out⟩
      · have h0' : (0 : Int) < (k : Int) := by omega
        have HJ2 : Hid (jps sep ps (k + 1) = (jps sep ps k ++ [sep]) ++ [x]) := by show _ = _; rw [HJ.out, if_neg h0, List.append_assoc]
        clear h0
        go_wp2_with (at_builtin; go_must (refine wpList_append_own _ rfl _ _ 26 rfl w.heap.size 9 iS (.string ⟨#[]⟩) 1 16 Tryz.underlying26 HI.out.1 HI.out.2.1 HI.out.2.2.1 HI.out.2.2.2 rfl (by omega) u (jps sep ps k).length ((jps sep ps k).map Value.string) rfl (O1.out.alloc _) ⟨wr.heap.size, 0, none⟩ 1 1 [.string sep] rfl rfl (cell_one_new _ _ _) (str_oneCell _) (by unfold maxLen; omega) (by omega) (by simp; omega) ?_))
        intro v3 w3 hown3 hgr3 _
        have O3 : Hid (w3.ownsRow w.heap.size 9 1 v3 (jps sep ps k ++ [sep]).length ((jps sep ps k ++ [sep]).map Value.string)) := by show World.ownsRow _ _ _ _ _ _ _; first | (rw [List.length_append, List.map_append]; exact hown3) | simpa using hown3
        have B3 : Hid (Below w.heap.size w w3) := (B1.out.alloc hsz _).grown hgr3 (by simp; omega) (fun rr hr => (O1.out.lt rr hr).1)
        have hs3 := B3.out.size
        have hl3 : (jps sep ps k ++ [sep]).length ≤ 2 * k + 1 := by simp; omega
        clear hown3 hgr3 c0
        go_wp2_with (at_builtin; go_must (refine wpList_append_own _ rfl _ _ 26 rfl w.heap.size 9 iS (.string ⟨#[]⟩) 1 16 Tryz.underlying26 HI.out.1 HI.out.2.1 HI.out.2.2.1 HI.out.2.2.2 rfl (by omega) v3 (jps sep ps k ++ [sep]).length ((jps sep ps k ++ [sep]).map Value.string) rfl (O3.out.alloc _) ⟨w3.heap.size, 0, none⟩ 1 1 [.string x] rfl rfl (cell_one_new _ _ _) (str_oneCell _) (by unfold maxLen; simp; omega) (by omega) (by simp; omega) ?_))
        intro v4 w4 hown4 hgr4 _
        have O4 : Hid (w4.ownsRow w.heap.size 9 1 v4 (jps sep ps (k + 1)).length ((jps sep ps (k + 1)).map Value.string)) := by show World.ownsRow _ _ _ _ _ _ _; rw [HJ2.out]; first | (rw [List.length_append, List.map_append]; exact hown4) | simpa using hown4
        have B4 : Hid (Below w.heap.size w w4) := (B3.out.alloc hs3 _).grown hgr4 (by simp; omega) (fun rr hr => (O3.out.lt rr hr).1)
        clear hown4 hgr4
        go_wp2_with fail
        go_roundg (gk - 1)
        case measure => omega
        case rel => exact ⟨v4, k + 1, rfl, by omega, by congr 1, O4.out, B4.out⟩
    · have h1 : (ps.length : Int) ≤ (k : Int) := by omega
      have hke : k = ps.length := by omega
      subst hke
      have hjt := jps_total sep ps ps.length (Nat.le_refl _)
      rw [List.take_of_length_le (Nat.le_refl _)] at hjt
      have HV : Hid (joinB (jps sep ps ps.length) = joinO sep ps) := jps_all sep ps
      unfold jtot at ht
      go_wp2_with fail
      refine (Join_c (jps sep ps ps.length) w.heap.size u _ O1.out (by omega) (by omega)).mono ?_
      rintro e w5 ⟨rfl, hb5⟩
      have B5 : Hid (Below w.heap.size w w5) := B1.out.trans (hb5.mono hsz)
      clear hb5
      go_wp2_with fail
      go_ret
      exact ⟨retS HV.out, B5.out⟩
section
attribute [local go_sem] fld_tok fld_ins fld_kind fld_word
def cmb (c : Nat) : Int := if c = 32 then 1 else if c = 62 then 2 else if c = 43 then 3 else if c = 126 then 4 else 0
theorem sign_nil (s : ByteArray) : signT (hdN []).t s = false := by simp [signT, hdN, Tok.k]
theorem combP_gt {l : List Nd} (h : signT (hdN (dropB l)).t (b1 62) = true) : combi l = some (62, dropB (dropB l).tail) := by
  unfold combi
  cases hd : dropB l with
  | nil => rw [hd, sign_nil] at h; cases h
  | cons n r =>
    rw [hd] at h
    simp only [hdN] at h
    simp [sgnN, h]
theorem combP_plus {l : List Nd} (h0 : signT (hdN (dropB l)).t (b1 62) = false) (h : signT (hdN (dropB l)).t (b1 43) = true) : combi l = some (43, dropB (dropB l).tail) := by
  unfold combi
  cases hd : dropB l with
  | nil => rw [hd, sign_nil] at h; cases h
  | cons n r =>
    rw [hd] at h h0
    simp only [hdN] at h h0
    simp [sgnN, h, h0]
theorem combP_tilde {l : List Nd} (h0 : signT (hdN (dropB l)).t (b1 62) = false) (h1 : signT (hdN (dropB l)).t (b1 43) = false) (h : signT (hdN (dropB l)).t (b1 126) = true) : combi l = some (126, dropB (dropB l).tail) := by
  unfold combi
  cases hd : dropB l with
  | nil => rw [hd, sign_nil] at h; cases h
  | cons n r =>
    rw [hd] at h h0 h1
    simp only [hdN] at h h0 h1
    simp [sgnN, h, h0, h1]
theorem combP_blank {l : List Nd} (h0 : signT (hdN (dropB l)).t (b1 62) = false) (h1 : signT (hdN (dropB l)).t (b1 43) = false) (h2 : signT (hdN (dropB l)).t (b1 126) = false) (h : (dropB l).length < l.length) : combi l = some (32, dropB l) := by
  unfold combi
  cases hd : dropB l with
  | nil =>
    have : l ≠ [] := by rintro rfl; simp at h
    simp [this]
  | cons n r =>
    rw [hd] at h h0 h1 h2
    simp only [hdN] at h0 h1 h2
    simp only [sgnN, h0, h1, h2]
    simp only [Bool.false_eq_true, if_false]
    rw [if_pos h]
theorem combP_none {l : List Nd} (h0 : signT (hdN (dropB l)).t (b1 62) = false) (h1 : signT (hdN (dropB l)).t (b1 43) = false) (h2 : signT (hdN (dropB l)).t (b1 126) = false) (h : ¬ (dropB l).length < l.length) : combi l = none := by
  unfold combi
  cases hd : dropB l with
  | nil =>
    have : l = [] := by rw [hd] at h; exact List.eq_nil_of_length_eq_zero (by simp only [List.length_nil] at h; omega)
    simp [this]
  | cons n r =>
    rw [hd] at h h0 h1 h2
    simp only [hdN] at h0 h1 h2
    simp only [sgnN, h0, h1, h2]
    simp only [Bool.false_eq_true, if_false]
    rw [if_neg h]
theorem combinator_c (B b : Nat) (sv : Value) (l : List Nd) (w : World) (h : Rdr B w b sv l) :
    Calls Tryz.prog 198 #[.pointer (some ⟨b, 0, none⟩)] w fun e w' => ∃ sv' l', Rdr B w' b sv' l' ∧ Turn b w w' ∧ (combi l = none ∧ e = .returned (.tuple #[.int .i64 0, .bool false]) ∨ ∃ c, combi l = some (c, l') ∧ e = .returned (.tuple #[.int .i64 (cmb c), .bool true])) := by
  have R1 : Hid (Rdr B w b sv l) := h
  clear h
  obtain ⟨d, Hd⟩ : ∃ d, Hid (dropB l = d) := ⟨_, hid rfl⟩
  obtain ⟨bl, Hbl⟩ : ∃ bl, Hid (decide (d.length < l.length) = bl) := ⟨_, hid rfl⟩
  go_enter Tryz.func198, Tryz.ntmps198
  go_wp2_with fail
  refine (rpass_c B b sv l _ R1.out).mono ?_
  rw [Hd.out, Hbl.out]
  rintro e w1 ⟨sv1, rfl, hR1, hT1⟩
  have R2 : Hid (Rdr B w1 b sv1 d) := hR1
  have T2 : Hid (Turn b w w1) := hT1
  clear hR1 hT1 R1
  go_wp2_with fail
  refine (takeSign_c B b sv1 d (b1 62) _ R2.out).mono ?_
  rintro e w2 ⟨sv2, rfl, hR2, hT2⟩
  have T3 : Hid (Turn b w w2) := T2.out.trans hT2
  clear hT2
  obtain ⟨s1, Hs1⟩ : ∃ s, Hid (signT (hdN d).t (b1 62) = s) := ⟨_, hid rfl⟩
  rw [Hs1.out]
  cases s1
  · have R3 : Hid (Rdr B w2 b sv2 d) := by have := hR2; rw [offS_no Hs1.out] at this; exact this
    clear hR2 R2 T2
    go_wp2_with fail
    refine (takeSign_c B b sv2 d (b1 43) _ R3.out).mono ?_
    rintro e w3 ⟨sv3, rfl, hR3, hT3⟩
    have T4 : Hid (Turn b w w3) := T3.out.trans hT3
    clear hT3
    obtain ⟨s2, Hs2⟩ : ∃ s, Hid (signT (hdN d).t (b1 43) = s) := ⟨_, hid rfl⟩
    rw [Hs2.out]
    cases s2
    · have R4 : Hid (Rdr B w3 b sv3 d) := by have := hR3; rw [offS_no Hs2.out] at this; exact this
      clear hR3 R3 T3
      go_wp2_with fail
      refine (takeSign_c B b sv3 d (b1 126) _ R4.out).mono ?_
      rintro e w4 ⟨sv4, rfl, hR4, hT4⟩
      have T5 : Hid (Turn b w w4) := T4.out.trans hT4
      clear hT4
      obtain ⟨s3, Hs3⟩ : ∃ s, Hid (signT (hdN d).t (b1 126) = s) := ⟨_, hid rfl⟩
      rw [Hs3.out]
      cases s3
      · have R5 : Hid (Rdr B w4 b sv4 d) := by have := hR4; rw [offS_no Hs3.out] at this; exact this
        clear hR4 R4 T4
        cases bl
        · have HV : Hid (combi l = none) := combP_none (by rw [Hd.out]; exact Hs1.out) (by rw [Hd.out]; exact Hs2.out) (by rw [Hd.out]; exact Hs3.out) (by rw [Hd.out]; have := Hbl.out; simpa using this)
          go_wp2_with fail
          go_ret2
          exact ⟨_, _, R5.out, T5.out, .inl ⟨HV.out, rfl⟩⟩
        · have HV : Hid (combi l = some (32, d)) := by
            have := combP_blank (l := l) (by rw [Hd.out]; exact Hs1.out) (by rw [Hd.out]; exact Hs2.out) (by rw [Hd.out]; exact Hs3.out) (by rw [Hd.out]; have := Hbl.out; simpa using this)
            rwa [Hd.out] at this
          go_wp2_with fail
          go_ret2
          exact ⟨_, _, R5.out, T5.out, .inr ⟨32, HV.out, rfl⟩⟩
      · have R5 : Hid (Rdr B w4 b sv4 d.tail) := by have := hR4; rw [offS_yes Hs3.out] at this; exact this
        clear hR4 R4 T4
        have HV : Hid (combi l = some (126, dropB d.tail)) := by
          have := combP_tilde (l := l) (by rw [Hd.out]; exact Hs1.out) (by rw [Hd.out]; exact Hs2.out) (by rw [Hd.out]; exact Hs3.out)
          rwa [Hd.out] at this
        go_wp2_with fail
        refine (rpass_c B b sv4 d.tail _ R5.out).mono ?_
        rintro e w6 ⟨sv6, rfl, hR6, hT6⟩
        have R6 : Hid (Rdr B w6 b sv6 (dropB d.tail)) := hR6
        have T6 : Hid (Turn b w w6) := T5.out.trans hT6
        clear hR6 hT6
        go_wp2_with fail
        go_ret2
        exact ⟨_, _, R6.out, T6.out, .inr ⟨126, HV.out, rfl⟩⟩
    · have R4 : Hid (Rdr B w3 b sv3 d.tail) := by have := hR3; rw [offS_yes Hs2.out] at this; exact this
      clear hR3 R3 T3
      have HV : Hid (combi l = some (43, dropB d.tail)) := by
        have := combP_plus (l := l) (by rw [Hd.out]; exact Hs1.out) (by rw [Hd.out]; exact Hs2.out)
        rwa [Hd.out] at this
      go_wp2_with fail
      refine (rpass_c B b sv3 d.tail _ R4.out).mono ?_
      rintro e w6 ⟨sv6, rfl, hR6, hT6⟩
      have R6 : Hid (Rdr B w6 b sv6 (dropB d.tail)) := hR6
      have T6 : Hid (Turn b w w6) := T4.out.trans hT6
      clear hR6 hT6
      go_wp2_with fail
      go_ret2
      exact ⟨_, _, R6.out, T6.out, .inr ⟨43, HV.out, rfl⟩⟩
  · have R3 : Hid (Rdr B w2 b sv2 d.tail) := by have := hR2; rw [offS_yes Hs1.out] at this; exact this
    clear hR2 R2 T2
    have HV : Hid (combi l = some (62, dropB d.tail)) := by
      have := combP_gt (l := l) (by rw [Hd.out]; exact Hs1.out)
      rwa [Hd.out] at this
    go_wp2_with fail
    refine (rpass_c B b sv2 d.tail _ R3.out).mono ?_
    rintro e w6 ⟨sv6, rfl, hR6, hT6⟩
    have R6 : Hid (Rdr B w6 b sv6 (dropB d.tail)) := hR6
    have T6 : Hid (Turn b w w6) := T3.out.trans hT6
    clear hR6 hT6
    go_wp2_with fail
    go_ret2
    exact ⟨_, _, R6.out, T6.out, .inr ⟨62, HV.out, rfl⟩⟩
end
section
attribute [local go_sem] fld_tok fld_ins fld_kind fld_word
def stB (s : ByteArray) : Bool := decide (s = nRoot ∨ s = nFirst ∨ s = nLast ∨ s = nEmpty)
theorem stB_eq (s : ByteArray) : stB s = ((s.toList == [114, 111, 111, 116]) || (s.toList == [102, 105, 114, 115, 116, 45, 99, 104, 105, 108, 100]) || (s.toList == [108, 97, 115, 116, 45, 99, 104, 105, 108, 100]) || (s.toList == [101, 109, 112, 116, 121])) := by
  simp only [bytes_lit]
  unfold stB nRoot nFirst nLast nEmpty
  simp only [Bool.decide_or, Bool.or_assoc]
theorem isState_c (s : ByteArray) (w : World) : Calls Tryz.prog 305 #[.string s] w fun e w' => e = .returned (.bool (stB s)) ∧ w' = w := by
  have HV : Hid (stB s = ((s.toList == [114, 111, 111, 116]) || (s.toList == [102, 105, 114, 115, 116, 45, 99, 104, 105, 108, 100]) || (s.toList == [108, 97, 115, 116, 45, 99, 104, 105, 108, 100]) || (s.toList == [101, 109, 112, 116, 121]))) := stB_eq s
  cases h1 : (s.toList == [114, 111, 111, 116])
  · cases h2 : (s.toList == [102, 105, 114, 115, 116, 45, 99, 104, 105, 108, 100])
    · cases h3 : (s.toList == [108, 97, 115, 116, 45, 99, 104, 105, 108, 100])
      · cases h4 : (s.toList == [101, 109, 112, 116, 121])
        · rw [h1, h2, h3, h4] at HV
          go_enter Tryz.func305, Tryz.ntmps305
          go_wp2_with fail
          go_ret
          exact ⟨rbool HV.out.symm, rfl⟩
        · rw [h1, h2, h3, h4] at HV
          go_enter Tryz.func305, Tryz.ntmps305
          go_wp2_with fail
          go_ret
          exact ⟨rbool HV.out.symm, rfl⟩
      · rw [h1, h2, h3] at HV
        go_enter Tryz.func305, Tryz.ntmps305
        go_wp2_with fail
        go_ret
        exact ⟨rbool HV.out.symm, rfl⟩
    · rw [h1, h2] at HV
      go_enter Tryz.func305, Tryz.ntmps305
      go_wp2_with fail
      go_ret
      exact ⟨rbool HV.out.symm, rfl⟩
  · rw [h1] at HV
    go_enter Tryz.func305, Tryz.ntmps305
    go_wp2_with fail
    go_ret
    exact ⟨rbool HV.out.symm, rfl⟩
theorem numF_big {v : Nat} (h : 999 < v) (l : List UInt8) : numF v l = none := by
  cases l with
  | nil => unfold numF; rw [if_neg (by omega)]
  | cons c r => unfold numF; rw [if_neg (by omega)]
theorem pk_data {s : ByteArray} {i : Nat} (h : i < s.size) : pk s i = ((s.data.toList[i]'(by simpa using h)).toNat : Int) := by
  rw [pk_in h]; rfl
theorem readNumber_c (s : ByteArray) (w : World) (hs : s.size ≤ 4000000) :
    Calls Tryz.prog 307 #[.string s] w fun e w' => (numF 0 s.data.toList = none ∧ e = .returned (.tuple #[.int .i64 0, .bool false]) ∨ ∃ v : Nat, numF 0 s.data.toList = some v ∧ e = .returned (.tuple #[.int .i64 (v : Int), .bool true])) ∧ w' = w := by
  have hdl : s.data.toList.length = s.size := by simp
  go_enter Tryz.func307, Tryz.ntmps307
  go_wp2_with fail
  go_loopg [4, 8] s.size (fun g v4 v8 wr => ∃ (n i : Nat), v4 = .int .i64 (n : Int) ∧ v8 = .int .i64 (i : Int) ∧ i + g = s.size ∧ n ≤ 999 ∧ Aside (numF 0 s.data.toList = numF n (s.data.toList.drop i) ∧ w = wr))
  case atStart => exact ⟨0, 0, rfl, rfl, by omega, by omega, by simp, rfl⟩
  case round =>
    obtain ⟨n, i, rfl, rfl, hi, hn, hA⟩ := hrel
    have HE : Hid (numF 0 s.data.toList = numF n (s.data.toList.drop i)) := hA.out.1
    obtain rfl := hA.out.2
    clear hA
    by_cases hlt : i < s.size
    · have h1 : (i : Int) < (s.size : Int) := by omega
      have hix := index_pk s i hlt
      have hp0 := pk_lo s i
      have hp1 := pk_hi s i
      have HD : Hid (numF n (s.data.toList.drop i) = if 48 ≤ (pk s i).toNat ∧ (pk s i).toNat ≤ 57 ∧ n ≤ 999 then numF (10 * n + (pk s i).toNat - 48) (s.data.toList.drop (i + 1)) else none) := by
        show _ = _
        rw [List.drop_eq_getElem_cons (by rw [hdl]; exact hlt), pk_data hlt]
        rfl
      have hpp : 0 ≤ pk s i := pk_nn hlt
      obtain ⟨c, Hc⟩ : ∃ c, Hid (pk s i = c) := ⟨_, hid rfl⟩
      rw [Hc.out] at hix hp0 hp1 HD hpp
      by_cases h48 : c < 48
      · have HN : Hid (numF 0 s.data.toList = none) := by
          show _ = _
          rw [HE.out, HD.out, if_neg (by omega)]
        clear HD
        go_wp2_with fail
        go_ret2
        exact ⟨.inl ⟨HN.out, rfl⟩, rfl⟩
      · by_cases h57 : 57 < c
        · have HN : Hid (numF 0 s.data.toList = none) := by
            show _ = _
            rw [HE.out, HD.out, if_neg (by omega)]
          clear HD
          go_wp2_with fail
          go_ret2
          exact ⟨.inl ⟨HN.out, rfl⟩, rfl⟩
        · obtain ⟨k, rfl⟩ : ∃ k : Nat, c = 48 + k := ⟨(c - 48).toNat, by omega⟩
          have hk9 : k ≤ 9 := by omega
          have HN : Hid (numF 0 s.data.toList = numF (10 * n + k) (s.data.toList.drop (i + 1))) := by
            show _ = _
            rw [HE.out, HD.out, if_pos (by omega)]
            congr 1
            omega
          have hw1 : IntKind.u8.wrap (48 + (k : Int) - 48) = (k : Int) := by rw [show (48 + (k : Int) - 48) = (k : Int) from by omega]; rw [IntKind.wrap_u8]; omega
          clear HD HE hp0 hp1 hpp Hc
          by_cases hbig : 999 < n * 10 + k
          · have hb2 : (999 : Int) < (n : Int) * 10 + (k : Int) := by omega
            have HB : Hid (numF 0 s.data.toList = none) := by
              show _ = _
              rw [HN.out, numF_big (by omega)]
            clear HN
            go_wp2_with fail
            go_ret2
            exact ⟨.inl ⟨HB.out, rfl⟩, rfl⟩
          · have hb2 : (n : Int) * 10 + (k : Int) ≤ 999 := by omega
            go_wp2_with fail
            go_roundg (s.size - (i + 1))
            case measure => omega
            case rel => exact ⟨n * 10 + k, i + 1, by congr 1, by congr 1, by omega, by omega, by rw [HN.out, Nat.mul_comm], rfl⟩
    · have h1 : (s.size : Int) ≤ (i : Int) := by omega
      have HN : Hid (numF 0 s.data.toList = some n) := by
        show _ = _
        rw [HE.out, List.drop_of_length_le (by rw [hdl]; omega)]
        unfold numF
        rw [if_pos hn]
      clear HE
      go_wp2_with fail
      go_ret2
      exact ⟨.inr ⟨n, HN.out, rfl⟩, rfl⟩
end
section
abbrev Law (α : Type) := (Nat → Prop) → World → α → List Value → Prop
def Fair {α : Type} (C : Law α) : Prop := ∀ (S S' : Nat → Prop) (w w' : World) (x : α) (cs : List Value), (∀ g, S g → S' g) → (∀ g, S g → w'.heap[g]? = w.heap[g]?) → C S w x cs → C S' w' x cs
def Sized {α : Type} (C : Law α) (sz : Nat) : Prop := ∀ S w x cs, C S w x cs → cs.length = sz
section
variable {α : Type} (C : Law α) (sz : Nat)
def EG (S : Nat → Prop) (w : World) (x : α) (g o : Nat) : Prop := S g ∧ ∃ cs, C S w x cs ∧ ∀ j u, cs[j]? = some u → w.cell? ⟨g, o + j, none⟩ = some u
def LG (S : Nat → Prop) (w : World) : List α → Nat → Nat → Prop
  | [], _, _ => True
  | x :: r, g, o => EG C S w x g o ∧ LG S w r g (o + sz)
def SG (S : Nat → Prop) (w : World) (v : Value) (xs : List α) : Prop :=
  ∃ (a : Option Addr) (cap : Nat), v = .slice a xs.length cap ∧ (xs.length ≤ cap ∧ xs.length ≤ 2097152) ∧ (xs ≠ [] → ∃ g o, a = some ⟨g, o, none⟩ ∧ LG C sz S w xs g o)
def CatG (S : Nat → Prop) (w : World) : List α → List Value → Prop
  | [], cs => cs = []
  | x :: r, cs => ∃ c rest, cs = c ++ rest ∧ C S w x c ∧ CatG S w r rest
def MG (T : TypeId) (base : Nat) (w : World) (v : Value) (xs : List α) : Prop :=
  ∃ cs, w.ownsRow base T sz v xs.length cs ∧ CatG C (Oth base w v) w xs cs
end
section
variable {α : Type} {C : Law α} {sz : Nat} {S S' : Nat → Prop} {w w' : World}
theorem EG.keep (hF : Fair C) (hS : ∀ g, S g → S' g) (hw : ∀ g, S g → w'.heap[g]? = w.heap[g]?) {x : α} {g o : Nat} (h : EG C S w x g o) : EG C S' w' x g o := by
  obtain ⟨h0, cs, h1, h2⟩ := h
  exact ⟨hS g h0, cs, hF _ _ _ _ _ _ hS hw h1, fun j u hu => by rw [World.cell?_of_block (w := w) (hw g h0)]; exact h2 j u hu⟩
theorem LG.keep (hF : Fair C) (hS : ∀ g, S g → S' g) (hw : ∀ g, S g → w'.heap[g]? = w.heap[g]?) : ∀ (l : List α) (g o : Nat), LG C sz S w l g o → LG C sz S' w' l g o
  | [], _, _, _ => by simp [LG]
  | _ :: r, g, o, h => ⟨h.1.keep hF hS hw, LG.keep hF hS hw r g (o + sz) h.2⟩
theorem SG.keep (hF : Fair C) {v : Value} {xs : List α} (h : SG C sz S w v xs) (hS : ∀ g, S g → S' g) (hw : ∀ g, S g → w'.heap[g]? = w.heap[g]?) : SG C sz S' w' v xs := by
  obtain ⟨a, cap, h1, hc, h2⟩ := h
  refine ⟨a, cap, h1, hc, fun hn => ?_⟩
  obtain ⟨g, o, h3, h4⟩ := h2 hn
  exact ⟨g, o, h3, h4.keep hF hS hw⟩
theorem SG.below (hF : Fair C) {B B' : Nat} {v : Value} {xs : List α} (h : SG C sz (fun b => b < B) w v xs) (hb : Below B' w w') (hB : B ≤ B') : SG C sz (fun b => b < B) w' v xs :=
  h.keep hF (fun _ hg => hg) fun g hg => hb.block g (Nat.lt_of_lt_of_le hg hB)
theorem SG.mono (hF : Fair C) {B B' : Nat} {v : Value} {xs : List α} (h : SG C sz (fun b => b < B) w v xs) (hB : B ≤ B') : SG C sz (fun b => b < B') w v xs :=
  h.keep hF (fun _ hg => Nat.lt_of_lt_of_le hg hB) fun _ _ => rfl
theorem SG.none_any (C : Law α) (sz : Nat) (S : Nat → Prop) (w : World) (a : Option Addr) (c : Nat) : SG C sz S w (.slice a 0 c) [] := ⟨a, c, rfl, ⟨by simp, by simp⟩, fun h => absurd rfl h⟩
theorem SG.len {v : Value} {xs : List α} (h : SG C sz S w v xs) : xs.length ≤ 2097152 := by
  obtain ⟨_, _, _, hc, _⟩ := h; exact hc.2
theorem SG.form {v : Value} {xs : List α} (h : SG C sz S w v xs) : ∃ a cap, v = .slice a xs.length cap := by
  obtain ⟨a, cap, h1, _⟩ := h
  exact ⟨a, cap, h1⟩
theorem SG.here {a : Option Addr} {n cap : Nat} {xs : List α} (h : SG C sz S w (.slice a n cap) xs) (hn : xs ≠ []) : ∃ g o, a = some ⟨g, o, none⟩ ∧ LG C sz S w xs g o ∧ xs.length ≤ cap := by
  obtain ⟨a', cap', h1, ⟨hc, h6⟩, h2⟩ := h
  cases h1
  obtain ⟨g, o, rfl, h4⟩ := h2 hn
  exact ⟨g, o, rfl, h4, hc⟩
theorem LG.at : ∀ (l : List α) (g o i : Nat) (_ : LG C sz S w l g o) (hi : i < l.length), EG C S w l[i] g (o + i * sz)
  | _ :: _, g, o, 0, h, _ => by simpa using h.1
  | _ :: r, g, o, i + 1, h, hi => by
    have := LG.at r g (o + sz) i h.2 (by simpa using hi)
    rw [show o + (i + 1) * sz = o + sz + i * sz from by rw [Nat.add_mul]; omega]
    simpa using this
theorem CatG.keep (hF : Fair C) (hS : ∀ g, S g → S' g) (hw : ∀ g, S g → w'.heap[g]? = w.heap[g]?) : ∀ (l : List α) (cs : List Value), CatG C S w l cs → CatG C S' w' l cs
  | [], _, h => h
  | _ :: r, _, ⟨c, rest, h1, h2, h3⟩ => ⟨c, rest, h1, hF _ _ _ _ _ _ hS hw h2, CatG.keep hF hS hw r rest h3⟩
theorem CatG.snoc : ∀ (l : List α) (cs : List Value) (_ : CatG C S w l cs) (x : α) (c : List Value) (_ : C S w x c), CatG C S w (l ++ [x]) (cs ++ c)
  | [], cs, h, x, c, hc => ⟨c, [], by simp [show cs = [] from h], hc, rfl⟩
  | _ :: r, _, ⟨c', rest, h1, h2, h3⟩, x, c, hc => ⟨c', rest ++ c, by simp [h1], h2, CatG.snoc r rest h3 x c hc⟩
theorem CatG.lies (hZ : Sized C sz) {g : Nat} (hg : S g) : ∀ (l : List α) (cs : List Value) (o : Nat) (_ : CatG C S w l cs) (_ : ∀ j u, cs[j]? = some u → w.cell? ⟨g, o + j, none⟩ = some u), LG C sz S w l g o
  | [], _, _, _, _ => by simp [LG]
  | _ :: r, cs, o, ⟨c, rest, h1, h2, h3⟩, hc => by
    subst h1
    have hl := hZ _ _ _ _ h2
    refine ⟨⟨hg, c, h2, fun j u hu => hc j u ?_⟩, CatG.lies hZ hg r rest (o + sz) h3 fun j u hu => ?_⟩
    · have hj : j < c.length := (List.getElem?_eq_some_iff.1 hu).1
      rw [List.getElem?_append_left hj]; exact hu
    · rw [show o + sz + j = o + (j + sz) from by omega]
      apply hc (j + sz) u
      rw [List.getElem?_append_right (by omega), hl]
      simpa using hu
theorem MG.nil (C : Law α) (sz : Nat) (T : TypeId) (base : Nat) (w : World) : MG C sz T base w (.slice none 0 0) [] := ⟨[], World.ownsRow_nil _ _ _ _, rfl⟩
theorem MG.sl (hF : Fair C) (hZ : Sized C sz) {T : TypeId} {base : Nat} {v : Value} {l : List α} (h : MG C sz T base w v l) (h6 : l.length ≤ 2097152) : SG C sz (Frm base w) w v l := by
  obtain ⟨cs, h1, h2⟩ := h
  have h3 : CatG C (Frm base w) w l cs := h2.keep hF (fun g hg => ⟨hg.1, hg.2.1⟩) (fun _ _ => rfl)
  rcases h1.2 with ⟨rfl, hn⟩ | ⟨g, cap, cur, rfl, hbg, hg, hnc, hrest⟩
  · have : l = [] := List.eq_nil_of_length_eq_zero hn
    subst this
    exact SG.none_any _ _ _ _ _ _
  · refine ⟨_, cap, rfl, ⟨hnc, h6⟩, fun _ => ⟨g, 0, rfl, CatG.lies hZ ⟨hbg, (Array.getElem?_eq_some_iff.1 hg).1⟩ l cs 0 h3 fun j u hu => ?_⟩⟩
    have := h1.cells (g := g) rfl j u hu
    rw [Addr.add_lit, Nat.zero_add] at this
    rw [Nat.zero_add]
    exact this
theorem MG.lt {T : TypeId} {base : Nat} {v : Value} {l : List α} (h : MG C sz T base w v l) : ∀ k, v.ownBlock = some k → base ≤ k ∧ k < w.heap.size := by
  obtain ⟨cs, h1, _⟩ := h
  exact h1.lt
theorem MG.keep (hF : Fair C) {T : TypeId} {base : Nat} {v : Value} {l : List α} (h : MG C sz T base w v l) (hs : w.heap.size ≤ w'.heap.size) (hw : ∀ g, base ≤ g → g < w.heap.size → w'.heap[g]? = w.heap[g]?) : MG C sz T base w' v l := by
  obtain ⟨cs, h1, h2⟩ := h
  refine ⟨cs, ⟨h1.1, ?_⟩, h2.keep hF (fun g hg => ⟨hg.1, by have := hg.2.1; omega, hg.2.2⟩) (fun g hg => hw g hg.1 hg.2.1)⟩
  rcases h1.2 with hn | ⟨g, cap, cur, rfl, hbg, hgg, rest⟩
  · exact .inl hn
  · exact .inr ⟨g, cap, cur, rfl, hbg, by rw [hw g hbg (Array.getElem?_eq_some_iff.1 hgg).1]; exact hgg, rest⟩
theorem MG.below (hF : Fair C) {T : TypeId} {base : Nat} {v : Value} {l : List α} (h : MG C sz T base w v l) (hb : Below w.heap.size w w') : MG C sz T base w' v l :=
  h.keep hF hb.size fun g _ hg => hb.block g hg
theorem MG.alloc (hF : Fair C) {T : TypeId} {base : Nat} {v : Value} {l : List α} (h : MG C sz T base w v l) (o : Obj) : MG C sz T base (w.alloc o) v l :=
  h.keep hF (by simp) fun g _ hg => Below.heap_alloc _ _ _ hg
theorem MG.form {T : TypeId} {base : Nat} {v : Value} {l : List α} (h : MG C sz T base w v l) : ∃ a cap, v = .slice a l.length cap := by
  obtain ⟨cs, h1, _⟩ := h
  rcases h1.2 with ⟨rfl, hn⟩ | ⟨g, cap, cur, rfl, _⟩
  · exact ⟨none, 0, by rw [hn]⟩
  · exact ⟨_, _, rfl⟩
theorem MG.snoc (hF : Fair C) {T : TypeId} {base : Nat} {v v2 : Value} {l : List α} {cs c : List Value} {x : α} (h2 : CatG C (Oth base w v) w l cs) (hx : C (Oth base w v) w x c)
    (hown : w'.ownsRow base T sz v2 (l.length + 1) (cs ++ c)) (hg : w.grownBy w' v.ownBlock) (hat : v2.ownBlock = v.ownBlock ∨ v2.ownBlock = some w.heap.size) : MG C sz T base w' v2 (l ++ [x]) := by
  have hS : ∀ g, Oth base w v g → Oth base w' v2 g := by
    rintro g ⟨h3, h4, h5⟩
    refine ⟨h3, Nat.lt_of_lt_of_le h4 hg.size, ?_⟩
    rcases hat with e | e
    · rw [e]; exact h5
    · rw [e]; intro e2; cases e2; omega
  have hw : ∀ g, Oth base w v g → w'.heap[g]? = w.heap[g]? := fun g hgg => hg.block g hgg.2.1 hgg.2.2
  exact ⟨_, by rw [List.length_append]; exact hown, CatG.snoc _ _ (h2.keep hF hS hw) x c (hF _ _ _ _ _ _ hS hw hx)⟩
theorem MG.apart {β : Type} {D : Law β} {T : TypeId} {base : Nat} {w3 W : World} {v : Value} {l : List α} {x : β} {c : List Value} (h : MG C sz T base w v l) (hF : Fair D) (hx : D (Frm w.heap.size w3) w3 x c) (hbase : base ≤ w.heap.size) (hs : w3.heap.size ≤ W.heap.size) (hw : ∀ g, g < w3.heap.size → W.heap[g]? = w3.heap[g]?) : D (Oth base W v) W x c :=
  hF _ _ _ _ _ _ (fun g hg => ⟨by have := hg.1; omega, by have := hg.2; omega, fun e => by have := (h.lt g e.symm).2; have := hg.1; omega⟩) (fun g hg => hw g hg.2) hx
end
def One {α : Type} (C : Law α) (sz : Nat) : Law (List α) := fun S w x cs => ∃ v, cs = [v] ∧ SG C sz S w v x
theorem One.fair {α : Type} {C : Law α} {sz : Nat} (hF : Fair C) : Fair (One C sz) := by
  rintro S S' w w' x cs hS hw ⟨v, h1, h2⟩
  exact ⟨v, h1, h2.keep hF hS hw⟩
theorem One.sized {α : Type} (C : Law α) (sz : Nat) : Sized (One C sz) 1 := by
  rintro S w x cs ⟨v, rfl, _⟩; rfl
end
end Go.Proofs.YtlliliddljkbfaaGreat
