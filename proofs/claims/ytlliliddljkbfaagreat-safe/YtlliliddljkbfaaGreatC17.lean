import Derived.Test.YtlliliddljkbfaaGreatC16
namespace Go.Proofs.YtlliliddljkbfaaGreat
set_option maxHeartbeats 64000000
set_option maxRecDepth 100000
open Go.RowKit Sp
section
attribute [local go_sem] fld_tok fld_ins fld_kind fld_word
def prevT (l : List Nd) (i : Nat) : Option Tok := if i = 0 then none else (l[i - 1]?).map Nd.t
structure VwI (w : World) (l : List Nd) (u : Value) (ps : List ByteArray) (i : Nat) (wr : World) : Prop where
  row : wr.ownsRow w.heap.size 9 1 u ps.length (ps.map Value.string)
  below : Below w.heap.size w wr
  eq : Sp.written l = joinB ps ++ writF (prevT l i) (l.drop i)
  ln : ps.length ≤ 2 * i
theorem writF_at {l : List Nd} {i : Nat} (h : i < l.length) : writF (prevT l i) (l.drop i) = (if twoB (prevT l i) l[i].t = true then nob else gapO (prevT l i) l[i].t ++ writN l[i]) ++ writF (prevT l (i + 1)) (l.drop (i + 1)) := by
  rw [List.drop_eq_getElem_cons h]
  have e : prevT l (i + 1) = some l[i].t := by unfold prevT; rw [if_neg (by omega)]; simp [h]
  rw [e]
  conv => lhs; unfold writF
theorem prevT_at {l : List Nd} {i : Nat} (h : i < l.length) (h0 : 0 < i) : prevT l i = some (l[i - 1]'(by omega)).t := by
  unfold prevT; rw [if_neg (by omega), List.getElem?_eq_getElem (by omega)]; rfl
theorem nob_app (a : ByteArray) : nob ++ a = a := by
  apply ByteArray.ext
  rw [ByteArray.data_append]
  simp [nob]
theorem wzN_mem : ∀ (l : List Nd) (n : Nd), n ∈ l → wzN n ≤ wzL l
  | m :: r, n, h => by
    unfold wzL
    rcases List.mem_cons.1 h with e | e
    · subst e; omega
    · have := wzN_mem r n e; omega
theorem wzN_kids (n : Nd) : wzL n.kids ≤ wzN n := by
  obtain ⟨t, k⟩ := n
  unfold wzN
  show wzL k ≤ _
  omega
theorem Values_of (l : List Nd) (hrec : ∀ n ∈ l, ValsOK n.kids) : ValsOK l := by
  intro B v w h hB hz
  have hl6 := h.len
  have HS : Hid (Sl (fun b => b < B) w v l) := h
  have HR : Hid (∀ n ∈ l, ValsOK n.kids) := hrec
  obtain ⟨a, cap, rfl⟩ := h.form
  clear h hrec
  obtain ⟨iS, hiS⟩ := info_str
  have HI : Hid (Tryz.prog.info? 9 = some iS ∧ iS.zero = some (.string ⟨#[]⟩) ∧ iS.size = 1 ∧ iS.bytes = 16) := hiS
  clear hiS
  have HZ : Hid ((Sp.written l).size ≤ 549755813888) := Nat.le_trans (written_size l) hz
  go_enter Tryz.func102, Tryz.ntmps102
  go_wp2_with fail
  go_loopg [3, 8] l.length (fun gg v3 v8 wr => ∃ (u : Value) (ps : List ByteArray) (i : Nat), u = v3 ∧ v8 = .int .i64 (i : Int) ∧ i + gg = l.length ∧ ps.length ≤ 2 * i ∧ Aside (VwI w l u ps i wr))
  case atStart => exact ⟨_, [], 0, rfl, rfl, by omega, by simp, World.ownsRow_nil _ _ _ _, Below.refl _ _, by rw [show joinB [] = nob from rfl, nob_app]; rfl, by simp⟩
  case round =>
    obtain ⟨u, ps, i, rfl, rfl, hi, hpl, hA⟩ := hrel
    have HC : Hid (VwI w l u ps i wr) := hA.out
    clear hA
    have hsr := HC.out.below.size
    have hpt : total ps ≤ 549755813888 := by
      rw [← size_joinB]
      have := HZ.out
      rw [HC.out.eq, ByteArray.size_append] at this
      omega
    by_cases hlt : i < l.length
    · have h1 : (i : Int) < (l.length : Int) := by omega
      have S1 := HS.out.below HC.out.below hB
      have SB : Hid (Sl (fun b => b < B) wr (.slice a l.length cap) l) := S1
      obtain ⟨g, o, rfl, hL, hcap⟩ := S1.here (by rintro rfl; simp at hlt)
      obtain ⟨kv, hN⟩ := hL.node (i := i) hlt
      have HLL : Hid (LiesL (fun b => b < B) wr l g o) := hL
      obtain ⟨n, hn⟩ : ∃ n, n = l[i] := ⟨_, rfl⟩
      have HM : Hid (n ∈ l) := by rw [hn]; exact List.getElem_mem _
      have HW := writF_at hlt
      rw [← hn] at hN HW
      have HEQ : Hid (writF (prevT l i) (l.drop i) = (if twoB (prevT l i) n.t = true then nob else gapO (prevT l i) n.t ++ writN n) ++ writF (prevT l (i + 1)) (l.drop (i + 1))) := HW
      have HTOK : Hid (TokOK n.t) := hN.ok
      have HKV : Hid (Sl (fun b => b < B) wr kv n.kids) := hN.k
      have HWZ : Hid (wzL n.kids ≤ 549755813888) := Nat.le_trans (wzN_kids n) (Nat.le_trans (wzN_mem l n HM.out) hz)
      obtain ⟨ka, kc, rfl⟩ := hN.k.form
      have d0 := hN.c0
      have d1 := hN.c1
      have d2 := hN.c2
      have d3 := hN.c3
      have hgB : g < B := hN.s
      clear hN hL S1 HW hn
      have A2 : Hid (VB (wr.alloc (.cells #[.int .i64 n.t.kind, .string n.t.word, .string n.t.unit, .slice ka n.kids.length kc] 199)) wr.heap.size (.int .i64 n.t.kind) (.string n.t.word) (.string n.t.unit) (.slice ka n.kids.length kc)) := VB.new _ _ _ _ _
      have B2 : Hid (Below wr.heap.size wr (wr.alloc (.cells #[.int .i64 n.t.kind, .string n.t.word, .string n.t.unit, .slice ka n.kids.length kc] 199))) := (Below.refl _ _).alloc (Nat.le_refl _) _
      go_upto_region 5 with fail
      generalize wr.alloc (.cells #[.int .i64 n.t.kind, .string n.t.word, .string n.t.unit, .slice ka n.kids.length kc] 199) = w2 at *
      obtain ⟨gt, Hgt⟩ : ∃ gt, Hid (wr.heap.size = gt) := ⟨_, hid rfl⟩
      have A3 : Hid (VB w2 gt (.int .i64 n.t.kind) (.string n.t.word) (.string n.t.unit) (.slice ka n.kids.length kc)) := by rw [← Hgt.out]; exact A2
      rw [Hgt.out]
      clear A2 d0 d1 d2 d3
      obtain ⟨a0, a1, a2, a3⟩ := A3.out.cs
      have BL2 : Hid (Below w.heap.size w w2) := HC.out.below.trans (B2.out.mono hsr)
      have O2 : Hid (w2.ownsRow w.heap.size 9 1 u ps.length (ps.map Value.string)) := own_keep HC.out.row fun r hr => B2.out.block r (HC.out.row.lt r hr).2
      have K2 : Hid (Sl (fun b => b < B) w2 (.slice ka n.kids.length kc) n.kids) := HKV.out.below B2.out (by omega)
      have hs2 := BL2.out.size
      by_cases h0 : i = 0
      · subst h0
        have HPV : Hid (prevT l 0 = none) := rfl
        go_wp2_with fail
        refine (value_c n (HR.out n HM.out) B _ w2 K2.out (by omega) HTOK.out HWZ.out).mono ?_
        rintro e w7 ⟨rfl, hb7⟩
        have B7 : Hid (Below w.heap.size w w7) := BL2.out.trans (hb7.mono (by omega))
        have O7 : Hid (w7.ownsRow w.heap.size 9 1 u (ps).length ((ps).map Value.string)) := own_keep O2.out fun r hr => hb7.block r (O2.out.lt r hr).2
        have hs7 := B7.out.size
        clear hb7
        go_wp2_with (at_builtin; go_must (refine wpList_append_own _ rfl _ _ 26 rfl w.heap.size 9 iS (.string ⟨#[]⟩) 1 16 Tryz.underlying26 HI.out.1 HI.out.2.1 HI.out.2.2.1 HI.out.2.2.2 rfl (by omega) u (ps).length ((ps).map Value.string) rfl (O7.out.alloc _) ⟨w7.heap.size, 0, none⟩ 1 1 [.string (writN n)] rfl rfl (cell_one_new _ _ _) (str_oneCell _) (by unfold maxLen; simp; omega) (by omega) (by simp; omega) ?_))
        intro v8 w8 hown8 hgr8 _
        have HC8 : Hid (VwI w l v8 ((ps) ++ [writN n]) (0 + 1) w8) := ⟨by first | (rw [List.length_append, List.map_append]; exact hown8) | simpa using hown8, (B7.out.alloc hs7 _).grown hgr8 (by simp; omega) (fun rr hr => (O7.out.lt rr hr).1), by rw [joinB_snoc, HC.out.eq, HEQ.out, HPV.out]; show _ ++ ((if false = true then nob else nob ++ writN n) ++ _) = _; rw [if_neg (by simp), nob_app, ByteArray.append_assoc], by simp; omega⟩
        clear hown8 hgr8
        go_wp2_with fail
        go_roundg (gk - 1)
        case measure => omega
        case rel => exact ⟨v8, (ps) ++ [writN n], 0 + 1, rfl, by congr 1, by omega, by simp; omega, HC8.out⟩
      · have h0' : 0 < i := by omega
        have h0i : (0 : Int) < (i : Int) := by omega
        obtain ⟨m, hm⟩ : ∃ m, m = l[i - 1]'(by omega) := ⟨_, rfl⟩
        obtain ⟨mv, hNm⟩ := HLL.out.node (i := i - 1) (by omega)
        rw [← hm] at hNm
        have HPV : Hid (prevT l i = some m.t) := by show _ = _; rw [prevT_at hlt h0', hm]
        obtain ⟨ma, mc, rfl⟩ := hNm.k.form
        have HMC : Hid (∀ wx, Below wr.heap.size wr wx → wx.cell? ⟨g, o + (i - 1) * 4, none⟩ = some (.int .i64 m.t.kind) ∧ wx.cell? ⟨g, o + (i - 1) * 4 + 1, none⟩ = some (.string m.t.word) ∧ wx.cell? ⟨g, o + (i - 1) * 4 + 2, none⟩ = some (.string m.t.unit) ∧ wx.cell? ⟨g, o + (i - 1) * 4 + 3, none⟩ = some (.slice ma m.kids.length mc)) := by
          intro wx hb
          have hg : g < wr.heap.size := by omega
          refine ⟨?_, ?_, ?_, ?_⟩
          · rw [hb.cell (p := ⟨g, _, none⟩) hg]; exact hNm.c0
          · rw [hb.cell (p := ⟨g, _, none⟩) hg]; exact hNm.c1
          · rw [hb.cell (p := ⟨g, _, none⟩) hg]; exact hNm.c2
          · rw [hb.cell (p := ⟨g, _, none⟩) hg]; exact hNm.c3
        clear hNm hm
        have X2 : Hid (Below wr.heap.size wr w2) := by rw [Hgt.out]; rw [Hgt.out] at B2; exact B2.out
        have A2 : Hid (VB w2 gt (.int .i64 n.t.kind) (.string n.t.word) (.string n.t.unit) (.slice ka n.kids.length kc)) := A3.out
        clear A3 O2 K2 BL2 B2
        have hwi : IntKind.i64.wrap ((i : Int) - 1) = ((i - 1 : Nat) : Int) := by rw [IntKind.wrap_i64]; omega
        have hi1 : ((i - 1 : Nat) : Int) < (l.length : Int) := by omega
        obtain ⟨b0, b1', b2', b3⟩ := HMC.out w2 X2.out
        obtain ⟨x1, Hx1⟩ : ∃ x, Hid (decide (n.t.kind = 1) = x) := ⟨_, hid rfl⟩
        obtain ⟨x2, Hx2⟩ : ∃ x, Hid (decide (m.t.kind = 1) = x) := ⟨_, hid rfl⟩
        obtain ⟨x3, Hx3⟩ : ∃ x, Hid (endsT m.t = x) := ⟨_, hid rfl⟩
        obtain ⟨x4, Hx4⟩ : ∃ x, Hid (begsT n.t = x) := ⟨_, hid rfl⟩
        clear h0
        go_wp2_with fail
        refine (wBlank_c n.t ka n.kids.length kc _).mono ?_
        rw [Hx1.out]
        rintro e w3 ⟨rfl, hb3⟩
        have X3 : Hid (Below wr.heap.size wr w3) := X2.out.trans (hb3.mono X2.out.size)
        have A3 : Hid (VB w3 gt (.int .i64 n.t.kind) (.string n.t.word) (.string n.t.unit) (.slice ka n.kids.length kc)) := A2.out.below hb3
        clear hb3 a0 a1 a2 a3 b0 b1' b2' b3
        obtain ⟨a0, a1, a2, a3⟩ := A3.out.cs
        obtain ⟨b0, b1', b2', b3⟩ := HMC.out w3 X3.out
        cases x1
        · have HTW : Hid (twoB (some m.t) n.t = false) := by show _ = _; show (decide (m.t.kind = 1) && decide (n.t.kind = 1)) = false; rw [Hx1.out]; exact Bool.and_false _
          go_wp2_with fail
          refine (endsAlone_c m.t ma m.kids.length mc _).mono ?_
          rw [Hx3.out]
          rintro e w13 ⟨rfl, hb13⟩
          have X13 : Hid (Below wr.heap.size wr w13) := X3.out.trans (hb13.mono X3.out.size)
          have A13 : Hid (VB w13 gt (.int .i64 n.t.kind) (.string n.t.word) (.string n.t.unit) (.slice ka n.kids.length kc)) := A3.out.below hb13
          clear hb13 a0 a1 a2 a3 b0 b1' b2' b3
          obtain ⟨a0, a1, a2, a3⟩ := A13.out.cs
          obtain ⟨b0, b1', b2', b3⟩ := HMC.out w13 X13.out
          cases x3
          · have HGP : Hid (gapO (some m.t) n.t = if (!x4) = true then midO else nob) := by show (if parts m.t n.t = true then midO else nob) = _; rw [parts_eq, Hx3.out, Hx4.out]; rfl
            go_wp2_with fail
            refine (beginsAlone_c n.t ka n.kids.length kc _).mono ?_
            rw [Hx4.out]
            rintro e w14 ⟨rfl, hb14⟩
            have X14 : Hid (Below wr.heap.size wr w14) := X13.out.trans (hb14.mono X13.out.size)
            have A14 : Hid (VB w14 gt (.int .i64 n.t.kind) (.string n.t.word) (.string n.t.unit) (.slice ka n.kids.length kc)) := A13.out.below hb14
            clear hb14 a0 a1 a2 a3 b0 b1' b2' b3
            obtain ⟨a0, a1, a2, a3⟩ := A14.out.cs
            obtain ⟨b0, b1', b2', b3⟩ := HMC.out w14 X14.out
            cases x4
            · have HG2 : Hid (gapO (some m.t) n.t = midO) := HGP.out
              have BLk : Hid (Below w.heap.size w w14) := HC.out.below.trans (X14.out.mono hsr)
              have Ok : Hid (w14.ownsRow w.heap.size 9 1 u ps.length (ps.map Value.string)) := own_keep HC.out.row fun r hr => X14.out.block r (HC.out.row.lt r hr).2
              have Kk : Hid (Sl (fun b => b < B) w14 (.slice ka n.kids.length kc) n.kids) := HKV.out.below X14.out (by omega)
              have hsk := BLk.out.size
              have HO : Hid ((w14.alloc (.cells #[.string ⟨#[47, 42, 42, 47]⟩] 9)).ownsRow w.heap.size 9 1 u ps.length (ps.map Value.string)) := Ok.out.alloc _
              go_wp2_with (at_builtin; go_must (refine wpList_append_own _ rfl _ _ 26 rfl w.heap.size 9 iS (.string ⟨#[]⟩) 1 16 Tryz.underlying26 HI.out.1 HI.out.2.1 HI.out.2.2.1 HI.out.2.2.2 rfl (by omega) u ps.length (ps.map Value.string) rfl HO.out ⟨w14.heap.size, 0, none⟩ 1 1 [.string ⟨#[47, 42, 42, 47]⟩] rfl rfl (cell_one_new _ _ _) (str_oneCell _) (by unfold maxLen; omega) (by omega) (by simp; omega) ?_))
              intro v6 w6 hown6 hgr6 _
              have BL6 : Hid (Below w.heap.size w w6) := (BLk.out.alloc hsk _).grown hgr6 (by simp; omega) (fun rr hr => (Ok.out.lt rr hr).1)
              have X6 : Hid (Below B w14 w6) := ((Below.refl _ _).alloc (by omega) _).grown hgr6 (by simp; omega) (fun rr hr => by have := (Ok.out.lt rr hr).1; omega)
              have A6 : Hid (VB w6 gt (.int .i64 n.t.kind) (.string n.t.word) (.string n.t.unit) (.slice ka n.kids.length kc)) := by
                have hne : u.ownBlock ≠ some gt := fun e => by have := (HC.out.row.lt gt e).2; have := Hgt.out; omega
                have hltg := A14.out.lt
                show w6.heap[gt]? = _
                rw [hgr6.block gt (by simp; omega) (fun e => hne e.symm), Below.heap_alloc _ _ _ hltg]
                exact A14.out
              have O6 : Hid (w6.ownsRow w.heap.size 9 1 v6 (ps ++ [midO]).length ((ps ++ [midO]).map Value.string)) := by show World.ownsRow _ _ _ _ _ _ _; rw [List.length_append, List.map_append]; exact hown6
              have hp6 : (ps ++ [midO]).length ≤ 2 * i + 1 := by simp; omega
              have K6 : Hid (Sl (fun b => b < B) w6 (.slice ka n.kids.length kc) n.kids) := Kk.out.below X6.out (Nat.le_refl _)
              have hs6 := BL6.out.size
              clear hown6 hgr6 a0 a1 a2 a3 b0 b1' b2' b3 HO
              obtain ⟨a0, a1, a2, a3⟩ := A6.out.cs
              go_wp2_with fail
              refine (value_c n (HR.out n HM.out) B _ w6 K6.out (by omega) HTOK.out HWZ.out).mono ?_
              rintro e w7 ⟨rfl, hb7⟩
              have B7 : Hid (Below w.heap.size w w7) := BL6.out.trans (hb7.mono (by omega))
              have O7 : Hid (w7.ownsRow w.heap.size 9 1 v6 (ps ++ [midO]).length ((ps ++ [midO]).map Value.string)) := own_keep O6.out fun r hr => hb7.block r (O6.out.lt r hr).2
              have hs7 := B7.out.size
              clear hb7
              go_wp2_with (at_builtin; go_must (refine wpList_append_own _ rfl _ _ 26 rfl w.heap.size 9 iS (.string ⟨#[]⟩) 1 16 Tryz.underlying26 HI.out.1 HI.out.2.1 HI.out.2.2.1 HI.out.2.2.2 rfl (by omega) v6 (ps ++ [midO]).length ((ps ++ [midO]).map Value.string) rfl (O7.out.alloc _) ⟨w7.heap.size, 0, none⟩ 1 1 [.string (writN n)] rfl rfl (cell_one_new _ _ _) (str_oneCell _) (by unfold maxLen; simp; omega) (by omega) (by simp; omega) ?_))
              intro v8 w8 hown8 hgr8 _
              have HC8 : Hid (VwI w l v8 ((ps ++ [midO]) ++ [writN n]) (i + 1) w8) := ⟨by first | (rw [List.length_append, List.map_append]; exact hown8) | simpa using hown8, (B7.out.alloc hs7 _).grown hgr8 (by simp; omega) (fun rr hr => (O7.out.lt rr hr).1), by rw [joinB_snoc, joinB_snoc, HC.out.eq, HEQ.out, HPV.out, if_neg (by rw [HTW.out]; simp), HG2.out, ByteArray.append_assoc, ByteArray.append_assoc, ByteArray.append_assoc], by simp; omega⟩
              clear hown8 hgr8
              go_wp2_with fail
              go_roundg (gk - 1)
              case measure => omega
              case rel => exact ⟨v8, (ps ++ [midO]) ++ [writN n], i + 1, rfl, by congr 1, by omega, by simp; omega, HC8.out⟩
            · have HG2 : Hid (gapO (some m.t) n.t = nob) := HGP.out
              have BLk : Hid (Below w.heap.size w w14) := HC.out.below.trans (X14.out.mono hsr)
              have Ok : Hid (w14.ownsRow w.heap.size 9 1 u ps.length (ps.map Value.string)) := own_keep HC.out.row fun r hr => X14.out.block r (HC.out.row.lt r hr).2
              have Kk : Hid (Sl (fun b => b < B) w14 (.slice ka n.kids.length kc) n.kids) := HKV.out.below X14.out (by omega)
              have hsk := BLk.out.size
              go_wp2_with fail
              refine (value_c n (HR.out n HM.out) B _ w14 Kk.out (by omega) HTOK.out HWZ.out).mono ?_
              rintro e w7 ⟨rfl, hb7⟩
              have B7 : Hid (Below w.heap.size w w7) := BLk.out.trans (hb7.mono (by omega))
              have O7 : Hid (w7.ownsRow w.heap.size 9 1 u (ps).length ((ps).map Value.string)) := own_keep Ok.out fun r hr => hb7.block r (Ok.out.lt r hr).2
              have hs7 := B7.out.size
              clear hb7
              go_wp2_with (at_builtin; go_must (refine wpList_append_own _ rfl _ _ 26 rfl w.heap.size 9 iS (.string ⟨#[]⟩) 1 16 Tryz.underlying26 HI.out.1 HI.out.2.1 HI.out.2.2.1 HI.out.2.2.2 rfl (by omega) u (ps).length ((ps).map Value.string) rfl (O7.out.alloc _) ⟨w7.heap.size, 0, none⟩ 1 1 [.string (writN n)] rfl rfl (cell_one_new _ _ _) (str_oneCell _) (by unfold maxLen; simp; omega) (by omega) (by simp; omega) ?_))
              intro v8 w8 hown8 hgr8 _
              have HC8 : Hid (VwI w l v8 ((ps) ++ [writN n]) (i + 1) w8) := ⟨by first | (rw [List.length_append, List.map_append]; exact hown8) | simpa using hown8, (B7.out.alloc hs7 _).grown hgr8 (by simp; omega) (fun rr hr => (O7.out.lt rr hr).1), by rw [joinB_snoc, HC.out.eq, HEQ.out, HPV.out, if_neg (by rw [HTW.out]; simp), HG2.out, nob_app, ByteArray.append_assoc], by simp; omega⟩
              clear hown8 hgr8
              go_wp2_with fail
              go_roundg (gk - 1)
              case measure => omega
              case rel => exact ⟨v8, (ps) ++ [writN n], i + 1, rfl, by congr 1, by omega, by simp; omega, HC8.out⟩
          · have HG2 : Hid (gapO (some m.t) n.t = nob) := by show (if parts m.t n.t = true then midO else nob) = _; rw [parts_eq, Hx3.out]; rfl
            have BLk : Hid (Below w.heap.size w w13) := HC.out.below.trans (X13.out.mono hsr)
            have Ok : Hid (w13.ownsRow w.heap.size 9 1 u ps.length (ps.map Value.string)) := own_keep HC.out.row fun r hr => X13.out.block r (HC.out.row.lt r hr).2
            have Kk : Hid (Sl (fun b => b < B) w13 (.slice ka n.kids.length kc) n.kids) := HKV.out.below X13.out (by omega)
            have hsk := BLk.out.size
            go_wp2_with fail
            refine (value_c n (HR.out n HM.out) B _ w13 Kk.out (by omega) HTOK.out HWZ.out).mono ?_
            rintro e w7 ⟨rfl, hb7⟩
            have B7 : Hid (Below w.heap.size w w7) := BLk.out.trans (hb7.mono (by omega))
            have O7 : Hid (w7.ownsRow w.heap.size 9 1 u (ps).length ((ps).map Value.string)) := own_keep Ok.out fun r hr => hb7.block r (Ok.out.lt r hr).2
            have hs7 := B7.out.size
            clear hb7
            go_wp2_with (at_builtin; go_must (refine wpList_append_own _ rfl _ _ 26 rfl w.heap.size 9 iS (.string ⟨#[]⟩) 1 16 Tryz.underlying26 HI.out.1 HI.out.2.1 HI.out.2.2.1 HI.out.2.2.2 rfl (by omega) u (ps).length ((ps).map Value.string) rfl (O7.out.alloc _) ⟨w7.heap.size, 0, none⟩ 1 1 [.string (writN n)] rfl rfl (cell_one_new _ _ _) (str_oneCell _) (by unfold maxLen; simp; omega) (by omega) (by simp; omega) ?_))
            intro v8 w8 hown8 hgr8 _
            have HC8 : Hid (VwI w l v8 ((ps) ++ [writN n]) (i + 1) w8) := ⟨by first | (rw [List.length_append, List.map_append]; exact hown8) | simpa using hown8, (B7.out.alloc hs7 _).grown hgr8 (by simp; omega) (fun rr hr => (O7.out.lt rr hr).1), by rw [joinB_snoc, HC.out.eq, HEQ.out, HPV.out, if_neg (by rw [HTW.out]; simp), HG2.out, nob_app, ByteArray.append_assoc], by simp; omega⟩
            clear hown8 hgr8
            go_wp2_with fail
            go_roundg (gk - 1)
            case measure => omega
            case rel => exact ⟨v8, (ps) ++ [writN n], i + 1, rfl, by congr 1, by omega, by simp; omega, HC8.out⟩
        · go_wp2_with fail
          refine (wBlank_c m.t ma m.kids.length mc _).mono ?_
          rw [Hx2.out]
          rintro e w4 ⟨rfl, hb4⟩
          have X4 : Hid (Below wr.heap.size wr w4) := X3.out.trans (hb4.mono X3.out.size)
          have A4 : Hid (VB w4 gt (.int .i64 n.t.kind) (.string n.t.word) (.string n.t.unit) (.slice ka n.kids.length kc)) := A3.out.below hb4
          clear hb4 a0 a1 a2 a3 b0 b1' b2' b3
          obtain ⟨a0, a1, a2, a3⟩ := A4.out.cs
          obtain ⟨b0, b1', b2', b3⟩ := HMC.out w4 X4.out
          cases x2
          · have HTW : Hid (twoB (some m.t) n.t = false) := by show _ = _; show (decide (m.t.kind = 1) && decide (n.t.kind = 1)) = false; rw [Hx2.out]; rfl
            go_wp2_with fail
            refine (endsAlone_c m.t ma m.kids.length mc _).mono ?_
            rw [Hx3.out]
            rintro e w14 ⟨rfl, hb14⟩
            have X14 : Hid (Below wr.heap.size wr w14) := X4.out.trans (hb14.mono X4.out.size)
            have A14 : Hid (VB w14 gt (.int .i64 n.t.kind) (.string n.t.word) (.string n.t.unit) (.slice ka n.kids.length kc)) := A4.out.below hb14
            clear hb14 a0 a1 a2 a3 b0 b1' b2' b3
            obtain ⟨a0, a1, a2, a3⟩ := A14.out.cs
            obtain ⟨b0, b1', b2', b3⟩ := HMC.out w14 X14.out
            cases x3
            · have HGP : Hid (gapO (some m.t) n.t = if (!x4) = true then midO else nob) := by show (if parts m.t n.t = true then midO else nob) = _; rw [parts_eq, Hx3.out, Hx4.out]; rfl
              go_wp2_with fail
              refine (beginsAlone_c n.t ka n.kids.length kc _).mono ?_
              rw [Hx4.out]
              rintro e w15 ⟨rfl, hb15⟩
              have X15 : Hid (Below wr.heap.size wr w15) := X14.out.trans (hb15.mono X14.out.size)
              have A15 : Hid (VB w15 gt (.int .i64 n.t.kind) (.string n.t.word) (.string n.t.unit) (.slice ka n.kids.length kc)) := A14.out.below hb15
              clear hb15 a0 a1 a2 a3 b0 b1' b2' b3
              obtain ⟨a0, a1, a2, a3⟩ := A15.out.cs
              obtain ⟨b0, b1', b2', b3⟩ := HMC.out w15 X15.out
              cases x4
              · have HG2 : Hid (gapO (some m.t) n.t = midO) := HGP.out
                have BLk : Hid (Below w.heap.size w w15) := HC.out.below.trans (X15.out.mono hsr)
                have Ok : Hid (w15.ownsRow w.heap.size 9 1 u ps.length (ps.map Value.string)) := own_keep HC.out.row fun r hr => X15.out.block r (HC.out.row.lt r hr).2
                have Kk : Hid (Sl (fun b => b < B) w15 (.slice ka n.kids.length kc) n.kids) := HKV.out.below X15.out (by omega)
                have hsk := BLk.out.size
                have HO : Hid ((w15.alloc (.cells #[.string ⟨#[47, 42, 42, 47]⟩] 9)).ownsRow w.heap.size 9 1 u ps.length (ps.map Value.string)) := Ok.out.alloc _
                go_wp2_with (at_builtin; go_must (refine wpList_append_own _ rfl _ _ 26 rfl w.heap.size 9 iS (.string ⟨#[]⟩) 1 16 Tryz.underlying26 HI.out.1 HI.out.2.1 HI.out.2.2.1 HI.out.2.2.2 rfl (by omega) u ps.length (ps.map Value.string) rfl HO.out ⟨w15.heap.size, 0, none⟩ 1 1 [.string ⟨#[47, 42, 42, 47]⟩] rfl rfl (cell_one_new _ _ _) (str_oneCell _) (by unfold maxLen; omega) (by omega) (by simp; omega) ?_))
                intro v6 w6 hown6 hgr6 _
                have BL6 : Hid (Below w.heap.size w w6) := (BLk.out.alloc hsk _).grown hgr6 (by simp; omega) (fun rr hr => (Ok.out.lt rr hr).1)
                have X6 : Hid (Below B w15 w6) := ((Below.refl _ _).alloc (by omega) _).grown hgr6 (by simp; omega) (fun rr hr => by have := (Ok.out.lt rr hr).1; omega)
                have A6 : Hid (VB w6 gt (.int .i64 n.t.kind) (.string n.t.word) (.string n.t.unit) (.slice ka n.kids.length kc)) := by
                  have hne : u.ownBlock ≠ some gt := fun e => by have := (HC.out.row.lt gt e).2; have := Hgt.out; omega
                  have hltg := A15.out.lt
                  show w6.heap[gt]? = _
                  rw [hgr6.block gt (by simp; omega) (fun e => hne e.symm), Below.heap_alloc _ _ _ hltg]
                  exact A15.out
                have O6 : Hid (w6.ownsRow w.heap.size 9 1 v6 (ps ++ [midO]).length ((ps ++ [midO]).map Value.string)) := by show World.ownsRow _ _ _ _ _ _ _; rw [List.length_append, List.map_append]; exact hown6
                have hp6 : (ps ++ [midO]).length ≤ 2 * i + 1 := by simp; omega
                have K6 : Hid (Sl (fun b => b < B) w6 (.slice ka n.kids.length kc) n.kids) := Kk.out.below X6.out (Nat.le_refl _)
                have hs6 := BL6.out.size
                clear hown6 hgr6 a0 a1 a2 a3 b0 b1' b2' b3 HO
                obtain ⟨a0, a1, a2, a3⟩ := A6.out.cs
                go_wp2_with fail
                refine (value_c n (HR.out n HM.out) B _ w6 K6.out (by omega) HTOK.out HWZ.out).mono ?_
                rintro e w7 ⟨rfl, hb7⟩
                have B7 : Hid (Below w.heap.size w w7) := BL6.out.trans (hb7.mono (by omega))
                have O7 : Hid (w7.ownsRow w.heap.size 9 1 v6 (ps ++ [midO]).length ((ps ++ [midO]).map Value.string)) := own_keep O6.out fun r hr => hb7.block r (O6.out.lt r hr).2
                have hs7 := B7.out.size
                clear hb7
                go_wp2_with (at_builtin; go_must (refine wpList_append_own _ rfl _ _ 26 rfl w.heap.size 9 iS (.string ⟨#[]⟩) 1 16 Tryz.underlying26 HI.out.1 HI.out.2.1 HI.out.2.2.1 HI.out.2.2.2 rfl (by omega) v6 (ps ++ [midO]).length ((ps ++ [midO]).map Value.string) rfl (O7.out.alloc _) ⟨w7.heap.size, 0, none⟩ 1 1 [.string (writN n)] rfl rfl (cell_one_new _ _ _) (str_oneCell _) (by unfold maxLen; simp; omega) (by omega) (by simp; omega) ?_))
                intro v8 w8 hown8 hgr8 _
                have HC8 : Hid (VwI w l v8 ((ps ++ [midO]) ++ [writN n]) (i + 1) w8) := ⟨by first | (rw [List.length_append, List.map_append]; exact hown8) | simpa using hown8, (B7.out.alloc hs7 _).grown hgr8 (by simp; omega) (fun rr hr => (O7.out.lt rr hr).1), by rw [joinB_snoc, joinB_snoc, HC.out.eq, HEQ.out, HPV.out, if_neg (by rw [HTW.out]; simp), HG2.out, ByteArray.append_assoc, ByteArray.append_assoc, ByteArray.append_assoc], by simp; omega⟩
                clear hown8 hgr8
                go_wp2_with fail
                go_roundg (gk - 1)
                case measure => omega
                case rel => exact ⟨v8, (ps ++ [midO]) ++ [writN n], i + 1, rfl, by congr 1, by omega, by simp; omega, HC8.out⟩
              · have HG2 : Hid (gapO (some m.t) n.t = nob) := HGP.out
                have BLk : Hid (Below w.heap.size w w15) := HC.out.below.trans (X15.out.mono hsr)
                have Ok : Hid (w15.ownsRow w.heap.size 9 1 u ps.length (ps.map Value.string)) := own_keep HC.out.row fun r hr => X15.out.block r (HC.out.row.lt r hr).2
                have Kk : Hid (Sl (fun b => b < B) w15 (.slice ka n.kids.length kc) n.kids) := HKV.out.below X15.out (by omega)
                have hsk := BLk.out.size
                go_wp2_with fail
                refine (value_c n (HR.out n HM.out) B _ w15 Kk.out (by omega) HTOK.out HWZ.out).mono ?_
                rintro e w7 ⟨rfl, hb7⟩
                have B7 : Hid (Below w.heap.size w w7) := BLk.out.trans (hb7.mono (by omega))
                have O7 : Hid (w7.ownsRow w.heap.size 9 1 u (ps).length ((ps).map Value.string)) := own_keep Ok.out fun r hr => hb7.block r (Ok.out.lt r hr).2
                have hs7 := B7.out.size
                clear hb7
                go_wp2_with (at_builtin; go_must (refine wpList_append_own _ rfl _ _ 26 rfl w.heap.size 9 iS (.string ⟨#[]⟩) 1 16 Tryz.underlying26 HI.out.1 HI.out.2.1 HI.out.2.2.1 HI.out.2.2.2 rfl (by omega) u (ps).length ((ps).map Value.string) rfl (O7.out.alloc _) ⟨w7.heap.size, 0, none⟩ 1 1 [.string (writN n)] rfl rfl (cell_one_new _ _ _) (str_oneCell _) (by unfold maxLen; simp; omega) (by omega) (by simp; omega) ?_))
                intro v8 w8 hown8 hgr8 _
                have HC8 : Hid (VwI w l v8 ((ps) ++ [writN n]) (i + 1) w8) := ⟨by first | (rw [List.length_append, List.map_append]; exact hown8) | simpa using hown8, (B7.out.alloc hs7 _).grown hgr8 (by simp; omega) (fun rr hr => (O7.out.lt rr hr).1), by rw [joinB_snoc, HC.out.eq, HEQ.out, HPV.out, if_neg (by rw [HTW.out]; simp), HG2.out, nob_app, ByteArray.append_assoc], by simp; omega⟩
                clear hown8 hgr8
                go_wp2_with fail
                go_roundg (gk - 1)
                case measure => omega
                case rel => exact ⟨v8, (ps) ++ [writN n], i + 1, rfl, by congr 1, by omega, by simp; omega, HC8.out⟩
            · have HG2 : Hid (gapO (some m.t) n.t = nob) := by show (if parts m.t n.t = true then midO else nob) = _; rw [parts_eq, Hx3.out]; rfl
              have BLk : Hid (Below w.heap.size w w14) := HC.out.below.trans (X14.out.mono hsr)
              have Ok : Hid (w14.ownsRow w.heap.size 9 1 u ps.length (ps.map Value.string)) := own_keep HC.out.row fun r hr => X14.out.block r (HC.out.row.lt r hr).2
              have Kk : Hid (Sl (fun b => b < B) w14 (.slice ka n.kids.length kc) n.kids) := HKV.out.below X14.out (by omega)
              have hsk := BLk.out.size
              go_wp2_with fail
              refine (value_c n (HR.out n HM.out) B _ w14 Kk.out (by omega) HTOK.out HWZ.out).mono ?_
              rintro e w7 ⟨rfl, hb7⟩
              have B7 : Hid (Below w.heap.size w w7) := BLk.out.trans (hb7.mono (by omega))
              have O7 : Hid (w7.ownsRow w.heap.size 9 1 u (ps).length ((ps).map Value.string)) := own_keep Ok.out fun r hr => hb7.block r (Ok.out.lt r hr).2
              have hs7 := B7.out.size
              clear hb7
              go_wp2_with (at_builtin; go_must (refine wpList_append_own _ rfl _ _ 26 rfl w.heap.size 9 iS (.string ⟨#[]⟩) 1 16 Tryz.underlying26 HI.out.1 HI.out.2.1 HI.out.2.2.1 HI.out.2.2.2 rfl (by omega) u (ps).length ((ps).map Value.string) rfl (O7.out.alloc _) ⟨w7.heap.size, 0, none⟩ 1 1 [.string (writN n)] rfl rfl (cell_one_new _ _ _) (str_oneCell _) (by unfold maxLen; simp; omega) (by omega) (by simp; omega) ?_))
              intro v8 w8 hown8 hgr8 _
              have HC8 : Hid (VwI w l v8 ((ps) ++ [writN n]) (i + 1) w8) := ⟨by first | (rw [List.length_append, List.map_append]; exact hown8) | simpa using hown8, (B7.out.alloc hs7 _).grown hgr8 (by simp; omega) (fun rr hr => (O7.out.lt rr hr).1), by rw [joinB_snoc, HC.out.eq, HEQ.out, HPV.out, if_neg (by rw [HTW.out]; simp), HG2.out, nob_app, ByteArray.append_assoc], by simp; omega⟩
              clear hown8 hgr8
              go_wp2_with fail
              go_roundg (gk - 1)
              case measure => omega
              case rel => exact ⟨v8, (ps) ++ [writN n], i + 1, rfl, by congr 1, by omega, by simp; omega, HC8.out⟩
          · have HTW : Hid (twoB (some m.t) n.t = true) := by show (decide (m.t.kind = 1) && decide (n.t.kind = 1)) = true; rw [Hx1.out, Hx2.out]; rfl
            have BLk : Hid (Below w.heap.size w w4) := HC.out.below.trans (X4.out.mono hsr)
            have Ok : Hid (w4.ownsRow w.heap.size 9 1 u ps.length (ps.map Value.string)) := own_keep HC.out.row fun r hr => X4.out.block r (HC.out.row.lt r hr).2
            have Kk : Hid (Sl (fun b => b < B) w4 (.slice ka n.kids.length kc) n.kids) := HKV.out.below X4.out (by omega)
            have hsk := BLk.out.size
            have HC8 : Hid (VwI w l u ps (i + 1) w4) := ⟨Ok.out, BLk.out, by rw [HC.out.eq, HEQ.out, HPV.out, if_pos HTW.out, nob_app], by omega⟩
            go_wp2_with fail
            go_roundg (gk - 1)
            case measure => omega
            case rel => exact ⟨u, ps, i + 1, rfl, by congr 1, by omega, by omega, HC8.out⟩
    · have h1 : (l.length : Int) ≤ (i : Int) := by omega
      have HV : Hid (joinB ps = Sp.written l) := by
        show _ = _
        rw [HC.out.eq, List.drop_of_length_le (by omega)]
        exact (app_nob _).symm
      go_wp2_with fail
      refine (Join_c ps w.heap.size u _ HC.out.row (by omega) (by omega)).mono ?_
      rintro e w5 ⟨rfl, hb5⟩
      have B5 : Hid (Below w.heap.size w w5) := HC.out.below.trans (hb5.mono hsr)
      clear hb5
      go_wp2_with fail
      go_ret
      exact ⟨retS HV.out, B5.out⟩
theorem Values_to : ∀ (k : Nat) (l : List Nd), wzL l ≤ k → ValsOK l := by
  intro k
  induction k with
  | zero =>
    intro l h
    refine Values_of l fun n hn => ?_
    have := wzN_mem l n hn
    obtain ⟨t, q⟩ := n
    unfold wzN at this
    omega
  | succ k ih =>
    intro l h
    refine Values_of l fun n hn => ih _ ?_
    have := wzN_mem l n hn
    obtain ⟨t, q⟩ := n
    unfold wzN at this
    show wzL q ≤ k
    omega
theorem Values_c (l : List Nd) : ValsOK l := Values_to _ l (Nat.le_refl _)
end
end Go.Proofs.YtlliliddljkbfaaGreat
