import Derived.Test.YtlliliddljkbfaaGreatC20
import Derived.Test.YtlliliddljkbfaaGreatC40
import Derived.Test.YtlliliddljkbfaaGreatC41
namespace Go.Proofs.YtlliliddljkbfaaGreat
set_option maxHeartbeats 64000000
set_option maxRecDepth 100000
open Go.RowKit Sp
section
attribute [local go_sem] fld_tok fld_ins fld_kind fld_word
theorem Sl.cutv {S : Nat → Prop} {w : World} {a : Option Addr} {n cap : Nat} {ns : List Nd} (h : Sl S w (.slice a n cap) ns) (i j : Nat) (hij : i ≤ j) (hj : j ≤ ns.length) :
    ∃ a' c', (∀ W : World, (Instr.slice 128 (.slice a n cap) (some (.int .i64 (i : Int))) (some (.int .i64 (j : Int))) none).run Tryz.prog W = .ok (.slice a' (j - i) c') W) ∧ Sl S w (.slice a' (j - i) c') ((ns.take j).drop i) := by
  obtain ⟨iT, h1, _, h3, _⟩ := info_vl
  have hc : ns.length ≤ cap := by obtain ⟨_, _, e, hc, _⟩ := h; cases e; exact hc.1
  refine ⟨if cap = i then a else a.map (·.add (i * 4)), cap - i, fun W => ?_, ?_⟩
  · rw [run_slice_lh (P := Tryz.prog) W 128 a n cap Tryz.underlying128 .i64 .i64 i j (by omega) (by omega) (by omega)]
    have e : Tryz.prog.elem 128 = 199 := by kernel_rfl
    simp [sizeOf, typeInfo, e, h1, h3, sliced, Result.andThen]
  · have := h.cut i j hij hj
    simpa [sliced] using this
theorem Sl.restv {S : Nat → Prop} {w : World} {a : Option Addr} {cap : Nat} {ns : List Nd} (h : Sl S w (.slice a ns.length cap) ns) (i : Nat) (hi : i ≤ ns.length) :
    ∃ a' c', (∀ W : World, (Instr.slice 128 (.slice a ns.length cap) (some (.int .i64 (i : Int))) none none).run Tryz.prog W = .ok (.slice a' (ns.length - i) c') W) ∧ Sl S w (.slice a' (ns.length - i) c') (ns.drop i) := by
  obtain ⟨iT, h1, _, h3, _⟩ := info_vl
  refine ⟨if cap = i then a else a.map (·.add (i * 4)), cap - i, fun W => ?_, ?_⟩
  · rw [run_slice_l (P := Tryz.prog) W 128 a ns.length cap Tryz.underlying128 .i64 i (by omega) (by omega)]
    have e : Tryz.prog.elem 128 = 199 := by kernel_rfl
    simp [sizeOf, typeInfo, e, h1, h3, sliced, Result.andThen]
  · have := h.cut i ns.length hi (Nat.le_refl _)
    rw [List.take_of_length_le (Nat.le_refl _)] at this
    simpa [sliced] using this
theorem info_vls : ∃ i, Tryz.prog.info? 128 = some i ∧ i.zero = some (.slice none 0 0) ∧ i.size = 1 ∧ i.bytes = 24 := info_parts (by kernel_rfl)
theorem Sls.low {B B' : Nat} {w w' : World} {l : List (List Nd)} {vs : List Value} (h : Sls (fun b => b < B) w l vs) (hb : Below B' w w') (hB : B ≤ B') : Sls (fun b => b < B) w' l vs :=
  h.keep (fun _ hg => hg) fun g hg => hb.block g (Nat.lt_of_lt_of_le hg hB)
structure SpI (B : Nat) (w : World) (l : List Nd) (u : Value) (ps : List (List Nd)) (vs : List Value) (bg i : Nat) (wr : World) : Prop where
  row : wr.ownsRow w.heap.size 128 1 u ps.length vs
  sls : Sls (fun b => b < B) wr ps vs
  below : Below w.heap.size w wr
  eq : parted l = partF ps ((l.take i).drop bg) (l.drop i)
  bi : bg ≤ i ∧ i ≤ l.length
  ln : ps.length ≤ bg
theorem Split_c (B : Nat) (l : List Nd) (v : Value) (w : World) (h : Sl (fun b => b < B) w v l) (hB : B ≤ w.heap.size) :
    Calls Tryz.prog 125 #[v, .string (b1 44)] w fun e w' => ∃ v' vs, e = .returned v' ∧ w'.ownsRow w.heap.size 128 1 v' (parted l).length vs ∧ Sls (fun b => b < B) w' (parted l) vs ∧ Below w.heap.size w w' := by
  have hl6 := h.len
  have HS : Hid (Sl (fun b => b < B) w v l) := h
  obtain ⟨a, cap, rfl⟩ := h.form
  clear h
  obtain ⟨iT, hiT⟩ := info_vls
  have HI : Hid (Tryz.prog.info? 128 = some iT ∧ iT.zero = some (.slice none 0 0) ∧ iT.size = 1 ∧ iT.bytes = 24) := hiT
  clear hiT
  go_enter Tryz.func125, Tryz.ntmps125
  go_wp2_with fail
  go_loopg [5, 6, 11] l.length (fun gg v5 v6 v11 wr => ∃ (u : Value) (ps : List (List Nd)) (vs : List Value) (bg i : Nat), u = v5 ∧ v6 = .int .i64 (bg : Int) ∧ v11 = .int .i64 (i : Int) ∧ i + gg = l.length ∧ bg ≤ i ∧ ps.length ≤ bg ∧ Aside (SpI B w l u ps vs bg i wr))
  case atStart => exact ⟨_, [], [], 0, 0, rfl, rfl, rfl, by omega, by omega, by simp, World.ownsRow_nil _ _ _ _, rfl, Below.refl _ _, by simp [parted], ⟨by omega, by omega⟩, by simp⟩
  case round =>
    obtain ⟨u, ps, vs, bg, i, rfl, rfl, rfl, hi, hbi, hpb, hA⟩ := hrel
    have HC : Hid (SpI B w l u ps vs bg i wr) := hA.out
    clear hA
    obtain ⟨ua, uc, rfl⟩ := own_form HC.out.row
    have hsr := HC.out.below.size
    by_cases hlt : i < l.length
    · have h1 : (i : Int) < (l.length : Int) := by omega
      have S1 := HS.out.below HC.out.below hB
      obtain ⟨g, o, rfl, hL, hcap⟩ := S1.here (by rintro rfl; simp at hlt)
      obtain ⟨kv, hN⟩ := hL.node (i := i) hlt
      obtain ⟨n, hn⟩ : ∃ n, n = l[i] := ⟨_, rfl⟩
      have Hdr : Hid (l.drop i = n :: l.drop (i + 1)) := by show _ = _; rw [hn]; exact List.drop_eq_getElem_cons hlt
      have Htk : Hid ((l.take (i + 1)).drop bg = (l.take i).drop bg ++ [n]) := by
        show _ = _
        rw [List.take_succ_eq_append_getElem hlt, ← hn, List.drop_append_of_le_length (by simp; omega)]
      rw [← hn] at hN
      obtain ⟨ka, kc, rfl⟩ := hN.k.form
      have d0 := hN.c0
      have d1 := hN.c1
      have d2 := hN.c2
      have d3 := hN.c3
      have hgB : g < B := hN.s
      clear hN hL S1 hn
      have A2 : Hid (VB (wr.alloc (.cells #[.int .i64 n.t.kind, .string n.t.word, .string n.t.unit, .slice ka n.kids.length kc] 199)) wr.heap.size (.int .i64 n.t.kind) (.string n.t.word) (.string n.t.unit) (.slice ka n.kids.length kc)) := VB.new _ _ _ _ _
      have B2 : Hid (Below wr.heap.size wr (wr.alloc (.cells #[.int .i64 n.t.kind, .string n.t.word, .string n.t.unit, .slice ka n.kids.length kc] 199))) := (Below.refl _ _).alloc (Nat.le_refl _) _
      go_upto_region 6 with fail
      generalize wr.alloc (.cells #[.int .i64 n.t.kind, .string n.t.word, .string n.t.unit, .slice ka n.kids.length kc] 199) = w2 at *
      obtain ⟨gt, Hgt⟩ : ∃ gt, Hid (wr.heap.size = gt) := ⟨_, hid rfl⟩
      have A3 : Hid (VB w2 gt (.int .i64 n.t.kind) (.string n.t.word) (.string n.t.unit) (.slice ka n.kids.length kc)) := by rw [← Hgt.out]; exact A2
      rw [Hgt.out]
      clear A2 d0 d1 d2 d3
      obtain ⟨a0, a1, a2, a3⟩ := A3.out.cs
      go_wp2_with fail
      refine (IsSign_c n.t _ (b1 44) _).mono ?_
      rintro e w3 ⟨rfl, hb3⟩
      have B3 : Hid (Below wr.heap.size wr w3) := B2.out.trans (hb3.mono B2.out.size)
      clear hb3 a0 a1 a2 a3 A3 B2
      have C3 : Hid (SpI B w l (.slice ua ps.length uc) ps vs bg i w3) := ⟨own_keep HC.out.row fun k hk => B3.out.block k (HC.out.row.lt k hk).2, HC.out.sls.low B3.out (by omega), HC.out.below.trans (B3.out.mono hsr), HC.out.eq, HC.out.bi, HC.out.ln⟩
      have hs3 := C3.out.below.size
      clear HC B3
      obtain ⟨s1, Hs1⟩ : ∃ s, Hid (signT n.t (b1 44) = s) := ⟨_, hid rfl⟩
      rw [Hs1.out]
      cases s1
      · have HC4 : Hid (SpI B w l (.slice ua ps.length uc) ps vs bg (i + 1) w3) := ⟨C3.out.row, C3.out.sls, C3.out.below, by rw [C3.out.eq, Hdr.out, Htk.out]; simp only [partF, sgnN, Hs1.out]; simp, ⟨by omega, by omega⟩, C3.out.ln⟩
        go_wp2_with fail
        go_roundg (l.length - (i + 1))
        case measure => omega
        case rel => exact ⟨_, ps, vs, bg, i + 1, rfl, rfl, by congr 1, by omega, by omega, hpb, HC4.out⟩
      · obtain ⟨ca, cc, hrun, hcs⟩ := (HS.out.below C3.out.below hB).cutv bg i hbi (by omega)
        have HCS : Hid (Sl (fun b => b < B) w3 (.slice ca (i - bg) cc) ((l.take i).drop bg)) := hcs
        have HRW : Hid ((w3.alloc (.cells #[.slice ca (i - bg) cc] 128)).ownsRow w.heap.size 128 1 (.slice ua ps.length uc) ps.length vs) := C3.out.row.alloc _
        clear hcs
        have q0 : (0 : Int) ≤ (bg : Int) := by omega
        have q1 : (bg : Int) ≤ (i : Int) := by omega
        go_wp2_with (at_builtin; go_must (refine wpList_append_own_at _ rfl _ _ 212 rfl w.heap.size 128 iT (.slice none 0 0) 1 24 Tryz.underlying212 HI.out.1 HI.out.2.1 HI.out.2.2.1 HI.out.2.2.2 rfl (by omega) (.slice ua ps.length uc) ps.length vs rfl HRW.out ⟨w3.heap.size, 0, none⟩ 1 1 [.slice ca (i - bg) cc] rfl rfl (cell_one _ _ _) (by simp [Value.oneCell']) (by unfold maxLen; omega) (by omega) (by simp; omega) ?_))
        intro v4 w4 hown4 hgr4 _ hat4
        have hlo : ∀ rr, Value.ownBlock (.slice ua ps.length uc) = some rr → w.heap.size ≤ rr := fun rr hr => (HRW.out.lt rr hr).1
        have hb4 : Below w.heap.size w3 w4 := ((Below.refl _ _).alloc hs3 _).grown hgr4 (by simp; omega) hlo
        have HC4 : Hid (SpI B w l v4 (ps ++ [(l.take i).drop bg]) (vs ++ [.slice ca (i - bg) cc]) (i + 1) (i + 1) w4) := ⟨by rw [List.length_append]; exact hown4, Sls.snoc _ _ (C3.out.sls.low hb4 hB) _ _ (HCS.out.below hb4 hB), C3.out.below.trans hb4, by
            rw [C3.out.eq, Hdr.out]
            simp only [partF, sgnN, Hs1.out, if_true]
            congr 1
            rw [List.drop_of_length_le (by simp; omega)], ⟨Nat.le_refl _, by omega⟩, by have := C3.out.ln; simp; omega⟩
        have hl4 : (ps ++ [(l.take i).drop bg]).length ≤ i + 1 := HC4.out.ln
        clear hown4 hgr4 hat4 hb4 hlo
        go_wp2_with fail
        go_roundg (l.length - (i + 1))
        case measure => omega
        case rel => exact ⟨_, _, _, i + 1, i + 1, rfl, by congr 1, by congr 1, by omega, by omega, hl4, HC4.out⟩
    · have h1 : (l.length : Int) ≤ (i : Int) := by omega
      obtain rfl : i = l.length := by omega
      obtain ⟨ca, cc, hrun, hcs⟩ := (HS.out.below HC.out.below hB).restv bg (by omega)
      have HCS : Hid (Sl (fun b => b < B) wr (.slice ca (l.length - bg) cc) (l.drop bg)) := hcs
      have HRW : Hid ((wr.alloc (.cells #[.slice ca (l.length - bg) cc] 128)).ownsRow w.heap.size 128 1 (.slice ua ps.length uc) ps.length vs) := HC.out.row.alloc _
      clear hcs
      have q0 : (0 : Int) ≤ (bg : Int) := by omega
      have q1 : (bg : Int) ≤ (l.length : Int) := by omega
      go_wp2_with (at_builtin; go_must (refine wpList_append_own_at _ rfl _ _ 212 rfl w.heap.size 128 iT (.slice none 0 0) 1 24 Tryz.underlying212 HI.out.1 HI.out.2.1 HI.out.2.2.1 HI.out.2.2.2 rfl (by omega) (.slice ua ps.length uc) ps.length vs rfl HRW.out ⟨wr.heap.size, 0, none⟩ 1 1 [.slice ca (l.length - bg) cc] rfl rfl (cell_one _ _ _) (by simp [Value.oneCell']) (by unfold maxLen; omega) (by omega) (by simp; omega) ?_))
      intro v4 w4 hown4 hgr4 _ hat4
      have hlo : ∀ rr, Value.ownBlock (.slice ua ps.length uc) = some rr → w.heap.size ≤ rr := fun rr hr => (HRW.out.lt rr hr).1
      have hb4 : Below w.heap.size wr w4 := ((Below.refl _ _).alloc hsr _).grown hgr4 (by simp; omega) hlo
      have HE : Hid (parted l = ps ++ [l.drop bg]) := by
        show _ = _
        rw [HC.out.eq, List.drop_of_length_le (Nat.le_refl _), List.take_of_length_le (Nat.le_refl _)]
        rfl
      have HO4 : Hid (w4.ownsRow w.heap.size 128 1 v4 (parted l).length (vs ++ [.slice ca (l.length - bg) cc])) := by rw [HE.out, List.length_append]; exact hown4
      have HS4 : Hid (Sls (fun b => b < B) w4 (parted l) (vs ++ [.slice ca (l.length - bg) cc])) := by rw [HE.out]; exact Sls.snoc _ _ (HC.out.sls.low hb4 hB) _ _ (HCS.out.below hb4 hB)
      have HB4 : Hid (Below w.heap.size w w4) := HC.out.below.trans hb4
      clear hown4 hgr4 hat4 hb4 hlo
      go_wp2_with fail
      go_ret
      exact ⟨_, _, rfl, HO4.out, HS4.out, HB4.out⟩
end
section
attribute [local go_sem] fld_tok fld_ins fld_kind fld_word
theorem Sl.ok {S : Nat → Prop} {w : World} {v : Value} {ns : List Nd} (h : Sl S w v ns) : ∀ n ∈ ns, TokOK n.t := by
  intro n hn
  obtain ⟨a, cap, rfl⟩ := h.form
  obtain ⟨g, o, rfl, hL, _⟩ := h.here (by rintro rfl; simp at hn)
  obtain ⟨i, hi, e⟩ := List.getElem_of_mem hn
  obtain ⟨kv, hN⟩ := hL.node (i := i) hi
  rw [← e]; exact hN.ok
theorem closing_fun {t : Tok} (h : t.kind = 11) : closing t ≠ nob := by unfold closing; rw [if_pos h]; decide
theorem parted_dep {f : Nat} {l : List Nd} (h : depth l ≤ f) : ∀ p ∈ parted l, ∀ n ∈ p, n.t.kind = 11 → depth n.kids + 1 ≤ f := by
  intro p hp n hn hk
  have h1 : depthN n ≤ f := partF_mem l [] [] (fun n => depthN n ≤ f) (by simp) (by simp) (fun n hn => Nat.le_trans (depthN_mem l n hn) h) p hp n hn
  rw [depthN_some (closing_fun hk)] at h1
  exact h1
theorem info_cpx : ∃ i, Tryz.prog.info? 148 = some i ∧ i.zero = some (.slice none 0 0) ∧ i.size = 1 ∧ i.bytes = 24 := info_parts (by kernel_rfl)
structure RlI (f B : Nat) (w w1 : World) (l : List Nd) (vs : List Value) (pv : Value) (u : Value) (ss : Sels) (i : Nat) (wr : World) : Prop where
  row : MG (PCx (PSim f)) 1 148 w1.heap.size wr u ss
  prow : wr.ownsRow w.heap.size 128 1 pv (parted l).length vs
  sls : Sls (fun b => b < B) wr (parted l) vs
  below : Below w1.heap.size w1 wr
  eq : eachW (recF f) (parted l) = (eachW (recF f) ((parted l).drop i)).map (fun x => ss ++ x)
  ln : ss.length = i
  plt : ∀ k, pv.ownBlock = some k → k < w1.heap.size
theorem Read_of (f : Nat) (hR : RecP f) : ReadOK f := by
  intro B l v w hd h hB
  have HS : Hid (Sl (fun b => b < B) w v l) := h
  have HR : Hid (RecP f) := hR
  have HD : Hid (depth l ≤ f) := hd
  obtain ⟨a, cap, rfl⟩ := h.form
  clear h hR hd
  obtain ⟨iT, hiT⟩ := info_cpx
  have HI : Hid (Tryz.prog.info? 148 = some iT ∧ iT.zero = some (.slice none 0 0) ∧ iT.size = 1 ∧ iT.bytes = 24) := hiT
  clear hiT
  have hF : Hid (Fair (PCx (PSim f))) := One.fair (PStp.fair (PSim.fair f))
  have HL : Hid (selF f l = listW (recF f) l) := selF_eq f l
  obtain ⟨ps, Hps⟩ : ∃ ps, Hid (parted l = ps) := ⟨_, hid rfl⟩
  have hpl : ps.length ≤ 601 := by have := parted_len l; rw [Hps.out] at this; have := HS.out.len; omega
  go_enter Tryz.func73, Tryz.ntmps73
  go_wp2_with fail
  refine (Split_c B l _ w HS.out hB).mono ?_
  rw [Hps.out]
  rintro e w1 ⟨pv, vs, rfl, hrow, hsls, hb1⟩
  obtain ⟨qa, qc, rfl⟩ := own_form hrow
  have B1 : Hid (Below w.heap.size w w1) := hb1
  have hw1 := hb1.size
  have I0 : Hid (RlI f B w w1 l vs (.slice qa ps.length qc) (.slice none 0 0) [] 0 w1) := ⟨MG.nil _ _ _ _ _, by rw [Hps.out]; exact hrow, by rw [Hps.out]; exact hsls, Below.refl _ _, by simp, rfl, fun k hk => (hrow.lt k hk).2⟩
  clear hrow hsls hb1 HS
  by_cases h8 : 8 < ps.length
  · have h8' : (8 : Int) < (ps.length : Int) := by omega
    have HV : Hid (selF f l = none) := by show _ = _; rw [HL.out]; unfold listW; rw [Hps.out, if_pos h8]
    go_wp2_with fail
    go_ret2
    exact ⟨by unfold rdP; rw [HV.out]; rfl, B1.out⟩
  · have h8' : (ps.length : Int) ≤ 8 := by omega
    have HV : Hid (selF f l = eachW (recF f) ps) := by show _ = _; rw [HL.out]; unfold listW; rw [Hps.out, if_neg h8]
    go_wp2_with fail
    go_loopg [5, 17] ps.length (fun gg v5 v17 wr => ∃ (u : Value) (ss : Sels) (i : Nat), u = v5 ∧ v17 = .int .i64 (i : Int) ∧ i + gg = ps.length ∧ ss.length ≤ 601 ∧ Aside (RlI f B w w1 l vs (.slice qa ps.length qc) u ss i wr))
    case atStart => exact ⟨_, [], 0, rfl, rfl, by omega, by simp, I0.out⟩
    case round =>
      obtain ⟨u, ss, i, rfl, rfl, hi, hssl, hA⟩ := hrel
      have HC : Hid (RlI f B w w1 l vs (.slice qa ps.length qc) u ss i wr) := hA.out
      clear hA I0
      obtain ⟨ua, uc, rfl⟩ := HC.out.row.form
      have hsr := HC.out.below.size
      by_cases hlt : i < ps.length
      · have h1 : (i : Int) < (ps.length : Int) := by omega
        have hsl := HC.out.sls
        have hpr := HC.out.prow
        rw [Hps.out] at hsl hpr
        obtain ⟨pvi, hvi, hpi⟩ := Sls.at ps vs hsl i hlt
        obtain ⟨g, c', hq⟩ : ∃ g c', Value.slice qa ps.length qc = .slice (some ⟨g, 0, none⟩) ps.length c' := by
          rcases hpr.2 with ⟨hv, hn⟩ | ⟨g, c', _, hv, _⟩
          · omega
          · exact ⟨g, c', hv⟩
        injection hq with hq1 _ hq2
        subst hq1 hq2
        obtain ⟨p, Hp⟩ : ∃ p, Hid (ps[i] = p) := ⟨_, hid rfl⟩
        rw [Hp.out] at hpi
        have c0 : wr.cell? ⟨g, i, none⟩ = some pvi := by
          have := hpr.cells (g := g) rfl i pvi hvi
          rwa [Addr.add_lit, Nat.zero_add] at this
        have hpm : p ∈ parted l := by rw [Hps.out, ← Hp.out]; exact List.getElem_mem _
        have HDP : Hid (DepL f p) := fun n hn => ⟨parted_dep HD.out p hpm n hn, by have := (hpi.ok n hn).word; omega⟩
        have HNP : Hid (NmL p) := fun n hn hk => (hpi.ok n hn).named (.inr (.inr (.inr hk)))
        obtain ⟨pa, pc, rfl⟩ := hpi.form
        have HPI : Hid (Sl (fun b => b < B) wr (.slice pa p.length pc) p) := hpi
        have HE : Hid ((parted l).drop i = p :: (parted l).drop (i + 1)) := by show _ = _; rw [Hps.out, List.drop_eq_getElem_cons hlt, Hp.out]
        clear hsl hpr hvi hpi hpm
        go_wp2_with fail
        refine (readComplex_c f HR.out B p _ wr HPI.out (by omega) HDP.out HNP.out).mono ?_
        rintro e w2 ⟨hcp, hb2⟩
        have B2 : Hid (Below w1.heap.size w1 w2) := HC.out.below.trans (hb2.mono hsr)
        have M2 : Hid (MG (PCx (PSim f)) 1 148 w1.heap.size w2 (.slice ua ss.length uc) ss) := HC.out.row.below hF.out hb2
        have P2 : Hid (w2.ownsRow w.heap.size 128 1 (.slice (some ⟨g, 0, none⟩) ps.length qc) (parted l).length vs) := own_keep HC.out.prow fun k hk => hb2.block k (HC.out.prow.lt k hk).2
        have S2 : Hid (Sls (fun b => b < B) w2 (parted l) vs) := HC.out.sls.low hb2 (by omega)
        have hs2 := hb2.size
        clear hb2
        unfold cxP at hcp
        cases hx : complexW (recF f) (bare p) with
        | none =>
          rw [hx] at hcp
          subst hcp
          have HN : Hid (selF f l = none) := by show _ = _; rw [HV.out, ← Hps.out, HC.out.eq, HE.out, eachW_none hx]; rfl
          clear hx
          go_wp2_with fail
          go_ret2
          exact ⟨by unfold rdP; rw [HN.out]; rfl, B1.out.trans (B2.out.mono hw1)⟩
        | some cx =>
          rw [hx] at hcp
          obtain ⟨sv, rfl, hsg⟩ := hcp
          obtain ⟨sa, sc, rfl⟩ := hsg.form
          have HN : Hid (eachW (recF f) (parted l) = (eachW (recF f) ((parted l).drop (i + 1))).map (fun x => (ss ++ [cx]) ++ x)) := by
            show _ = _
            rw [HC.out.eq, HE.out, eachW_some hx, Option.map_map]
            congr 1
            funext x
            simp
          have PA : ∀ o, Hid (PCx (PSim f) (Oth w1.heap.size (w2.alloc o) (.slice ua ss.length uc)) (w2.alloc o) cx [.slice sa cx.length sc]) := fun o => HC.out.row.apart hF.out (show PCx (PSim f) (Frm wr.heap.size w2) w2 cx [.slice sa cx.length sc] from ⟨_, rfl, hsg⟩) hsr (by simp) (fun g hg => Below.heap_alloc _ _ _ hg)
          obtain ⟨cs, hown, hcat⟩ := (M2.out.alloc hF.out (.cells #[.slice sa cx.length sc] 148))
          have HO : Hid ((w2.alloc (.cells #[.slice sa cx.length sc] 148)).ownsRow w1.heap.size 148 1 (.slice ua ss.length uc) ss.length cs) := hown
          have HCt : Hid (CatG (PCx (PSim f)) (Oth w1.heap.size (w2.alloc (.cells #[.slice sa cx.length sc] 148)) (.slice ua ss.length uc)) (w2.alloc (.cells #[.slice sa cx.length sc] 148)) ss cs) := hcat
          clear hx hsg hown hcat
          go_wp2_with (at_builtin; go_must (refine wpList_append_own_at _ rfl _ _ 98 rfl w1.heap.size 148 iT (.slice none 0 0) 1 24 Tryz.underlying98 HI.out.1 HI.out.2.1 HI.out.2.2.1 HI.out.2.2.2 rfl (by omega) (.slice ua ss.length uc) ss.length cs rfl HO.out ⟨w2.heap.size, 0, none⟩ 1 1 [.slice sa cx.length sc] rfl rfl (cell_one _ _ _) (by simp [Value.oneCell']) (by unfold maxLen; omega) (by omega) (by simp; omega) ?_))
          intro v4 w4 hown4 hgr4 _ hat4
          have hlo : ∀ rr, Value.ownBlock (.slice ua ss.length uc) = some rr → w1.heap.size ≤ rr := fun rr hr => (HO.out.lt rr hr).1
          have hb4 : Below w1.heap.size w2 w4 := ((Below.refl _ _).alloc (by omega) _).grown hgr4 (by simp; omega) hlo
          have HC4 : Hid (RlI f B w w1 l vs (.slice (some ⟨g, 0, none⟩) ps.length qc) v4 (ss ++ [cx]) (i + 1) w4) := ⟨MG.snoc hF.out HCt.out (PA _).out hown4 hgr4 (by simpa using hat4), own_keep P2.out fun k hk => by
              have hk1 : k = g := by simp [Value.ownBlock] at hk; exact hk.symm
              have hg1 : g < w1.heap.size := HC.out.plt g rfl
              exact hb4.block k (by omega), S2.out.low hb4 (by omega), B2.out.trans hb4, HN.out, by have := HC.out.ln; simp; omega, HC.out.plt⟩
          clear hown4 hgr4 hat4 hb4 hlo
          go_wp2_with fail
          go_roundg (ps.length - (i + 1))
          case measure => omega
          case rel => exact ⟨_, ss ++ [cx], i + 1, rfl, by congr 1, by omega, by have := HC.out.ln; simp; omega, HC4.out⟩
      · have h1 : (ps.length : Int) ≤ (i : Int) := by omega
        have HN : Hid (selF f l = some ss) := by
          show _ = _
          rw [HV.out, ← Hps.out, HC.out.eq, List.drop_of_length_le (by rw [Hps.out]; omega)]
          simp [eachW]
        have HG : Hid (SG (PCx (PSim f)) 1 (Frm w.heap.size wr) wr (.slice ua ss.length uc) ss) := (HC.out.row.sl hF.out (One.sized _ _) (by omega)).keep hF.out (frm_mono hw1) fun _ _ => rfl
        go_wp2_with fail
        go_ret2
        exact ⟨by unfold rdP; rw [HN.out]; exact ⟨_, rfl, HG.out⟩, B1.out.trans (HC.out.below.mono hw1)⟩
theorem read_all : ∀ f, ReadOK f
  | 0 => Read_of 0 trivial
  | f + 1 => Read_of (f + 1) (read_all f)
end
def styO (p : Policy) (hd bl : List Nd) : ByteArray := match sels hd with | none => nob | some ss => braO (listO (aheadR p.root) ss) (bodyO p bl)
def atrO (p : Policy) (at_ : ByteArray) (has : Bool) (hd : List Nd) (ro : ByteArray) : ByteArray :=
  if (has && p.ats.contains (small at_) && harmL p hd) = true then braO (b1 64 ++ (nameO (small at_) ++ headO (bare hd))) ro else nob
def BodyOK (p : Policy) (pv fv av : Value) (rs : List Rule) (ro : ByteArray) (w : World) : Prop := ∀ (u : Value) (w' : World), Below w.heap.size w w' → SG CRule 4 (fun b => b < w'.heap.size) w' u rs → Calls Tryz.prog 41 #[polV p pv fv av, u] w' fun e w'' => e = .returned (.string ro) ∧ Below w'.heap.size w' w''
theorem BodyOK.later {p : Policy} {pv fv av : Value} {rs : List Rule} {ro : ByteArray} {w w' : World} (h : BodyOK p pv fv av rs ro w) (hb : Below w.heap.size w w') : BodyOK p pv fv av rs ro w' := fun u w'' hb2 hs => h u w'' (hb.trans (hb2.mono hb.size)) hs
def rulO (p : Policy) (rec : List Nd → ByteArray) (r : Rule) : ByteArray := match r.at_ with | some x => atrO p x r.body.isSome r.head (rec (r.body.getD [])) | none => styO p r.head (r.body.getD [])
structure RulOK (p : Policy) (pv fv av : Value) (rec : List Nd → ByteArray) (w : World) (r : Rule) : Prop where
  okh : okNs r.head
  kdh : kdL r.head
  body : r.at_ = none → r.body.isSome = true
  wz : wzL (bare r.head) ≤ 274877906944
  sel : ∀ ss, sels r.head = some ss → zL ss ≤ 274877906944
  dk : r.at_ = none → ∀ d ∈ decls (r.body.getD []), kdL d.val
  dz : r.at_ = none → dzs (decls (r.body.getD [])) ≤ 274877906944
  rsz : (rec (r.body.getD [])).size ≤ 549755813888
  rok : ∀ x b, r.at_ = some x → r.body = some b → BodyOK p pv fv av (rules false b) (rec b) w
theorem RulOK.later {p : Policy} {pv fv av : Value} {rec : List Nd → ByteArray} {w w' : World} {r : Rule} (h : RulOK p pv fv av rec w r) (hb : Below w.heap.size w w') : RulOK p pv fv av rec w' r := ⟨h.okh, h.kdh, h.body, h.wz, h.sel, h.dk, h.dz, h.rsz, fun x b h1 h2 => (h.rok x b h1 h2).later hb⟩
structure TokS (z : Nat) (t : Tok) : Prop where
  word : t.word.size ≤ z
  unit : t.unit.size ≤ z
  kind : kdT t = true
theorem TokS.k (z : Nat) {n : Int} (h : 1 ≤ n ∧ n ≤ 15) : TokS z (Tok.k n) := ⟨by simp [Tok.k], by simp [Tok.k], by simp [kdT, Tok.k, h.1, h.2]⟩
theorem TokS.w {z : Nat} {n : Int} {x : ByteArray} (h : 1 ≤ n ∧ n ≤ 15) (hx : x.size ≤ z) : TokS z (Tok.w n x) := ⟨hx, by simp [Tok.w], by simp [kdT, Tok.w, h.1, h.2]⟩
theorem tokF_n (s : ByteArray) : ∀ f i, (tokF s f i).length ≤ f
  | 0, _ => by simp [tokF]
  | f + 1, i => by
    unfold tokF
    split
    · simp
    · have := tokF_n s f (com s (token s i).2)
      simp only [List.length_cons]
      omega
theorem toks_n (s : ByteArray) : (toks s).length ≤ s.size := tokF_n _ _ _
mutual
def gN : Nd → Prop
  | .mk t k => TokOK t ∧ kdT t = true ∧ (closing t = nob → k = []) ∧ gL k
def gL : List Nd → Prop
  | [] => True
  | n :: r => gN n ∧ gL r
end
def twz : List Tok → Nat
  | [] => 0
  | t :: r => 4 * t.word.size + 4 * t.unit.size + 16 + twz r
def rwz (r : Rule) : Nat := 4 * (r.at_.getD nob).size + 16 + wzL r.head + wzL (r.body.getD [])
def rwzs : List Rule → Nat
  | [] => 0
  | r :: q => rwz r + rwzs q
structure RSub (l : List Nd) (r : Rule) : Prop where
  head : ∀ n ∈ r.head, n ∈ l
  body : ∀ b, r.body = some b → ∃ n ∈ l, isBody n = true ∧ b = n.kids
  sty : r.at_ = none → r.body.isSome = true
section
section
variable {rec : List Nd → Option Sels} (hrec : ∀ l ss, rec l = some ss → zL ss ≤ 16 * wzL l)
include hrec
end
end
end Go.Proofs.YtlliliddljkbfaaGreat
