import Derived.Test.YtlliliddljkbfaaGreatC34
import Derived.Test.YtlliliddljkbfaaGreatC37
namespace Go.Proofs.YtlliliddljkbfaaGreat
set_option maxHeartbeats 64000000
set_option maxRecDepth 100000
open Go.RowKit Sp
section
attribute [local go_sem] fld_tok fld_ins fld_kind fld_word
theorem Sl.ok {S : Nat → Prop} {w : World} {v : Value} {ns : List Nd} (h : Sl S w v ns) : ∀ n ∈ ns, TokOK n.t := by
  intro n hn
  obtain ⟨a, cap, rfl⟩ := h.form
  obtain ⟨g, o, rfl, hL, _⟩ := h.here (by rintro rfl; simp at hn)
  obtain ⟨i, hi, e⟩ := List.getElem_of_mem hn
  obtain ⟨kv, hN⟩ := hL.node (i := i) hi
  rw [← e]; exact hN.ok
theorem closing_fun {t : Tok} (h : t.kind = 11) : closing t ≠ nob := by unfold closing; rw [if_pos h]; decide
theorem parted_dep {f : Nat} {l : List Nd} (h : depth l ≤ f) : ∀ p ∈ parted l, ∀ n ∈ p, n.t.kind = 11 → depth n.kids + 1 ≤ f := by
  intro p hp n hn hk
  have h1 : depthN n ≤ f := partF_mem l [] [] (fun n => depthN n ≤ f) (by simp) (by simp) (fun n hn => Nat.le_trans (depthN_mem l n hn) h) p hp n hn
  rw [depthN_some (closing_fun hk)] at h1
  exact h1
theorem info_cpx : ∃ i, Tryz.prog.info? 148 = some i ∧ i.zero = some (.slice none 0 0) ∧ i.size = 1 ∧ i.bytes = 24 := info_parts (by kernel_rfl)
structure RlI (f B : Nat) (w w1 : World) (l : List Nd) (vs : List Value) (pv : Value) (u : Value) (ss : Sels) (i : Nat) (wr : World) : Prop where
  row : MG (PCx (PSim f)) 1 148 w1.heap.size wr u ss
  prow : wr.ownsRow w.heap.size 128 1 pv (parted l).length vs
  sls : Sls (fun b => b < B) wr (parted l) vs
  below : Below w1.heap.size w1 wr
  eq : eachW (recF f) (parted l) = (eachW (recF f) ((parted l).drop i)).map (fun x => ss ++ x)
  ln : ss.length = i
  plt : ∀ k, pv.ownBlock = some k → k < w1.heap.size
theorem Read_of (f : Nat) (hR : RecP f) : ReadOK f := by
  intro B l v w hd h hB
  have HS : Hid (Sl (fun b => b < B) w v l) := h
  have HR : Hid (RecP f) := hR
  have HD : Hid (depth l ≤ f) := hd
  obtain ⟨a, cap, rfl⟩ := h.form
  clear h hR hd
  obtain ⟨iT, hiT⟩ := info_cpx
  have HI : Hid (Tryz.prog.info? 148 = some iT ∧ iT.zero = some (.slice none 0 0) ∧ iT.size = 1 ∧ iT.bytes = 24) := hiT
  clear hiT
  have hF : Hid (Fair (PCx (PSim f))) := One.fair (PStp.fair (PSim.fair f))
  have HL : Hid (selF f l = listW (recF f) l) := selF_eq f l
  obtain ⟨ps, Hps⟩ : ∃ ps, Hid (parted l = ps) := ⟨_, hid rfl⟩
  have hpl : ps.length ≤ 601 := by have := parted_len l; rw [Hps.out] at this; have := HS.out.len; omega
  go_enter Tryz.func73, Tryz.ntmps73
  go_wp2_with fail
  refine (Split_c B l _ w HS.out hB).mono ?_
  rw [Hps.out]
  rintro e w1 ⟨pv, vs, rfl, hrow, hsls, hb1⟩
  obtain ⟨qa, qc, rfl⟩ := own_form hrow
  have B1 : Hid (Below w.heap.size w w1) := hb1
  have hw1 := hb1.size
  have I0 : Hid (RlI f B w w1 l vs (.slice qa ps.length qc) (.slice none 0 0) [] 0 w1) := ⟨MG.nil _ _ _ _ _, by rw [Hps.out]; exact hrow, by rw [Hps.out]; exact hsls, Below.refl _ _, by simp, rfl, fun k hk => (hrow.lt k hk).2⟩
  clear hrow hsls hb1 HS
  by_cases h8 : 8 < ps.length
  · have h8' : (8 : Int) < (ps.length : Int) := by omega
    have HV : Hid (selF f l = none) := by show _ = _; rw [HL.out]; unfold listW; rw [Hps.out, if_pos h8]
    go_wp2_with fail
    go_ret2
    exact ⟨by unfold rdP; rw [HV.out]; rfl, B1.out⟩
  · have h8' : (ps.length : Int) ≤ 8 := by omega
    have HV : Hid (selF f l = eachW (recF f) ps) := by show _ = _; rw [HL.out]; unfold listW; rw [Hps.out, if_neg h8]
    go_wp2_with fail
    go_loopg [5, 17] ps.length (fun gg v5 v17 wr => ∃ (u : Value) (ss : Sels) (i : Nat), u = v5 ∧ v17 = .int .i64 (i : Int) ∧ i + gg = ps.length ∧ ss.length ≤ 601 ∧ Aside (RlI f B w w1 l vs (.slice qa ps.length qc) u ss i wr))
    case atStart => exact ⟨_, [], 0, rfl, rfl, by omega, by simp, I0.out⟩
    case round =>
      obtain ⟨u, ss, i, rfl, rfl, hi, hssl, hA⟩ := hrel
      have HC : Hid (RlI f B w w1 l vs (.slice qa ps.length qc) u ss i wr) := hA.out
      clear hA I0
      obtain ⟨ua, uc, rfl⟩ := HC.out.row.form
      have hsr := HC.out.below.size
      by_cases hlt : i < ps.length
      · have h1 : (i : Int) < (ps.length : Int) := by omega
        have hsl := HC.out.sls
        have hpr := HC.out.prow
        rw [Hps.out] at hsl hpr
        obtain ⟨pvi, hvi, hpi⟩ := Sls.at ps vs hsl i hlt
        obtain ⟨g, c', hq⟩ : ∃ g c', Value.slice qa ps.length qc = .slice (some ⟨g, 0, none⟩) ps.length c' := by
          rcases hpr.2 with ⟨hv, hn⟩ | ⟨g, c', _, hv, _⟩
          · omega
          · exact ⟨g, c', hv⟩
        injection hq with hq1 _ hq2
        subst hq1 hq2
        obtain ⟨p, Hp⟩ : ∃ p, Hid (ps[i] = p) := ⟨_, hid rfl⟩
        rw [Hp.out] at hpi
        have c0 : wr.cell? ⟨g, i, none⟩ = some pvi := by
          have := hpr.cells (g := g) rfl i pvi hvi
          rwa [Addr.add_lit, Nat.zero_add] at this
        have hpm : p ∈ parted l := by rw [Hps.out, ← Hp.out]; exact List.getElem_mem _
        have HDP : Hid (DepL f p) := fun n hn => ⟨parted_dep HD.out p hpm n hn, by have := (hpi.ok n hn).word; omega⟩
        have HNP : Hid (NmL p) := fun n hn hk => (hpi.ok n hn).named (.inr (.inr (.inr hk)))
        obtain ⟨pa, pc, rfl⟩ := hpi.form
        have HPI : Hid (Sl (fun b => b < B) wr (.slice pa p.length pc) p) := hpi
        have HE : Hid ((parted l).drop i = p :: (parted l).drop (i + 1)) := by show _ = _; rw [Hps.out, List.drop_eq_getElem_cons hlt, Hp.out]
        clear hsl hpr hvi hpi hpm
        go_wp2_with fail
        refine (readComplex_c f HR.out B p _ wr HPI.out (by omega) HDP.out HNP.out).mono ?_
        rintro e w2 ⟨hcp, hb2⟩
        have B2 : Hid (Below w1.heap.size w1 w2) := HC.out.below.trans (hb2.mono hsr)
        have M2 : Hid (MG (PCx (PSim f)) 1 148 w1.heap.size w2 (.slice ua ss.length uc) ss) := HC.out.row.below hF.out hb2
        have P2 : Hid (w2.ownsRow w.heap.size 128 1 (.slice (some ⟨g, 0, none⟩) ps.length qc) (parted l).length vs) := own_keep HC.out.prow fun k hk => hb2.block k (HC.out.prow.lt k hk).2
        have S2 : Hid (Sls (fun b => b < B) w2 (parted l) vs) := HC.out.sls.low hb2 (by omega)
        have hs2 := hb2.size
        clear hb2
        unfold cxP at hcp
        cases hx : complexW (recF f) (bare p) with
        | none =>
          rw [hx] at hcp
          subst hcp
          have HN : Hid (selF f l = none) := by show _ = _; rw [HV.out, ← Hps.out, HC.out.eq, HE.out, eachW_none hx]; rfl
          clear hx
          go_wp2_with fail
          go_ret2
          exact ⟨by unfold rdP; rw [HN.out]; rfl, B1.out.trans (B2.out.mono hw1)⟩
        | some cx =>
          rw [hx] at hcp
          obtain ⟨sv, rfl, hsg⟩ := hcp
          obtain ⟨sa, sc, rfl⟩ := hsg.form
          have HN : Hid (eachW (recF f) (parted l) = (eachW (recF f) ((parted l).drop (i + 1))).map (fun x => (ss ++ [cx]) ++ x)) := by
            show _ = _
            rw [HC.out.eq, HE.out, eachW_some hx, Option.map_map]
            congr 1
            funext x
            simp
          have PA : ∀ o, Hid (PCx (PSim f) (Oth w1.heap.size (w2.alloc o) (.slice ua ss.length uc)) (w2.alloc o) cx [.slice sa cx.length sc]) := fun o => HC.out.row.apart hF.out (show PCx (PSim f) (Frm wr.heap.size w2) w2 cx [.slice sa cx.length sc] from ⟨_, rfl, hsg⟩) hsr (by simp) (fun g hg => Below.heap_alloc _ _ _ hg)
          obtain ⟨cs, hown, hcat⟩ := (M2.out.alloc hF.out (.cells #[.slice sa cx.length sc] 148))
          have HO : Hid ((w2.alloc (.cells #[.slice sa cx.length sc] 148)).ownsRow w1.heap.size 148 1 (.slice ua ss.length uc) ss.length cs) := hown
          have HCt : Hid (CatG (PCx (PSim f)) (Oth w1.heap.size (w2.alloc (.cells #[.slice sa cx.length sc] 148)) (.slice ua ss.length uc)) (w2.alloc (.cells #[.slice sa cx.length sc] 148)) ss cs) := hcat
          clear hx hsg hown hcat
          go_wp2_with (at_builtin; go_must (refine wpList_append_own_at _ rfl _ _ 98 rfl w1.heap.size 148 iT (.slice none 0 0) 1 24 Tryz.underlying98 HI.out.1 HI.out.2.1 HI.out.2.2.1 HI.out.2.2.2 rfl (by omega) (.slice ua ss.length uc) ss.length cs rfl HO.out ⟨w2.heap.size, 0, none⟩ 1 1 [.slice sa cx.length sc] rfl rfl (cell_one _ _ _) (by simp [Value.oneCell']) (by unfold maxLen; omega) (by omega) (by simp; omega) ?_))
          intro v4 w4 hown4 hgr4 _ hat4
          have hlo : ∀ rr, Value.ownBlock (.slice ua ss.length uc) = some rr → w1.heap.size ≤ rr := fun rr hr => (HO.out.lt rr hr).1
          have hb4 : Below w1.heap.size w2 w4 := ((Below.refl _ _).alloc (by omega) _).grown hgr4 (by simp; omega) hlo
          have HC4 : Hid (RlI f B w w1 l vs (.slice (some ⟨g, 0, none⟩) ps.length qc) v4 (ss ++ [cx]) (i + 1) w4) := ⟨MG.snoc hF.out HCt.out (PA _).out hown4 hgr4 (by simpa using hat4), own_keep P2.out fun k hk => by
              have hk1 : k = g := by simp [Value.ownBlock] at hk; exact hk.symm
              have hg1 : g < w1.heap.size := HC.out.plt g rfl
              exact hb4.block k (by omega), S2.out.low hb4 (by omega), B2.out.trans hb4, HN.out, by have := HC.out.ln; simp; omega, HC.out.plt⟩
          clear hown4 hgr4 hat4 hb4 hlo
          go_wp2_with fail
          go_roundg (ps.length - (i + 1))
          case measure => omega
          case rel => exact ⟨_, ss ++ [cx], i + 1, rfl, by congr 1, by omega, by have := HC.out.ln; simp; omega, HC4.out⟩
      · have h1 : (ps.length : Int) ≤ (i : Int) := by omega
        have HN : Hid (selF f l = some ss) := by
          show _ = _
          rw [HV.out, ← Hps.out, HC.out.eq, List.drop_of_length_le (by rw [Hps.out]; omega)]
          simp [eachW]
        have HG : Hid (SG (PCx (PSim f)) 1 (Frm w.heap.size wr) wr (.slice ua ss.length uc) ss) := (HC.out.row.sl hF.out (One.sized _ _) (by omega)).keep hF.out (frm_mono hw1) fun _ _ => rfl
        go_wp2_with fail
        go_ret2
        exact ⟨by unfold rdP; rw [HN.out]; exact ⟨_, rfl, HG.out⟩, B1.out.trans (HC.out.below.mono hw1)⟩
theorem read_all : ∀ f, ReadOK f
  | 0 => Read_of 0 trivial
  | f + 1 => Read_of (f + 1) (read_all f)
end
theorem joinO_size (sep : ByteArray) : ∀ (l : List ByteArray), (joinO sep l).size ≤ total l + l.length * sep.size
  | [] => by show 0 ≤ _; omega
  | [a] => by
    show a.size ≤ a.size + 0 + _
    omega
  | a :: b :: r => by
    have ih := joinO_size sep (b :: r)
    show (a ++ (sep ++ joinO sep (b :: r))).size ≤ a.size + total (b :: r) + _
    rw [ByteArray.size_append, ByteArray.size_append]
    simp only [List.length_cons, Nat.add_mul] at ih ⊢
    omega
theorem listA_size [DecI] (hd : DecSz) (root : ByteArray) (ss : Sels) (hq : qkL ss) (hr : root.size ≤ 12) (hl : ss.length ≤ 2097152) : (listO (aheadR root) ss).size ≤ zL ss + 29360128 := by
  have h1 := joinO_size (b1 44) (ss.map (fun x => aheadR root ++ cpxO x))
  rw [join_heads, List.length_map] at h1
  have h2 := tot_heads hd (aheadR root) ss hq
  have h3 : (aheadR root).size ≤ 14 := by
    unfold aheadR
    split
    · show 0 ≤ 14; omega
    · rw [ByteArray.size_append, ByteArray.size_append]; show 1 + (_ + 1) ≤ 14; omega
  have h4 : ss.length * (aheadR root).size ≤ 2097152 * 14 := Nat.mul_le_mul hl h3
  have e : (b1 44).size = 1 := rfl
  rw [e] at h1
  omega
theorem bodyO_size (p : Policy) (l : List Nd) : (bodyO p l).size ≤ dzs (decls l) := by
  have h1 := joinO_size (b1 59) (((decls l).filter (decK p)).map decT)
  have h2 := dz_total p (decls l)
  have e : (b1 59).size = 1 := rfl
  rw [e, List.length_map] at h1
  unfold bodyO
  omega
def styO [DecI] (p : Policy) (hd bl : List Nd) : ByteArray := match sels hd with | none => nob | some ss => braO (listO (aheadR p.root) ss) (bodyO p bl)
theorem SG.wide {α : Type} {C : Law α} {sz : Nat} (hF : Fair C) {base : Nat} {w : World} {v : Value} {l : List α} (h : SG C sz (Frm base w) w v l) : SG C sz (fun b => b < w.heap.size) w v l := h.keep hF (fun _ hg => hg.2) (fun _ _ => rfl)
theorem styleRule_c [DecI] (B : Nat) (p : Policy) (pv fv av : Value) (at_ : ByteArray) (has : Bool) (hd bl : List Nd) (hv bv : Value) (w : World) (hP : PolM B w p pv fv av) (hH : Sl (fun b => b < B) w hv hd) (hBl : Sl (fun b => b < B) w bv bl) (hI : ItoaOK w) (hds : DecSz)
    (hpr : allB lowB p.root = true) (hp12 : p.root.size ≤ 12) (hok : okNs hd) (hzl : ∀ ss, sels hd = some ss → zL ss ≤ 274877906944) (hk : ∀ d ∈ decls bl, kdL d.val) (hz : dzs (decls bl) ≤ 274877906944) :
    Calls Tryz.prog 71 #[polV p pv fv av, .agg #[.string at_, hv, .bool has, bv]] w fun e w' => e = .returned (.string (styO p hd bl)) ∧ Below w.heap.size w w' := by
  have hB := hP.lt
  obtain ⟨pa, pc, rfl⟩ := hP.props.form
  obtain ⟨fa, fc, rfl⟩ := hP.funs.form
  obtain ⟨aa, ac, rfl⟩ := hP.ats.form
  obtain ⟨ha, hc, rfl⟩ := hH.form
  obtain ⟨ba, bc, rfl⟩ := hBl.form
  have HPR : Hid (allB lowB p.root = true) := hpr
  have HII : Hid (ItoaOK w) := hI
  have HDS : Hid DecSz := hds
  have HOK : Hid (okNs hd) := hok
  have HZL : Hid (∀ ss, sels hd = some ss → zL ss ≤ 274877906944) := hzl
  have HKD : Hid (∀ d ∈ decls bl, kdL d.val) := hk
  have hbs := bodyO_size p bl
  have B1 : Hid (Below w.heap.size w ((w.alloc (.cells #[.string p.root, .slice pa p.props.length pc, .slice fa p.funs.length fc, .slice aa p.ats.length ac, .bool p.cust, .bool p.texts] 82)).alloc (.cells #[.string at_, .slice ha hd.length hc, .bool has, .slice ba bl.length bc] 130))) := two_below _ _ _
  have Q1 : Hid (Q6 ((w.alloc (.cells #[.string p.root, .slice pa p.props.length pc, .slice fa p.funs.length fc, .slice aa p.ats.length ac, .bool p.cust, .bool p.texts] 82)).alloc (.cells #[.string at_, .slice ha hd.length hc, .bool has, .slice ba bl.length bc] 130)) w.heap.size (.string p.root) (.slice pa p.props.length pc) (.slice fa p.funs.length fc) (.slice aa p.ats.length ac) (.bool p.cust) (.bool p.texts)) := (Q6.new w _ _ _ _ _ _).alloc _
  have R1 : Hid (Q4 130 ((w.alloc (.cells #[.string p.root, .slice pa p.props.length pc, .slice fa p.funs.length fc, .slice aa p.ats.length ac, .bool p.cust, .bool p.texts] 82)).alloc (.cells #[.string at_, .slice ha hd.length hc, .bool has, .slice ba bl.length bc] 130)) (w.heap.size + 1) (.string at_) (.slice ha hd.length hc) (.bool has) (.slice ba bl.length bc)) := by
    have := Q4.new 130 (w.alloc (.cells #[.string p.root, .slice pa p.props.length pc, .slice fa p.funs.length fc, .slice aa p.ats.length ac, .bool p.cust, .bool p.texts] 82)) (.string at_) (.slice ha hd.length hc) (.bool has) (.slice ba bl.length bc)
    rw [show (w.alloc (.cells #[.string p.root, .slice pa p.props.length pc, .slice fa p.funs.length fc, .slice aa p.ats.length ac, .bool p.cust, .bool p.texts] 82)).heap.size = w.heap.size + 1 by simp] at this
    exact this
  have HP1 : Hid (PolM B ((w.alloc (.cells #[.string p.root, .slice pa p.props.length pc, .slice fa p.funs.length fc, .slice aa p.ats.length ac, .bool p.cust, .bool p.texts] 82)).alloc (.cells #[.string at_, .slice ha hd.length hc, .bool has, .slice ba bl.length bc] 130)) p (.slice pa p.props.length pc) (.slice fa p.funs.length fc) (.slice aa p.ats.length ac)) := hP.below B1.out hB
  have HH1 : Hid (Sl (fun b => b < B) ((w.alloc (.cells #[.string p.root, .slice pa p.props.length pc, .slice fa p.funs.length fc, .slice aa p.ats.length ac, .bool p.cust, .bool p.texts] 82)).alloc (.cells #[.string at_, .slice ha hd.length hc, .bool has, .slice ba bl.length bc] 130)) (.slice ha hd.length hc) hd) := hH.below B1.out hB
  have HB1 : Hid (Sl (fun b => b < B) ((w.alloc (.cells #[.string p.root, .slice pa p.props.length pc, .slice fa p.funs.length fc, .slice aa p.ats.length ac, .bool p.cust, .bool p.texts] 82)).alloc (.cells #[.string at_, .slice ha hd.length hc, .bool has, .slice ba bl.length bc] 130)) (.slice ba bl.length bc) bl) := hBl.below B1.out hB
  clear hP hH hBl hI hds hpr hok hzl hk
  unfold polV
  go_enter Tryz.func71, Tryz.ntmps71
  go_upto_region 1 with fail
  generalize (w.alloc (.cells #[.string p.root, .slice pa p.props.length pc, .slice fa p.funs.length fc, .slice aa p.ats.length ac, .bool p.cust, .bool p.texts] 82)).alloc (.cells #[.string at_, .slice ha hd.length hc, .bool has, .slice ba bl.length bc] 130) = w1 at *
  have hs1 := B1.out.size
  obtain ⟨a0, a1, a2, a3⟩ := R1.out.cs
  go_wp2_with fail
  refine (read_all (depth hd) B hd _ w1 (Nat.le_refl _) HH1.out (by omega)).mono ?_
  rintro e w2 ⟨hrd, hb2⟩
  have X2 : Hid (Below w1.heap.size w1 w2) := hb2
  have B2 : Hid (Below w.heap.size w w2) := B1.out.trans (hb2.mono hs1)
  have hs2 := hb2.size
  have Q2 : Hid (Q6 w2 w.heap.size (.string p.root) (.slice pa p.props.length pc) (.slice fa p.funs.length fc) (.slice aa p.ats.length ac) (.bool p.cust) (.bool p.texts)) := Q1.out.below hb2 Q1.out.lt
  have R2 : Hid (Q4 130 w2 (w.heap.size + 1) (.string at_) (.slice ha hd.length hc) (.bool has) (.slice ba bl.length bc)) := R1.out.below hb2
  clear hb2 a0 a1 a2 a3
  unfold rdP at hrd
  cases hsel : selF (depth hd) hd with
  | none =>
    rw [hsel] at hrd
    have hrd' : e = _ := hrd
    subst hrd'
    have HV : Hid (styO p hd bl = nob) := by show _ = _; unfold styO sels; rw [hsel]
    clear hsel
    go_wp2_with fail
    go_ret
    exact ⟨retS HV.out.symm, B2.out⟩
  | some ss =>
    rw [hsel] at hrd
    obtain ⟨sv, rfl, hsg⟩ := hrd
    obtain ⟨sa, sc, rfl⟩ := hsg.form
    have hsl := hsg.len
    have HSG : Hid (SG (PCx (PSim (depth hd))) 1 (fun b => b < w2.heap.size) w2 (.slice sa ss.length sc) ss) := hsg.wide (One.fair (PStp.fair (PSim.fair _)))
    have HQ : Hid (qkL ss) := selF_qk _ _ _ HOK.out hsel
    have hzs := HZL.out ss hsel
    have HV : Hid (styO p hd bl = braO (listO (aheadR p.root) ss) (bodyO p bl)) := by show _ = _; unfold styO sels; rw [hsel]
    have hls := listA_size HDS.out p.root ss HQ.out hp12 hsl
    clear hsel hsg
    have HH2 : Hid (Q6 w2.drew w.heap.size (.string p.root) (.slice pa p.props.length pc) (.slice fa p.funs.length fc) (.slice aa p.ats.length ac) (.bool p.cust) (.bool p.texts) ∧ Q4 130 w2.drew (w.heap.size + 1) (.string at_) (.slice ha hd.length hc) (.bool has) (.slice ba bl.length bc)) := ⟨Q2.out.drew, R2.out⟩
    have BD : Hid (Below w.heap.size w w2.drew) := B2.out.drew
    have HPD : Hid (PolM B w2.drew p (.slice pa p.props.length pc) (.slice fa p.funs.length fc) (.slice aa p.ats.length ac)) := HP1.out.below (X2.out.drew) (by omega)
    have HBD : Hid (Sl (fun b => b < B) w2.drew (.slice ba bl.length bc) bl) := HB1.out.below (X2.out.drew) (by omega)
    have HSD : Hid (SG (PCx (PSim (depth hd))) 1 (fun b => b < w2.heap.size) w2.drew (.slice sa ss.length sc) ss) := HSG.out.keep (One.fair (PStp.fair (PSim.fair _))) (fun _ h => h) (fun _ _ => rfl)
    go_wp2_with fail
    refine wp_region_any (by kernel_rfl) ?_
    change wpAny _ _ _ _ _ _ _ (World.drew _)
    refine wpAny_of_held (S := fun wx => Q6 wx w.heap.size (.string p.root) (.slice pa p.props.length pc) (.slice fa p.funs.length fc) (.slice aa p.ats.length ac) (.bool p.cust) (.bool p.texts) ∧ Q4 130 wx (w.heap.size + 1) (.string at_) (.slice ha hd.length hc) (.bool has) (.slice ba bl.length bc)) _ _ _ _ ?_
    refine tkH 0 rfl HH2.out (by intro w hSw; obtain ⟨a0, a1, a2, a3, a4, a5⟩ := hSw.1.cs; go_simp; all_goals with_reducible rfl) ?_
    refine tkH 2 rfl HH2.out (by intro w hSw; skip; go_simp; all_goals with_reducible rfl) ?_
    refine tkH 4 rfl HH2.out (by intro w hSw; obtain ⟨a0, a1, a2, a3, a4, a5⟩ := hSw.1.cs; go_simp; all_goals with_reducible rfl) ?_
    refine tkH 5 rfl HH2.out (by intro w hSw; obtain ⟨a0, a1, a2, a3⟩ := hSw.2.cs; go_simp; all_goals with_reducible rfl) ?_
    refine tkH 6 rfl HH2.out (by intro w hSw; obtain ⟨a0, a1, a2, a3⟩ := hSw.2.cs; go_simp; all_goals with_reducible rfl) ?_
    have C1 := PolRoot_c B p _ _ _ w2.drew HPD.out
    unfold polV at C1
    have C1' : Hid (Calls Tryz.prog 123 #[.agg #[.string p.root, .slice pa p.props.length pc, .slice fa p.funs.length fc, .slice aa p.ats.length ac, .bool p.cust, .bool p.texts]] w2.drew fun e w' => e = .returned (.string p.root) ∧ Below w2.drew.heap.size w2.drew w') := C1
    clear C1
    refine brH 1 fun K hK => ?_
    go_simp
    refine C1'.out.mono ?_
    rintro e w3 ⟨rfl, hb3⟩
    have X3 : Hid (Below w2.heap.size w2.drew w3) := hb3
    have B3 : Hid (Below w.heap.size w w3) := BD.out.trans (hb3.mono (by show w.heap.size ≤ w2.heap.size; omega))
    have hs3 : w2.heap.size ≤ w3.heap.size := hb3.size
    have HH3 : Hid (Q6 w3 w.heap.size (.string p.root) (.slice pa p.props.length pc) (.slice fa p.funs.length fc) (.slice aa p.ats.length ac) (.bool p.cust) (.bool p.texts) ∧ Q4 130 w3 (w.heap.size + 1) (.string at_) (.slice ha hd.length hc) (.bool has) (.slice ba bl.length bc)) := ⟨HH2.out.1.below hb3 HH2.out.1.lt, HH2.out.2.below hb3⟩
    clear hb3 C1'
    refine hK.out _ _ HH3.out (fun _ => ?_)
    clear hK K
    have C2 : Hid (Calls Tryz.prog 122 #[.string p.root, .slice sa ss.length sc] w3 fun e w' => e = .returned (.string (listO (aheadR p.root) ss)) ∧ Below w3.heap.size w3 w') :=
      styleHead_c (depth hd) w2.heap.size p.root ss _ w3 (HSD.out.below (One.fair (PStp.fair (PSim.fair _))) X3.out (Nat.le_refl _)) hs3 (HII.out.below B3.out (Nat.le_refl _)) HQ.out hzs HDS.out HPR.out hp12
    refine brH 3 fun K hK => ?_
    go_simp
    refine C2.out.mono ?_
    obtain ⟨lo, Hlo⟩ : ∃ lo, Hid (listO (aheadR p.root) ss = lo) := ⟨_, hid rfl⟩
    rw [Hlo.out] at HV hls
    rw [Hlo.out]
    rintro e w4 ⟨rfl, hb4⟩
    have X4 : Hid (Below w2.heap.size w2.drew w4) := X3.out.trans (hb4.mono hs3)
    have B4 : Hid (Below w.heap.size w w4) := B3.out.trans (hb4.mono (by omega))
    have hs4 : w2.heap.size ≤ w4.heap.size := X4.out.size
    have HH4 : Hid (Q6 w4 w.heap.size (.string p.root) (.slice pa p.props.length pc) (.slice fa p.funs.length fc) (.slice aa p.ats.length ac) (.bool p.cust) (.bool p.texts) ∧ Q4 130 w4 (w.heap.size + 1) (.string at_) (.slice ha hd.length hc) (.bool has) (.slice ba bl.length bc)) := ⟨HH3.out.1.below hb4 HH3.out.1.lt, HH3.out.2.below hb4⟩
    clear hb4 C2
    refine hK.out _ _ HH4.out (fun _ => ?_)
    clear hK K
    have C3 := declarations_c B p _ _ _ bl _ w4 (HPD.out.below X4.out (by omega)) (HBD.out.below X4.out (by omega)) HKD.out hz
    unfold polV at C3
    obtain ⟨bo, Hbo⟩ : ∃ bo, Hid (bodyO p bl = bo) := ⟨_, hid rfl⟩
    rw [Hbo.out] at HV hbs C3
    have C3' : Hid (Calls Tryz.prog 124 #[.agg #[.string p.root, .slice pa p.props.length pc, .slice fa p.funs.length fc, .slice aa p.ats.length ac, .bool p.cust, .bool p.texts], .slice ba bl.length bc] w4 fun e w' => e = .returned (.string bo) ∧ Below w4.heap.size w4 w') := C3
    clear C3
    refine brH 7 fun K hK => ?_
    go_simp
    refine C3'.out.mono ?_
    rintro e w5 ⟨rfl, hb5⟩
    have B5 : Hid (Below w.heap.size w w5) := B4.out.trans (hb5.mono (by omega))
    have hs5 : w.heap.size ≤ w5.heap.size := B5.out.size
    have HH5 : Hid (Q6 w5 w.heap.size (.string p.root) (.slice pa p.props.length pc) (.slice fa p.funs.length fc) (.slice aa p.ats.length ac) (.bool p.cust) (.bool p.texts) ∧ Q4 130 w5 (w.heap.size + 1) (.string at_) (.slice ha hd.length hc) (.bool has) (.slice ba bl.length bc)) := ⟨HH4.out.1.below hb5 HH4.out.1.lt, HH4.out.2.below hb5⟩
    clear hb5 C3'
    refine hK.out _ _ HH5.out (fun _ => ?_)
    clear hK K
    refine brH 8 fun K hK => ?_
    go_simp
    refine (braced_c lo bo w5 (by omega)).mono ?_
    rintro e w6 ⟨rfl, hb6⟩
    have B6 : Hid (Below w.heap.size w w6) := B5.out.trans (hb6.mono hs5)
    have HH6 : Hid (Q6 w6 w.heap.size (.string p.root) (.slice pa p.props.length pc) (.slice fa p.funs.length fc) (.slice aa p.ats.length ac) (.bool p.cust) (.bool p.texts) ∧ Q4 130 w6 (w.heap.size + 1) (.string at_) (.slice ha hd.length hc) (.bool has) (.slice ba bl.length bc)) := ⟨HH5.out.1.below hb6 HH5.out.1.lt, HH5.out.2.below hb6⟩
    clear hb6
    refine hK.out _ _ HH6.out (fun _ => ?_)
    clear hK K
    refine brH 9 fun K hK => ?_
    go_simp
    refine hK.out _ _ (HH6.out) (fun _ => ?_); clear hK K
    refine wpAnyH_done (by kernel_rfl) ?_ _
    go_wp2_with fail
    go_ret
    exact ⟨retS HV.out.symm, B6.out⟩
end Go.Proofs.YtlliliddljkbfaaGreat
