import Derived.Test.YtlliliddljkbfaaGreatC17
import Derived.Test.YtlliliddljkbfaaGreatC31
import Derived.Test.YtlliliddljkbfaaGreatC37
import Derived.Test.YtlliliddljkbfaaGreatC38
import Derived.Test.YtlliliddljkbfaaGreatC42
import Derived.Test.YtlliliddljkbfaaGreatC44
namespace Go.Proofs.YtlliliddljkbfaaGreat
set_option maxHeartbeats 64000000
set_option maxRecDepth 100000
open Go.RowKit Sp
structure Lit (w : World) : Prop where
  glob : ∃ m, w.cell? ⟨0, 0, none⟩ = some (.int .i64 m)
  pos : 0 < w.heap.size
theorem Lit.below {w w' : World} (h : Lit w) (hb : Below w.heap.size w w') : Lit w' := by
  obtain ⟨m, hm⟩ := h.glob
  exact ⟨⟨m, by rw [← hm]; exact World.cell?_of_block (w := w) (hb.block 0 h.pos)⟩, Nat.lt_of_lt_of_le h.pos hb.size⟩
theorem readSheet_q (s : ByteArray) (w : World) (hs : s.size ≤ 600) (hl : Lit w) (hd : depth (sheetN s) ≤ 8) :
    Calls Tryz.prog 40 #[.string s] w fun e w' => ∃ u, e = .returned (.tuple #[u, .bool true]) ∧ SG CRule 4 (Frm w.heap.size w') w' u (rules true (sheetN s)) ∧ Below w.heap.size w w' := by
  have HL : Hid (Lit w) := hl
  have hcs := clean_size s
  have htl := toks_n (Sp.clean s)
  have HTO : Hid (∀ t ∈ toks (Sp.clean s), TokOK t) := toks_ok (by omega)
  obtain ⟨nd, Hnd⟩ : ∃ nd, Hid (sheetN s = nd) := ⟨_, hid rfl⟩
  have Hn2 : Hid (nodes (toks (Sp.clean s)) = nd) := Hnd.out
  rw [Hnd.out] at hd
  rw [Hnd.out]
  clear hl
  go_enter Tryz.func40, Tryz.ntmps40
  go_wp2_with fail
  refine (scanTokens_c s w hs HL.out.glob HL.out.pos).mono ?_
  rintro e w1 ⟨c, cap, n, rfl, hcw, hch, hb1⟩
  have HC : Hid (w1.heap[c]? = some (.chan cap ((toks (Sp.clean s)).map tokV).toArray true n 0 false)) := hch
  have B1 : Hid (Below w.heap.size w w1) := hb1
  have hs1 := hb1.size
  clear hch hb1
  go_wp2_with fail
  refine (Read_c (toks (Sp.clean s)) c cap n 0 w1 HC.out (by omega) HTO.out).mono ?_
  rw [Hn2.out]
  rintro e w2 ⟨v2, rfl, hS2, hT2⟩
  obtain ⟨va, vc, rfl⟩ := hS2.form
  have B2 : Hid (Below w.heap.size w w2) := Turn.over B1.out hT2 hcw
  have hs2 := B2.out.size
  have HS2 : Hid (Sl (Rg w.heap.size w2.heap.size) w2 (.slice va nd.length vc) nd) := hS2.keep (fun _ h => ⟨by have := h.1; omega, h.2⟩) (fun _ _ => rfl)
  clear hS2 hT2 HC
  have hd3 : (depth nd : Int) ≤ 8 := by omega
  clear hd
  go_wp2_with fail
  refine (rulesRead_q w.heap.size w2.heap.size nd _ w2 HS2.out (Nat.le_refl _) hs2).mono ?_
  rintro e w3 ⟨u3, rfl, hsg3, hb3⟩
  obtain ⟨ra, rc, rfl⟩ := hsg3.form
  have HSG := hid hsg3
  have B3 : Hid (Below w.heap.size w w3) := B2.out.trans (hb3.mono hs2)
  clear hsg3 hb3
  go_wp2_with fail
  go_ret2
  exact ⟨_, rfl, HSG.out, B3.out⟩
theorem info_rls : ∃ i, Tryz.prog.info? 85 = some i ∧ i.zero = some (.slice none 0 0) ∧ i.size = 1 ∧ i.bytes = 24 := info_parts (by kernel_rfl)
def shR (s : ByteArray) : List Rule := rules true (sheetN s)
theorem readSheets_c (B : Nat) (sh : List ByteArray) (v : Value) (w : World) (h : SG CStr 1 (fun b => b < B) w v sh) (hB : B ≤ w.heap.size) (hl : Lit w) (hd : ∀ s ∈ sh, s.size ≤ 600 ∧ depth (sheetN s) ≤ 8) :
    Calls Tryz.prog 35 #[v] w fun e w' => ∃ u, e = .returned (.tuple #[u, .bool true]) ∧ SG (One CRule 4) 1 (Frm w.heap.size w') w' u (sh.map shR) ∧ Below w.heap.size w w' := by
  have hln := h.len
  have HS := hid h
  have HL := hid hl
  have HD := hid hd
  have hF : Hid (Fair (One CRule 4)) := One.fair CRule.fair
  obtain ⟨a, cap, rfl⟩ := h.form
  clear h hl hd
  obtain ⟨iT, hiT⟩ := info_rls
  have HI : Hid (Tryz.prog.info? 85 = some iT ∧ iT.zero = some (.slice none 0 0) ∧ iT.size = 1 ∧ iT.bytes = 24) := hiT
  clear hiT
  go_enter Tryz.func35, Tryz.ntmps35
  go_wp2_with fail
  go_loopg [4, 11] sh.length (fun gg v4 v11 wr => ∃ (u : Value) (i : Nat), u = v4 ∧ v11 = .int .i64 (i : Int) ∧ i + gg = sh.length ∧ Aside (MG (One CRule 4) 1 85 w.heap.size wr u ((sh.take i).map shR) ∧ Below w.heap.size w wr))
  case atStart => exact ⟨_, 0, rfl, rfl, by omega, MG.nil _ _ _ _ _, Below.refl _ _⟩
  case round =>
    obtain ⟨u, i, rfl, rfl, hi, hA⟩ := hrel
    have HC := hid hA.out
    clear hA
    have hsr := HC.out.2.size
    have hmn : ((sh.take i).map shR).length = i := by rw [List.length_map, List.length_take]; omega
    by_cases hlt : i < sh.length
    · have h1 : (i : Int) < (sh.length : Int) := by omega
      obtain ⟨g, o, rfl, hL, hcap⟩ := (HS.out.below CStr.fair HC.out.2 hB).here (by rintro rfl; simp at hlt)
      obtain ⟨_, d0, _⟩ := hL.str (i := i) hlt
      obtain ⟨hs6, hd8⟩ := HD.out sh[i] (List.getElem_mem hlt)
      have HM : Hid ((sh.take (i + 1)).map shR = (sh.take i).map shR ++ [shR sh[i]]) := by
        show _ = _
        rw [List.take_succ_eq_append_getElem hlt, List.map_append]; rfl
      generalize sh[i] = s at *
      clear hL
      go_wp2_with fail
      refine (readSheet_q s wr hs6 (HL.out.below HC.out.2) hd8).mono ?_
      rintro e w2 ⟨rv, rfl, hrv, hb2⟩
      obtain ⟨ra, rc, rfl⟩ := hrv.form
      have HRV : Hid (SG CRule 4 (Frm wr.heap.size w2) w2 (.slice ra (rules true (sheetN s)).length rc) (rules true (sheetN s))) := hrv
      have X2 : Hid (Below w.heap.size w w2) := HC.out.2.trans (hb2.mono hsr)
      have M2 := hid (HC.out.1.below hF.out hb2)
      have hs2 := X2.out.size
      have hsw := hb2.size
      obtain ⟨n, Hn⟩ : ∃ n, Hid ((rules true (sheetN s)).length = n) := ⟨_, hid rfl⟩
      rw [Hn.out] at HRV
      rw [Hn.out]
      have PA : ∀ o, Hid (One CRule 4 (Oth w.heap.size (w2.alloc o) u) (w2.alloc o) (rules true (sheetN s)) [.slice ra n rc]) := fun o => HC.out.1.apart hF.out (show One CRule 4 (Frm wr.heap.size w2) w2 (rules true (sheetN s)) [.slice ra n rc] from ⟨_, rfl, HRV.out⟩) hsr (by simp) (fun g hg => Below.heap_alloc _ _ _ hg)
      obtain ⟨cs, hown, hcat⟩ := (M2.out.alloc hF.out (.cells #[.slice ra n rc] 85))
      have HO : Hid ((w2.alloc (.cells #[.slice ra n rc] 85)).ownsRow w.heap.size 85 1 u i cs) := by
        have h := hown
        rw [hmn] at h
        exact h
      have HCt := hid hcat
      clear hown hcat hrv hb2 d0
      go_wp2_with (at_builtin; go_must (refine wpList_append_own_at _ rfl _ _ 71 rfl w.heap.size 85 iT (.slice none 0 0) 1 24 Tryz.underlying71 HI.out.1 HI.out.2.1 HI.out.2.2.1 HI.out.2.2.2 rfl (by omega) u i cs rfl HO.out ⟨w2.heap.size, 0, none⟩ 1 1 [.slice ra n rc] rfl rfl (cell_one _ _ _) (by simp [Value.oneCell']) (by unfold maxLen; omega) (by omega) (by simp; omega) ?_))
      intro v5 w5 hown5 hgr5 _ hat5
      have hlo : ∀ rr, u.ownBlock = some rr → w.heap.size ≤ rr := fun rr hr => (HO.out.lt rr hr).1
      have hb5 : Below w.heap.size w2 w5 := ((Below.refl _ _).alloc (by omega) _).grown hgr5 (by simp; omega) hlo
      have hown5' : w5.ownsRow w.heap.size 85 1 v5 (((sh.take i).map shR).length + 1) (cs ++ [.slice ra n rc]) := by rw [hmn]; exact hown5
      have M5 : Hid (MG (One CRule 4) 1 85 w.heap.size w5 v5 ((sh.take i).map shR ++ [rules true (sheetN s)])) := MG.snoc hF.out HCt.out (PA _).out hown5' hgr5 (by simpa using hat5)
      have X5 : Hid (Below w.heap.size w w5) := X2.out.trans hb5
      have HE : Hid (MG (One CRule 4) 1 85 w.heap.size w5 v5 ((sh.take (i + 1)).map shR) ∧ Below w.heap.size w w5) := ⟨by rw [HM.out]; exact M5.out, X5.out⟩
      clear hown5 hown5' hgr5 hat5 hb5 hlo M5 X5 PA
      go_wp2_with fail
      go_roundg (gk - 1)
      case measure => omega
      case rel => exact ⟨v5, i + 1, rfl, by congr 1, by omega, HE.out⟩
    · have h1 : (sh.length : Int) ≤ (i : Int) := by omega
      have HE : Hid (SG (One CRule 4) 1 (Frm w.heap.size wr) wr u (sh.map shR)) := by
        have h := HC.out.1.sl hF.out (One.sized CRule 4) (by omega)
        rw [List.take_of_length_le (show sh.length ≤ i by omega)] at h
        exact h
      go_wp2_with fail
      go_ret2
      exact ⟨_, rfl, HE.out, HC.out.2⟩
theorem long1_c (s : ByteArray) (w : World) : Calls Tryz.prog 60 #[.string s] w fun e w' => e = .returned (.bool (decide (600 < s.size))) ∧ w' = w := by
  by_cases h : 600 < s.size
  · have h1 : (600 : Int) < (s.size : Int) := by omega
    rw [decide_eq_true h]
    go_enter Tryz.func60, Tryz.ntmps60
    go_wp2_with fail
    go_ret
    exact ⟨by first | rfl | simp [h1], rfl⟩
  · have h1 : (s.size : Int) ≤ 600 := by omega
    have h2 : ¬ (600 : Int) < (s.size : Int) := by omega
    rw [decide_eq_false h]
    go_enter Tryz.func60, Tryz.ntmps60
    go_wp2_with fail
    go_ret
    exact ⟨by first | rfl | simp [h2] | (simp; omega), rfl⟩
theorem areLong_c (S : Nat → Prop) (sh : List ByteArray) (v : Value) (w : World) (h : SG CStr 1 S w v sh) (hn : sh.length ≤ 4) (hs : ∀ s ∈ sh, s.size ≤ 600) :
    Calls Tryz.prog 34 #[v] w fun e w' => e = .returned (.bool false) ∧ w' = w := by
  have HC := hid (ContainsFunc_c sh v 60 (fun s => decide (600 < s.size)) S w h (fun _ _ => rfl) (fun x w _ => long1_c x w))
  have hany : sh.any (fun s => decide (600 < s.size)) = false := by
    rw [List.any_eq_false]
    intro s hm
    have := hs s hm
    simp; omega
  rw [hany] at HC
  obtain ⟨a, cap, rfl⟩ := h.form
  have h4 : (sh.length : Int) ≤ 4 := by omega
  clear h hs hany
  go_enter Tryz.func34, Tryz.ntmps34
  go_wp2_with fail
  refine HC.out.mono ?_
  rintro e wq ⟨rfl, hwq⟩
  rw [hwq]
  clear hwq
  go_wp2_with fail
  go_ret
  exact ⟨rfl, rfl⟩
def winF (p : Page) (sh : List ByteArray) (i : Nat) : ByteArray → Option Win := shsF p i (fun _ => none) (sh.map shR)
theorem Computed_c (B : Nat) (p : Page) (pv : Value) (sh : List ByteArray) (sv : Value) (e : Nat) (pr : ByteArray) (w : World) (hp : SG CEl 5 (fun b => b < B) w pv p) (hs : SG CStr 1 (fun b => b < B) w sv sh) (hB : B ≤ w.heap.size) (hl : Lit w) (hpg : pageP p = true) (he : e < p.length) (hn : sh.length ≤ 4) (hpr : pr.size ≤ 100)
    (hsh : ∀ s ∈ sh, s.size ≤ 600 ∧ depth (sheetN s) ≤ 8 ∧ ∀ r ∈ shR s, okR r) (hF : ∀ e, e < p.length → ∀ s x, winF p sh e s = some x → plV x.val ∧ wzL x.val ≤ 549755813888) (hR : ∀ f, ReadOK f) :
    Calls Tryz.prog 15 #[pv, sv, .int .i64 (e : Int), .string pr] w fun ex w' => ex = .returned (.tuple #[.string (comW p (winF p sh) (e : Int) (propOf pr)), .int .i64 0]) ∧ Below w.heap.size w w' := by
  have HP := hid hp
  have HS := hid hs
  have HL := hid hl
  have HPG := hid hpg
  have HSH := hid hsh
  have HF := hid hF
  have HRD := hid hR
  have h1 : (e : Int) < (p.length : Int) := by omega
  have h100 : (pr.size : Int) ≤ 100 := by omega
  have HOF := Of_c B p pv w hp hB
  obtain ⟨a, cap, rfl⟩ := hp.form
  obtain ⟨sa, sc, rfl⟩ := hs.form
  have hpz : (propOf pr).size ≤ 4000000 := by
    rw [propOf_size]; omega
  clear hp hs hl hpg hsh hF hR
  go_enter Tryz.func15, Tryz.ntmps15
  go_wp2_with fail
  refine HOF.mono ?_
  rintro ex w1 ⟨⟨pv', rfl, hpv⟩, hb1⟩
  obtain rfl := hpv HPG.out
  rw [HPG.out]
  have X2 : Hid (Below w.heap.size w (w1.alloc (.cells #[.slice a p.length cap] 66))) := hb1.alloc hb1.size _
  have V2 : Hid (VarB (w1.alloc (.cells #[.slice a p.length cap] 66)) w1.heap.size (.slice a p.length cap) 66) := VarB.new _ _ _
  clear hb1 hpv HOF
  go_upto_region 2 with fail
  generalize w1.alloc (.cells #[.slice a p.length cap] 66) = w2 at *
  obtain ⟨pb, Hpb⟩ : ∃ x, Hid (w1.heap.size = x) := ⟨_, hid rfl⟩
  rw [Hpb.out] at V2
  rw [Hpb.out]
  have c2 := V2.out.c
  have hs2 := X2.out.size
  go_wp2_with fail
  refine (PHas_c p.length a cap (e : Int) w2).mono ?_
  rw [show (decide ((0 : Int) ≤ (e : Int)) && decide ((e : Int) < (p.length : Int))) = true by simp; omega]
  rintro ex w3 ⟨rfl, hb3⟩
  have X3 : Hid (Below w.heap.size w w3) := X2.out.trans (hb3.mono hs2)
  have V3 : Hid (VarB w3 pb (.slice a p.length cap) 66) := V2.out.below hb3 V2.out.lt
  clear hb3 c2 V2
  have c3 := V3.out.c
  have hs3 := X3.out.size
  have S3 : Hid (SG CStr 1 (fun b => b < B) w3 (.slice sa sh.length sc) sh) := HS.out.below CStr.fair X3.out hB
  go_wp2_with fail
  refine (areLong_c _ sh _ w3 S3.out hn (fun s hm => (HSH.out s hm).1)).mono ?_
  rintro ex wq ⟨rfl, hwq⟩
  rw [hwq]
  clear hwq
  go_wp2_with fail
  refine (readSheets_c B sh _ w3 S3.out (by omega) (HL.out.below X3.out) (fun s hm => ⟨(HSH.out s hm).1, (HSH.out s hm).2.1⟩)).mono ?_
  obtain ⟨rss, Hrss⟩ : ∃ x, Hid (sh.map shR = x) := ⟨_, hid rfl⟩
  have HWF : Hid (winF p sh = fun i => shsF p i (fun _ => none) rss) := by show _ = _; rw [← Hrss.out]; rfl
  have HOR : Hid (∀ s ∈ rss, ∀ r ∈ s, okR r) := by
    show ∀ s ∈ rss, _
    rw [← Hrss.out]
    intro rs hm r hr
    obtain ⟨s, hs, rfl⟩ := List.mem_map.1 hm
    exact (HSH.out s hs).2.2 r hr
  rw [Hrss.out]
  rintro ex w4 ⟨u4, rfl, hsg4, hb4⟩
  have X4 : Hid (Below w.heap.size w w4) := X3.out.trans (hb4.mono hs3)
  have V4 : Hid (VarB w4 pb (.slice a p.length cap) 66) := V3.out.below hb4 V3.out.lt
  have G4 : Hid (SG (One CRule 4) 1 (fun b => b < w4.heap.size) w4 u4 rss) := hsg4.keep (One.fair CRule.fair) (fun _ hg => hg.2) fun _ _ => rfl
  have hs4 := X4.out.size
  obtain ⟨ua, uc, rfl⟩ := hsg4.form
  clear hb4 c3 V3 hsg4
  have c4 := V4.out.c
  have P4 : Hid (PgM w4.heap.size w4 p a cap) := ⟨(HP.out.below CEl.fair X4.out hB).mono CEl.fair (by omega), Nat.le_refl _, HPG.out⟩
  go_wp2_with fail
  refine (casOf_c p a cap _ rss w4 P4.out G4.out HOR.out HRD.out).mono ?_
  rintro ex w5 ⟨⟨wa, wc, kb, bs, rfl, hcm, hall, hmp, hkl, hkn⟩, hb5⟩
  have X5 : Hid (Below w.heap.size w w5) := X4.out.trans (hb5.mono hs4)
  have hs5 := X5.out.size
  have C5 : Hid (CasS w4.heap.size w5 p a cap wa wc bs kb (winF p sh)) := ⟨hcm, by rw [HWF.out]; exact hall, ⟨_, hmp, fun _ _ _ h => by cases h⟩, hkn, hkl⟩
  have hb5s := hb5.size
  clear hcm hall hmp hkl hkn hb5 c4
  go_wp2_with fail
  refine (Property_c pr w5 (by omega)).mono ?_
  rintro ex w6 ⟨rfl, hb6⟩
  have X6 : Hid (Below w.heap.size w w6) := X5.out.trans (hb6.mono hs5)
  have C6 := hid (C5.out.below hb6)
  have hs6 := X6.out.size
  have hkb : w4.heap.size ≤ kb := C6.out.lo
  clear hb6
  have HCO := hid (com_all w4.heap.size p a cap wa wc bs kb (winF p sh) HF.out (fun i hi => C6.out.cas.pg.par.lt i hi) (e + 1) (e : Int) (by omega) h1 w6 (propOf pr) C6.out hpz)
  go_wp2_with fail
  refine HCO.out.mono ?_
  rintro ex w7 ⟨rfl, hk7, ht7⟩
  have X7 : Hid (Below w.heap.size w w7) := X6.out.trans (ht7.below (by omega) (by omega))
  clear hk7 ht7
  go_wp2_with fail
  go_ret2
  exact ⟨rfl, X7.out⟩
def okSb : Simple → Bool
  | .mk k _ _ _ _ _ => decide (k = 116) || decide (k = 35) || decide (k = 46)
def okCb (l : List Step) : Bool := l.all (fun st => (decide (st.1 = 0) || decide (st.1 = 32)) && st.2.all okSb) && decide (cnC l ≤ 1000000)
def okLb (l : Sels) : Bool := l.all okCb
def plNb (n : Nd) : Bool := n.kids.isEmpty && decide (¬ n.t.kind = 3) && decide (¬ n.t.kind = 13) && decide (¬ n.t.kind = 11)
def plVb (l : List Nd) : Bool := l.all plNb && decide (wzL l ≤ 549755813888)
def okRb (r : Rule) : Bool := r.body.isSome && (match selF (depth r.head) r.head with | none => true | some ss => okLb ss) && (decls (r.body.getD [])).all (fun d => plVb d.val)
def okShb (sh : List ByteArray) : Bool := sh.all (fun s => decide (s.size ≤ 600) && decide (depth (sheetN s) ≤ 8) && (shR s).all okRb)
theorem okS_of {s : Simple} (h : okSb s = true) : okS s := by
  obtain ⟨k, nm, a, b, c, d⟩ := s
  unfold okSb at h
  simp only [Bool.or_eq_true, decide_eq_true_eq] at h
  rcases h with (h | h) | h
  · exact Or.inl h
  · exact Or.inr (Or.inl h)
  · exact Or.inr (Or.inr h)
theorem okC_of {l : List Step} (h : okCb l = true) : okC l ∧ cnC l ≤ 1000000 := by
  unfold okCb at h
  simp only [Bool.and_eq_true, decide_eq_true_eq, List.all_eq_true, Bool.or_eq_true] at h
  exact ⟨fun st hm => ⟨(h.1 st hm).1, fun s hs => okS_of ((h.1 st hm).2 s hs)⟩, h.2⟩
theorem okL_of {l : Sels} (h : okLb l = true) : okL l := fun cx hm => okC_of (List.all_eq_true.1 h cx hm)
def plW (x : Win) : Prop := plV x.val ∧ wzL x.val ≤ 549755813888
theorem plV_of {l : List Nd} (h : plVb l = true) : plV l ∧ wzL l ≤ 549755813888 := by
  unfold plVb at h
  simp only [Bool.and_eq_true, decide_eq_true_eq, List.all_eq_true] at h
  refine ⟨fun n hm => ?_, h.2⟩
  have := h.1 n hm
  unfold plNb at this
  simp only [Bool.and_eq_true, decide_eq_true_eq, List.isEmpty_iff] at this
  exact ⟨this.1.1.1, this.1.1.2, this.1.2, this.2⟩
theorem okR_of {r : Rule} (h : okRb r = true) : okR r ∧ ∀ d ∈ decls (r.body.getD []), plVb d.val = true := by
  unfold okRb at h
  simp only [Bool.and_eq_true, List.all_eq_true] at h
  obtain ⟨⟨h1, h2⟩, h3⟩ := h
  refine ⟨⟨Option.isSome_iff_exists.1 h1, fun ss hs => ?_⟩, h3⟩
  rw [hs] at h2
  exact okL_of h2
def PW (g : ByteArray → Option Win) : Prop := ∀ s x, g s = some x → plW x
theorem entW_pw {g : ByteArray → Option Win} {x : Win} (h : PW g) (hx : plW x) : PW (entW g x) := by
  intro s y hy
  unfold entW at hy
  split at hy
  · split at hy
    · cases hy; exact hx
    · rename_i z hz
      split at hy
      · cases hy; exact hx
      · cases hy; exact h _ _ hz
  · exact h s y hy
theorem fold_pw {t : Wgt} : ∀ (ds : List Dec) (g : ByteArray → Option Win), PW g → (∀ d ∈ ds, plVb d.val = true) → PW (ds.foldl (stW t) g)
  | [], _, h, _ => h
  | d :: r, _, h, hd => fold_pw r _ (entW_pw h (plV_of (hd d List.mem_cons_self))) (fun x hx => hd x (List.mem_cons_of_mem _ hx))
theorem layF_pw {p : Page} {r : Rule} {i : Nat} {g : ByteArray → Option Win} (h : PW g) (hr : okRb r = true) : PW (layF p r i g) := by
  unfold layF
  split
  · exact h
  · split
    · unfold layE
      split
      · exact fold_pw _ _ h (okR_of hr).2
      · exact h
    · exact h
theorem sht_pw {p : Page} {i : Nat} : ∀ (rs : List Rule) (g : ByteArray → Option Win), PW g → (∀ r ∈ rs, okRb r = true) → PW (shtF p i g rs)
  | [], _, h, _ => h
  | r :: rs, _, h, hr => sht_pw rs _ (layF_pw h (hr r List.mem_cons_self)) (fun x hx => hr x (List.mem_cons_of_mem _ hx))
theorem shs_pw {p : Page} {i : Nat} : ∀ (ss : List (List Rule)) (g : ByteArray → Option Win), PW g → (∀ s ∈ ss, ∀ r ∈ s, okRb r = true) → PW (shsF p i g ss)
  | [], _, h, _ => h
  | s :: ss, _, h, hr => shs_pw ss _ (sht_pw s _ h (hr s List.mem_cons_self)) (fun x hx => hr x (List.mem_cons_of_mem _ hx))
theorem okSh_of {sh : List ByteArray} (h : okShb sh = true) : (∀ s ∈ sh, s.size ≤ 600 ∧ depth (sheetN s) ≤ 8 ∧ ∀ r ∈ shR s, okR r) ∧ ∀ (p : Page) e s x, winF p sh e s = some x → plV x.val ∧ wzL x.val ≤ 549755813888 := by
  unfold okShb at h
  simp only [List.all_eq_true, Bool.and_eq_true, decide_eq_true_eq] at h
  refine ⟨fun s hs => ⟨(h s hs).1.1, (h s hs).1.2, fun r hr => (okR_of ((h s hs).2 r hr)).1⟩, fun p e => ?_⟩
  refine shs_pw (sh.map shR) _ (fun _ _ h => by cases h) ?_
  intro rs hm r hr
  obtain ⟨s, hs, rfl⟩ := List.mem_map.1 hm
  exact (h s hs).2 r hr
theorem Computed_k (B : Nat) (p : Page) (pv : Value) (sh : List ByteArray) (sv : Value) (e : Nat) (pr : ByteArray) (w : World) (hp : SG CEl 5 (fun b => b < B) w pv p) (hs : SG CStr 1 (fun b => b < B) w sv sh) (hB : B ≤ w.heap.size) (hl : Lit w) (hpg : pageP p = true) (he : e < p.length) (hn : sh.length ≤ 4) (hpr : pr.size ≤ 100) (hk : okShb sh = true) (hR : ∀ f, ReadOK f) :
    Calls Tryz.prog 15 #[pv, sv, .int .i64 (e : Int), .string pr] w fun ex w' => ex = .returned (.tuple #[.string (comW p (winF p sh) (e : Int) (propOf pr)), .int .i64 0]) ∧ Below w.heap.size w w' :=
  Computed_c B p pv sh sv e pr w hp hs hB hl hpg he hn hpr (okSh_of hk).1 (fun e _ => (okSh_of hk).2 p e) hR
end Go.Proofs.YtlliliddljkbfaaGreat
