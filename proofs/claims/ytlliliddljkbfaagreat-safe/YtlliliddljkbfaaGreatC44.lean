import Derived.Test.YtlliliddljkbfaaGreatC1
import Derived.Test.YtlliliddljkbfaaGreatC6
import Derived.Test.YtlliliddljkbfaaGreatC14
import Derived.Test.YtlliliddljkbfaaGreatC30
import Derived.Test.YtlliliddljkbfaaGreatC41
import Derived.Test.YtlliliddljkbfaaGreatC43
namespace Go.Proofs.YtlliliddljkbfaaGreat
set_option maxHeartbeats 64000000
set_option maxRecDepth 100000
open Go.RowKit Sp
structure Lit (w : World) : Prop where
  glob : ∃ m, w.cell? ⟨0, 0, none⟩ = some (.int .i64 m)
  pos : 0 < w.heap.size
theorem Lit.below {w w' : World} (h : Lit w) (hb : Below w.heap.size w w') : Lit w' := by
  obtain ⟨m, hm⟩ := h.glob
  exact ⟨⟨m, by rw [← hm]; exact World.cell?_of_block (w := w) (hb.block 0 h.pos)⟩, Nat.lt_of_lt_of_le h.pos hb.size⟩
theorem readSheet_c (s : ByteArray) (w : World) (hs : s.size ≤ 600) (hl : Lit w) :
    Calls Tryz.prog 40 #[.string s] w fun e w' => (∃ u, e = .returned (.tuple #[u, .bool (decide (depth (sheetN s) ≤ 8))]) ∧ (depth (sheetN s) ≤ 8 → SG CRule 4 (fun b => b < w'.heap.size) w' u (rules true (sheetN s))) ∧ (¬ depth (sheetN s) ≤ 8 → u = .slice none 0 0)) ∧ Below w.heap.size w w' := by
  have HL : Hid (Lit w) := hl
  have hcs := clean_size s
  have htl := toks_n (Sp.clean s)
  have HTO : Hid (∀ t ∈ toks (Sp.clean s), TokOK t) := toks_ok (by omega)
  obtain ⟨nd, Hnd⟩ : ∃ nd, Hid (sheetN s = nd) := ⟨_, hid rfl⟩
  have Hn2 : Hid (nodes (toks (Sp.clean s)) = nd) := Hnd.out
  rw [Hnd.out]
  clear hl
  go_enter Tryz.func40, Tryz.ntmps40
  go_wp2_with fail
  refine (scanTokens_c s w hs HL.out.glob HL.out.pos).mono ?_
  rintro e w1 ⟨c, cap, n, rfl, hcw, hch, hb1⟩
  have HC : Hid (w1.heap[c]? = some (.chan cap ((toks (Sp.clean s)).map tokV).toArray true n 0 false)) := hch
  have B1 : Hid (Below w.heap.size w w1) := hb1
  have hs1 := hb1.size
  clear hch hb1
  go_wp2_with fail
  refine (Read_c (toks (Sp.clean s)) c cap n 0 w1 HC.out (by omega) HTO.out).mono ?_
  rw [Hn2.out]
  rintro e w2 ⟨v2, rfl, hS2, hT2⟩
  obtain ⟨va, vc, rfl⟩ := hS2.form
  have B2 : Hid (Below w.heap.size w w2) := Turn.over B1.out hT2 hcw
  have hs2 := B2.out.size
  have HS2 : Hid (Sl (fun b => b < w2.heap.size) w2 (.slice va nd.length vc) nd) := hS2.keep (fun _ h => h.2) (fun _ _ => rfl)
  clear hS2 hT2 HC
  by_cases hd : depth nd ≤ 8
  · have hd2 : ¬ (8 : Int) < (depth nd : Int) := by omega
    have hd3 : (depth nd : Int) ≤ 8 := by omega
    have HD : Hid (depth nd ≤ 8) := hd
    clear hd
    go_wp2_with fail
    refine (rulesRead_c w2.heap.size nd _ w2 HS2.out (Nat.le_refl _)).mono ?_
    rintro e w3 ⟨u3, rfl, hsg3, hb3⟩
    obtain ⟨ra, rc, rfl⟩ := hsg3.form
    have HSG : Hid (SG CRule 4 (fun b => b < w3.heap.size) w3 (.slice ra (rules true nd).length rc) (rules true nd)) := hsg3
    have B3 : Hid (Below w.heap.size w w3) := B2.out.trans (hb3.mono hs2)
    clear hsg3 hb3
    go_wp2_with fail
    go_ret2
    exact ⟨⟨_, by rw [decide_eq_true HD.out]; rfl, fun _ => HSG.out, fun h => absurd HD.out h⟩, B3.out⟩
  · have hd2 : (8 : Int) < (depth nd : Int) := by omega
    have HD : Hid (¬ depth nd ≤ 8) := hd
    clear hd
    go_wp2_with fail
    go_ret2
    exact ⟨⟨_, by rw [decide_eq_false HD.out]; rfl, fun h => absurd h HD.out, fun _ => rfl⟩, B2.out⟩
theorem rinseA_pol [DecI] {s : ByteArray} {p : Policy} (h : polP p = false) : rinseA s p = (nob, 5) := by unfold rinseA; rw [if_pos h]
theorem rinseA_long [DecI] {s : ByteArray} {p : Policy} (h : polP p = true) (h1 : 600 < s.size) : rinseA s p = (nob, 1) := by unfold rinseA; rw [if_neg (by rw [h]; simp), if_pos h1]
theorem rinseA_deep [DecI] {s : ByteArray} {p : Policy} (h : polP p = true) (h1 : ¬ 600 < s.size) (h2 : ¬ depth (sheetN s) ≤ 8) : rinseA s p = (nob, 2) := by unfold rinseA; rw [if_neg (by rw [h]; simp), if_neg h1, if_pos (by omega)]
theorem rinseA_fine [DecI] {s : ByteArray} {p : Policy} (h : polP p = true) (h1 : ¬ 600 < s.size) (h2 : depth (sheetN s) ≤ 8) : rinseA s p = (rinF p (depth (sheetN s)) true (sheetN s), 0) := by unfold rinseA; rw [if_neg (by rw [h]; simp), if_neg h1, if_neg (by omega)]
theorem Rinse_c [DecI] (B : Nat) (s : ByteArray) (p : Policy) (pv fv av : Value) (w : World) (hP : PolM B w p pv fv av) (hI : ItoaOK w) (hds : DecSz) (hl : Lit w) (hr : p.root.size ≤ 4194304) (hs : s.size < 4611686018427387904) :
    Calls Tryz.prog 18 #[.string s, polV p pv fv av] w fun e w' => e = .returned (.tuple #[.string (rinseA s p).1, .int .i64 (rinseA s p).2]) ∧ Below w.heap.size w w' := by
  have hB := hP.lt
  obtain ⟨pa, pc, rfl⟩ := hP.props.form
  obtain ⟨fa, fc, rfl⟩ := hP.funs.form
  obtain ⟨aa, ac, rfl⟩ := hP.ats.form
  have HL : Hid (Lit w) := hl
  have HII : Hid (ItoaOK w) := hI
  have HDS : Hid DecSz := hds
  have HPM : Hid (PolM B w p (.slice pa p.props.length pc) (.slice fa p.funs.length fc) (.slice aa p.ats.length ac)) := hP
  obtain ⟨B0, Q0⟩ := Qa.nb p pa fa aa pc fc ac w
  clear hP hl hI hds
  unfold polV
  go_enter Tryz.func18, Tryz.ntmps18
  go_upto_region 1 with fail
  have hsz0 := B0.out.size
  generalize w.alloc (.cells #[.string p.root, .slice pa p.props.length pc, .slice fa p.funs.length fc, .slice aa p.ats.length ac, .bool p.cust, .bool p.texts] 41) = w0 at *
  obtain ⟨q0, q1, q2, q3, q4, q5⟩ := Q0.out.cs
  have HC := PolOf_c B p _ _ _ w0 (HPM.out.below B0.out hB) hr
  unfold polV at HC
  obtain ⟨z, Hz⟩ : ∃ z, Hid (polP p = z) := ⟨_, hid rfl⟩
  rw [Hz.out] at HC
  have HC' : Hid (Calls Tryz.prog 39 #[.agg #[.string p.root, .slice pa p.props.length pc, .slice fa p.funs.length fc, .slice aa p.ats.length ac, .bool p.cust, .bool p.texts]] w0 fun e w' => (∃ u, e = .returned (.tuple #[u, .bool z]) ∧ (z = true → u = .agg #[.string p.root, .slice pa p.props.length pc, .slice fa p.funs.length fc, .slice aa p.ats.length ac, .bool p.cust, .bool p.texts]) ∧ (z = false → u = .agg #[.string ⟨#[]⟩, .slice none 0 0, .slice none 0 0, .slice none 0 0, .bool false, .bool false])) ∧ Below w0.heap.size w0 w') := HC
  clear HC
  go_wp2_with fail
  refine HC'.out.mono ?_
  rintro e w1 ⟨⟨u, rfl, hu1, hu2⟩, hb1⟩
  have B1 : Hid (Below w.heap.size w w1) := B0.out.trans (hb1.mono hsz0)
  have hs1 := B1.out.size
  clear hb1 HC' q0 q1 q2 q3 q4 q5
  cases z
  · have hu := hu2 rfl
    subst hu
    have HV : Hid (rinseA s p = (nob, 5)) := rinseA_pol Hz.out
    clear hu1 hu2
    go_wp2_with fail
    go_ret2
    rw [HV.out]
    exact ⟨rfl, B1.out.alloc hs1 _⟩
  · have hu := hu1 rfl
    subst hu
    clear hu1 hu2
    have B2 : Hid (Below w.heap.size w (w1.alloc (.cells #[.string p.root, .slice pa p.props.length pc, .slice fa p.funs.length fc, .slice aa p.ats.length ac, .bool p.cust, .bool p.texts] 82))) := B1.out.alloc hs1 _
    have Q2 : Hid (Q6 (w1.alloc (.cells #[.string p.root, .slice pa p.props.length pc, .slice fa p.funs.length fc, .slice aa p.ats.length ac, .bool p.cust, .bool p.texts] 82)) w1.heap.size (.string p.root) (.slice pa p.props.length pc) (.slice fa p.funs.length fc) (.slice aa p.ats.length ac) (.bool p.cust) (.bool p.texts)) := Q6.new _ _ _ _ _ _ _
    go_upto_region 2 with fail
    generalize w1.alloc (.cells #[.string p.root, .slice pa p.props.length pc, .slice fa p.funs.length fc, .slice aa p.ats.length ac, .bool p.cust, .bool p.texts] 82) = w2 at *
    obtain ⟨gt, Hgt⟩ : ∃ gt, Hid (w1.heap.size = gt) := ⟨_, hid rfl⟩
    rw [Hgt.out] at Q2 hs1 ⊢
    have hs2 := B2.out.size
    have hlt2 := Q2.out.lt
    by_cases h6 : 600 < s.size
    · have h6i : (600 : Int) < (s.size : Int) := by omega
      have HV : Hid (rinseA s p = (nob, 1)) := rinseA_long Hz.out h6
      clear h6
      go_wp2_with fail
      go_ret2
      rw [HV.out]
      exact ⟨rfl, B2.out⟩
    · have h6i : ¬ (600 : Int) < (s.size : Int) := by omega
      have h6j : (s.size : Int) ≤ 600 := by omega
      have H6 : Hid (¬ 600 < s.size) := h6
      clear h6
      have HLW := HL.out.below B2.out
      have HRS := readSheet_c s w2 (by omega) HLW
      obtain ⟨dd, Hdd⟩ : ∃ dd, Hid (decide (depth (sheetN s) ≤ 8) = dd) := ⟨_, hid rfl⟩
      rw [Hdd.out] at HRS
      have HRS' := hid HRS
      clear HRS HLW
      go_wp2_with fail
      refine HRS'.out.mono ?_
      rintro e w3 ⟨⟨u3, rfl, hu1, hu2⟩, hb3⟩
      have B3 : Hid (Below w.heap.size w w3) := B2.out.trans (hb3.mono hs2)
      have Q3' : Hid (Q6 w3 gt (.string p.root) (.slice pa p.props.length pc) (.slice fa p.funs.length fc) (.slice aa p.ats.length ac) (.bool p.cust) (.bool p.texts)) := Q2.out.below hb3 hlt2
      have hs3 := B3.out.size
      clear hb3 HRS'
      cases dd
      · have hd := of_decide_eq_false Hdd.out
        have hu := hu2 hd
        subst hu
        have HV : Hid (rinseA s p = (nob, 2)) := rinseA_deep Hz.out H6.out hd
        clear hu1 hu2 hd
        go_wp2_with fail
        go_ret2
        rw [HV.out]
        exact ⟨rfl, B3.out⟩
      · have hd := of_decide_eq_true Hdd.out
        have hsg := hu1 hd
        obtain ⟨ra, rc, rfl⟩ := hsg.form
        have HSG := hid hsg
        have HV : Hid (rinseA s p = (rinF p (depth (sheetN s)) true (sheetN s), 0)) := rinseA_fine Hz.out H6.out hd
        clear hu1 hu2 hd hsg
        have hpp := Hz.out
        rw [polP_eq] at hpp
        simp only [Bool.and_eq_true, decide_eq_true_eq] at hpp
        have hsg := sheet_g (s := s) (by omega)
        have HB := rinF_run p (.slice pa p.props.length pc) (.slice fa p.funs.length fc) (.slice aa p.ats.length ac) HDS.out hpp.1.1.1.1.1 hpp.1.1.1.1.2 (depth (sheetN s)) true (sheetN s) B w HPM.out HII.out hsg.1 (Nat.le_refl _) hsg.2 _ w3 B3.out HSG.out
        unfold polV at HB
        have HB' := hid HB
        clear HB hpp hsg
        obtain ⟨q0, q1, q2, q3, q4, q5⟩ := Q3'.out.cs
        go_wp2_with fail
        refine HB'.out.mono ?_
        rintro e w4 ⟨rfl, hb4⟩
        have B4 : Hid (Below w.heap.size w w4) := B3.out.trans (hb4.mono hs3)
        clear hb4 HB'
        go_wp2_with fail
        go_ret2
        rw [HV.out]
        exact ⟨rfl, B4.out⟩
end Go.Proofs.YtlliliddljkbfaaGreat
namespace Go.Proofs.YtlliliddljkbfaaGreat.Sp
set_option maxHeartbeats 64000000
set_option maxRecDepth 100000
def At (s : ByteArray) (i : Nat) (l : List UInt8) : Prop := i ≤ s.size ∧ s.data.toList.drop i = l
def hdI : List UInt8 → Int
  | [] => -1
  | c :: _ => (c.toNat : Int)
theorem At.size {s : ByteArray} {i : Nat} {l : List UInt8} (h : At s i l) : i + l.length = s.size := by
  have h1 := congrArg List.length h.2
  have h2 := h.1
  have h3 : s.data.toList.length = s.size := rfl
  rw [List.length_drop, h3] at h1
  omega
theorem At.zero (s : ByteArray) : At s 0 s.data.toList := ⟨Nat.zero_le _, rfl⟩
theorem At.app {s : ByteArray} {i : Nat} {a l : List UInt8} (h : At s i (a ++ l)) : At s (i + a.length) l := by
  have h1 := h.size
  refine ⟨by simp at h1; omega, ?_⟩
  rw [← List.drop_drop, h.2]
  simp
theorem At.tl {s : ByteArray} {i : Nat} {c : UInt8} {l : List UInt8} (h : At s i (c :: l)) : At s (i + 1) l := At.app (a := [c]) h
theorem At.hd {s : ByteArray} {i : Nat} {l : List UInt8} (h : At s i l) : pk s i = hdI l := by
  have h1 := h.size
  cases l with
  | nil => exact pk_out (by simp at h1; omega)
  | cons c r =>
    have hi : i < s.size := by simp at h1; omega
    rw [pk_in hi]
    have h2 : s.data.toList[i]? = some c := by
      have := congrArg (fun x => x[0]?) h.2
      simpa using this
    have h3 : s.data.toList[i]'hi = c := (List.getElem?_eq_some_iff.1 h2).2
    show ((s.data[i]'hi).toNat : Int) = _
    rw [← Array.getElem_toList]
    rw [h3]; rfl
theorem At.lt {s : ByteArray} {i : Nat} {c : UInt8} {l : List UInt8} (h : At s i (c :: l)) : i < s.size := by have := h.size; simp at this; omega
theorem At.one {s : ByteArray} {i : Nat} {c : UInt8} {l : List UInt8} (h : At s i (c :: l)) : one s i = b1 c := by
  have h1 := h.size
  unfold Sp.one b1
  apply ByteArray.ext
  rw [ByteArray.data_extract]
  apply Array.toList_inj.1
  rw [Array.toList_extract, List.extract_eq_take_drop, h.2]
  simp
theorem bapp (a b : ByteArray) : (a ++ b).data.toList = a.data.toList ++ b.data.toList := by simp
def escL (c : UInt8) : List UInt8 := [92, hexD (c.toNat / 16), hexD (c.toNat % 16), 32]
def outL (ok : Nat → UInt8 → Bool) : Nat → List UInt8 → List UInt8
  | _, [] => []
  | i, c :: r => (if ok i c = true then [c] else escL c) ++ outL ok (i + 1) r
theorem outF_L (ok : Nat → UInt8 → Bool) : ∀ (l : List UInt8) (i : Nat), (outF ok i l).data.toList = outL ok i l
  | [], _ => rfl
  | c :: r, i => by
    unfold outF outL
    rw [bapp, outF_L ok r (i + 1)]
    split <;> rfl
theorem outL_len (ok : Nat → UInt8 → Bool) : ∀ (l : List UInt8) (i : Nat), l.length ≤ (outL ok i l).length
  | [], _ => Nat.le_refl _
  | c :: r, i => by
    have := outL_len ok r (i + 1)
    unfold outL
    split <;> simp [escL] <;> omega
theorem hexI_D : ∀ n, n < 16 → hexI ((hexD n).toNat : Int) = (n : Int) := by decide
theorem hexD_ne : ∀ n, n < 16 → ((hexD n).toNat : Int) ≠ 10 := by decide
def zq (c : UInt8) : UInt8 := if c.toNat = 0 then 63 else c
theorem esc_out {s : ByteArray} {i : Nat} {c : UInt8} {r : List UInt8} (h : At s i (escL c ++ r)) : esc s i = (b1 (zq c), i + 4) ∧ escB s i = true := by
  have hc := c.toNat_lt
  have h0 : At s i (92 :: hexD (c.toNat / 16) :: hexD (c.toNat % 16) :: 32 :: r) := h
  have h1 := h0.tl
  have h2 := h1.tl
  have h3 := h2.tl
  have e0 : pk s i = 92 := h0.hd
  have e1 : pk s (i + 1) = ((hexD (c.toNat / 16)).toNat : Int) := h1.hd
  have e2 : pk s (i + 1 + 1) = ((hexD (c.toNat % 16)).toNat : Int) := h2.hd
  have e3 : pk s (i + 1 + 1 + 1) = 32 := h3.hd
  have d1 := hexI_D (c.toNat / 16) (by omega)
  have d2 := hexI_D (c.toNat % 16) (by omega)
  have hF : hexF s 6 (i + 1) 0 = (c.toNat, i + 1 + 1 + 1) := by
    unfold hexF
    rw [e1, d1, if_pos (by omega)]
    unfold hexF
    rw [e2, d2, if_pos (by omega)]
    unfold hexF
    rw [e3, if_neg (by decide)]
    congr 1
    simp
    omega
  refine ⟨?_, ?_⟩
  · unfold esc
    simp only [hF]
    rw [if_neg (by omega), e3, show blankI 32 = true by decide]
    refine Prod.ext ?_ rfl
    show (if 1 ≤ c.toNat ∧ c.toNat ≤ 255 then byte1 c.toNat else ques) = b1 (zq c)
    unfold zq
    by_cases hz : c.toNat = 0
    · rw [if_neg (by omega), if_pos hz]; rfl
    · rw [if_pos (by omega), if_neg hz]
      unfold byte1 b1
      rw [show UInt8.ofNat c.toNat = c from UInt8.ofNat_toNat]
  · unfold escB
    rw [e0, e1]
    have := hexD_ne (c.toNat / 16) (by omega)
    simp [this]
def stopN (r : List UInt8) : Prop := nameI (hdI r) = false ∧ hdI r ≠ 92
theorem push_b (acc : ByteArray) (c : UInt8) (l : List UInt8) : acc ++ b1 c ++ (⟨l.toArray⟩ : ByteArray) = acc ++ ⟨(c :: l).toArray⟩ := by
  apply ByteArray.ext
  apply Array.toList_inj.1
  simp [b1]
theorem nameF_out {s : ByteArray} (ok : Nat → UInt8 → Bool) (hok : ∀ i c, ok i c = true → nameI (c.toNat : Int) = true) (hz : ∀ i c, ok i c = true → zq c = c) {r : List UInt8} (hr : stopN r) : ∀ (l : List UInt8) (j f i : Nat) (acc : ByteArray), At s i (outL ok j l ++ r) → l.length ≤ f → nameF s f i acc = (acc ++ ⟨(l.map zq).toArray⟩, i + (outL ok j l).length)
  | [], j, f, i, acc, h, _ => by
    have e : pk s i = hdI r := At.hd (l := r) h
    have ea : acc ++ (⟨(([] : List UInt8).map zq).toArray⟩ : ByteArray) = acc := by apply ByteArray.ext; simp
    cases f with
    | zero => unfold nameF outL; rw [ea]; rfl
    | succ f =>
      unfold nameF
      rw [e, hr.1]
      have : escB s i = false := by unfold escB; rw [e]; simp [hr.2]
      rw [this, ea]
      rfl
  | c :: l, j, f, i, acc, h, hf => by
    obtain ⟨f, rfl⟩ : ∃ g, f = g + 1 := ⟨f - 1, by simp at hf; omega⟩
    have hf' : l.length ≤ f := by simp at hf; omega
    unfold outL at h ⊢
    by_cases ho : ok j c = true
    · rw [if_pos ho] at h ⊢
      have h0 : At s i (c :: (outL ok (j + 1) l ++ r)) := h
      have e : pk s i = (c.toNat : Int) := h0.hd
      unfold nameF
      rw [e, hok j c ho, if_pos rfl, h0.one, nameF_out ok hok hz hr l (j + 1) f (i + 1) _ h0.tl hf']
      rw [push_b, List.map_cons, hz j c ho]
      simp; omega
    · rw [if_neg ho] at h ⊢
      rw [List.append_assoc] at h
      have he := esc_out h
      have e : pk s i = 92 := At.hd (l := 92 :: _) h
      unfold nameF
      rw [e, if_neg (by decide), he.2, if_pos rfl, he.1, nameF_out ok hok hz hr l (j + 1) f (i + 4) _ (At.app h) hf']
      rw [push_b, List.map_cons]
      simp [escL]; omega
end Go.Proofs.YtlliliddljkbfaaGreat.Sp
namespace Go.Proofs.YtlliliddljkbfaaGreat.Sp
set_option maxHeartbeats 64000000
set_option maxRecDepth 100000
theorem plainL_lett {c : UInt8} (h : plainL c = true) : lettI (c.toNat : Int) = true := by
  unfold plainL at h; unfold lettI; simp at h ⊢; omega
theorem plainN_cases {w : ByteArray} {i : Nat} {c : UInt8} (h : plainN w i c = true) : lettI (c.toNat : Int) = true ∨ (plainD c = true ∧ i ≠ 0 ∧ ¬ (i = 1 ∧ pk w 0 = 45)) ∨ (c = 45 ∧ w.size ≠ 1) := by
  unfold plainN at h
  split at h
  · rename_i hd
    right; left
    simp at h
    exact ⟨hd, h.1, fun hh => h.2.elim (fun a => a hh.1) (fun a => a hh.2)⟩
  · split at h
    · rename_i hc
      right; right
      simp at h
      exact ⟨hc, h⟩
    · left
      simp at h
      rcases h with h | h
      · exact plainL_lett h
      · subst h; decide
theorem plainN_name {w : ByteArray} {i : Nat} {c : UInt8} (h : plainN w i c = true) : nameI (c.toNat : Int) = true := by
  unfold nameI
  rcases plainN_cases h with h | h | h
  · rw [h]; rfl
  · have := h.1
    unfold plainD at this
    unfold digI
    simp at this ⊢
    omega
  · rw [h.1]; decide
theorem plainN_zq {w : ByteArray} {i : Nat} {c : UInt8} (h : plainN w i c = true) : zq c = c := by
  have := plainN_name h
  unfold zq
  rw [if_neg]
  intro hz
  rw [hz] at this
  revert this; decide
def nameL (w : ByteArray) : List UInt8 := outL (plainN w) 0 w.data.toList
theorem nameO_L (w : ByteArray) : (nameO w).data.toList = nameL w := outF_L _ _ _
def unitL (w : ByteArray) : List UInt8 := outL (fun i c => plainN w i c && !(i == 0 && (c == 101 || c == 69))) 0 w.data.toList
theorem unitO_L (w : ByteArray) : (unitO w).data.toList = unitL w := outF_L _ _ _
def zqB (w : ByteArray) : ByteArray := ⟨(w.data.toList.map zq).toArray⟩
theorem name_scan {s w : ByteArray} {i : Nat} {r : List UInt8} (hr : stopN r) (h : At s i (nameL w ++ r)) : name s i = (zqB w, i + (nameL w).length) := by
  have hl := outL_len (plainN w) w.data.toList 0
  have hs := h.size
  unfold name
  rw [nameF_out (plainN w) (fun _ _ h => plainN_name h) (fun _ _ h => plainN_zq h) hr w.data.toList 0 s.size i _ h (by rw [List.length_append] at hs; unfold nameL at hs; omega)]
  refine Prod.ext ?_ rfl
  apply ByteArray.ext
  simp [zqB]
theorem unit_scan {s w : ByteArray} {i : Nat} {r : List UInt8} (hr : stopN r) (h : At s i (unitL w ++ r)) : name s i = (zqB w, i + (unitL w).length) := by
  have hl := outL_len (fun i c => plainN w i c && !(i == 0 && (c == 101 || c == 69))) w.data.toList 0
  have hs := h.size
  unfold name
  rw [nameF_out (fun i c => plainN w i c && !(i == 0 && (c == 101 || c == 69))) (fun _ _ h => plainN_name (Bool.and_eq_true_iff.1 h).1) (fun _ _ h => plainN_zq (Bool.and_eq_true_iff.1 h).1) hr w.data.toList 0 s.size i _ h (by rw [List.length_append] at hs; unfold unitL at hs; omega)]
  refine Prod.ext ?_ rfl
  apply ByteArray.ext
  simp [zqB]
theorem beg_out {s w : ByteArray} {i : Nat} {r : List UInt8} (ok : Nat → UInt8 → Bool) (hok : ∀ j c, ok j c = true → plainN w j c = true) (hw : 0 < w.size) (h : At s i (outL ok 0 w.data.toList ++ r)) : begB s i = true := by
  obtain ⟨l, hl⟩ : ∃ l, w.data.toList = l := ⟨_, rfl⟩
  have hsz : w.size = l.length := by rw [← hl]; rfl
  have hp0 : pk w 0 = hdI l := by rw [← hl]; exact (At.zero w).hd
  rw [hl] at h
  match l, hsz, hp0, h with
  | [], hsz, _, _ => rw [hsz] at hw; exact absurd hw (Nat.lt_irrefl _)
  | c :: l, hsz, hp0, h =>
    unfold outL at h
    by_cases ho : ok 0 c = true
    · rw [if_pos ho] at h
      have h0 : At s i (c :: (outL ok 1 l ++ r)) := h
      have e : pk s i = (c.toNat : Int) := h0.hd
      rcases plainN_cases (hok 0 c ho) with hc | hc | hc
      · unfold begB
        rw [e, hc]
        split
        · rename_i h45; rw [h45] at hc; exact absurd hc (by decide)
        · rfl
      · exact absurd rfl hc.2.1
      · match l, hsz, h0 with
        | [], hsz, _ => exact absurd (by simpa using hsz) hc.2
        | d :: l, hsz, h0 =>
          have h1 := h0.tl
          unfold begB
          rw [e, hc.1, if_pos (by decide)]
          unfold outL at h1
          by_cases ho1 : ok 1 d = true
          · rw [if_pos ho1] at h1
            have e1 : pk s (i + 1) = (d.toNat : Int) := At.hd (l := d :: _) h1
            rw [e1]
            rcases plainN_cases (hok 1 d ho1) with hd | hd | hd
            · rw [hd]; rfl
            · refine absurd ⟨rfl, ?_⟩ hd.2.2
              rw [hp0, hc.1]; rfl
            · rw [hd.1]; simp
          · rw [if_neg ho1, List.append_assoc] at h1
            rw [(esc_out h1).2]; simp
    · rw [if_neg ho, List.append_assoc] at h
      have e : pk s i = 92 := At.hd (l := 92 :: _) h
      unfold begB
      rw [e, if_neg (by decide), (esc_out h).2]; simp
theorem name_beg {s w : ByteArray} {i : Nat} {r : List UInt8} (hw : 0 < w.size) (h : At s i (nameL w ++ r)) : begB s i = true := beg_out _ (fun _ _ h => h) hw h
theorem unit_beg {s w : ByteArray} {i : Nat} {r : List UInt8} (hw : 0 < w.size) (h : At s i (unitL w ++ r)) : begB s i = true := beg_out _ (fun _ _ h => (Bool.and_eq_true_iff.1 h).1) hw h
def textL (w : ByteArray) : List UInt8 := 34 :: (outL (fun _ c => plainT c) 0 w.data.toList ++ [34])
theorem textO_L (w : ByteArray) : (textO w).data.toList = textL w := by
  unfold textO textL
  rw [bapp, bapp, outF_L]
  rfl
theorem plainT_at {c : UInt8} (h : plainT c = true) : (c.toNat : Int) ≠ 34 ∧ (c.toNat : Int) ≠ 10 ∧ (c.toNat : Int) ≠ 92 ∧ zq c = c := by
  unfold plainT at h
  simp at h
  refine ⟨?_, by omega, ?_, ?_⟩
  · intro e
    exact h.2.1.1.1 (UInt8.toNat_inj.1 (by simpa using (show c.toNat = 34 by omega)))
  · intro e
    exact h.2.1.1.2 (UInt8.toNat_inj.1 (by simpa using (show c.toNat = 92 by omega)))
  · unfold zq; rw [if_neg (by omega)]
theorem txtF_out {s : ByteArray} {r : List UInt8} : ∀ (l : List UInt8) (j f i : Nat) (acc : ByteArray), At s i (outL (fun _ c => plainT c) j l ++ 34 :: r) → l.length < f → txtF s 34 f i acc = (Tok.w 2 (acc ++ ⟨(l.map zq).toArray⟩), i + (outL (fun _ c => plainT c) j l).length + 1)
  | [], j, f, i, acc, h, hf => by
    obtain ⟨f, rfl⟩ : ∃ g, f = g + 1 := ⟨f - 1, by simp at hf; omega⟩
    have h0 : At s i (34 :: r) := h
    have e : pk s i = 34 := h0.hd
    have ea : acc ++ (⟨(([] : List UInt8).map zq).toArray⟩ : ByteArray) = acc := by apply ByteArray.ext; simp
    unfold txtF
    rw [if_neg (by have := h0.lt; omega), if_pos e, ea]
    rfl
  | c :: l, j, f, i, acc, h, hf => by
    obtain ⟨f, rfl⟩ : ∃ g, f = g + 1 := ⟨f - 1, by simp at hf; omega⟩
    have hf' : l.length < f := by simp at hf; omega
    unfold outL at h ⊢
    by_cases ho : plainT c = true
    · rw [if_pos ho] at h ⊢
      have h0 : At s i (c :: (outL (fun _ c => plainT c) (j + 1) l ++ 34 :: r)) := h
      have e : pk s i = (c.toNat : Int) := h0.hd
      have hc := plainT_at ho
      unfold txtF
      rw [if_neg (by have := h0.lt; omega), if_neg (by rw [e]; exact hc.1), if_neg (by rw [e]; exact hc.2.1), if_neg (by rw [e]; exact hc.2.2.1), h0.one, txtF_out l (j + 1) f (i + 1) _ h0.tl hf']
      rw [push_b, List.map_cons, hc.2.2.2]
      refine Prod.ext rfl ?_
      simp; omega
    · rw [if_neg ho] at h ⊢
      rw [List.append_assoc] at h
      have h0 : At s i (92 :: hexD (c.toNat / 16) :: hexD (c.toNat % 16) :: 32 :: (outL (fun _ c => plainT c) (j + 1) l ++ 34 :: r)) := h
      have he := esc_out h
      have e : pk s i = 92 := h0.hd
      have e1 : pk s (i + 1) = ((hexD (c.toNat / 16)).toNat : Int) := h0.tl.hd
      have hn := hexD_ne (c.toNat / 16) (by have := c.toNat_lt; omega)
      unfold txtF
      rw [if_neg (by have := h0.lt; omega), if_neg (by rw [e]; decide), if_neg (by rw [e]; decide), if_pos e, if_neg (by have := h0.tl.lt; omega), if_neg (by rw [e1]; exact hn), he.1, txtF_out l (j + 1) f (i + 4) _ (At.app h) hf']
      rw [push_b, List.map_cons]
      refine Prod.ext rfl ?_
      simp [escL]; omega
theorem text_scan {s w : ByteArray} {i : Nat} {r : List UInt8} (h : At s i (textL w ++ r)) : token s i = (Tok.w 2 (zqB w), i + (textL w).length) := by
  have h0 : At s i (34 :: (outL (fun _ c => plainT c) 0 w.data.toList ++ 34 :: r)) := by
    unfold textL at h; simpa using h
  have e : pk s i = 34 := h0.hd
  have hl := outL_len (fun _ c => plainT c) w.data.toList 0
  have hs := h0.size
  unfold token
  rw [e, if_neg (by decide), if_pos (by decide)]
  unfold txt
  rw [txtF_out w.data.toList 0 s.size (i + 1) _ h0.tl (by simp at hs; omega)]
  refine Prod.ext ?_ ?_
  · show Tok.w 2 _ = Tok.w 2 _
    rw [show ByteArray.empty ++ (⟨(w.data.toList.map zq).toArray⟩ : ByteArray) = zqB w by apply ByteArray.ext; simp [zqB]]
  · simp [textL]; omega
end Go.Proofs.YtlliliddljkbfaaGreat.Sp
namespace Go.Proofs.YtlliliddljkbfaaGreat.Sp
set_option maxHeartbeats 64000000
set_option maxRecDepth 100000
theorem digF_spec (s : ByteArray) : ∀ f a, s.size ≤ a + f → (∀ x, a ≤ x → x < digF s f a → digI (pk s x) = true) ∧ digI (pk s (digF s f a)) = false
  | 0, a, h => ⟨fun x h1 h2 => by unfold digF at h2; omega, by unfold digF; rw [pk_out (by omega)]; rfl⟩
  | f + 1, a, h => by
    unfold digF
    by_cases hd : digI (pk s a) = true
    · rw [if_pos hd]
      have ih := digF_spec s f (a + 1) (by omega)
      refine ⟨fun x h1 h2 => ?_, ih.2⟩
      by_cases e : x = a
      · rw [e]; exact hd
      · exact ih.1 x (by omega) h2
    · rw [if_neg hd]
      exact ⟨fun x h1 h2 => by omega, by simpa using hd⟩
theorem dig_all {s : ByteArray} {a x : Nat} (h1 : a ≤ x) (h2 : x < dig s a) : digI (pk s x) = true := (digF_spec s s.size a (by omega)).1 x h1 h2
theorem dig_end (s : ByteArray) (a : Nat) : digI (pk s (dig s a)) = false := (digF_spec s s.size a (by omega)).2
theorem dig_uniq {s : ByteArray} {a b : Nat} (hab : a ≤ b) (h1 : ∀ x, a ≤ x → x < b → digI (pk s x) = true) (h2 : digI (pk s b) = false) : dig s a = b := by
  have g := dig_ge s a
  rcases Nat.lt_trichotomy (dig s a) b with h | h | h
  · have := h1 _ g h; rw [dig_end] at this; cases this
  · exact h
  · have := dig_all hab h; rw [h2] at this; cases this
def stopD (c : Int) : Prop := digI c = false ∧ c ≠ 46 ∧ c ≠ 101 ∧ c ≠ 69
section
variable {s t : ByteArray} {i j n : Nat} (ha : ∀ d, d < n → pk t (j + d) = pk s (i + d)) (hst : stopD (pk t (j + n)))
include ha hst
theorem dig_agree {d e : Nat} (hd : dig s (i + d) = i + e) (he : e ≤ n) : dig t (j + d) = j + e := by
  have g := dig_ge s (i + d)
  refine dig_uniq (by omega) (fun x h1 h2 => ?_) ?_
  · have := dig_all (s := s) (a := i + d) (x := i + (x - j)) (by omega) (by omega)
    rw [show x = j + (x - j) by omega, ha _ (by omega)]; exact this
  · by_cases h : e < n
    · rw [ha e h, ← hd]; exact dig_end s _
    · rw [show e = n by omega]; exact hst.1
theorem num_agree (hb : numB s i = true) (hn : numE s i = i + n) : numB t j = true ∧ numE t j = j + n := by
  obtain ⟨σ, hσ⟩ : ∃ σ, sgn s i = i + σ := ⟨sgn s i - i, by have := sgn_ge s i; omega⟩
  have hσ1 : σ ≤ 1 := by have := sgn_le1 s i; omega
  obtain ⟨e1, h1⟩ : ∃ e, dig s (i + σ) = i + e := ⟨dig s (i + σ) - i, by have := dig_ge s (i + σ); omega⟩
  obtain ⟨e2, h2⟩ : ∃ e, fracE s (i + e1) = i + e := ⟨fracE s (i + e1) - i, by have := fracE_ge s (i + e1); omega⟩
  have g1 := dig_ge s (i + σ)
  have g2 := fracE_ge s (i + e1)
  have hn' : expE s (i + e2) = i + n := by
    have := hn; unfold numE at this; rw [hσ, h1, h2] at this; exact this
  have g3 := expE_ge s (i + e2)
  have hlt := numE_gt hb
  have h0 : pk t j = pk s i := by have := ha 0 (by omega); simpa using this
  have hσt : sgn t j = j + σ := by
    unfold sgn at hσ ⊢
    rw [h0]
    split <;> rename_i hs
    · rw [if_pos hs] at hσ; omega
    · rw [if_neg hs] at hσ; omega
  have k1 : dig t (j + σ) = j + e1 := dig_agree ha hst h1 (by omega)
  have k2 : fracE t (j + e1) = j + e2 := by
    unfold fracE at h2 ⊢
    by_cases hf : pk s (i + e1) = 46 ∧ digI (pk s (i + e1 + 1)) = true
    · rw [if_pos hf] at h2
      have g4 := dig_gt hf.2
      rw [ha e1 (by omega), Nat.add_assoc, ha (e1 + 1) (by omega), ← Nat.add_assoc, if_pos hf]
      exact dig_agree ha hst (d := e1 + 1) (by rw [← Nat.add_assoc]; exact h2) (by omega)
    · rw [if_neg hf] at h2
      have e : e1 = e2 := by omega
      rw [if_neg, e]
      intro hh
      by_cases h : e1 < n
      · rw [ha e1 h] at hh
        unfold expE at hn'
        split at hn'
        · rename_i hx
          rw [← e, hh.1] at hx
          omega
        · omega
      · rw [show e1 = n by omega] at hh
        exact hst.2.1 hh.1
  have k3 : expE t (j + e2) = j + n := by
    unfold expE at hn' ⊢
    by_cases hx : pk s (i + e2) = 101 ∨ pk s (i + e2) = 69
    · rw [if_pos hx] at hn'
      by_cases hy : digI (pk s (sgn s (i + e2 + 1))) = true
      · rw [if_pos hy] at hn'
        have g4 := dig_gt hy
        obtain ⟨e3, h3⟩ : ∃ e, sgn s (i + e2 + 1) = i + e := ⟨sgn s (i + e2 + 1) - i, by have := sgn_ge s (i + e2 + 1); omega⟩
        have g5 := sgn_ge s (i + e2 + 1)
        have q1 : pk t (j + e2) = pk s (i + e2) := ha e2 (by omega)
        have q2 : pk t (j + e2 + 1) = pk s (i + e2 + 1) := by rw [Nat.add_assoc, Nat.add_assoc]; exact ha (e2 + 1) (by omega)
        have q3 : sgn t (j + e2 + 1) = j + e3 := by
          unfold sgn at h3 ⊢
          rw [q2]
          split <;> rename_i hs
          · rw [if_pos hs] at h3; omega
          · rw [if_neg hs] at h3; omega
        rw [h3] at hy hn' g4
        rw [q1, if_pos hx, q3, ha e3 (by omega), if_pos hy]
        exact dig_agree ha hst hn' (Nat.le_refl _)
      · rw [if_neg hy] at hn'
        have e : e2 = n := by omega
        rw [e, if_neg]
        exact fun h => h.elim hst.2.2.1 hst.2.2.2
    · rw [if_neg hx] at hn'
      have e : e2 = n := by omega
      rw [e, if_neg]
      exact fun h => h.elim hst.2.2.1 hst.2.2.2
  refine ⟨?_, ?_⟩
  · unfold numB at hb ⊢
    rw [hσ] at hb
    rw [hσt]
    by_cases hd : digI (pk s (i + σ)) = true
    · have := dig_gt hd
      rw [ha σ (by omega), hd]; rfl
    · have hd' : digI (pk s (i + σ)) = false := by simpa using hd
      rw [hd'] at hb
      simp only [Bool.false_or, Bool.and_eq_true, beq_iff_eq] at hb
      have hs := dig_same hd'
      have e : e1 = σ := by omega
      have hf : fracE s (i + e1) = dig s (i + e1 + 1) := by unfold fracE; rw [if_pos (by rw [e]; exact hb)]
      have := dig_gt (s := s) (i := i + e1 + 1) (by rw [e]; exact hb.2)
      rw [ha σ (by omega), Nat.add_assoc, ha (σ + 1) (by omega), ← Nat.add_assoc, hb.1, hb.2]
      simp
  · unfold numE
    rw [hσt, k1, k2, k3]
end
def NumW (x : ByteArray) : Prop := ∀ (t : ByteArray) (j : Nat) (r : List UInt8), At t j (x.data.toList ++ r) → stopD (hdI r) → numB t j = true ∧ numE t j = j + x.size
theorem At.of_extract {s t : ByteArray} {i k j : Nat} {r : List UInt8} (hk : k ≤ s.size) (h : At t j ((s.extract i k).data.toList ++ r)) : ∀ d, d < k - i → pk t (j + d) = pk s (i + d) := by
  intro d hd
  have hsz := h.size
  have hl : (s.extract i k).data.toList.length = k - i := by
    have : (s.extract i k).size = k - i := by rw [ByteArray.size_extract]; omega
    exact this
  have hlt : j + d < t.size := by rw [List.length_append, hl] at hsz; omega
  rw [pk_in hlt, pk_in (show i + d < s.size by omega)]
  have h1 : t.data.toList[j + d]? = s.data.toList[i + d]? := by
    have e := congrArg (fun x => x[d]?) h.2
    simp only [List.getElem?_drop] at e
    rw [e, List.getElem?_append_left (by omega), ByteArray.data_extract, Array.toList_extract, List.extract_eq_take_drop, List.getElem?_take, if_pos (by omega), List.getElem?_drop]
  have h2 : t.data[j + d]'hlt = s.data[i + d]'(show i + d < s.size by omega) := by
    rw [Array.getElem?_toList, Array.getElem?_toList] at h1
    rw [Array.getElem?_eq_getElem hlt, Array.getElem?_eq_getElem (show i + d < s.data.size by have : s.data.size = s.size := rfl; omega)] at h1
    exact Option.some.inj h1
  show ((t.data[j + d]'hlt).toNat : Int) = _
  rw [h2]; rfl
theorem num_word {s : ByteArray} {i : Nat} (hi : i ≤ s.size) (hb : numB s i = true) : NumW (s.extract i (numE s i)) := by
  intro t j r h hst
  have hk := numE_le hi
  have hg := numE_gt hb
  have hsz : (s.extract i (numE s i)).size = numE s i - i := by rw [ByteArray.size_extract]; omega
  have hr : At t (j + (s.extract i (numE s i)).data.toList.length) r := h.app
  have hl : (s.extract i (numE s i)).data.toList.length = numE s i - i := hsz
  rw [hl] at hr
  have := num_agree (n := numE s i - i) (At.of_extract hk h) (by rw [hr.hd]; exact hst) hb (by omega)
  rw [hsz]
  exact this
end Go.Proofs.YtlliliddljkbfaaGreat.Sp
