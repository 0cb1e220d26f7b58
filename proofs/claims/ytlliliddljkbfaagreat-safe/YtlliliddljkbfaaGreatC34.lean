import Derived.Test.YtlliliddljkbfaaGreatC33
import Derived.Deep.DeepCutAuto
import Derived.Deep.Light
namespace Go.Proofs.YtlliliddljkbfaaGreat
set_option maxHeartbeats 64000000
set_option maxRecDepth 100000
open Go.RowKit Sp
theorem headO_size (h : List Nd) : (headO h).size ≤ wzL h + 1 := by
  unfold headO
  split
  · show 0 ≤ _; omega
  · have := written_size h
    rw [ByteArray.size_append]
    show 1 + _ ≤ _
    omega
theorem atHead_c (B : Nat) (nm : ByteArray) (hd : List Nd) (v : Value) (w : World) (h : Sl (fun b => b < B) w v hd) (hB : B ≤ w.heap.size) (hn : nm.size ≤ 4000000) (hz : wzL hd ≤ 549755813888) :
    Calls Tryz.prog 119 #[.string nm, v] w fun e w' => e = .returned (.string (b1 64 ++ (nameO nm ++ headO hd))) ∧ Below w.heap.size w w' := by
  have hl := h.len
  have HS : Hid (Sl (fun b => b < B) w v hd) := h
  obtain ⟨va, vc, rfl⟩ := h.form
  clear h
  obtain ⟨o, Ho⟩ : ∃ o, Hid (nameO nm = o) := ⟨_, hid rfl⟩
  have hs1 : o.size ≤ 4 * nm.size := by rw [← Ho.out]; exact nameO_size _
  rw [Ho.out]
  obtain ⟨q, Hq⟩ : ∃ q, Hid (joinB [⟨#[64]⟩, o] = q) := ⟨_, hid rfl⟩
  have HQ2 : Hid (q = b1 64 ++ o) := by show _ = _; rw [← Hq.out]; simp [joinB, b1]
  have hsq : q.size ≤ 4 * nm.size + 1 := by rw [HQ2.out, ByteArray.size_append]; show 1 + o.size ≤ _; omega
  go_enter Tryz.func119, Tryz.ntmps119
  go_wp2_with fail
  refine (Name_c nm _ hn).mono ?_
  rw [Ho.out]
  rintro e w1 ⟨rfl, hb1⟩
  have B1 : Hid (Below w.heap.size w w1) := hb1
  have hw1 := hb1.size
  clear hb1
  go_wp2_with fail
  refine (Join_c [⟨#[64]⟩, o] w1.heap.size _ _ (rw2 w1 ⟨#[64]⟩ o) (by simp) (by show 1 + (o.size + 0) ≤ _; omega)).mono ?_
  rw [Hq.out]
  rintro e w2 ⟨rfl, hb2⟩
  have B2 : Hid (Below w.heap.size w w2) := (B1.out.alloc hw1 _).trans (hb2.mono (by simp; omega))
  have hw2 := B2.out.size
  clear hb2
  by_cases hz0 : hd.length = 0
  · obtain rfl : hd = [] := List.eq_nil_of_length_eq_zero hz0
    have HV : Hid (q = b1 64 ++ (o ++ headO [])) := by show _ = _; rw [HQ2.out]; show _ = b1 64 ++ (o ++ nob); rw [app_nob]
    clear hz0
    go_wp2_with fail
    go_ret
    exact ⟨retS HV.out, B2.out⟩
  · have hne : (((hd.length : Nat) : Int) == 0) = false := by rw [beq_eq_false_iff_ne]; omega
    obtain ⟨tx, Htx⟩ : ∃ o, Hid (Sp.written hd = o) := ⟨_, hid rfl⟩
    have hs3 : tx.size ≤ wzL hd := by rw [← Htx.out]; exact written_size _
    have HV : Hid (joinB [q, ⟨#[32]⟩, tx] = b1 64 ++ (o ++ headO hd)) := by
      show _ = _
      unfold headO
      rw [if_neg (by rintro rfl; simp at hz0), Htx.out, HQ2.out]
      simp [joinB, b1, ByteArray.append_assoc]
    clear hz0
    go_wp2_with fail
    refine (Values_c hd B _ w2 (HS.out.below B2.out hB) (by omega) hz).mono ?_
    rw [Htx.out]
    rintro e w4 ⟨rfl, hb4⟩
    have B4 : Hid (Below w.heap.size w w4) := B2.out.trans (hb4.mono hw2)
    have hw4 := B4.out.size
    clear hb4
    go_wp2_with fail
    refine (Join_c [q, ⟨#[32]⟩, tx] w4.heap.size _ _ (row3 w4 q ⟨#[32]⟩ tx) (by simp) (by show q.size + (1 + (tx.size + 0)) ≤ _; omega)).mono ?_
    rintro e w5 ⟨rfl, hb5⟩
    have B5 : Hid (Below w.heap.size w w5) := (B4.out.alloc hw4 _).trans (hb5.mono (by simp; omega))
    clear hb5
    go_wp2_with fail
    go_ret
    exact ⟨retS HV.out, B5.out⟩
theorem outF_id (ok : Nat → UInt8 → Bool) : ∀ (l : List UInt8) (i : Nat), (∀ j (h : j < l.length), ok (i + j) l[j] = true) → outF ok i l = ⟨l.toArray⟩
  | [], i, _ => rfl
  | c :: r, i, h => by
    have h0 := h 0 (by simp)
    simp at h0
    unfold outF
    rw [if_pos h0, outF_id ok r (i + 1) (fun j hj => by have := h (j + 1) (by simpa using hj); simpa [Nat.add_assoc, Nat.add_comm 1 j] using this)]
    apply ByteArray.ext
    rw [ByteArray.data_append]
    simp [b1]
theorem nameO_low {s : ByteArray} (h : allB lowB s = true) : nameO s = s := by
  unfold nameO
  rw [outF_id]
  intro j hj
  have hc : lowB s.data.toList[j] = true := by
    unfold allB at h
    rw [List.all_eq_true] at h
    exact h _ (List.getElem_mem _)
  generalize s.data.toList[j] = c at *
  unfold lowB at hc
  simp only [Bool.and_eq_true, decide_eq_true_eq] at hc
  unfold plainN plainD plainL
  rw [if_neg (by simp; omega), if_neg (by rintro rfl; simp at hc)]
  simp
  omega
def aheadR (root : ByteArray) : ByteArray := if root = nob then nob else b1 46 ++ (root ++ b1 32)
theorem join_ahead [DecI] (a : ByteArray) : ∀ (r : Sels) (c : List Step), joinO (b1 44) ((c :: r).map (fun x => a ++ cpxO x)) = a ++ (cpxO c ++ tailO a r)
  | [], c => by
    show a ++ cpxO c = a ++ (cpxO c ++ tailO a [])
    unfold tailO
    rw [app_nob]
  | d :: q, c => by
    have ih := join_ahead a q d
    show (a ++ cpxO c) ++ (b1 44 ++ joinO (b1 44) ((d :: q).map (fun x => a ++ cpxO x))) = _
    rw [ih]
    conv => rhs; unfold tailO
    simp only [ByteArray.append_assoc]
theorem join_heads [DecI] (a : ByteArray) (ss : Sels) : joinO (b1 44) (ss.map (fun x => a ++ cpxO x)) = listO a ss := by
  cases ss with
  | nil => rfl
  | cons c r => rw [join_ahead]; unfold listO; rfl
theorem tot_heads [DecI] (hd : DecSz) (a : ByteArray) : ∀ (ss : Sels), qkL ss → total (ss.map (fun x => a ++ cpxO x)) + ss.length ≤ zL ss + ss.length * a.size
  | [], _ => by simp [total]
  | c :: r, hq => by
    simp only [qkL] at hq
    have := tot_heads hd a r hq.2
    have := cpxC_size hd c hq.1
    unfold zL
    simp only [List.map_cons, total, List.length_cons, ByteArray.size_append, Nat.add_mul]
    omega
theorem styleHead_c [DecI] (f B : Nat) (root : ByteArray) (ss : Sels) (v : Value) (w : World) (h : SG (PCx (PSim f)) 1 (fun b => b < B) w v ss) (hB : B ≤ w.heap.size) (hI : ItoaOK w) (hq : qkL ss) (hz : zL ss ≤ 274877906944) (hd : DecSz) (hr : allB lowB root = true) (hr12 : root.size ≤ 12) :
    Calls Tryz.prog 122 #[.string root, v] w fun e w' => e = .returned (.string (listO (aheadR root) ss)) ∧ Below w.heap.size w w' := by
  have hl := h.len
  have HS : Hid (SG (PCx (PSim f)) 1 (fun b => b < B) w v ss) := h
  have HII : Hid (ItoaOK w) := hI
  have HQ : Hid (qkL ss) := hq
  have hF : Hid (Fair (PStp (PSim f))) := PStp.fair (PSim.fair f)
  obtain ⟨a, cap, rfl⟩ := h.form
  obtain ⟨ah, Hah⟩ : ∃ ah, Hid (aheadR root = ah) := ⟨_, hid rfl⟩
  have hahs : ah.size ≤ 14 := by
    rw [← Hah.out]
    unfold aheadR
    split
    · show 0 ≤ 14; omega
    · rw [ByteArray.size_append, ByteArray.size_append]; show 1 + (_ + 1) ≤ 14; omega
  have HV0 : Hid (joinO (b1 44) (ss.map (fun x => ah ++ cpxO x)) = listO ah ss) := join_heads ah ss
  have htot := tot_heads hd ah ss hq
  have hml : ss.length * ah.size ≤ 2097152 * 14 := Nat.mul_le_mul hl hahs
  have hnm : nameO root = root := nameO_low hr
  rw [Hah.out]
  clear h hI hq hr
  obtain ⟨iS, hiS⟩ := info_str
  have HI : Hid (Tryz.prog.info? 9 = some iS ∧ iS.zero = some (.string ⟨#[]⟩) ∧ iS.size = 1 ∧ iS.bytes = 16) := hiS
  clear hiS
  go_enter Tryz.func122, Tryz.ntmps122
  go_upto_if 10 with fail
  go_cut [5] (fun s5 wx => s5 = .string ah ∧ Below w.heap.size w wx)
  case first =>
    by_cases he : root.toList = []
    · have hn : root = nob := by
        have := bytes_lit root []
        rw [he] at this
        exact of_decide_eq_true this.symm
      have HA : Hid (ah = ⟨#[]⟩) := by show _ = _; rw [← Hah.out]; unfold aheadR; rw [if_pos hn]; rfl
      clear hn
      have hie : root.toList.isEmpty = true := by rw [he]; rfl
      rw [hie, Bool.not_true]
      go_wp2_with fail
      go_meet
      exact ⟨by rw [HA.out], Below.refl _ _⟩
    · have hn : ¬ root = nob := fun e => he (by rw [e, bytes_toList]; rfl)
      have hie : root.toList.isEmpty = false := by cases hq : root.toList with | nil => exact absurd hq he | cons _ _ => rfl
      have HA : Hid (joinB [⟨#[46]⟩, root, ⟨#[32]⟩] = ah) := by show _ = _; rw [← Hah.out]; unfold aheadR; rw [if_neg hn]; simp [joinB, b1]
      clear hn
      have HNC := Name_c root w (by omega)
      rw [hnm] at HNC
      have HN : Hid (Calls Tryz.prog 190 #[.string root] w fun e w' => e = .returned (.string root) ∧ Below w.heap.size w w') := HNC
      clear HNC hnm
      rw [hie, Bool.not_false]
      go_wp2_with fail
      refine HN.out.mono ?_
      rintro e w1 ⟨rfl, hb1⟩
      have B1 : Hid (Below w.heap.size w w1) := hb1
      have hw1 := hb1.size
      clear hb1
      go_wp2_with fail
      refine (Join_c [⟨#[46]⟩, root, ⟨#[32]⟩] w1.heap.size _ _ (row3 w1 ⟨#[46]⟩ root ⟨#[32]⟩) (by simp) (by show 1 + (root.size + (1 + 0)) ≤ _; omega)).mono ?_
      rw [HA.out]
      rintro e w2 ⟨rfl, hb2⟩
      have B2 : Hid (Below w.heap.size w w2) := (B1.out.alloc hw1 _).trans (hb2.mono (by simp; omega))
      clear hb2
      go_wp2_with fail
      go_meet
      exact ⟨rfl, B2.out⟩
  case rest =>
    obtain ⟨rfl, hbc⟩ := hcut
    have BC : Hid (Below w.heap.size w wc) := hbc
    clear hbc hnm
    go_wp2_with fail
    go_loopg [6, 17] ss.length (fun gg v6 v17 wr => ∃ (u : Value) (i : Nat), u = v6 ∧ v17 = .int .i64 (i : Int) ∧ i + gg = ss.length ∧ Aside (wr.ownsRow w.heap.size 9 1 u i (((ss.take i).map (fun x => ah ++ cpxO x)).map Value.string) ∧ Below w.heap.size w wr))
    case atStart => exact ⟨_, 0, rfl, rfl, by omega, World.ownsRow_nil _ _ _ _, BC.out⟩
    case round =>
      obtain ⟨u, i, rfl, rfl, hi, hA⟩ := hrel
      have O1 : Hid (wr.ownsRow w.heap.size 9 1 u i (((ss.take i).map (fun x => ah ++ cpxO x)).map Value.string)) := hA.out.1
      have B1 : Hid (Below w.heap.size w wr) := hA.out.2
      clear hA
      have hsr := B1.out.size
      by_cases hlt : i < ss.length
      · have h1 : (i : Int) < (ss.length : Int) := by omega
        obtain ⟨g, o, rfl, hL, hcap⟩ := HS.out.here (by rintro rfl; simp at hlt)
        have hgB : g < B := (hL.at ss g o i hlt).1
        obtain ⟨cv, d0, hcv⟩ := hL.cpx (i := i) hlt
        rw [← B1.out.cell (p := ⟨g, _, none⟩) (show g < w.heap.size by omega)] at d0
        have HT : Hid (ss.take (i + 1) = ss.take i ++ [ss[i]]) := List.take_succ_eq_append_getElem hlt
        have hqc := qkL_at ss i HQ.out hlt
        have hzc := zC_mem ss i hlt
        obtain ⟨cx, hcx⟩ : ∃ c, c = ss[i] := ⟨_, rfl⟩
        rw [← hcx] at hcv HT hqc hzc
        obtain ⟨ca, cc, rfl⟩ := hcv.form
        have hxs := cpxC_size hd cx hqc
        have HW : Hid (Calls Tryz.prog 191 #[.slice ca cx.length cc] wr fun e w' => e = .returned (.string (cpxO cx)) ∧ Below wr.heap.size wr w') :=
          cpxW_c f B cx _ wr (hcv.below hF.out B1.out hB) (by omega) (HII.out.below B1.out (Nat.le_refl _)) hqc (by omega) hd
        clear hL hcx hcv hqc
        go_wp2_with fail
        refine HW.out.mono ?_
        obtain ⟨x, Hx⟩ : ∃ x, Hid (cpxO cx = x) := ⟨_, hid rfl⟩
        rw [Hx.out] at hxs
        rw [Hx.out]
        rintro e w2 ⟨rfl, hb2⟩
        have B2 : Hid (Below w.heap.size w w2) := B1.out.trans (hb2.mono hsr)
        have O2 : Hid (w2.ownsRow w.heap.size 9 1 u i (((ss.take i).map (fun x => ah ++ cpxO x)).map Value.string)) := own_keep O1.out fun r hr => hb2.block r (O1.out.lt r hr).2
        have hs2 := B2.out.size
        clear hb2 HW d0
        go_wp2_with fail
        refine (Join_c [ah, x] w2.heap.size _ _ (rw2 w2 ah x) (by simp) (by show ah.size + (x.size + 0) ≤ _; omega)).mono ?_
        obtain ⟨y, Hy⟩ : ∃ y, Hid (joinB [ah, x] = y) := ⟨_, hid rfl⟩
        have HY : Hid (y = ah ++ x) := by show _ = _; rw [← Hy.out]; simp [joinB]
        rw [Hy.out]
        rintro e w3 ⟨rfl, hb3⟩
        have X3 : Hid (Below w2.heap.size w2 w3) := (new_below w2 _).trans (hb3.mono (by simp))
        have B3 : Hid (Below w.heap.size w w3) := B2.out.trans (X3.out.mono hs2)
        have O3 : Hid (w3.ownsRow w.heap.size 9 1 u i (((ss.take i).map (fun x => ah ++ cpxO x)).map Value.string)) := own_keep O2.out fun r hr => X3.out.block r (O2.out.lt r hr).2
        have hs3 := B3.out.size
        clear hb3
        obtain ⟨zs, Hzs⟩ : ∃ zs, Hid ((ss.take i).map (fun x => ah ++ cpxO x) = zs) := ⟨_, hid rfl⟩
        rw [Hzs.out] at O3
        have hzl : zs.length = i := by rw [← Hzs.out, List.length_map, List.length_take]; omega
        clear O1 O2
        go_wp2_with (at_builtin; go_must (refine wpList_append_own _ rfl _ _ 26 rfl w.heap.size 9 iS (.string ⟨#[]⟩) 1 16 Tryz.underlying26 HI.out.1 HI.out.2.1 HI.out.2.2.1 HI.out.2.2.2 rfl (by omega) u i (zs.map Value.string) rfl (O3.out.alloc _) ⟨w3.heap.size, 0, none⟩ 1 1 [.string y] rfl rfl (cell_one_new _ _ _) (str_oneCell _) (by unfold maxLen; omega) (by omega) (by simp; omega) ?_))
        intro v4 w4 hown4 hgr4 _
        have O4 : Hid (w4.ownsRow w.heap.size 9 1 v4 (i + 1) (((ss.take (i + 1)).map (fun x => ah ++ cpxO x)).map Value.string)) := by
          show World.ownsRow _ _ _ _ _ _ _
          rw [HT.out, List.map_append, List.map_append, List.map_cons, List.map_nil, Hx.out, ← HY.out, Hzs.out]
          exact hown4
        have B4 : Hid (Below w.heap.size w w4) := (B3.out.alloc hs3 _).grown hgr4 (by simp; omega) (fun rr hr => (O3.out.lt rr hr).1)
        clear hown4 hgr4
        go_wp2_with fail
        go_roundg (gk - 1)
        case measure => omega
        case rel => exact ⟨v4, i + 1, rfl, by congr 1, by omega, O4.out, B4.out⟩
      · have h1 : (ss.length : Int) ≤ (i : Int) := by omega
        have hie : i = ss.length := by omega
        subst hie
        obtain ⟨zs, Hzs⟩ : ∃ zs, Hid (ss.map (fun x => ah ++ cpxO x) = zs) := ⟨_, hid rfl⟩
        have hzl : zs.length = ss.length := by rw [← Hzs.out, List.length_map]
        have O5 : Hid (wr.ownsRow w.heap.size 9 1 u zs.length (zs.map Value.string)) := by
          have := O1.out
          rw [List.take_of_length_le (Nat.le_refl _), Hzs.out] at this
          show World.ownsRow _ _ _ _ _ _ _
          rw [hzl]; exact this
        rw [Hzs.out] at htot HV0
        go_wp2_with fail
        refine (JoinBy_c (b1 44) zs w.heap.size u _ O5.out (by omega) (by unfold jtot; show _ + zs.length * 1 ≤ _; omega)).mono ?_
        rw [HV0.out]
        rintro e w5 ⟨rfl, hb5⟩
        have B5 : Hid (Below w.heap.size w w5) := B1.out.trans (hb5.mono hsr)
        clear hb5
        go_wp2_with fail
        go_ret
        exact ⟨rfl, B5.out⟩
theorem PolM.mono {B B' : Nat} {w : World} {p : Policy} {pv fv av : Value} (h : PolM B w p pv fv av) (hB : B ≤ B') (hw : B' ≤ w.heap.size) : PolM B' w p pv fv av :=
  ⟨h.props.mono CStr.fair hB, h.funs.mono CStr.fair hB, h.ats.mono CStr.fair hB, hw⟩
def dz (d : Dec) : Nat := 4 * d.prop.size + wzL d.val + 24
def dzs : List Dec → Nat
  | [] => 0
  | d :: r => dz d + dzs r
theorem dzs_at : ∀ (l : List Dec) (i : Nat) (h : i < l.length), dz l[i] ≤ dzs l
  | d :: r, 0, _ => by unfold dzs; simp
  | d :: r, i + 1, h => by
    have := dzs_at r i (by simpa using h)
    unfold dzs
    simp only [List.getElem_cons_succ]
    omega
theorem dz_total (p : Policy) : ∀ (l : List Dec), total ((l.filter (decK p)).map decT) + (l.filter (decK p)).length ≤ dzs l
  | [] => by simp [total, dzs]
  | d :: r => by
    have ih := dz_total p r
    have hs := decT_size d
    unfold dzs dz
    by_cases hk : decK p d = true
    · rw [List.filter_cons_of_pos hk]
      simp only [List.map_cons, total, List.length_cons]
      omega
    · rw [List.filter_cons_of_neg hk]
      omega
theorem take_filter {p : Policy} {l : List Dec} {i : Nat} (h : i < l.length) : ((l.take (i + 1)).filter (decK p)).map decT = ((l.take i).filter (decK p)).map decT ++ (if decK p l[i] = true then [decT l[i]] else []) := by
  rw [List.take_succ_eq_append_getElem h, List.filter_append, List.map_append]
  congr 1
  by_cases hk : decK p l[i] = true
  · rw [List.filter_cons_of_pos hk, if_pos hk]; rfl
  · rw [List.filter_cons_of_neg hk, if_neg hk]; rfl
theorem LG.dec {S : Nat → Prop} {w : World} {l : List Dec} {g o i : Nat} (h : LG CDec 3 S w l g o) (hi : i < l.length) : S g ∧ ∃ vv, w.cell? ⟨g, o + i * 3, none⟩ = some (.string l[i].prop) ∧ w.cell? ⟨g, o + i * 3 + 1, none⟩ = some vv ∧ w.cell? ⟨g, o + i * 3 + 2, none⟩ = some (.bool l[i].imp) ∧ Sl S w vv l[i].val ∧ l[i].prop.size ≤ 4000000 := by
  obtain ⟨h0, cs, ⟨vv, rfl, hs, hp⟩, hc⟩ := h.at l g o i hi
  refine ⟨h0, vv, ?_, hc 1 _ rfl, hc 2 _ rfl, hs, hp⟩
  have := hc 0 _ rfl
  rwa [Nat.add_zero] at this
theorem declarations_c (B : Nat) (p : Policy) (pv fv av : Value) (l : List Nd) (v : Value) (w : World) (hP : PolM B w p pv fv av) (h : Sl (fun b => b < B) w v l) (hk : ∀ d ∈ decls l, kdL d.val) (hz : dzs (decls l) ≤ 274877906944) :
    Calls Tryz.prog 124 #[polV p pv fv av, v] w fun e w' => e = .returned (.string (bodyO p l)) ∧ Below w.heap.size w w' := by
  have hB := hP.lt
  obtain ⟨a, cap, rfl⟩ := h.form
  obtain ⟨pa, pc, rfl⟩ := hP.props.form
  obtain ⟨fa, fc, rfl⟩ := hP.funs.form
  obtain ⟨aa, ac, rfl⟩ := hP.ats.form
  obtain ⟨ds, Hds⟩ : ∃ ds, Hid (decls l = ds) := ⟨_, hid rfl⟩
  have HK : Hid (∀ d ∈ ds, kdL d.val) := by rw [← Hds.out]; exact hk
  rw [Hds.out] at hz
  have HBO : Hid (joinO (b1 59) ((ds.filter (decK p)).map decT) = bodyO p l) := by show _ = _; unfold bodyO; rw [Hds.out]
  have htot := dz_total p ds
  clear hk
  obtain ⟨iS, hiS⟩ := info_str
  have HI : Hid (Tryz.prog.info? 9 = some iS ∧ iS.zero = some (.string ⟨#[]⟩) ∧ iS.size = 1 ∧ iS.bytes = 16) := hiS
  clear hiS
  obtain ⟨B0, Q0⟩ := Q6.nb p pa fa aa pc fc ac w
  have HP0 : Hid (PolM B (w.alloc (.cells #[.string p.root, .slice pa p.props.length pc, .slice fa p.funs.length fc, .slice aa p.ats.length ac, .bool p.cust, .bool p.texts] 82)) p (.slice pa p.props.length pc) (.slice fa p.funs.length fc) (.slice aa p.ats.length ac)) := hP.below B0.out hB
  have HS0 : Hid (Sl (fun b => b < B) (w.alloc (.cells #[.string p.root, .slice pa p.props.length pc, .slice fa p.funs.length fc, .slice aa p.ats.length ac, .bool p.cust, .bool p.texts] 82)) (.slice a l.length cap) l) := h.below B0.out hB
  clear hP h
  unfold polV
  go_enter Tryz.func124, Tryz.ntmps124
  go_upto_region 1 with fail
  have hsz0 := B0.out.size
  have hlt0 := Q0.out.lt
  generalize w.alloc (.cells #[.string p.root, .slice pa p.props.length pc, .slice fa p.funs.length fc, .slice aa p.ats.length ac, .bool p.cust, .bool p.texts] 82) = w0 at *
  obtain ⟨rb, Hrb⟩ : ∃ rb, Hid (w.heap.size = rb) := ⟨_, hid rfl⟩
  rw [Hrb.out] at B0 Q0 hB hlt0 hsz0 ⊢
  go_wp2_with fail
  refine (Declarations_c B l _ w0 HS0.out (by omega)).mono ?_
  rw [Hds.out]
  rintro e w1 ⟨u1, rfl, hsg, hb1⟩
  obtain ⟨da, dc, rfl⟩ := hsg.form
  have hdl := hsg.len
  have B1 : Hid (Below w0.heap.size w0 w1) := hb1
  have HSG : Hid (SG CDec 3 (fun b => b < w1.heap.size) w1 (.slice da ds.length dc) ds) := hsg
  have hs1 := hb1.size
  have Q1 : Hid (Q6 w1 rb (.string p.root) (.slice pa p.props.length pc) (.slice fa p.funs.length fc) (.slice aa p.ats.length ac) (.bool p.cust) (.bool p.texts)) := Q0.out.below hb1 hlt0
  have HP1 : Hid (PolM w1.heap.size w1 p (.slice pa p.props.length pc) (.slice fa p.funs.length fc) (.slice aa p.ats.length ac)) := (HP0.out.below hb1 (by omega)).mono (by omega) (Nat.le_refl _)
  clear hsg hb1 HS0 HP0 Q0
  go_wp2_with fail
  go_loopg [5, 11] ds.length (fun gg v5 v11 wr => ∃ (u : Value) (i : Nat), u = v5 ∧ v11 = .int .i64 (i : Int) ∧ i + gg = ds.length ∧ Aside (wr.ownsRow w1.heap.size 9 1 u (((ds.take i).filter (decK p)).map decT).length ((((ds.take i).filter (decK p)).map decT).map Value.string) ∧ Below w1.heap.size w1 wr))
  case atStart => exact ⟨_, 0, rfl, rfl, by omega, World.ownsRow_nil _ _ _ _, Below.refl _ _⟩
  case round =>
    obtain ⟨u, i, rfl, rfl, hi, hA⟩ := hrel
    have O1 : Hid (wr.ownsRow w1.heap.size 9 1 u (((ds.take i).filter (decK p)).map decT).length ((((ds.take i).filter (decK p)).map decT).map Value.string)) := hA.out.1
    have BR : Hid (Below w1.heap.size w1 wr) := hA.out.2
    clear hA
    have hsr := BR.out.size
    by_cases hlt : i < ds.length
    · have h1 : (i : Int) < (ds.length : Int) := by omega
      obtain ⟨g, o, rfl, hL, hcap⟩ := (HSG.out.below CDec.fair BR.out (Nat.le_refl _)).here (by rintro rfl; simp at hlt)
      obtain ⟨hgB, vv, c0, c1, c2, hvv, hps⟩ := hL.dec (i := i) hlt
      have HT : Hid (((ds.take (i + 1)).filter (decK p)).map decT = ((ds.take i).filter (decK p)).map decT ++ (if decK p ds[i] = true then [decT ds[i]] else [])) := take_filter hlt
      have hdz := dzs_at ds i hlt
      have hkd := HK.out ds[i] (List.getElem_mem _)
      obtain ⟨d, hd⟩ : ∃ d, d = ds[i] := ⟨_, rfl⟩
      rw [← hd] at c0 c2 hvv hps HT hdz hkd
      have HVV : Hid (Sl (fun b => b < w1.heap.size) wr vv d.val) := hvv
      have HKD : Hid (kdL d.val) := hkd
      have hvl := hvv.len
      obtain ⟨va, vc, rfl⟩ := hvv.form
      clear hL hd hvv hkd
      have hzl : (((ds.take i).filter (decK p)).map decT).length ≤ i := by rw [List.length_map]; exact Nat.le_trans (List.length_filter_le _ _) (by rw [List.length_take]; omega)
      obtain ⟨ps, Hps⟩ : ∃ ps, Hid (((ds.take i).filter (decK p)).map decT = ps) := ⟨_, hid rfl⟩
      rw [Hps.out] at O1 HT hzl
      have D2 : Hid (Q3 181 (wr.alloc (.cells #[.string d.prop, .slice va d.val.length vc, .bool d.imp] 181)) wr.heap.size (.string d.prop) (.slice va d.val.length vc) (.bool d.imp)) := Q3.new _ _ _ _ _
      have X2 : Hid (Below wr.heap.size wr (wr.alloc (.cells #[.string d.prop, .slice va d.val.length vc, .bool d.imp] 181))) := (Below.refl _ _).alloc (Nat.le_refl _) _
      go_upto_region 5 with fail
      generalize wr.alloc (.cells #[.string d.prop, .slice va d.val.length vc, .bool d.imp] 181) = w2 at *
      obtain ⟨gt, Hgt⟩ : ∃ gt, Hid (wr.heap.size = gt) := ⟨_, hid rfl⟩
      have D3 : Hid (Q3 181 w2 gt (.string d.prop) (.slice va d.val.length vc) (.bool d.imp)) := by rw [← Hgt.out]; exact D2.out
      rw [Hgt.out]
      clear D2 c0 c1 c2
      have B2 : Hid (Below w1.heap.size w1 w2) := BR.out.trans (X2.out.mono hsr)
      have hs2 := X2.out.size
      have O2 : Hid (w2.ownsRow w1.heap.size 9 1 u ps.length (ps.map Value.string)) := own_keep O1.out fun r hr => X2.out.block r (O1.out.lt r hr).2
      obtain ⟨a0, a1, a2⟩ := D3.out.cs
      have Q2 := Q1.out.below B2.out (by omega)
      obtain ⟨q0, q1, q2, q3, q4, q5⟩ := Q2.cs
      clear Q2
      have HDK : Hid (decK p d = ((if custom d.prop = true then p.cust else p.props.contains d.prop) && harmL p d.val && !d.val.isEmpty)) := rfl
      have NO : Hid (∀ wx, Below w2.heap.size w2 wx → decK p d = false → (wx.ownsRow w1.heap.size 9 1 u (((ds.take (i + 1)).filter (decK p)).map decT).length ((((ds.take (i + 1)).filter (decK p)).map decT).map Value.string)) ∧ Below w1.heap.size w1 wx) := by
        intro wx hb hf
        refine ⟨?_, B2.out.trans (hb.mono (by omega))⟩
        rw [HT.out, if_neg (by rw [hf]; simp), List.append_nil]
        exact own_keep O2.out fun r hr => hb.block r (O2.out.lt r hr).2
      by_cases hv0 : d.val.length = 0
      · have HF : Hid (decK p d = false) := by
          show _ = _
          rw [HDK.out, List.eq_nil_of_length_eq_zero hv0]
          simp
        have hvi : ¬ (0 : Int) < (d.val.length : Int) := by omega
        have hvd : decide ((0 : Int) < (d.val.length : Int)) = false := decide_eq_false hvi
        clear hv0
        go_wp2_with fail
        go_roundg (gk - 1)
        case measure => omega
        case rel => exact ⟨u, i + 1, rfl, by congr 1, by omega, NO.out _ (Below.refl _ _) HF.out⟩
      · have hvi : (0 : Int) < (d.val.length : Int) := by omega
        have HNE : Hid (d.val.isEmpty = false) := by
          show _ = _
          cases hq : d.val with
          | nil => rw [hq] at hv0; simp at hv0
          | cons _ _ => rfl
        have HPM := PropertyMayBe_c w1.heap.size p (.slice pa p.props.length pc) (.slice fa p.funs.length fc) (.slice aa p.ats.length ac) w2 d.prop (HP1.out.below B2.out (Nat.le_refl _))
        obtain ⟨z1, Hz1⟩ : ∃ z, Hid ((if custom d.prop = true then p.cust else p.props.contains d.prop) = z) := ⟨_, hid rfl⟩
        rw [Hz1.out] at HPM HDK
        unfold polV at HPM
        have HPM' : Hid (Calls Tryz.prog 193 #[.agg #[.string p.root, .slice pa p.props.length pc, .slice fa p.funs.length fc, .slice aa p.ats.length ac, .bool p.cust, .bool p.texts], .string d.prop] w2 fun e w' => e = .returned (.bool z1) ∧ Below w2.heap.size w2 w') := HPM
        clear HPM hv0
        go_wp2_with fail
        refine HPM'.out.mono ?_
        rintro e w3 ⟨rfl, hb3⟩
        have X3 : Hid (Below w2.heap.size w2 w3) := hb3
        have D4 : Hid (Q3 181 w3 gt (.string d.prop) (.slice va d.val.length vc) (.bool d.imp)) := D3.out.below hb3
        have hs3 := hb3.size
        clear hb3 a0 a1 a2 q0 q1 q2 q3 q4 q5 HPM'
        obtain ⟨a0, a1, a2⟩ := D4.out.cs
        have B3 : Hid (Below w1.heap.size w1 w3) := B2.out.trans (X3.out.mono (by omega))
        have Q3' := Q1.out.below B3.out (by omega)
        obtain ⟨q0, q1, q2, q3, q4, q5⟩ := Q3'.cs
        clear Q3'
        cases z1
        · have HF : Hid (decK p d = false) := HDK.out
          go_wp2_with fail
          go_roundg (gk - 1)
          case measure => omega
          case rel => exact ⟨u, i + 1, rfl, by congr 1, by omega, NO.out _ X3.out HF.out⟩
        · have HHM := IsHarmless_c d.val w1.heap.size p (.slice pa p.props.length pc) (.slice fa p.funs.length fc) (.slice aa p.ats.length ac) (.slice va d.val.length vc) w3 (HP1.out.below B3.out (Nat.le_refl _)) ((HVV.out.below X2.out (by omega)).below X3.out (by omega)) HKD.out
          obtain ⟨z2, Hz2⟩ : ∃ z, Hid (harmL p d.val = z) := ⟨_, hid rfl⟩
          rw [Hz2.out] at HHM HDK
          unfold polV at HHM
          have HHM' : Hid (Calls Tryz.prog 117 #[.agg #[.string p.root, .slice pa p.props.length pc, .slice fa p.funs.length fc, .slice aa p.ats.length ac, .bool p.cust, .bool p.texts], .slice va d.val.length vc] w3 fun e w' => e = .returned (.bool z2) ∧ Below w3.heap.size w3 w') := HHM
          clear HHM
          go_wp2_with fail
          refine HHM'.out.mono ?_
          rintro e w4 ⟨rfl, hb4⟩
          have X4 : Hid (Below w2.heap.size w2 w4) := X3.out.trans (hb4.mono hs3)
          have D5 : Hid (Q3 181 w4 gt (.string d.prop) (.slice va d.val.length vc) (.bool d.imp)) := D4.out.below hb4
          have hs4 := X4.out.size
          clear hb4 a0 a1 a2 q0 q1 q2 q3 q4 q5 HHM'
          obtain ⟨a0, a1, a2⟩ := D5.out.cs
          cases z2
          · have HF : Hid (decK p d = false) := HDK.out
            go_wp2_with fail
            go_roundg (gk - 1)
            case measure => omega
            case rel => exact ⟨u, i + 1, rfl, by congr 1, by omega, NO.out _ X4.out HF.out⟩
          · have HF : Hid (decK p d = true) := by show _ = _; rw [HDK.out, HNE.out]; rfl
            have hwz : wzL d.val ≤ 549755813888 := by unfold dz at hdz; omega
            have HDC := declaration_c w1.heap.size d (.slice va d.val.length vc) w4 ((HVV.out.below X2.out (by omega)).below X4.out (by omega)) (by omega) hps hwz
            have HDC' : Hid (Calls Tryz.prog 194 #[.agg #[.string d.prop, .slice va d.val.length vc, .bool d.imp]] w4 fun e w' => e = .returned (.string (decT d)) ∧ Below w4.heap.size w4 w') := HDC
            clear HDC
            go_wp2_with fail
            refine HDC'.out.mono ?_
            obtain ⟨y, Hy⟩ : ∃ y, Hid (decT d = y) := ⟨_, hid rfl⟩
            rw [Hy.out]
            rintro e w5 ⟨rfl, hb5⟩
            have X5 : Hid (Below w2.heap.size w2 w5) := X4.out.trans (hb5.mono hs4)
            have B5 : Hid (Below w1.heap.size w1 w5) := B2.out.trans (X5.out.mono (by omega))
            have O5 : Hid (w5.ownsRow w1.heap.size 9 1 u ps.length (ps.map Value.string)) := own_keep O2.out fun r hr => X5.out.block r (O2.out.lt r hr).2
            have hs5 := B5.out.size
            clear hb5 HDC' a0 a1 a2
            go_wp2_with (at_builtin; go_must (refine wpList_append_own _ rfl _ _ 26 rfl w1.heap.size 9 iS (.string ⟨#[]⟩) 1 16 Tryz.underlying26 HI.out.1 HI.out.2.1 HI.out.2.2.1 HI.out.2.2.2 rfl (by omega) u ps.length (ps.map Value.string) rfl (O5.out.alloc _) ⟨w5.heap.size, 0, none⟩ 1 1 [.string y] rfl rfl (cell_one_new _ _ _) (str_oneCell _) (by unfold maxLen; omega) (by omega) (by simp; omega) ?_))
            intro v6 w6 hown6 hgr6 _
            have O6 : Hid (w6.ownsRow w1.heap.size 9 1 v6 (((ds.take (i + 1)).filter (decK p)).map decT).length ((((ds.take (i + 1)).filter (decK p)).map decT).map Value.string)) := by
              show World.ownsRow _ _ _ _ _ _ _
              rw [HT.out, if_pos HF.out, Hy.out]
              first | (rw [List.length_append, List.map_append]; exact hown6) | simpa using hown6
            have B6 : Hid (Below w1.heap.size w1 w6) := (B5.out.alloc hs5 _).grown hgr6 (by simp; omega) (fun rr hr => (O5.out.lt rr hr).1)
            clear hown6 hgr6
            go_wp2_with fail
            go_roundg (gk - 1)
            case measure => omega
            case rel => exact ⟨v6, i + 1, rfl, by congr 1, by omega, O6.out, B6.out⟩
    · have h1 : (ds.length : Int) ≤ (i : Int) := by omega
      have O5 : Hid (wr.ownsRow w1.heap.size 9 1 u ((ds.filter (decK p)).map decT).length (((ds.filter (decK p)).map decT).map Value.string)) := by
        have := O1.out
        rw [List.take_of_length_le (by omega)] at this
        exact this
      obtain ⟨ps, Hps⟩ : ∃ ps, Hid ((ds.filter (decK p)).map decT = ps) := ⟨_, hid rfl⟩
      have hpl : ps.length = (ds.filter (decK p)).length := by rw [← Hps.out, List.length_map]
      have hpf : (ds.filter (decK p)).length ≤ ds.length := List.length_filter_le _ _
      rw [Hps.out] at O5 htot HBO
      go_wp2_with fail
      refine (JoinBy_c (b1 59) ps w1.heap.size u _ O5.out (by omega) (by unfold jtot; show _ + ps.length * 1 ≤ _; omega)).mono ?_
      rw [HBO.out]
      rintro e w5 ⟨rfl, hb5⟩
      have B5 : Hid (Below rb w w5) := B0.out.trans ((B1.out.trans ((BR.out.trans (hb5.mono hsr)).mono hs1)).mono hsz0)
      clear hb5
      go_wp2_with fail
      go_ret
      exact ⟨rfl, by rw [Hrb.out]; exact B5.out⟩
end Go.Proofs.YtlliliddljkbfaaGreat
