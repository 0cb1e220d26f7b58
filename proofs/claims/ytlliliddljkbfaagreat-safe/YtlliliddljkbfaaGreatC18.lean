import Derived.Test.YtlliliddljkbfaaGreatC12
import Derived.Test.YtlliliddljkbfaaGreatC13
import Derived.Test.YtlliliddljkbfaaGreatC16
import Derived.Test.YtlliliddljkbfaaGreatC17
namespace Go.Proofs.YtlliliddljkbfaaGreat
set_option maxHeartbeats 64000000
set_option maxRecDepth 100000
open Go.RowKit Sp
theorem LG.stp {C : Law Simple} {S : Nat → Prop} {w : World} {l : List Step} {g o i : Nat} (h : LG (PStp C) 2 S w l g o) (hi : i < l.length) : ∃ av, w.cell? ⟨g, o + i * 2, none⟩ = some (.int .i64 (cmb l[i].1)) ∧ w.cell? ⟨g, o + i * 2 + 1, none⟩ = some av ∧ SG C 1 S w av l[i].2 ∧ S g := by
  obtain ⟨h0, cs, ⟨av, rfl, hs⟩, hc⟩ := h.at l g o i hi
  refine ⟨av, ?_, ?_, hs, h0⟩
  · have := hc 0 _ rfl; rwa [Nat.add_zero] at this
  · exact hc 1 _ rfl
theorem LG.prt {f : Nat} {S : Nat → Prop} {w : World} {l : List Simple} {g o i : Nat} (h : LG (PSim f) 1 S w l g o) (hi : i < l.length) : ∃ pv, w.cell? ⟨g, o + i, none⟩ = some pv ∧ PSim f S w l[i] [pv] ∧ S g := by
  obtain ⟨h0, cs, hC, hc⟩ := h.at l g o i hi
  have hl := PSim.sized f _ _ _ _ hC
  obtain ⟨pv, rfl⟩ : ∃ pv, cs = [pv] := by
    match cs, hl with
    | [pv], _ => exact ⟨pv, rfl⟩
  refine ⟨pv, ?_, hC, h0⟩
  have := hc 0 _ rfl
  rw [Nat.mul_one, Nat.add_zero] at this
  exact this
def S2 (w : World) (b : Nat) (x0 x1 : Value) : Prop := w.heap[b]? = some (.cells #[x0, x1] 219 (0, 0))
theorem S2.cs {w : World} {b : Nat} {x0 x1 : Value} (h : S2 w b x0 x1) : w.cell? ⟨b, 0, none⟩ = some x0 ∧ w.cell? ⟨b, 1, none⟩ = some x1 := by
  have h' : w.heap[b]? = _ := h
  refine ⟨?_, ?_⟩ <;> (unfold World.cell?; rw [h']; rfl)
theorem S2.lt {w : World} {b : Nat} {x0 x1 : Value} (h : S2 w b x0 x1) : b < w.heap.size := (Array.getElem?_eq_some_iff.1 h).1
theorem S2.new (w : World) (x0 x1 : Value) : S2 (w.alloc (.cells #[x0, x1] 219)) w.heap.size x0 x1 := heap_alloc_new w _
theorem S2.keep {w w' : World} {b : Nat} {x0 x1 : Value} (h : S2 w b x0 x1) (hb : w'.heap[b]? = w.heap[b]?) : S2 w' b x0 x1 := by
  show _ = _; rw [hb]; exact h
structure CwI [DecI] (w : World) (cx : List Step) (u : Value) (ps : List ByteArray) (rest : ByteArray) (wr : World) : Prop where
  row : wr.ownsRow w.heap.size 9 1 u ps.length (ps.map Value.string)
  below : Below w.heap.size w wr
  eq : cpxO cx = joinB ps ++ rest
theorem cpxO_drop [DecI] {cx : List Step} {i : Nat} (h : i < cx.length) : cpxO (cx.drop i) = combO cx[i].1 ++ (allO cx[i].2 ++ cpxO (cx.drop (i + 1))) := by
  rw [List.drop_eq_getElem_cons h]
  generalize cx[i] = st
  obtain ⟨b, all⟩ := st
  show (combO b ++ allO all) ++ _ = _
  rw [ByteArray.append_assoc]
theorem zC_drop {cx : List Step} {i : Nat} (h : i < cx.length) : zC (cx.drop i) = 3 + zA cx[i].2 + zC (cx.drop (i + 1)) := by
  rw [List.drop_eq_getElem_cons h]
  generalize cx[i] = st
  obtain ⟨b, all⟩ := st
  rfl
theorem zA_len : ∀ (l : List Simple), 120 * l.length ≤ zA l
  | [] => by simp
  | s :: r => by
    have := zA_len r
    obtain ⟨k, nm, how, v, l, p⟩ := s
    unfold zA zS
    simp only [List.length_cons]
    omega
theorem allO_drop [DecI] {l : List Simple} {i : Nat} (h : i < l.length) : allO (l.drop i) = simO l[i] ++ allO (l.drop (i + 1)) := by
  rw [List.drop_eq_getElem_cons h]; rfl
theorem qkC_at : ∀ (cx : List Step) (i : Nat) (_ : qkC cx) (h : i < cx.length), qkA cx[i].2
  | (b, all) :: r, 0, h, _ => by simp only [qkC] at h; exact h.2.1
  | (b, all) :: r, i + 1, h, hi => by simp only [qkC] at h; exact (qkR_at r i h.2.2 (by simpa using hi)).2
theorem zS_mem : ∀ (l : List Simple) (i : Nat) (h : i < l.length), zS l[i] ≤ zA l
  | s :: r, 0, _ => by unfold zA; simp
  | s :: r, i + 1, h => by
    have := zS_mem r i (by simpa using h)
    unfold zA
    simp only [List.getElem_cons_succ]
    omega
def PartW [DecI] (f B : Nat) (w : World) : Prop := ∀ (s : Simple) (pv : Value) (w' : World), Below w.heap.size w w' → PSim f (fun b => b < B) w' s [pv] → qkS s → zS s ≤ 549755813888 → ∃ T u K rcv, pv = .iface T u ∧ (∀ W : World, (method 503 T u "rinse/selectors.written").run Tryz.prog W = .ok (K, rcv) W) ∧ (∀ (args : Array Value) (W : World), (callFunc K args).run Tryz.prog W = .ok (.enter K args) W) ∧
  Calls Tryz.prog K #[rcv] w' fun e w'' => e = .returned (.string (simO s)) ∧ Below w'.heap.size w' w''
theorem Written_c [DecI] (f B : Nat) (cx : List Step) (v : Value) (w : World) (h : SG (PStp (PSim f)) 2 (fun b => b < B) w v cx) (hB : B ≤ w.heap.size) (hP : PartW f B w) (hq : qkC cx) (hz : zC cx ≤ 549755813888) (hd : DecSz) :
    Calls Tryz.prog 191 #[v] w fun e w' => e = .returned (.string (cpxO cx)) ∧ Below w.heap.size w w' := by
  have hl := h.len
  have HS : Hid (SG (PStp (PSim f)) 2 (fun b => b < B) w v cx) := h
  have HP : Hid (PartW f B w) := hP
  have HQ : Hid (qkC cx) := hq
  have HZ : Hid ((cpxO cx).size ≤ 549755813888) := Nat.le_trans (cpxC_size hd cx hq) hz
  have hF : Hid (Fair (PStp (PSim f))) := PStp.fair (PSim.fair f)
  have hF2 : Hid (Fair (PSim f)) := PSim.fair f
  obtain ⟨a, cap, rfl⟩ := h.form
  clear h hP hq
  obtain ⟨iS, hiS⟩ := info_str
  have HI : Hid (Tryz.prog.info? 9 = some iS ∧ iS.zero = some (.string ⟨#[]⟩) ∧ iS.size = 1 ∧ iS.bytes = 16) := hiS
  clear hiS
  go_enter Tryz.func191, Tryz.ntmps191
  go_wp2_with fail
  go_loopg [3, 10] cx.length (fun gg v3 v10 wr => ∃ (u : Value) (ps : List ByteArray) (i : Nat), u = v3 ∧ v10 = .int .i64 (i : Int) ∧ i + gg = cx.length ∧ ps.length + zC (cx.drop i) ≤ zC cx ∧ Aside (CwI w cx u ps (cpxO (cx.drop i)) wr))
  case atStart => exact ⟨_, [], 0, rfl, rfl, by omega, by simp, World.ownsRow_nil _ _ _ _, Below.refl _ _, by rw [show joinB [] = nob from rfl, nob_app]; rfl⟩
  case round =>
    obtain ⟨go, hgo⟩ : ∃ go, go = gk := ⟨_, rfl⟩
    obtain ⟨u, ps, i, rfl, rfl, hi, hpl, hA⟩ := hrel
    have HC : Hid (CwI w cx u ps (cpxO (cx.drop i)) wr) := hA.out
    clear hA
    have hsr := HC.out.below.size
    by_cases hlt : i < cx.length
    · have h1 : (i : Int) < (cx.length : Int) := by omega
      obtain ⟨g, o, rfl, hL, hcap⟩ := HS.out.here (by rintro rfl; simp at hlt)
      obtain ⟨av, d0, d1, hav, hgB⟩ := hL.stp (i := i) hlt
      have hgB' : g < B := hgB
      rw [← HC.out.below.cell (p := ⟨g, _, none⟩) (show g < w.heap.size by omega)] at d0 d1
      have HQA : Hid (qkA cx[i].2) := qkC_at cx i HQ.out hlt
      have hzd := zC_drop hlt
      have hza := zA_len cx[i].2
      have HD : Hid (cpxO (cx.drop i) = combO cx[i].1 ++ (allO cx[i].2 ++ cpxO (cx.drop (i + 1)))) := cpxO_drop hlt
      obtain ⟨⟨cb, all⟩, hst⟩ : ∃ st, st = cx[i] := ⟨_, rfl⟩
      rw [← hst] at d0 hav HD hzd hza HQA
      have HQA' : Hid (qkA all) := HQA.out
      clear HQA
      have hzd' : zC (cx.drop i) = 3 + zA all + zC (cx.drop (i + 1)) := hzd
      have hza' : 120 * all.length ≤ zA all := hza
      clear hzd hza
      obtain ⟨n0, hn0⟩ : ∃ n0, n0 = ps.length := ⟨_, rfl⟩
      have Hn0 : Hid (n0 = ps.length) := hn0
      have hn0z : n0 + zC (cx.drop i) ≤ zC cx := by omega
      clear hn0
      have HAV : Hid (SG (PSim f) 1 (fun b => b < B) w av all) := hav
      have hal := hav.len
      obtain ⟨la, lc, rfl⟩ := hav.form
      clear hst hav hL
      have T2 : Hid (S2 (wr.alloc (.cells #[.int .i64 (cmb cb), .slice la all.length lc] 219)) wr.heap.size (.int .i64 (cmb cb)) (.slice la all.length lc)) := S2.new _ _ _
      have X2 : Hid (Below wr.heap.size wr (wr.alloc (.cells #[.int .i64 (cmb cb), .slice la all.length lc] 219))) := (Below.refl _ _).alloc (Nat.le_refl _) _
      go_upto_region 5 with fail
      generalize wr.alloc (.cells #[.int .i64 (cmb cb), .slice la all.length lc] 219) = w2 at *
      obtain ⟨gt, Hgt⟩ : ∃ gt, Hid (wr.heap.size = gt) := ⟨_, hid rfl⟩
      have T3 : Hid (S2 w2 gt (.int .i64 (cmb cb)) (.slice la all.length lc)) := by rw [← Hgt.out]; exact T2.out
      rw [Hgt.out]
      clear T2 d0 d1
      obtain ⟨a0, a1⟩ := T3.out.cs
      have B2 : Hid (Below w.heap.size w w2) := HC.out.below.trans (X2.out.mono hsr)
      have O2 : Hid (w2.ownsRow w.heap.size 9 1 u ps.length (ps.map Value.string)) := own_keep HC.out.row fun r hr => X2.out.block r (HC.out.row.lt r hr).2
      have hs2 := X2.out.size
      go_wp2_with fail
      refine (combW_c cb _).mono ?_
      rintro e wq ⟨rfl, hwq⟩
      rw [hwq]
      clear hwq
      go_wp2_with (at_builtin; go_must (refine wpList_append_own _ rfl _ _ 26 rfl w.heap.size 9 iS (.string ⟨#[]⟩) 1 16 Tryz.underlying26 HI.out.1 HI.out.2.1 HI.out.2.2.1 HI.out.2.2.2 rfl (by omega) u ps.length (ps.map Value.string) rfl (O2.out.alloc _) ⟨w2.heap.size, 0, none⟩ 1 1 [.string (combO cb)] rfl rfl (cell_one_new _ _ _) (str_oneCell _) (by unfold maxLen; omega) (by omega) (by simp; omega) ?_))
      intro v4 w4 hown4 hgr4 _
      have hne : u.ownBlock ≠ some gt := fun e => by have := (HC.out.row.lt gt e).2; have := Hgt.out; omega
      have hlo : ∀ rr, u.ownBlock = some rr → w.heap.size ≤ rr := fun rr hr => (O2.out.lt rr hr).1
      have hb4 : Below w.heap.size w2 w4 := ((Below.refl _ _).alloc (by omega) _).grown hgr4 (by simp; omega) hlo
      have T4 : Hid (S2 w4 gt (.int .i64 (cmb cb)) (.slice la all.length lc)) := T3.out.keep (by rw [hgr4.block gt (by simp; have := T3.out.lt; omega) (fun e => hne e.symm), Below.heap_alloc _ _ _ T3.out.lt])
      have HC4 : Hid (CwI w cx v4 (ps ++ [combO cb]) (allO all ++ cpxO (cx.drop (i + 1))) w4) := ⟨by first | (rw [List.length_append, List.map_append]; exact hown4) | simpa using hown4, B2.out.trans hb4, by rw [HC.out.eq, HD.out, joinB_snoc, ByteArray.append_assoc]⟩
      have hpl4 : (ps ++ [combO cb]).length ≤ n0 + 1 := by have := Hn0.out; simp; omega
      clear hown4 hgr4 hb4 hne hlo a0 a1
      obtain ⟨a0, a1⟩ := T4.out.cs
      go_wp2_with fail
      go_loopg [3, 23] all.length (fun gg v3 v23 wr => ∃ (u : Value) (ps : List ByteArray) (m : Nat), u = v3 ∧ v23 = .int .i64 (m : Int) ∧ m + gg = all.length ∧ ps.length ≤ n0 + 1 + m ∧ Aside (CwI w cx u ps (allO (all.drop m) ++ cpxO (cx.drop (i + 1))) wr))
      case atStart => exact ⟨_, ps ++ [combO cb], 0, rfl, rfl, by omega, by omega, HC4.out⟩
      case round =>
        obtain ⟨gi, hgi⟩ : ∃ gi, gi = gk := ⟨_, rfl⟩
        obtain ⟨u, ps, m, rfl, rfl, hm, hpl, hA⟩ := hrel
        have HC5 : Hid (CwI w cx u ps (allO (all.drop m) ++ cpxO (cx.drop (i + 1))) wr) := hA.out
        clear hA
        by_cases hlm : m < all.length
        · have h2 : (m : Int) < (all.length : Int) := by omega
          have hsr5 := HC5.out.below.size
          have hav5 := HAV.out.below hF2.out HC5.out.below hB
          obtain ⟨g5, o5, rfl, hL5, hcap5⟩ := hav5.here (by rintro rfl; simp at hlm)
          obtain ⟨pv, c5, hps, _⟩ := hL5.prt (i := m) hlm
          have HAD : Hid (allO (all.drop m) = simO all[m] ++ allO (all.drop (m + 1))) := allO_drop hlm
          have hqs := qkA_at all m HQA'.out hlm
          have hzs := zS_mem all m hlm
          obtain ⟨s, hs⟩ : ∃ s, s = all[m] := ⟨_, rfl⟩
          rw [← hs] at hps HAD hqs hzs
          clear hs hL5 hav5
          obtain ⟨T, pu, K, rcv, rfl, hmeth, hcall, hC⟩ := HP.out s pv wr HC5.out.below hps hqs (by omega)
          have HCK : Hid (Calls Tryz.prog K #[rcv] wr fun e w'' => e = .returned (.string (simO s)) ∧ Below wr.heap.size wr w'') := hC
          clear hps hqs hzs hC
          go_wp2_with fail
          refine HCK.out.mono ?_
          rintro e w6 ⟨rfl, hb6⟩
          have B6 : Hid (Below w.heap.size w w6) := HC5.out.below.trans (hb6.mono hsr5)
          have O6 : Hid (w6.ownsRow w.heap.size 9 1 u ps.length (ps.map Value.string)) := own_keep HC5.out.row fun r hr => hb6.block r (HC5.out.row.lt r hr).2
          have hs6 := B6.out.size
          clear hb6 HCK hmeth hcall c5
          go_wp2_with (at_builtin; go_must (refine wpList_append_own _ rfl _ _ 26 rfl w.heap.size 9 iS (.string ⟨#[]⟩) 1 16 Tryz.underlying26 HI.out.1 HI.out.2.1 HI.out.2.2.1 HI.out.2.2.2 rfl (by omega) u ps.length (ps.map Value.string) rfl (O6.out.alloc _) ⟨w6.heap.size, 0, none⟩ 1 1 [.string (simO s)] rfl rfl (cell_one_new _ _ _) (str_oneCell _) (by unfold maxLen; omega) (by omega) (by simp; omega) ?_))
          intro v7 w7 hown7 hgr7 _
          have hlo7 : ∀ rr, u.ownBlock = some rr → w.heap.size ≤ rr := fun rr hr => (O6.out.lt rr hr).1
          have HC7 : Hid (CwI w cx v7 (ps ++ [simO s]) (allO (all.drop (m + 1)) ++ cpxO (cx.drop (i + 1))) w7) := ⟨by first | (rw [List.length_append, List.map_append]; exact hown7) | simpa using hown7, (B6.out.alloc hs6 _).grown hgr7 (by simp; omega) hlo7, by rw [HC5.out.eq, HAD.out, joinB_snoc, ByteArray.append_assoc, ByteArray.append_assoc]⟩
          have hpl7 : (ps ++ [simO s]).length ≤ n0 + 1 + (m + 1) := by simp; omega
          clear hown7 hgr7 hlo7
          go_wp2_with fail
          go_roundg (gi - 1)
          case measure => omega
          case rel => exact ⟨_, ps ++ [simO s], m + 1, rfl, by congr 1, by omega, hpl7, HC7.out⟩
        · have h2 : (all.length : Int) ≤ (m : Int) := by omega
          have HC6 : Hid (CwI w cx u ps (cpxO (cx.drop (i + 1))) wr) := ⟨HC5.out.row, HC5.out.below, by rw [HC5.out.eq, List.drop_of_length_le (by omega)]; show _ ++ (nob ++ _) = _; rw [nob_app]⟩
          go_wp2_with fail
          go_roundg (go - 1)
          case measure => omega
          case rel => exact ⟨_, ps, i + 1, rfl, by congr 1, by omega, by omega, HC6.out⟩
    · have h1 : (cx.length : Int) ≤ (i : Int) := by omega
      have HV : Hid (joinB ps = cpxO cx) := by
        show _ = _
        rw [HC.out.eq, List.drop_of_length_le (by omega)]
        exact (app_nob _).symm
      have hpt : total ps ≤ 549755813888 := by rw [← size_joinB, HV.out]; exact HZ.out
      go_wp2_with fail
      refine (Join_c ps w.heap.size u _ HC.out.row (by omega) (by omega)).mono ?_
      rintro e w5 ⟨rfl, hb5⟩
      have B5 : Hid (Below w.heap.size w w5) := HC.out.below.trans (hb5.mono hsr)
      clear hb5
      go_wp2_with fail
      go_ret
      exact ⟨retS HV.out, B5.out⟩
theorem m_star (W : World) : (method 503 311 (.agg #[]) "rinse/selectors.written").run Tryz.prog W = .ok (333, .agg #[]) W := by kernel_rfl
theorem m_tag (nm : ByteArray) (W : World) : (method 503 309 (.agg #[.string nm]) "rinse/selectors.written").run Tryz.prog W = .ok (327, .agg #[.string nm]) W := by kernel_rfl
theorem m_id (nm : ByteArray) (W : World) : (method 503 332 (.agg #[.string nm]) "rinse/selectors.written").run Tryz.prog W = .ok (336, .agg #[.string nm]) W := by kernel_rfl
theorem m_class (nm : ByteArray) (W : World) : (method 503 333 (.agg #[.string nm]) "rinse/selectors.written").run Tryz.prog W = .ok (340, .agg #[.string nm]) W := by kernel_rfl
theorem m_state (nm : ByteArray) (W : World) : (method 503 343 (.agg #[.string nm]) "rinse/selectors.written").run Tryz.prog W = .ok (358, .agg #[.string nm]) W := by kernel_rfl
theorem m_attr (nm h v : ByteArray) (W : World) : (method 503 341 (.agg #[.string nm, .string h, .string v]) "rinse/selectors.written").run Tryz.prog W = .ok (344, .agg #[.string nm, .string h, .string v]) W := by kernel_rfl
theorem m_place (nm : ByteArray) (n : Int) (W : World) : (method 503 351 (.agg #[.string nm, .int .i64 n]) "rinse/selectors.written").run Tryz.prog W = .ok (374, .agg #[.string nm, .int .i64 n]) W := by kernel_rfl
theorem m_not (la : Option Addr) (ll lc : Nat) (W : World) : (method 503 345 (.agg #[.slice la ll lc]) "rinse/selectors.written").run Tryz.prog W = .ok (367, .agg #[.slice la ll lc]) W := by kernel_rfl
theorem m_is (la : Option Addr) (ll lc : Nat) (W : World) : (method 503 346 (.agg #[.slice la ll lc]) "rinse/selectors.written").run Tryz.prog W = .ok (371, .agg #[.slice la ll lc]) W := by kernel_rfl
def Road (pv : Value) (o : ByteArray) (w : World) : Prop := ∃ T u K rcv, pv = .iface T u ∧ (∀ W : World, (method 503 T u "rinse/selectors.written").run Tryz.prog W = .ok (K, rcv) W) ∧ (∀ (args : Array Value) (W : World), (callFunc K args).run Tryz.prog W = .ok (.enter K args) W) ∧
  Calls Tryz.prog K #[rcv] w fun e w'' => e = .returned (.string o) ∧ Below w.heap.size w w''
theorem road [DecI] (k : Nat) (nm how v : ByteArray) (l : Sels) (p : Nat) (la : Option Addr) (ll lc : Nat) (w : World) (hq : PrN k nm how v p) (hI : ItoaOK w) (hd : DecSz) (hz : (listO nob l).size ≤ 549755813888)
    (hL : ∀ w', Below w.heap.size w w' → Calls Tryz.prog 324 #[.slice la ll lc] w' fun e w'' => e = .returned (.string (listO nob l)) ∧ Below w'.heap.size w' w'') :
    Road (partV k nm how v (.slice la ll lc) p) (simO (.mk k nm how v l p)) w := by
  have hn := hq.nmz
  unfold partV
  conv => arg 2; unfold simO
  by_cases k1 : k = 116
  · rw [if_pos k1, if_pos k1]
    by_cases e : nm = nob
    · rw [if_pos e, if_pos e]
      exact ⟨_, _, _, _, rfl, m_star, fun _ _ => rfl, starW_c w⟩
    · rw [if_neg e, if_neg e]
      exact ⟨_, _, _, _, rfl, m_tag nm, fun _ _ => rfl, tagW_c nm w hn⟩
  rw [if_neg k1, if_neg k1]
  by_cases k2 : k = 35
  · rw [if_pos k2, if_pos k2]
    exact ⟨_, _, _, _, rfl, m_id nm, fun _ _ => rfl, idW_c nm w hn⟩
  rw [if_neg k2, if_neg k2]
  by_cases k3 : k = 46
  · rw [if_pos k3, if_pos k3]
    exact ⟨_, _, _, _, rfl, m_class nm, fun _ _ => rfl, classW_c nm w hn⟩
  rw [if_neg k3, if_neg k3]
  by_cases k4 : k = 91
  · rw [if_pos k4, if_pos k4]
    exact ⟨_, _, _, _, rfl, m_attr nm how v, fun _ _ => rfl, attrW_c nm how v w hn hq.hwz hq.val⟩
  rw [if_neg k4, if_neg k4]
  by_cases k5 : nm = nNot
  · rw [if_pos k5, if_pos (.inl k5)]
    subst k5
    exact ⟨_, _, _, _, rfl, m_not la ll lc, fun _ _ => rfl, notW_c la ll lc _ w hz hL⟩
  rw [if_neg k5]
  by_cases k6 : nm = nIs
  · rw [if_pos k6, if_pos (.inr k6)]
    subst k6
    exact ⟨_, _, _, _, rfl, m_is la ll lc, fun _ _ => rfl, isW_c la ll lc _ w hz hL⟩
  rw [if_neg k6, if_neg (show ¬ (nm = nNot ∨ nm = nIs) from fun h => h.elim k5 k6)]
  by_cases k7 : nm = nNth
  · rw [if_pos k7, if_pos k7]
    subst k7
    by_cases p0 : p = 0
    · rw [if_pos p0, if_pos p0]
      exact ⟨_, _, _, _, rfl, m_place nOdd 0, fun _ _ => rfl, placeN_c nOdd w (by rw [bytes_toList]; rfl) (by decide)⟩
    rw [if_neg p0, if_neg p0]
    by_cases p1 : p = 1
    · rw [if_pos p1, if_pos p1]
      exact ⟨_, _, _, _, rfl, m_place nEven 0, fun _ _ => rfl, placeN_c nEven w (by rw [bytes_toList]; rfl) (by decide)⟩
    rw [if_neg p1, if_neg p1]
    have hp := hq.place
    exact ⟨_, _, _, _, rfl, m_place nob _, fun _ _ => rfl, placeD_c (p - 2) w (by omega) hI (hd _ (by omega))⟩
  rw [if_neg k7, if_neg k7]
  exact ⟨_, _, _, _, rfl, m_state nm, fun _ _ => rfl, stateW_c nm w hn⟩
theorem join_list [DecI] : ∀ (r : Sels) (c : List Step), joinO (b1 44) ((c :: r).map cpxO) = cpxO c ++ tailO nob r
  | [], c => by
    show cpxO c = cpxO c ++ tailO nob []
    unfold tailO
    exact (app_nob _).symm
  | d :: q, c => by
    have ih := join_list q d
    show cpxO c ++ (b1 44 ++ joinO (b1 44) ((d :: q).map cpxO)) = _
    rw [ih]
    conv => rhs; unfold tailO
    rw [nob_app]
theorem join_all [DecI] (ss : Sels) : joinO (b1 44) (ss.map cpxO) = listO nob ss := by
  cases ss with
  | nil => rfl
  | cons c r => rw [join_list]; unfold listO; rw [nob_app]
theorem tot_all [DecI] (hd : DecSz) : ∀ (ss : Sels), qkL ss → total (ss.map cpxO) + ss.length ≤ zL ss
  | [], _ => by simp [total]
  | c :: r, hq => by
    simp only [qkL] at hq
    have := tot_all hd r hq.2
    have := cpxC_size hd c hq.1
    unfold zL
    simp only [List.map_cons, total, List.length_cons]
    omega
theorem zC_mem : ∀ (ss : Sels) (i : Nat) (h : i < ss.length), zC ss[i] ≤ zL ss
  | c :: r, 0, _ => by unfold zL; simp; omega
  | c :: r, i + 1, h => by
    have := zC_mem r i (by simpa using h)
    unfold zL
    simp only [List.getElem_cons_succ]
    omega
theorem LG.cpx {f : Nat} {S : Nat → Prop} {w : World} {l : Sels} {g o i : Nat} (h : LG (PCx (PSim f)) 1 S w l g o) (hi : i < l.length) : ∃ cv, w.cell? ⟨g, o + i, none⟩ = some cv ∧ SG (PStp (PSim f)) 2 S w cv l[i] := by
  obtain ⟨h0, cs, ⟨cv, rfl, hs⟩, hc⟩ := h.at l g o i hi
  refine ⟨cv, ?_, hs⟩
  have := hc 0 _ rfl
  rw [Nat.mul_one, Nat.add_zero] at this
  exact this
theorem listW_c [DecI] (f B : Nat) (ss : Sels) (v : Value) (w : World) (h : SG (PCx (PSim f)) 1 (fun b => b < B) w v ss) (hB : B ≤ w.heap.size) (hP : ss ≠ [] → ∀ w', Below w.heap.size w w' → PartW f B w') (hq : qkL ss) (hz : zL ss ≤ 549755813888) (hd : DecSz) :
    Calls Tryz.prog 324 #[v] w fun e w' => e = .returned (.string (listO nob ss)) ∧ Below w.heap.size w w' := by
  have hl := h.len
  have HS : Hid (SG (PCx (PSim f)) 1 (fun b => b < B) w v ss) := h
  have HP : Hid (ss ≠ [] → ∀ w', Below w.heap.size w w' → PartW f B w') := hP
  have HQ : Hid (qkL ss) := hq
  have hF : Hid (Fair (PStp (PSim f))) := PStp.fair (PSim.fair f)
  have HV0 : Hid (joinO (b1 44) (ss.map cpxO) = listO nob ss) := join_all ss
  have htot := tot_all hd ss hq
  obtain ⟨a, cap, rfl⟩ := h.form
  clear h hP hq
  obtain ⟨iS, hiS⟩ := info_str
  have HI : Hid (Tryz.prog.info? 9 = some iS ∧ iS.zero = some (.string ⟨#[]⟩) ∧ iS.size = 1 ∧ iS.bytes = 16) := hiS
  clear hiS
  go_enter Tryz.func324, Tryz.ntmps324
  go_wp2_with fail
  go_loopg [3, 8] ss.length (fun gg v3 v8 wr => ∃ (u : Value) (i : Nat), u = v3 ∧ v8 = .int .i64 (i : Int) ∧ i + gg = ss.length ∧ Aside (wr.ownsRow w.heap.size 9 1 u i (((ss.take i).map cpxO).map Value.string) ∧ Below w.heap.size w wr))
  case atStart => exact ⟨_, 0, rfl, rfl, by omega, World.ownsRow_nil _ _ _ _, Below.refl _ _⟩
  case round =>
    obtain ⟨u, i, rfl, rfl, hi, hA⟩ := hrel
    have O1 : Hid (wr.ownsRow w.heap.size 9 1 u i (((ss.take i).map cpxO).map Value.string)) := hA.out.1
    have B1 : Hid (Below w.heap.size w wr) := hA.out.2
    clear hA
    have hsr := B1.out.size
    by_cases hlt : i < ss.length
    · have h1 : (i : Int) < (ss.length : Int) := by omega
      obtain ⟨g, o, rfl, hL, hcap⟩ := HS.out.here (by rintro rfl; simp at hlt)
      have hgB : g < B := (hL.at ss g o i hlt).1
      obtain ⟨cv, d0, hcv⟩ := hL.cpx (i := i) hlt
      rw [← B1.out.cell (p := ⟨g, _, none⟩) (show g < w.heap.size by omega)] at d0
      have HT : Hid (ss.take (i + 1) = ss.take i ++ [ss[i]]) := List.take_succ_eq_append_getElem hlt
      have hqc := qkL_at ss i HQ.out hlt
      have hzc := zC_mem ss i hlt
      obtain ⟨cx, hcx⟩ : ∃ c, c = ss[i] := ⟨_, rfl⟩
      rw [← hcx] at hcv HT hqc hzc
      obtain ⟨ca, cc, rfl⟩ := hcv.form
      have HW : Hid (Calls Tryz.prog 191 #[.slice ca cx.length cc] wr fun e w' => e = .returned (.string (cpxO cx)) ∧ Below wr.heap.size wr w') :=
        Written_c f B cx _ wr (hcv.below hF.out B1.out hB) (by omega) (HP.out (by rintro rfl; simp at hlt) wr B1.out) hqc (by omega) hd
      clear hL hcx hcv hqc hzc
      go_wp2_with fail
      refine HW.out.mono ?_
      obtain ⟨x, Hx⟩ : ∃ x, Hid (cpxO cx = x) := ⟨_, hid rfl⟩
      rw [Hx.out]
      rintro e w2 ⟨rfl, hb2⟩
      have B2 : Hid (Below w.heap.size w w2) := B1.out.trans (hb2.mono hsr)
      have O2 : Hid (w2.ownsRow w.heap.size 9 1 u i (((ss.take i).map cpxO).map Value.string)) := own_keep O1.out fun r hr => hb2.block r (O1.out.lt r hr).2
      have hs2 := B2.out.size
      clear hb2 HW d0
      go_wp2_with (at_builtin; go_must (refine wpList_append_own _ rfl _ _ 26 rfl w.heap.size 9 iS (.string ⟨#[]⟩) 1 16 Tryz.underlying26 HI.out.1 HI.out.2.1 HI.out.2.2.1 HI.out.2.2.2 rfl (by omega) u i (((ss.take i).map cpxO).map Value.string) rfl (O2.out.alloc _) ⟨w2.heap.size, 0, none⟩ 1 1 [.string x] rfl rfl (cell_one_new _ _ _) (str_oneCell _) (by unfold maxLen; omega) (by omega) (by simp; omega) ?_))
      intro v4 w4 hown4 hgr4 _
      rw [show List.take i (List.map (Value.string ∘ cpxO) ss) = List.map Value.string (List.map cpxO (List.take i ss)) by simp] at hown4
      have O4 : Hid (w4.ownsRow w.heap.size 9 1 v4 (i + 1) (((ss.take (i + 1)).map cpxO).map Value.string)) := by show World.ownsRow _ _ _ _ _ _ _; rw [HT.out, List.map_append, List.map_append, List.map_cons, List.map_nil, Hx.out]; exact hown4
      have B4 : Hid (Below w.heap.size w w4) := (B2.out.alloc hs2 _).grown hgr4 (by simp; omega) (fun rr hr => (O2.out.lt rr hr).1)
      clear hown4 hgr4
      go_wp2_with fail
      go_roundg (gk - 1)
      case measure => omega
      case rel => exact ⟨v4, i + 1, rfl, by congr 1, by omega, O4.out, B4.out⟩
    · have h1 : (ss.length : Int) ≤ (i : Int) := by omega
      have hie : i = ss.length := by omega
      subst hie
      have O5 : Hid (wr.ownsRow w.heap.size 9 1 u (ss.map cpxO).length ((ss.map cpxO).map Value.string)) := by
        have := O1.out
        rw [List.take_of_length_le (Nat.le_refl _)] at this
        show World.ownsRow _ _ _ _ _ _ _
        rw [List.length_map]; exact this
      go_wp2_with fail
      refine (JoinBy_c (b1 44) (ss.map cpxO) w.heap.size u _ O5.out (by rw [List.length_map]; omega) (by unfold jtot; rw [List.length_map]; show _ + ss.length * 1 ≤ _; omega)).mono ?_
      rw [HV0.out]
      rintro e w5 ⟨rfl, hb5⟩
      have B5 : Hid (Below w.heap.size w w5) := B1.out.trans (hb5.mono hsr)
      clear hb5
      go_wp2_with fail
      go_ret
      exact ⟨rfl, B5.out⟩
theorem partW_all [DecI] (hd : DecSz) : ∀ (f B : Nat) (w : World), ItoaOK w → B ≤ w.heap.size → PartW f B w
  | 0, B, w, hI, hB => by
    intro s pv w' hb hps hq hz
    obtain ⟨k, nm, how, v, l, p⟩ := s
    obtain ⟨rfl, a, c, e⟩ := hps
    obtain rfl : pv = partV k nm how v (.slice a 0 c) p := (List.cons.inj e).1
    simp only [qkS] at hq
    refine road k nm how v [] p a 0 c w' hq.1 (hI.below hb (Nat.le_refl _)) hd (by show 0 ≤ _; omega) ?_
    intro w2 hb2
    exact listW_c 0 B [] _ w2 (SG.none_any _ _ _ _ _ _) (by have := hb.size; have := hb2.size; omega) (fun h => absurd rfl h) (by simp [qkL]) (by show 0 ≤ _; omega) hd
  | f + 1, B, w, hI, hB => by
    intro s pv w' hb hps hq hz
    obtain ⟨k, nm, how, v, l, p⟩ := s
    obtain ⟨lv, e, hsg⟩ := hps
    obtain rfl : pv = partV k nm how v lv p := (List.cons.inj e).1
    obtain ⟨la, lc, rfl⟩ := hsg.form
    simp only [qkS] at hq
    have hs := hb.size
    have hzl : zL l ≤ 549755813888 := by unfold zS at hz; omega
    refine road k nm how v l p la l.length lc w' hq.1 (hI.below hb (Nat.le_refl _)) hd (Nat.le_trans (listO_size hd l hq.2) hzl) ?_
    intro w2 hb2
    have hs2 := hb2.size
    exact listW_c f B l _ w2 (hsg.below (One.fair (PStp.fair (PSim.fair f))) hb2 (by omega)) (by omega) (fun _ w3 hb3 => partW_all hd f B w3 (((hI.below hb (Nat.le_refl _)).below hb2 (Nat.le_refl _)).below hb3 (Nat.le_refl _)) (by have := hb3.size; omega)) hq.2 hzl hd
theorem cpxW_c [DecI] (f B : Nat) (cx : List Step) (v : Value) (w : World) (h : SG (PStp (PSim f)) 2 (fun b => b < B) w v cx) (hB : B ≤ w.heap.size) (hI : ItoaOK w) (hq : qkC cx) (hz : zC cx ≤ 549755813888) (hd : DecSz) :
    Calls Tryz.prog 191 #[v] w fun e w' => e = .returned (.string (cpxO cx)) ∧ Below w.heap.size w w' :=
  Written_c f B cx v w h hB (partW_all hd f B w hI hB) hq hz hd
end Go.Proofs.YtlliliddljkbfaaGreat
