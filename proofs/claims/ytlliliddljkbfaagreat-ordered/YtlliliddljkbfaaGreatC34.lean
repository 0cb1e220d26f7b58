import Derived.Test.YtlliliddljkbfaaGreatC33
namespace Go.Proofs.YtlliliddljkbfaaGreat
set_option maxHeartbeats 64000000
set_option maxRecDepth 100000
open Go.RowKit Sp
theorem LG.shq {S : Nat → Prop} {w : World} {l : List (List Rule)} {g o i : Nat} (h : LG (One CRule 4) 1 S w l g o) (hi : i < l.length) : ∃ cv, w.cell? ⟨g, o + i, none⟩ = some cv ∧ SG CRule 4 S w cv l[i] ∧ S g := by
  obtain ⟨h0, cs, ⟨cv, rfl, hs⟩, hc⟩ := h.at l g o i hi
  refine ⟨cv, ?_, hs, h0⟩
  have := hc 0 _ rfl
  rw [Nat.mul_one, Nat.add_zero] at this
  exact this
theorem LG.rlq {S : Nat → Prop} {w : World} {l : List Rule} {g o i : Nat} (h : LG CRule 4 S w l g o) (hi : i < l.length) : ∃ hv bv bl, (w.cell? ⟨g, o + i * 4, none⟩ = some (.string (l[i].at_.getD nob)) ∧ w.cell? ⟨g, o + i * 4 + 1, none⟩ = some hv ∧ w.cell? ⟨g, o + i * 4 + 2, none⟩ = some (.bool l[i].body.isSome) ∧ w.cell? ⟨g, o + i * 4 + 3, none⟩ = some bv) ∧ Sl S w hv l[i].head ∧ Sl S w bv bl ∧ (∀ b, l[i].body = some b → bl = b) ∧ S g := by
  obtain ⟨h0, cs, ⟨hv, bv, bl, rfl, h1, h2, h3, _⟩, hc⟩ := h.at l g o i hi
  refine ⟨hv, bv, bl, ⟨?_, hc 1 _ rfl, hc 2 _ rfl, hc 3 _ rfl⟩, h1, h2, h3, h0⟩
  have := hc 0 _ rfl; rwa [Nat.add_zero] at this
theorem K3.fz {w : World} {b : Nat} {x0 x1 x2 : Value} (h : K3 w b x0 x1 x2) (k : Nat) : w.frozen? ⟨b, k, none⟩ = false := by
  have h' : w.heap[b]? = _ := h
  unfold World.frozen?; rw [h']; simp
theorem of_start (w : World) (v : Value) :
    OfI w v (.slice none 0 0) [] ((((w.alloc (.cells #[v] 66)).alloc (.cells #[.slice none 0 0, .slice none 0 0, .map none] 77)).alloc (.map #[] 0)).alloc (.cells #[v, .slice none 0 0, .map (some (w.heap.size + 1 + 1))] 77)) ∧
    VarB ((((w.alloc (.cells #[v] 66)).alloc (.cells #[.slice none 0 0, .slice none 0 0, .map none] 77)).alloc (.map #[] 0)).alloc (.cells #[v, .slice none 0 0, .map (some (w.heap.size + 1 + 1))] 77)) w.heap.size v 66 := by
  refine ⟨⟨World.ownsRow_nil _ _ _ _, ?_, ?_, ?_, by simp, by simp, by simp, ?_, by simp⟩, ?_⟩
  · have := heap_alloc_new (((w.alloc (.cells #[v] 66)).alloc (.cells #[.slice none 0 0, .slice none 0 0, .map none] 77)).alloc (.map #[] 0)) (.cells #[v, .slice none 0 0, .map (some (w.heap.size + 1 + 1))] 77)
    show _ = _
    simpa using this
  · have := heap_alloc_new (w.alloc (.cells #[v] 66)) (.cells #[.slice none 0 0, .slice none 0 0, .map none] 77)
    show _ = _
    rw [Below.heap_alloc _ _ _ (by simp), Below.heap_alloc _ _ _ (by simp)]
    simpa using this
  · have := heap_alloc_new ((w.alloc (.cells #[v] 66)).alloc (.cells #[.slice none 0 0, .slice none 0 0, .map none] 77)) (.map #[] 0)
    refine ⟨#[], 0, ?_, by simp, by simp, by simp, by simp⟩
    rw [Below.heap_alloc _ _ _ (by simp)]
    simpa using this
  · exact ((((Below.refl _ _).alloc (Nat.le_refl _) _).alloc (by simp) _).alloc (by simp; omega) _).alloc (by simp; omega) _
  · exact (((VarB.new w v _).alloc _).alloc _).alloc _
theorem of_row {w : World} {base : Nat} {u : Value} {bs : List Nat} (h : w.ownsRow base 127 1 u bs.length (bs.map mpV)) (h0 : 1 ≤ bs.length) : ∃ rb wc, u = .slice (some ⟨rb, 0, none⟩) bs.length wc ∧ bs.length ≤ wc ∧ (∀ i (h : i < bs.length), w.cell? ⟨rb, 0 + i, none⟩ = some (.map (some bs[i]))) := by
  have hc := fun g => h.cells (g := g)
  rcases h.2 with ⟨rfl, hn⟩ | ⟨g, cap, cur, rfl, hbg, hg, hnc, hrest⟩
  · omega
  · refine ⟨g, cap, rfl, hnc, fun i hi => ?_⟩
    have := hc g rfl i (mpV bs[i]) (by rw [List.getElem?_map, List.getElem?_eq_getElem hi]; rfl)
    rw [Addr.add_lit] at this
    exact this
def shtF (p : Page) (i : Nat) (g : ByteArray → Option Win) (rs : List Rule) : ByteArray → Option Win := rs.foldl (fun g r => layF p r i g) g
def shsF (p : Page) (i : Nat) (g : ByteArray → Option Win) (ss : List (List Rule)) : ByteArray → Option Win := ss.foldl (shtF p i) g
def okR (r : Rule) : Prop := (∃ bd, r.body = some bd) ∧ ∀ ss, selF (depth r.head) r.head = some ss → okL ss
theorem casOf_c (p : Page) (a : Option Addr) (cap : Nat) (sv : Value) (sh : List (List Rule)) (w : World) (hp : PgM w.heap.size w p a cap) (hs : SG (One CRule 4) 1 (fun b => b < w.heap.size) w sv sh) (hk : ∀ s ∈ sh, ∀ r ∈ s, okR r) (hR : ∀ f, ReadOK f) :
    Calls Tryz.prog 36 #[.agg #[.slice a p.length cap], sv] w fun ex w' => (∃ wa wc kb bs, ex = .returned (.agg #[.slice a p.length cap, .slice wa bs.length wc, .map (some kb)]) ∧ CasM w.heap.size w' p a cap wa wc bs ∧ AllW w.heap.size w' bs (fun i => shsF p i (fun _ => none) sh) ∧ MapF 133 w' kb (fun _ => none) ∧ w.heap.size ≤ kb ∧ kb ∉ bs) ∧ Below w.heap.size w w' := by
  have hmm := @run_makeMap Tryz.prog
  have hlen := hp.len
  have hl := hs.len
  have HS : Hid (SG (One CRule 4) 1 (fun b => b < w.heap.size) w sv sh) := hs
  have HP : Hid (PgM w.heap.size w p a cap) := hp
  have HK : Hid (∀ s ∈ sh, ∀ r ∈ s, okR r) := hk
  have HRD : Hid (∀ f, ReadOK f) := hR
  obtain ⟨sa, sc, rfl⟩ := hs.form
  clear hs hp hk hR
  have I0 : Hid (OfI w (.slice a p.length cap) (.slice none 0 0) [] ((((w.alloc (.cells #[.slice a p.length cap] 66)).alloc (.cells #[.slice none 0 0, .slice none 0 0, .map none] 77)).alloc (.map #[] 0)).alloc (.cells #[.slice a p.length cap, .slice none 0 0, .map (some (w.heap.size + 1 + 1))] 77)) ∧ VarB ((((w.alloc (.cells #[.slice a p.length cap] 66)).alloc (.cells #[.slice none 0 0, .slice none 0 0, .map none] 77)).alloc (.map #[] 0)).alloc (.cells #[.slice a p.length cap, .slice none 0 0, .map (some (w.heap.size + 1 + 1))] 77)) w.heap.size (.slice a p.length cap) 66) := of_start w _
  obtain ⟨iT, hiT⟩ := info_mp
  have HI : Hid (Tryz.prog.info? 127 = some iT ∧ iT.zero = some (.map none) ∧ iT.size = 1 ∧ iT.bytes = 8) := hiT
  clear hiT
  go_enter Tryz.func36, Tryz.ntmps36
  go_upto_region 2 with fail
  generalize ((((w.alloc (.cells #[.slice a p.length cap] 66)).alloc (.cells #[.slice none 0 0, .slice none 0 0, .map none] 77)).alloc (.map #[] 0)).alloc (.cells #[.slice a p.length cap, .slice none 0 0, .map (some (w.heap.size + 1 + 1))] 77)) = w0 at *
  have c0 := I0.out.2.c
  have J0 : Hid (OfI w (.slice a p.length cap) (.slice none 0 0) [] w0) := I0.out.1
  go_wp2_with fail
  refine (Size_c p.length a cap w0).mono ?_
  rintro ex w1 ⟨rfl, hb1⟩
  have J1 : Hid (OfI w (.slice a p.length cap) (.slice none 0 0) [] w1) := J0.out.next hb1
  clear hb1 c0 I0 J0
  have h30 : (p.length : Int) ≤ 30 := by omega
  go_wp2_with fail
  go_loopg [15] p.length (fun gg v15 wr => ∃ (u : Value) (bs : List Nat), v15 = .int .i64 (bs.length : Int) ∧ bs.length + gg = p.length ∧ Aside (OfI w (.slice a p.length cap) u bs wr))
  case atStart => exact ⟨_, [], rfl, by simp, J1.out⟩
  case round =>
    obtain ⟨go, hgo⟩ : ∃ go, go = gk := ⟨_, rfl⟩
    obtain ⟨u, bs, rfl, hbl, hA⟩ := hrel
    have HO : Hid (OfI w (.slice a p.length cap) u bs wr) := hA.out
    clear hA
    obtain ⟨k0, k1, k2⟩ := HO.out.cas.cs
    have hsz := HO.out.size
    by_cases hlt : bs.length < p.length
    · have h1 : (bs.length : Int) < (p.length : Int) := by omega
      have z1 : wr.frozen? ⟨w.heap.size + 1 + 1 + 1, 1, none⟩ = false := K3.fz HO.out.cas 1
      have HRW : Hid (((wr.alloc (.map #[] 0)).alloc (.cells #[.map (some wr.heap.size)] 127)).ownsRow (w.heap.size + 4) 127 1 u bs.length (bs.map mpV)) := (HO.out.row.alloc _).alloc _
      go_wp2_with (at_builtin; go_must (refine wpList_append_own _ rfl _ _ 74 rfl (w.heap.size + 4) 127 iT (.map none) 1 8 Tryz.underlying74 HI.out.1 HI.out.2.1 HI.out.2.2.1 HI.out.2.2.2 rfl (by omega) u bs.length (bs.map mpV) rfl HRW.out ⟨(wr.alloc (.map #[] 0)).heap.size, 0, none⟩ 1 1 [.map (some wr.heap.size)] (by simp [Act.eval]) rfl (cell_one_new _ _ _) (by simp [Value.oneCell']) (by unfold maxLen; omega) (by omega) (by simp; omega) ?_))
      intro v4 w4 hown4 hgr4 _
      obtain ⟨va4, vc4, rfl⟩ := own_form hown4
      obtain ⟨ua4, uc4, hu4⟩ := own_form HO.out.row
      have J4 : Hid (OfI w (.slice a p.length cap) (.slice va4 (bs.length + 1) vc4) (bs ++ [wr.heap.size]) (w4.setCell ⟨w.heap.size + 1 + 1 + 1, 1, none⟩ (.slice va4 (bs.length + 1) vc4))) := HO.out.more rfl hown4 hgr4
      have hc3 : some (w.heap.size + 1 + 1 + 1) ≠ u.ownBlock := fun e => by have := (HO.out.row.lt _ e.symm).1; omega
      have K4 : Hid (K3 w4 (w.heap.size + 1 + 1 + 1) (.slice a p.length cap) u (.map (some (w.heap.size + 1 + 1)))) := by
        show _ = _
        rw [hgr4.block _ (by simp; omega) hc3, Below.heap_alloc _ _ _ (by simp; omega), Below.heap_alloc _ _ _ (by omega)]
        exact HO.out.cas
      clear k0 k1 k2 z1 hown4 hgr4 hc3
      subst hu4
      obtain ⟨k0, k1, k2⟩ := K4.out.cs
      have z1 := K3.fz K4.out 1
      go_wp2_with fail
      go_roundg (go - 1)
      case measure => omega
      case rel => exact ⟨_, bs ++ [wr.heap.size], by simp, by simp; omega, J4.out⟩
    · have h1 : (p.length : Int) ≤ (bs.length : Int) := by omega
      have hble : bs.length = p.length := by omega
      obtain ⟨rb, wc, hu⟩ : ∃ rb wc, u = .slice (some ⟨rb, 0, none⟩) bs.length wc ∧ bs.length ≤ wc ∧ (∀ i (h : i < bs.length), wr.cell? ⟨rb, 0 + i, none⟩ = some (.map (some bs[i]))) := of_row HO.out.row (by omega)
      obtain ⟨rfl, hwc, hcells⟩ := hu
      have HCM : Hid (CasM w.heap.size wr p a cap (some ⟨rb, 0, none⟩) wc bs) := ⟨(HP.out.below HO.out.below (Nat.le_refl _)), ⟨rb, 0, rfl, hcells⟩, hble, hwc, HO.out.nd, fun b hb => by have := HO.out.lo b hb; omega⟩
      have HG0 : Hid (AllW w.heap.size wr bs (fun _ _ => none)) := fun i hi => WinM.none (HO.out.maps _ (List.getElem_mem hi))
      have HS1 : Hid (SG (One CRule 4) 1 (fun b => b < w.heap.size) wr (.slice sa sh.length sc) sh) := HS.out.below (One.fair CRule.fair) HO.out.below (Nat.le_refl _)
      have hl6 : (sh.length : Int) ≤ 2097152 := by omega
      have hrn : rb ∉ bs := fun hm => cell_not_map (HO.out.maps rb hm) (hcells 0 (by omega)) rfl
      have hrl : rb < wr.heap.size := cell_lt (hcells 0 (by omega))
      have HCT : Hid (∀ wx, TurnL bs wr wx → CasM w.heap.size wx p a cap (some ⟨rb, 0, none⟩) wc bs) := fun wx ht =>
        ⟨HP.out.below (HO.out.below.trans (ht.below HCM.out.lo HO.out.below.size)) (Nat.le_refl _), ⟨rb, 0, rfl, fun i hi => by rw [World.cell?_of_block (w := wr) (a := ⟨rb, _, none⟩) (ht.block rb hrl hrn)]; exact hcells i hi⟩, HCM.out.len, HCM.out.cap, HCM.out.nd, HCM.out.lo⟩
      have HRB : Hid (w.heap.size + 4 ≤ rb ∧ ∀ b ∈ bs, w.heap.size + 4 ≤ b) := ⟨(HO.out.row.lt rb rfl).1, HO.out.lo⟩
      clear hcells hble hrn hrl
      have HN1 : Hid (w.heap.size + 1 + 1 + 1 ∉ bs ∧ w.heap.size + 1 + 1 ∉ bs ∧ w.heap.size + 1 ∉ bs) := ⟨fun h => by have := HO.out.lo _ h; omega, fun h => by have := HO.out.lo _ h; omega, fun h => by have := HO.out.lo _ h; omega⟩
      have HCK : Hid (∀ wx, TurnL bs wr wx → K3 wx (w.heap.size + 1 + 1 + 1) (.slice a p.length cap) (.slice (some ⟨rb, 0, none⟩) bs.length wc) (.map (some (w.heap.size + 1 + 1)))) := fun wx ht => (show _ = _ from (ht.block _ HO.out.cas.lt HN1.out.1).trans HO.out.cas)
      have HCR : Hid (∀ wx, TurnL bs wr wx → K3 wx (w.heap.size + 1) (.slice none 0 0) (.slice none 0 0) (.map none)) := fun wx ht => (show _ = _ from (ht.block _ HO.out.res.lt HN1.out.2.2).trans HO.out.res)
      have HCN : Hid (∀ wx, TurnL bs wr wx → MapF 133 wx (w.heap.size + 1 + 1) (fun _ => none)) := fun wx ht => HO.out.known.keep (ht.block _ HO.out.known.lt HN1.out.2.1)
      have HBL : Hid (∀ wx, TurnL bs wr wx → Below w.heap.size w wx) := fun wx ht => HO.out.below.trans (ht.below HCM.out.lo HO.out.below.size)
      obtain ⟨w1, hw1⟩ : ∃ q, q = wr := ⟨_, rfl⟩
      subst hw1
      clear k0 k1 k2 HO hsz
      go_wp2_with fail
      go_loopg [26] sh.length (fun gg v26 wr => ∃ (i : Nat), v26 = .int .i64 (i : Int) ∧ i + gg = sh.length ∧ Aside (AllW w.heap.size wr bs (fun e => shsF p e (fun _ => none) (sh.take i)) ∧ TurnL bs w1 wr))
      case atStart => exact ⟨0, rfl, by omega, HG0.out, TurnL.refl _ _⟩
      case round =>
        obtain ⟨go, hgo⟩ : ∃ go, go = gk := ⟨_, rfl⟩
        obtain ⟨wo, rfl⟩ : ∃ q, q = wr := ⟨_, rfl⟩
        obtain ⟨i, rfl, hi, hA⟩ := hrel
        have HR : Hid (AllW w.heap.size wo bs (fun e => shsF p e (fun _ => none) (sh.take i)) ∧ TurnL bs w1 wo) := hA.out
        clear hA
        have BR : Hid (Below w.heap.size w wo) := HBL.out wo HR.out.2
        have hsr := BR.out.size
        by_cases hlt : i < sh.length
        · have h2 : (i : Int) < (sh.length : Int) := by omega
          obtain ⟨g, o, e1, hL, hcap⟩ := (HS.out.below (One.fair CRule.fair) BR.out (Nat.le_refl _)).here (by rintro rfl; simp at hlt)
          obtain ⟨cv, d0, hcv, _⟩ := hL.shq (i := i) hlt
          have HKS := hid (HK.out sh[i] (List.getElem_mem hlt))
          have HFS : Hid (∀ e, shsF p e (fun _ => none) (sh.take (i + 1)) = shtF p e (shsF p e (fun _ => none) (sh.take i)) sh[i]) := fun e => foldl_take _ _ sh hlt
          generalize sh[i] = rs at *
          have HRS : Hid (SG CRule 4 (fun b => b < w.heap.size) wo cv rs) := hcv
          have hrl := hcv.len
          obtain ⟨ra, rc, rfl⟩ := hcv.form
          have hr6 : (rs.length : Int) ≤ 2097152 := by omega
          clear hcv hL
          subst e1
          go_wp2_with fail
          go_loopg [32] rs.length (fun gg v32 wx => ∃ (j : Nat), v32 = .int .i64 (j : Int) ∧ j + gg = rs.length ∧ Aside (AllW w.heap.size wx bs (fun e => shtF p e (shsF p e (fun _ => none) (sh.take i)) (rs.take j)) ∧ TurnL bs wo wx))
          case atStart => exact ⟨0, rfl, by omega, HR.out.1, TurnL.refl _ _⟩
          case round =>
            obtain ⟨gi, hgi⟩ : ∃ gi, gi = gk := ⟨_, rfl⟩
            obtain ⟨j, rfl, hj, hA⟩ := hrel
            have HJ : Hid (AllW w.heap.size wr bs (fun e => shtF p e (shsF p e (fun _ => none) (sh.take i)) (rs.take j)) ∧ TurnL bs wo wr) := hA.out
            clear hA
            have TJ : Hid (TurnL bs w1 wr) := HR.out.2.trans HJ.out.2
            have BJ : Hid (Below w.heap.size w wr) := HBL.out wr TJ.out
            have hsj := BJ.out.size
            by_cases hlj : j < rs.length
            · have h3 : (j : Int) < (rs.length : Int) := by omega
              have BOJ : Hid (Below w.heap.size wo wr) := HJ.out.2.below HCM.out.lo hsr
              obtain ⟨g6, o6, e6, hL6, hcap6⟩ := (HRS.out.below CRule.fair BOJ.out (Nat.le_refl _)).here (by rintro rfl; simp at hlj)
              obtain ⟨hv, bv, bl, ⟨d0', d1, d2, d3⟩, hhv, hbv, hbb, _⟩ := hL6.rlq (i := j) hlj
              have HKR := HKS.out rs[j] (List.getElem_mem hlj)
              have HFR : Hid (∀ e, shtF p e (shsF p e (fun _ => none) (sh.take i)) (rs.take (j + 1)) = layF p rs[j] e (shtF p e (shsF p e (fun _ => none) (sh.take i)) (rs.take j))) := fun e => foldl_take _ _ rs hlj
              generalize rs[j] = r at *
              obtain ⟨⟨bd, hbd⟩, hok⟩ := HKR
              obtain rfl := hbb bd hbd
              rw [hbd] at d2
              have d2' : wr.cell? ⟨g6, o6 + j * 4 + 2, none⟩ = some (.bool true) := d2
              obtain ⟨ha, hc, rfl⟩ := hhv.form
              obtain ⟨ba, bc, rfl⟩ := hbv.form
              have HHV := hid hhv
              have HBV := hid hbv
              have HBD := hid hbd
              have HOK := hid hok
              obtain ⟨at_, Hat⟩ : ∃ x, Hid (r.at_.getD nob = x) := ⟨_, hid rfl⟩
              rw [Hat.out] at d0'
              clear hL6 hhv hbv hbb hbd hok d2
              have A6 : Hid (Q4 130 (wr.alloc (.cells #[.string at_, .slice ha r.head.length hc, .bool true, .slice ba bl.length bc] 130)) wr.heap.size (.string at_) (.slice ha r.head.length hc) (.bool true) (.slice ba bl.length bc)) := Q4.new _ _ _ _ _ _
              have X6 : Hid (Below wr.heap.size wr (wr.alloc (.cells #[.string at_, .slice ha r.head.length hc, .bool true, .slice ba bl.length bc] 130))) := (Below.refl _ _).alloc (Nat.le_refl _) _
              subst e6
              go_upto_region 12 with fail
              generalize wr.alloc (.cells #[.string at_, .slice ha r.head.length hc, .bool true, .slice ba bl.length bc] 130) = w6 at *
              obtain ⟨db, Hdb⟩ : ∃ x, Hid (wr.heap.size = x) := ⟨_, hid rfl⟩
              rw [Hdb.out] at A6
              rw [Hdb.out]
              clear d0' d1 d2' d3
              obtain ⟨a0, a1, a2, a3⟩ := A6.out.cs
              have T6 : Hid (TurnL bs w1 w6) := TJ.out.trans (TurnL.of_below X6.out)
              have G6 := hid (HJ.out.1.below X6.out hsj)
              obtain ⟨k0, k1, k2⟩ := (HCK.out w6 T6.out).cs
              have HL := hid (lay_c w.heap.size p a cap (some ⟨rb, 0, none⟩) wc bs (w.heap.size + 1 + 1) r ha hc ba bc bl _ w6 (HCT.out w6 T6.out) G6.out (Sl.below HHV.out X6.out hsj) (Sl.below HBV.out X6.out hsj) HBD.out HOK.out (HRD.out _))
              rw [Hat.out] at HL
              go_wp2_with fail
              refine HL.out.mono ?_
              rintro ex w7 ⟨rfl, hall7, ht7⟩
              have T7 : Hid (TurnL bs wo w7) := HJ.out.2.trans ((TurnL.of_below X6.out).trans ht7)
              have HE : Hid (AllW w.heap.size w7 bs (fun e => shtF p e (shsF p e (fun _ => none) (sh.take i)) (rs.take (j + 1)))) := by
                intro e he
                show WinM _ _ _ (shtF p e (shsF p e (fun _ => none) (sh.take i)) (rs.take (j + 1)))
                rw [HFR.out e]; exact hall7 e he
              clear hall7 ht7 a0 a1 a2 a3 k0 k1 k2 HL
              go_wp2_with fail
              go_roundg (gi - 1)
              case measure => omega
              case rel => exact ⟨j + 1, by congr 1, by omega, HE.out, T7.out⟩
            · have h3 : (rs.length : Int) ≤ (j : Int) := by omega
              have HE : Hid (AllW w.heap.size wr bs (fun e => shsF p e (fun _ => none) (sh.take (i + 1)))) := by
                intro e he
                have h4 : WinM _ _ _ (shtF p e (shsF p e (fun _ => none) (sh.take i)) (rs.take j)) := HJ.out.1 e he
                rw [List.take_of_length_le (show rs.length ≤ j by omega), ← HFS.out e] at h4
                exact h4
              go_wp2_with fail
              go_roundg (go - 1)
              case measure => omega
              case rel => exact ⟨i + 1, by congr 1, by omega, HE.out, TJ.out⟩
        · have h2 : (sh.length : Int) ≤ (i : Int) := by omega
          have HE : Hid (AllW w.heap.size wo bs (fun e => shsF p e (fun _ => none) sh)) := by
            have h4 := HR.out.1
            rw [List.take_of_length_le (show sh.length ≤ i by omega)] at h4
            exact h4
          obtain ⟨k0, k1, k2⟩ := (HCK.out wo HR.out.2).cs
          have HRS := hid (HCR.out wo HR.out.2)
          obtain ⟨r0, r1, r2⟩ := HRS.out.cs
          have z0 := K3.fz HRS.out 0
          have z1 := K3.fz HRS.out 1
          have z2 := K3.fz HRS.out 2
          go_wp2_with fail
          have CW := hid (HCT.out wo HR.out.2)
          have MW := hid (HCN.out wo HR.out.2)
          clear k0 k1 k2 z0 z1 z2
          refine bodyPost_ret (v := .agg #[.slice a p.length cap, .slice (some ⟨rb, 0, none⟩) bs.length wc, .map (some (w.heap.size + 1 + 1))]) (by simp [results, Tryz.results36, go_sem, r0, r1, r2]) rfl ?_
          have oth : ∀ k, k ≠ w.heap.size + 1 → (((wo.setCell ⟨w.heap.size + 1, 0, none⟩ (.slice a p.length cap)).setCell ⟨w.heap.size + 1, 1, none⟩ (.slice (some ⟨rb, 0, none⟩) bs.length wc)).setCell ⟨w.heap.size + 1, 2, none⟩ (.map (some (w.heap.size + 1 + 1)))).heap[k]? = wo.heap[k]? := fun k hk => by
            rw [Below.heap_setCell _ _ _ _ hk, Below.heap_setCell _ _ _ _ hk, Below.heap_setCell _ _ _ _ hk]
          have hbw : Below w.heap.size wo (((wo.setCell ⟨w.heap.size + 1, 0, none⟩ (.slice a p.length cap)).setCell ⟨w.heap.size + 1, 1, none⟩ (.slice (some ⟨rb, 0, none⟩) bs.length wc)).setCell ⟨w.heap.size + 1, 2, none⟩ (.map (some (w.heap.size + 1 + 1)))) := set3_b (Below.refl _ _) (by omega) _ _ _
          refine ⟨⟨_, _, _, bs, rfl, ?_, ?_, MW.out.keep (oth _ (by omega)), by omega, HN1.out.2.1⟩, BR.out.trans hbw⟩
          · obtain ⟨rb', o', e', hcl⟩ := CW.out.win
            cases e'
            exact ⟨CW.out.pg.below hbw (Nat.le_refl _), ⟨_, _, rfl, fun i hi => by rw [World.cell?_of_block (w := wo) (a := ⟨rb, _, none⟩) (oth rb (by have := HRB.out.1; omega))]; exact hcl i hi⟩, CW.out.len, CW.out.cap, CW.out.nd, CW.out.lo⟩
          · intro e he
            exact (HE.out e he).keep hbw (oth _ (by have := HRB.out.2 _ (List.getElem_mem he); omega))
section
attribute [local go_sem] fld_tok fld_ins fld_kind fld_word
def plN (n : Nd) : Prop := n.kids = [] ∧ ¬ n.t.kind = 3 ∧ ¬ n.t.kind = 13 ∧ ¬ n.t.kind = 11
def plV (l : List Nd) : Prop := ∀ n ∈ l, plN n
theorem isBad_c (t : Tok) (ka : Option Addr) (kl kc : Nat) (w : World) (h3 : ¬ t.kind = 3) (h13 : ¬ t.kind = 13) :
    Calls Tryz.prog 98 #[nodV t (.slice ka kl kc)] w fun e w' => e = .returned (.bool false) ∧ Below w.heap.size w w' := by
  unfold nodV
  have A2 : Hid (VB (w.alloc (.cells #[.int .i64 t.kind, .string t.word, .string t.unit, .slice ka kl kc] 199)) w.heap.size (.int .i64 t.kind) (.string t.word) (.string t.unit) (.slice ka kl kc)) := VB.new _ _ _ _ _
  have B2 : Hid (Below w.heap.size w (w.alloc (.cells #[.int .i64 t.kind, .string t.word, .string t.unit, .slice ka kl kc] 199))) := (Below.refl _ _).alloc (Nat.le_refl _) _
  obtain ⟨a0, a1, a2, a3⟩ := A2.out.cs
  have e3 : (t.kind == 3) = false := by simpa using h3
  have e13 : (t.kind == 13) = false := by simpa using h13
  go_enter Tryz.func98, Tryz.ntmps98
  go_wp2_with fail
  go_ret
  exact ⟨rfl, B2.out⟩
theorem isVar_c (t : Tok) (ka : Option Addr) (kl kc : Nat) (w : World) (h11 : ¬ t.kind = 11) :
    Calls Tryz.prog 101 #[nodV t (.slice ka kl kc)] w fun e w' => e = .returned (.bool false) ∧ Below w.heap.size w w' := by
  unfold nodV
  have A2 : Hid (VB (w.alloc (.cells #[.int .i64 t.kind, .string t.word, .string t.unit, .slice ka kl kc] 199)) w.heap.size (.int .i64 t.kind) (.string t.word) (.string t.unit) (.slice ka kl kc)) := VB.new _ _ _ _ _
  have B2 : Hid (Below w.heap.size w (w.alloc (.cells #[.int .i64 t.kind, .string t.word, .string t.unit, .slice ka kl kc] 199))) := (Below.refl _ _).alloc (Nat.le_refl _) _
  obtain ⟨a0, a1, a2, a3⟩ := A2.out.cs
  have e11 : (t.kind == 11) = false := by simpa using h11
  go_enter Tryz.func101, Tryz.ntmps101
  go_wp2_with fail
  go_ret
  exact ⟨rfl, B2.out⟩
theorem has_nil (a : Option Addr) (c g : Nat) (w : World) : Calls Tryz.prog 97 #[.slice a 0 c, .func (.func g) #[] #[]] w fun e w' => e = .returned (.bool false) ∧ w' = w := by
  go_enter Tryz.func97, Tryz.ntmps97
  go_wp2_with fail
  refine wp_loop_rounds 1 ?_
  rw [rounds_succ]
  go_wp2_with fail
  go_ret
  exact ⟨rfl, rfl⟩
theorem hasF_c (g : Nat) (l : List Nd) (v : Value) (B : Nat) (w : World) (h : Sl (fun b => b < B) w v l) (hB : B ≤ w.heap.size) (hl : plV l)
    (hg : ∀ (args : Array Value) (w : World), (callFunc g args).run Tryz.prog w = .ok (.enter g args) w)
    (hf : ∀ n ∈ l, ∀ ka kl kc w, Calls Tryz.prog g #[nodV n.t (.slice ka kl kc)] w fun e w' => e = .returned (.bool false) ∧ Below w.heap.size w w') :
    Calls Tryz.prog 97 #[v, .func (.func g) #[] #[]] w fun e w' => e = .returned (.bool false) ∧ Below w.heap.size w w' := by
  have hl6 := h.len
  have HS : Hid (Sl (fun b => b < B) w v l) := h
  have HF : Hid (∀ n ∈ l, ∀ ka kl kc w, Calls Tryz.prog g #[nodV n.t (.slice ka kl kc)] w fun e w' => e = .returned (.bool false) ∧ Below w.heap.size w w') := hf
  have HL : Hid (plV l) := hl
  obtain ⟨a, cap, rfl⟩ := h.form
  clear h hf hl
  go_enter Tryz.func97, Tryz.ntmps97
  go_wp2_with fail
  go_loopg [9] l.length (fun gg v9 wr => ∃ (i : Nat), v9 = .int .i64 (i : Int) ∧ i + gg = l.length ∧ Aside (Below w.heap.size w wr))
  case atStart => exact ⟨0, rfl, by omega, Below.refl _ _⟩
  case round =>
    obtain ⟨i, rfl, hi, hA⟩ := hrel
    have HR : Hid (Below w.heap.size w wr) := hA.out
    clear hA
    have hsr := HR.out.size
    by_cases hlt : i < l.length
    · have h1 : (i : Int) < (l.length : Int) := by omega
      obtain ⟨g1, o, rfl, hL, hcap⟩ := (HS.out.below HR.out hB).here (by rintro rfl; simp at hlt)
      obtain ⟨kv, hN⟩ := hL.node (i := i) hlt
      have HP := HL.out l[i] (List.getElem_mem hlt)
      have HC := hid (HF.out l[i] (List.getElem_mem hlt))
      generalize l[i] = n at *
      obtain ⟨c0, c1, c2, c3⟩ : _ ∧ _ ∧ _ ∧ _ := ⟨hN.c0, hN.c1, hN.c2, hN.c3⟩
      obtain ⟨ka, kc, rfl⟩ := hN.k.form
      rw [HP.1] at c3
      have c3' : wr.cell? ⟨g1, o + i * 4 + 3, none⟩ = some (.slice ka 0 kc) := c3
      clear hN hL HP c3
      have A2 : Hid (VB (wr.alloc (.cells #[.int .i64 n.t.kind, .string n.t.word, .string n.t.unit, .slice ka 0 kc] 199)) wr.heap.size (.int .i64 n.t.kind) (.string n.t.word) (.string n.t.unit) (.slice ka 0 kc)) := VB.new _ _ _ _ _
      have B2 : Hid (Below w.heap.size w (wr.alloc (.cells #[.int .i64 n.t.kind, .string n.t.word, .string n.t.unit, .slice ka 0 kc] 199))) := HR.out.alloc hsr _
      go_upto_region 4 with fail
      generalize wr.alloc (.cells #[.int .i64 n.t.kind, .string n.t.word, .string n.t.unit, .slice ka 0 kc] 199) = w2 at *
      obtain ⟨nb, Hnb⟩ : ∃ x, Hid (wr.heap.size = x) := ⟨_, hid rfl⟩
      rw [Hnb.out] at A2
      rw [Hnb.out]
      clear c0 c1 c2 c3'
      obtain ⟨a0, a1, a2, a3⟩ := A2.out.cs
      have hs2 := B2.out.size
      have HC2 : Hid (Calls Tryz.prog g #[.agg #[.int .i64 n.t.kind, .string n.t.word, .string n.t.unit, .slice ka 0 kc]] w2 fun e w' => e = .returned (.bool false) ∧ Below w2.heap.size w2 w') := HC.out ka 0 kc w2
      go_wp2_with fail
      refine HC2.out.mono ?_
      rintro ex w3 ⟨rfl, hb3⟩
      have A3 : Hid (VB w3 nb (.int .i64 n.t.kind) (.string n.t.word) (.string n.t.unit) (.slice ka 0 kc)) := A2.out.below hb3
      have B3 : Hid (Below w.heap.size w w3) := B2.out.trans (hb3.mono hs2)
      clear hb3 a0 a1 a2 a3
      obtain ⟨a0, a1, a2, a3⟩ := A3.out.cs
      go_wp2_with fail
      refine (has_nil ka kc g w3).mono ?_
      rintro ex wq ⟨rfl, hwq⟩
      rw [hwq]
      clear hwq
      go_wp2_with fail
      go_roundg (gk - 1)
      case measure => omega
      case rel => exact ⟨i + 1, by congr 1, by omega, B3.out⟩
    · have h1 : (l.length : Int) ≤ (i : Int) := by omega
      go_wp2_with fail
      go_ret
      exact ⟨rfl, HR.out⟩
end
def wdL (l : List Nd) (x : ByteArray) : Bool := match l with | [n] => wordN (.mk n.t []) x | _ => false
theorem wdL_no {l : List Nd} {x : ByteArray} (h : ¬ l.length = 1) : wdL l x = false := by
  match l with
  | [] => rfl
  | [n] => exact absurd rfl h
  | _ :: _ :: _ => rfl
theorem isWord_c (B : Nat) (l : List Nd) (v : Value) (x : ByteArray) (w : World) (h : Sl (fun b => b < B) w v l) :
    Calls Tryz.prog 96 #[v, .string x] w fun e w' => e = .returned (.bool (wdL l x)) ∧ Below w.heap.size w w' := by
  have hl6 := h.len
  have HS : Hid (Sl (fun b => b < B) w v l) := h
  obtain ⟨a, cap, rfl⟩ := h.form
  clear h
  by_cases h1 : l.length = 1
  · obtain ⟨n, rfl⟩ : ∃ n, l = [n] := List.length_eq_one_iff.1 h1
    obtain ⟨g, o, nv, cap', e', hN, hcap⟩ := HS.out.head
    have e1 : a = some ⟨g, o, none⟩ := by cases e'; rfl
    have ec : cap = cap' := by cases e'; rfl
    subst e1 ec
    obtain ⟨c0, c1, c2, c3⟩ : _ ∧ _ ∧ _ ∧ _ := ⟨hN.c0, hN.c1, hN.c2, hN.c3⟩
    have hw := hN.ok.word
    obtain ⟨ka, kc, rfl⟩ := hN.k.form
    have hcp : 1 ≤ cap := by simpa using hcap
    clear hN e' h1
    show Calls Tryz.prog 96 #[.slice (some ⟨g, o, none⟩) 1 cap, .string x] w fun e w' => e = .returned (.bool (wordN (.mk n.t []) x)) ∧ Below w.heap.size w w'
    have HC := hid (IsWord_c n.t (.slice ka n.kids.length kc) x w hw)
    go_enter Tryz.func96, Tryz.ntmps96
    go_wp2_with fail
    refine HC.out.mono ?_
    rintro ex w2 ⟨rfl, hb2⟩
    have B2 := hid hb2
    clear hb2
    go_wp2_with fail
    go_ret
    exact ⟨rfl, B2.out⟩
  · rw [wdL_no h1]
    have e1 : ((l.length : Int) == 1) = false := by
      rw [beq_eq_false_iff_ne]; omega
    have e2 : ¬ (l.length : Int) = 1 := by omega
    clear h1
    go_enter Tryz.func96, Tryz.ntmps96
    go_wp2_with fail
    go_ret
    exact ⟨rfl, Below.refl _ _⟩
def hdB (x : ByteArray) : Bool := decide (x = ⟨#[99, 111, 108, 111, 114]⟩) || decide (x = ⟨#[102, 111, 110, 116, 45, 115, 105, 122, 101]⟩) || decide (x = ⟨#[113, 117, 111, 116, 101, 115]⟩) || custom x
theorem isHandedDown_c (x : ByteArray) (w : World) : Calls Tryz.prog 162 #[.string x] w fun e w' => e = .returned (.bool (hdB x)) ∧ w' = w := by
  unfold hdB
  have l1 := bytes_lit x [99, 111, 108, 111, 114]
  have l2 := bytes_lit x [102, 111, 110, 116, 45, 115, 105, 122, 101]
  have l3 := bytes_lit x [113, 117, 111, 116, 101, 115]
  have l1' : (x.toList == [99, 111, 108, 111, 114]) = decide (x = ⟨#[99, 111, 108, 111, 114]⟩) := l1
  have l2' : (x.toList == [102, 111, 110, 116, 45, 115, 105, 122, 101]) = decide (x = ⟨#[102, 111, 110, 116, 45, 115, 105, 122, 101]⟩) := l2
  have l3' : (x.toList == [113, 117, 111, 116, 101, 115]) = decide (x = ⟨#[113, 117, 111, 116, 101, 115]⟩) := l3
  clear l1 l2 l3
  rw [← l1', ← l2', ← l3']
  clear l1' l2' l3'
  have HC := hid (IsCustom_c x w)
  cases e1 : (x.toList == [99, 111, 108, 111, 114])
  · cases e2 : (x.toList == [102, 111, 110, 116, 45, 115, 105, 122, 101])
    · cases e3 : (x.toList == [113, 117, 111, 116, 101, 115])
      · go_enter Tryz.func162, Tryz.ntmps162
        go_wp2_with fail
        refine HC.out.mono ?_
        rintro ex wq ⟨rfl, hwq⟩
        rw [hwq]
        clear hwq
        go_wp2_with fail
        go_ret
        exact ⟨rfl, rfl⟩
      · go_enter Tryz.func162, Tryz.ntmps162
        go_wp2_with fail
        go_ret
        exact ⟨rfl, rfl⟩
    · go_enter Tryz.func162, Tryz.ntmps162
      go_wp2_with fail
      go_ret
      exact ⟨rfl, rfl⟩
  · go_enter Tryz.func162, Tryz.ntmps162
    go_wp2_with fail
    go_ret
    exact ⟨rfl, rfl⟩
theorem Parent_c (B : Nat) (p : Page) (a : Option Addr) (cap e : Nat) (w : World) (h : PgM B w p a cap) (he : e < p.length) :
    Calls Tryz.prog 100 #[.agg #[.slice a p.length cap], .int .i64 (e : Int)] w fun ex w' => ex = .returned (.int .i64 (parentOf p e)) ∧ Below w.heap.size w w' := by
  have B0 : Hid (Below w.heap.size w (w.alloc (.cells #[.slice a p.length cap] 66))) := (Below.refl _ _).alloc (Nat.le_refl _) _
  have V0 : Hid (VarB (w.alloc (.cells #[.slice a p.length cap] 66)) w.heap.size (.slice a p.length cap) 66) := VarB.new _ _ _
  have c0 := V0.out.c
  obtain ⟨g, o, rfl, hgB, hcap, hcs⟩ := (h.alloc (.cells #[.slice a p.length cap] 66)).at
  have c1 := hcs e he
  have h1 : (e : Int) < (p.length : Int) := by omega
  have hlen := h.len
  clear hcs h
  go_enter Tryz.func100, Tryz.ntmps100
  go_wp2_with fail
  go_ret
  exact ⟨rfl, B0.out⟩
end Go.Proofs.YtlliliddljkbfaaGreat
