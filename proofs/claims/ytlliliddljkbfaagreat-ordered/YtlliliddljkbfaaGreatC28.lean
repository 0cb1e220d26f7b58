import Derived.Test.YtlliliddljkbfaaGreatC5
import Derived.Test.YtlliliddljkbfaaGreatC8
import Derived.Test.YtlliliddljkbfaaGreatC27
import Derived.Deep.RegionWith
import Derived.Maps.AppendAt
namespace Go.Proofs.YtlliliddljkbfaaGreat
set_option maxHeartbeats 64000000
set_option maxRecDepth 100000
open Go.RowKit Sp
abbrev Wgt := Nat × Nat × Nat
def addW (a b : Wgt) : Wgt := (a.1 + b.1, a.2.1 + b.2.1, a.2.2 + b.2.2)
def sumW (a : Wgt) : Nat := a.1 + a.2.1 + a.2.2
def smW : Simple → Wgt
  | .mk k nm _ _ _ _ => pwt k nm
def alW (x : Wgt) : List Simple → Wgt
  | [] => x
  | s :: r => alW (addW x (smW s)) r
def cxW (x : Wgt) : List Step → Wgt
  | [] => x
  | (_, all) :: r => cxW (alW x all) r
def cnC : List Step → Nat
  | [] => 0
  | (_, all) :: r => all.length + cnC r
theorem pwt_sum (k : Nat) (nm : ByteArray) : sumW (pwt k nm) ≤ 1 := by
  unfold pwt
  repeat' split
  all_goals (unfold sumW; decide)
theorem sum_add (a b : Wgt) : sumW (addW a b) = sumW a + sumW b := by unfold sumW addW; simp only; omega
theorem alW_drop (x : Wgt) {l : List Simple} {i : Nat} (h : i < l.length) : alW x (l.drop i) = alW (addW x (smW l[i])) (l.drop (i + 1)) := by
  rw [List.drop_eq_getElem_cons h]; rfl
theorem cxW_drop (x : Wgt) {l : List Step} {i : Nat} (h : i < l.length) : cxW x (l.drop i) = cxW (alW x l[i].2) (l.drop (i + 1)) := by
  rw [List.drop_eq_getElem_cons h]
  generalize l[i] = st
  obtain ⟨cb, all⟩ := st
  rfl
theorem cnC_drop {l : List Step} {i : Nat} (h : i < l.length) : cnC (l.drop i) = l[i].2.length + cnC (l.drop (i + 1)) := by
  rw [List.drop_eq_getElem_cons h]
  generalize l[i] = st
  obtain ⟨cb, all⟩ := st
  rfl
def W3n (w : World) (b : Nat) (x : Wgt) : Prop := W3 w b (x.1 : Int) (x.2.1 : Int) (x.2.2 : Int)
theorem W3.below {w w' : World} {b : Nat} {x y z : Int} {g : Nat} (h : W3 w b x y z) (hb : Below g w w') (hg : b < g) : W3 w' b x y z := by
  unfold W3; rw [hb.block _ hg]; exact h
theorem heap_set_same (w : World) (b k : Nat) (cs : Array Value) (T : TypeId) (fz : Nat × Nat) (u : Value) (h : w.heap[b]? = some (.cells cs T fz)) : (w.setCell ⟨b, k, none⟩ u).heap[b]? = some (.cells (cs.setIfInBounds k u) T fz) := by
  unfold World.setCell
  simp [Array.getElem?_modify, h]
theorem W3.set (w : World) (b : Nat) (x y z x' y' z' : Int) (h : W3 w b x y z) : W3 (((w.setCell ⟨b, 0, none⟩ (.int .i64 x')).setCell ⟨b, 1, none⟩ (.int .i64 y')).setCell ⟨b, 2, none⟩ (.int .i64 z')) b x' y' z' := by
  have h1 := heap_set_same w b 0 _ _ _ (.int .i64 x') h
  have h2 := heap_set_same _ b 1 _ _ _ (.int .i64 y') h1
  exact heap_set_same _ b 2 _ _ _ (.int .i64 z') h2
theorem W3.other (w : World) (b c : Nat) (x y z : Int) (x' y' z' : Value) (h : W3 w b x y z) (hne : b ≠ c) : W3 (((w.setCell ⟨c, 0, none⟩ x').setCell ⟨c, 1, none⟩ y').setCell ⟨c, 2, none⟩ z') b x y z := by
  unfold W3
  rw [Below.heap_setCell _ _ _ _ hne, Below.heap_setCell _ _ _ _ hne, Below.heap_setCell _ _ _ _ hne]; exact h
structure WtI (w : World) (x : Wgt) (wr : World) : Prop where
  res : W3 wr w.heap.size 0 0 0
  all : W3n wr (w.heap.size + 1) x
  below : Below w.heap.size w wr
  size : w.heap.size + 2 ≤ wr.heap.size
theorem WtI.next {w : World} {x : Wgt} {wr w' : World} (h : WtI w x wr) (hb : Below wr.heap.size wr w') : WtI w x w' :=
  ⟨h.res.below hb h.res.lt, W3.below h.all hb (W3.lt h.all), h.below.trans (hb.mono h.below.size), Nat.le_trans h.size hb.size⟩
theorem WtI.drew {w : World} {x : Wgt} {wr : World} (h : WtI w x wr) : WtI w x wr.drew := ⟨h.res, h.all, h.below.drew, h.size⟩
theorem WtI.set {w : World} {x : Wgt} {wr : World} (h : WtI w x wr) (y : Wgt) : WtI w y (((wr.setCell ⟨w.heap.size + 1, 0, none⟩ (.int .i64 (y.1 : Int))).setCell ⟨w.heap.size + 1, 1, none⟩ (.int .i64 (y.2.1 : Int))).setCell ⟨w.heap.size + 1, 2, none⟩ (.int .i64 (y.2.2 : Int))) :=
  ⟨W3.other _ _ _ _ _ _ _ _ _ h.res (by omega), W3.set _ _ _ _ _ _ _ _ h.all, set3_b h.below (by omega) _ _ _, by simpa [World.setCell] using h.size⟩
theorem WtI.set2 {w : World} {x : Wgt} {wr : World} (h : WtI w x wr) (y t : Wgt) : WtI w (addW y t) (((wr.setCell ⟨w.heap.size + 1, 0, none⟩ (.int .i64 ((y.1 : Int) + (t.1 : Int)))).setCell ⟨w.heap.size + 1, 1, none⟩ (.int .i64 ((y.2.1 : Int) + (t.2.1 : Int)))).setCell ⟨w.heap.size + 1, 2, none⟩ (.int .i64 ((y.2.2 : Int) + (t.2.2 : Int)))) := h.set (addW y t)
theorem CWt_c (f B : Nat) (cx : List Step) (v : Value) (w : World) (h : SG (PStp (PSim f)) 2 (fun b => b < B) w v cx) (hB : B ≤ w.heap.size) (hk : okC cx) (hn : cnC cx ≤ 1000000) :
    Calls Tryz.prog 155 #[v] w fun ex w' => ex = .returned (wtN (cxW (0, 0, 0) cx)) ∧ Below w.heap.size w w' := by
  have hl := h.len
  have I0 : Hid (WtI w (0, 0, 0) ((w.alloc (.cells #[.int .i64 0, .int .i64 0, .int .i64 0] 177)).alloc (.cells #[.int .i64 0, .int .i64 0, .int .i64 0] 177))) :=
    ⟨(W3.new w 0 0 0).alloc _, (t1_w3 w _).out, (t1_b w _).out, by simp⟩
  have hF : Hid (Fair (PStp (PSim f))) := PStp.fair (PSim.fair f)
  have hF2 : Hid (Fair (PSim f)) := PSim.fair f
  have HS : Hid (SG (PStp (PSim f)) 2 (fun b => b < B) w v cx) := h
  have HK : Hid (okC cx) := hk
  obtain ⟨ca, cc, rfl⟩ := h.form
  clear h hk
  obtain ⟨R, HR⟩ : ∃ R, Hid (cxW (0, 0, 0) cx = R) := ⟨_, hid rfl⟩
  rw [HR.out]
  go_enter Tryz.func155, Tryz.ntmps155
  go_wp2_with fail
  generalize (w.alloc (.cells #[.int .i64 0, .int .i64 0, .int .i64 0] 177)).alloc (.cells #[.int .i64 0, .int .i64 0, .int .i64 0] 177) = w0 at *
  go_loopg [10] cx.length (fun gg v10 wr => ∃ (x : Wgt) (i : Nat), v10 = .int .i64 (i : Int) ∧ i + gg = cx.length ∧ sumW x + cnC (cx.drop i) ≤ 1000000 ∧ Aside (cxW x (cx.drop i) = R ∧ WtI w x wr))
  case atStart => exact ⟨(0, 0, 0), 0, rfl, by omega, by unfold sumW; simpa using hn, HR.out, I0.out⟩
  case round =>
    obtain ⟨go, hgo⟩ : ∃ go, go = gk := ⟨_, rfl⟩
    obtain ⟨x, i, rfl, hi, hx, hA⟩ := hrel
    have HC : Hid (cxW x (cx.drop i) = R ∧ WtI w x wr) := hA.out
    clear hA
    have hsr := HC.out.2.below.size
    by_cases hlt : i < cx.length
    · have h1 : (i : Int) < (cx.length : Int) := by omega
      obtain ⟨g, o, rfl, hL, hcap⟩ := HS.out.here (by rintro rfl; simp at hlt)
      obtain ⟨av, d0, d1, hav, hgB⟩ := hL.stq (i := i) hlt
      have hgB' : g < B := hgB
      rw [← HC.out.2.below.cell (p := ⟨g, _, none⟩) (show g < w.heap.size by omega)] at d0 d1
      have HKS := HK.out cx[i] (List.getElem_mem hlt)
      have HD : Hid (cxW x (cx.drop i) = cxW (alW x cx[i].2) (cx.drop (i + 1))) := cxW_drop x hlt
      have hcn := cnC_drop hlt
      generalize cx[i] = st at *
      obtain ⟨cb, all⟩ := st
      have HKA : Hid (okA all) := HKS.2
      have hcn' : cnC (cx.drop i) = all.length + cnC (cx.drop (i + 1)) := hcn
      have HD' : Hid (cxW (alW x (all.drop 0)) (cx.drop (i + 1)) = R) := HD.out.symm.trans HC.out.1
      have hav' : SG (PSim f) 1 (fun b => b < B) w av all := hav
      have HAV : Hid (SG (PSim f) 1 (fun b => b < B) w av all) := hav'
      have hal := hav'.len
      obtain ⟨la, lc, rfl⟩ := hav'.form
      have d0' : wr.cell? ⟨g, o + i * 2, none⟩ = some (.int .i64 (cmb cb)) := d0
      clear hav hav' hL HD HKS d0 hcn
      have T2 : Hid (S2z (wr.alloc (.cells #[.int .i64 (cmb cb), .slice la all.length lc] 219)) wr.heap.size (.int .i64 (cmb cb)) (.slice la all.length lc)) := S2z.new _ _ _
      have I2 : Hid (WtI w x (wr.alloc (.cells #[.int .i64 (cmb cb), .slice la all.length lc] 219))) := HC.out.2.next ((Below.refl _ _).alloc (Nat.le_refl _) _)
      go_upto_region 5 with fail
      generalize wr.alloc (.cells #[.int .i64 (cmb cb), .slice la all.length lc] 219) = w2 at *
      obtain ⟨gt, Hgt⟩ : ∃ gt, Hid (wr.heap.size = gt) := ⟨_, hid rfl⟩
      have T3 : Hid (S2z w2 gt (.int .i64 (cmb cb)) (.slice la all.length lc)) := by rw [← Hgt.out]; exact T2.out
      rw [Hgt.out]
      clear T2 d0' d1
      obtain ⟨a0, a1⟩ := T3.out.cs
      go_wp2_with fail
      go_loopg [17] all.length (fun gg v17 wr => ∃ (x : Wgt) (m : Nat), v17 = .int .i64 (m : Int) ∧ m + gg = all.length ∧ sumW x + (all.length - m) + cnC (cx.drop (i + 1)) ≤ 1000000 ∧ Aside (cxW (alW x (all.drop m)) (cx.drop (i + 1)) = R ∧ WtI w x wr))
      case atStart => exact ⟨x, 0, rfl, by omega, by omega, HD'.out, I2.out⟩
      case round =>
        obtain ⟨gi, hgi⟩ : ∃ gi, gi = gk := ⟨_, rfl⟩
        obtain ⟨y, m, rfl, hm, hy, hA⟩ := hrel
        have HC5 : Hid (cxW (alW y (all.drop m)) (cx.drop (i + 1)) = R ∧ WtI w y wr) := hA.out
        clear hA
        by_cases hlm : m < all.length
        · have h2 : (m : Int) < (all.length : Int) := by omega
          have hav5 := HAV.out.below hF2.out HC5.out.2.below (by omega)
          obtain ⟨g5, o5, rfl, hL5, hcap5⟩ := hav5.here (by rintro rfl; simp at hlm)
          obtain ⟨pv, c5, hps, _⟩ := hL5.prq (i := m) hlm
          have HAD := alW_drop y hlm
          have hkm := HKA.out all[m] (List.getElem_mem hlm)
          generalize all[m] = s at *
          obtain ⟨k, nm, how, vv, ll, pl⟩ := s
          obtain ⟨lv, rfl⟩ := hps.part
          obtain ⟨T, pu, K, rcv, epv, hmeth, hcall, hC⟩ := road_wt k nm how vv lv pl hkm
          rw [epv] at c5
          have hps1 := pwt_sum k nm
          have HAD' : Hid (alW y (all.drop m) = alW (addW y (pwt k nm)) (all.drop (m + 1))) := HAD
          obtain ⟨t, Ht⟩ : ∃ t, Hid (pwt k nm = t) := ⟨_, hid rfl⟩
          have HCK : Hid (∀ w', Calls Tryz.prog K #[rcv] w' fun e w'' => e = .returned (wtV (t.1 : Int) (t.2.1 : Int) (t.2.2 : Int)) ∧ Below w'.heap.size w' w'') := by
            show ∀ w', _
            rw [← Ht.out]; exact hC
          rw [Ht.out] at HAD' hps1
          have hsum := sum_add y t
          have HE : Hid (cxW (alW (addW y t) (all.drop (m + 1))) (cx.drop (i + 1)) = R) := HAD'.out ▸ HC5.out.1
          have hy1 : y.1 + y.2.1 + y.2.2 ≤ 1000000 := by unfold sumW at hy; omega
          have ht1 : t.1 + t.2.1 + t.2.2 ≤ 1000000 := by unfold sumW at hps1; omega
          clear hps hC HAD HAD' hL5 hav5 hkm epv
          obtain ⟨b0, b1, b2⟩ := W3.cs HC5.out.2.all
          have z0 := W3.fz HC5.out.2.all 0
          have z1 := W3.fz HC5.out.2.all 1
          have z2 := W3.fz HC5.out.2.all 2
          have HI5 : Hid (WtI w y wr) := HC5.out.2
          clear HC5
          go_wp2_with fail
          go_region_with (first
            | (go_at_call 225; refine (plus_c _ _ _ _ _ _ _ ⟨by omega, by omega⟩ ⟨by omega, by omega⟩ ⟨by omega, by omega⟩ ⟨by omega, by omega⟩ ⟨by omega, by omega⟩ ⟨by omega, by omega⟩).mono ?_; rintro e w7 ⟨rfl, hb7⟩; unfold wtV; have HI7 : Hid (WtI w y w7) := HI6.out.next hb7; clear hb7 b0 b1 b2 z0 z1 z2 HI6; obtain ⟨b0, b1, b2⟩ := W3.cs HI7.out.all; have z0 := W3.fz HI7.out.all 0; have z1 := W3.fz HI7.out.all 1; have z2 := W3.fz HI7.out.all 2)
            | (refine (HCK.out _).mono ?_; rintro e w6 ⟨rfl, hb6⟩; unfold wtV; have HI6 : Hid (WtI w y w6) := (by first | exact HI5.out.drew.next hb6 | exact HI5.out.next hb6); clear hb6 b0 b1 b2 z0 z1 z2; obtain ⟨b0, b1, b2⟩ := W3.cs HI6.out.all; have z0 := W3.fz HI6.out.all 0; have z1 := W3.fz HI6.out.all 1; have z2 := W3.fz HI6.out.all 2))
          all_goals
            have HI9 := hid (HI7.out.set2 y t)
            clear HI7 b0 b1 b2 z0 z1 z2 c5 a0 a1
            generalize ((w7.setCell ⟨w.heap.size + 1, 0, none⟩ (.int .i64 ((y.1 : Int) + (t.1 : Int)))).setCell ⟨w.heap.size + 1, 1, none⟩ (.int .i64 ((y.2.1 : Int) + (t.2.1 : Int)))).setCell ⟨w.heap.size + 1, 2, none⟩ (.int .i64 ((y.2.2 : Int) + (t.2.2 : Int))) = w8 at *
            go_wp2_with fail
            go_roundg (gi - 1)
            case measure => omega
            case rel => exact ⟨addW y t, m + 1, by congr 1, by omega, by omega, HE.out, HI9.out⟩
        · have h2 : (all.length : Int) ≤ (m : Int) := by omega
          have HE : Hid (cxW y (cx.drop (i + 1)) = R) := by
            show _ = _
            rw [← HC5.out.1, List.drop_of_length_le (show all.length ≤ m by omega)]; rfl
          go_wp2_with fail
          go_roundg (go - 1)
          case measure => omega
          case rel => exact ⟨y, i + 1, by congr 1, by omega, by omega, HE.out, HC5.out.2⟩
    · have h1 : (cx.length : Int) ≤ (i : Int) := by omega
      have HV : Hid (x = R) := by
        show _ = _
        rw [← HC.out.1, List.drop_of_length_le (show cx.length ≤ i by omega)]; rfl
      obtain ⟨b0, b1, b2⟩ := W3.cs HC.out.2.all
      obtain ⟨r0, r1, r2⟩ := HC.out.2.res.cs
      have z0 := HC.out.2.res.fz 0
      have z1 := HC.out.2.res.fz 1
      have z2 := HC.out.2.res.fz 2
      go_wp2_with fail
      refine bodyPost_ret (v := .agg #[.int .i64 (x.1 : Int), .int .i64 (x.2.1 : Int), .int .i64 (x.2.2 : Int)]) (by simp [results, Tryz.results155, go_sem, r0, r1, r2]) rfl ?_
      exact ⟨by rw [← HV.out]; rfl, set3_b HC.out.2.below (Nat.le_refl _) _ _ _⟩
abbrev Clm := Nat × Wgt
def clC (x : Clm) : List Value := [.int .u64 (x.1 : Int), .int .i64 (x.2.1 : Int), .int .i64 (x.2.2.1 : Int), .int .i64 (x.2.2.2 : Int)]
def CCl : Law Clm := fun _ _ x cs => cs = clC x
theorem CCl.fair : Fair CCl := fun _ _ _ _ _ _ _ _ h => h
theorem CCl.sized : Sized CCl 4 := by rintro S w x cs rfl; rfl
def clm (p : Page) (cx : List Step) : Clm := (cxS p 0 cx, cxW (0, 0, 0) cx)
def okL (l : Sels) : Prop := ∀ cx ∈ l, okC cx ∧ cnC cx ≤ 1000000
theorem info_clm : ∃ i, Tryz.prog.info? 248 = some i ∧ i.zero = some (.agg #[.int .u64 0, .int .i64 0, .int .i64 0, .int .i64 0]) ∧ i.size = 4 ∧ i.bytes = 32 := info_parts (by kernel_rfl)
theorem LG.cxq {f : Nat} {S : Nat → Prop} {w : World} {l : Sels} {g o i : Nat} (h : LG (PCx (PSim f)) 1 S w l g o) (hi : i < l.length) : ∃ cv, w.cell? ⟨g, o + i, none⟩ = some cv ∧ SG (PStp (PSim f)) 2 S w cv l[i] ∧ S g := by
  obtain ⟨h0, cs, ⟨cv, rfl, hs⟩, hc⟩ := h.at l g o i hi
  refine ⟨cv, ?_, hs, h0⟩
  have := hc 0 _ rfl
  rw [Nat.mul_one, Nat.add_zero] at this
  exact this
theorem Claim_map (p : Page) {l : Sels} {i : Nat} (h : i < l.length) : (l.take (i + 1)).map (clm p) = (l.take i).map (clm p) ++ [clm p l[i]] := by
  rw [List.take_succ_eq_append_getElem h, List.map_append]; rfl
theorem frm_up {a b : Nat} {w : World} (h : a ≤ b) : ∀ g, Frm b w g → Frm a w g := fun _ hg => ⟨Nat.le_trans h hg.1, hg.2⟩
theorem Claims_c (f B : Nat) (l : Sels) (v : Value) (p : Page) (a : Option Addr) (cap : Nat) (w : World) (h : SG (PCx (PSim f)) 1 (fun b => b < B) w v l) (hp : PgM B w p a cap) (hk : okL l) :
    Calls Tryz.prog 92 #[v, .agg #[.slice a p.length cap]] w fun ex w' => (∃ u, ex = .returned u ∧ SG CCl 4 (Frm w.heap.size w') w' u (l.map (clm p))) ∧ Below w.heap.size w w' := by
  have hl := h.len
  have hlen := hp.len
  have hBw := hp.lt
  have B0 : Hid (Below w.heap.size w (w.alloc (.cells #[.slice a p.length cap] 66))) := (Below.refl _ _).alloc (Nat.le_refl _) _
  have V0 : Hid (VarB (w.alloc (.cells #[.slice a p.length cap] 66)) w.heap.size (.slice a p.length cap) 66) := VarB.new _ _ _
  have HP0 : Hid (PgM B (w.alloc (.cells #[.slice a p.length cap] 66)) p a cap) := hp.alloc _
  have hF : Hid (Fair (PCx (PSim f))) := One.fair (PStp.fair (PSim.fair f))
  have HS : Hid (SG (PCx (PSim f)) 1 (fun b => b < B) (w.alloc (.cells #[.slice a p.length cap] 66)) v l) := h.below hF.out B0.out hBw
  have HK : Hid (okL l) := hk
  obtain ⟨ca, cc, rfl⟩ := h.form
  clear h hp hk
  obtain ⟨iT, hiT⟩ := info_clm
  have HI : Hid (Tryz.prog.info? 248 = some iT ∧ iT.zero = some (.agg #[.int .u64 0, .int .i64 0, .int .i64 0, .int .i64 0]) ∧ iT.size = 4 ∧ iT.bytes = 32) := hiT
  clear hiT
  go_enter Tryz.func92, Tryz.ntmps92
  go_wp2_with fail
  generalize hw0 : w.alloc (.cells #[.slice a p.length cap] 66) = w0 at *
  have HS0 : Hid (w0.heap.size = w.heap.size + 1) := by show _ = _; rw [← hw0]; simp
  clear hw0
  obtain ⟨pb, Hpb⟩ : ∃ pb, Hid (w.heap.size = pb) := ⟨_, hid rfl⟩
  have hpb := Hpb.out
  have hp0 : pb < w0.heap.size := by have := HS0.out; omega
  rw [hpb] at V0
  rw [hpb]
  go_loopg [5, 10] l.length (fun gg v5 v10 wr => ∃ (u : Value) (i : Nat), u = v5 ∧ v10 = .int .i64 (i : Int) ∧ i + gg = l.length ∧ Aside (MG CCl 4 248 w0.heap.size wr u ((l.take i).map (clm p)) ∧ Below w0.heap.size w0 wr))
  case atStart => exact ⟨_, 0, rfl, rfl, by omega, MG.nil _ _ _ _ _, Below.refl _ _⟩
  case round =>
    obtain ⟨go, hgo⟩ : ∃ go, go = gk := ⟨_, rfl⟩
    obtain ⟨u, i, rfl, rfl, hi, hA⟩ := hrel
    have HC : Hid (MG CCl 4 248 w0.heap.size wr u ((l.take i).map (clm p)) ∧ Below w0.heap.size w0 wr) := hA.out
    clear hA
    have hsr := HC.out.2.size
    have hmn : ((l.take i).map (clm p)).length = i := by rw [List.length_map, List.length_take]; omega
    by_cases hlt : i < l.length
    · have h1 : (i : Int) < (l.length : Int) := by omega
      obtain ⟨g, o, rfl, hL, hcap⟩ := (HS.out.below hF.out HC.out.2 (by omega)).here (by rintro rfl; simp at hlt)
      obtain ⟨cv, d0, hcv, hgB⟩ := hL.cxq (i := i) hlt
      have HKC := HK.out l[i] (List.getElem_mem hlt)
      have HM : Hid ((l.take (i + 1)).map (clm p) = (l.take i).map (clm p) ++ [clm p l[i]]) := Claim_map p hlt
      generalize l[i] = cx at *
      have HCV : Hid (SG (PStp (PSim f)) 2 (fun b => b < B) wr cv cx) := hcv
      have HKX : Hid (okC cx ∧ cnC cx ≤ 1000000) := HKC
      obtain ⟨xa, xc, rfl⟩ := hcv.form
      clear hcv hL HKC
      have V2 : Hid (VarB wr pb (.slice a p.length cap) 66) := V0.out.below HC.out.2 (by omega)
      have c0 := V2.out.c
      have P2 : Hid (PgM B wr p a cap) := HP0.out.below HC.out.2 HP0.out.lt
      go_wp2_with fail
      refine (COn_c f B cx _ p a cap _ HCV.out P2.out HKX.out.1).mono ?_
      obtain ⟨s1, Hs1⟩ : ∃ s1, Hid (cxS p 0 cx = s1) := ⟨_, hid rfl⟩
      rw [Hs1.out]
      rintro e w3 ⟨rfl, hb3⟩
      have X3 : Hid (Below w0.heap.size w0 w3) := HC.out.2.trans (hb3.mono hsr)
      have M3 : Hid (MG CCl 4 248 w0.heap.size w3 u ((l.take i).map (clm p))) := HC.out.1.below CCl.fair hb3
      have C3 : Hid (SG (PStp (PSim f)) 2 (fun b => b < B) w3 (.slice xa cx.length xc) cx) := HCV.out.below (PStp.fair (PSim.fair f)) hb3 P2.out.lt
      clear hb3 c0 V2 P2 HCV d0
      have hs3 := X3.out.size
      go_wp2_with fail
      refine (CWt_c f B cx _ _ C3.out (by omega) HKX.out.1 HKX.out.2).mono ?_
      obtain ⟨t, Ht⟩ : ∃ t, Hid (cxW (0, 0, 0) cx = t) := ⟨_, hid rfl⟩
      rw [Ht.out]
      rintro e w4 ⟨rfl, hb4⟩
      unfold wtN wtV
      have X4 : Hid (Below w0.heap.size w0 w4) := X3.out.trans (hb4.mono hs3)
      have M4 : Hid (MG CCl 4 248 w0.heap.size w4 u ((l.take i).map (clm p))) := M3.out.below CCl.fair hb4
      clear hb4 C3 M3
      have hs4 := X4.out.size
      obtain ⟨cs, hown, hcat⟩ := (M4.out.alloc CCl.fair (.cells #[.int .u64 (s1 : Int), .int .i64 (t.1 : Int), .int .i64 (t.2.1 : Int), .int .i64 (t.2.2 : Int)] 248))
      have HO : Hid ((w4.alloc (.cells #[.int .u64 (s1 : Int), .int .i64 (t.1 : Int), .int .i64 (t.2.1 : Int), .int .i64 (t.2.2 : Int)] 248)).ownsRow w0.heap.size 248 4 u i cs) := by
        have h := hown
        rw [hmn] at h
        exact h
      have HCt := hid hcat
      clear hown hcat
      go_wp2_with (at_builtin; go_must (refine wpList_append_own_at _ rfl _ _ 172 rfl w0.heap.size 248 iT (.agg #[.int .u64 0, .int .i64 0, .int .i64 0, .int .i64 0]) 4 32 Tryz.underlying172 HI.out.1 HI.out.2.1 HI.out.2.2.1 HI.out.2.2.2 rfl (by omega) u i cs rfl HO.out ⟨w4.heap.size, 0, none⟩ 1 1 [.int .u64 (s1 : Int), .int .i64 (t.1 : Int), .int .i64 (t.2.1 : Int), .int .i64 (t.2.2 : Int)] rfl rfl (new4 _ _ _ _ _ _) (by simp [Value.oneCell']) (by unfold maxLen; omega) (by omega) (by simp; omega) ?_))
      intro v5 w5 hown5 hgr5 _ hat5
      have hlo : ∀ rr, u.ownBlock = some rr → w0.heap.size ≤ rr := fun rr hr => (HO.out.lt rr hr).1
      have hb5 : Below w0.heap.size w4 w5 := ((Below.refl _ _).alloc (by omega) _).grown hgr5 (by simp; omega) hlo
      have hown5' : w5.ownsRow w0.heap.size 248 4 v5 (((l.take i).map (clm p)).length + 1) (cs ++ [.int .u64 (s1 : Int), .int .i64 (t.1 : Int), .int .i64 (t.2.1 : Int), .int .i64 (t.2.2 : Int)]) := by rw [hmn]; exact hown5
      have M5 : Hid (MG CCl 4 248 w0.heap.size w5 v5 ((l.take i).map (clm p) ++ [(s1, t)])) := MG.snoc CCl.fair HCt.out (show CCl _ _ (s1, t) _ from rfl) hown5' hgr5 (by simpa using hat5)
      have X5 : Hid (Below w0.heap.size w0 w5) := X4.out.trans hb5
      have HE : Hid (MG CCl 4 248 w0.heap.size w5 v5 ((l.take (i + 1)).map (clm p)) ∧ Below w0.heap.size w0 w5) := by
        refine ⟨?_, X5.out⟩
        rw [HM.out]
        unfold clm at *
        rw [Hs1.out, Ht.out]; exact M5.out
      clear hown5 hown5' hgr5 hat5 hb5 hlo M5 X5
      go_wp2_with fail
      go_roundg (go - 1)
      case measure => omega
      case rel => exact ⟨v5, i + 1, rfl, by congr 1, by omega, HE.out⟩
    · have h1 : (l.length : Int) ≤ (i : Int) := by omega
      have HE : Hid (SG CCl 4 (Frm w.heap.size wr) wr u (l.map (clm p))) := by
        have h := (HC.out.1.sl CCl.fair CCl.sized (by omega)).keep CCl.fair (frm_up (show w.heap.size ≤ w0.heap.size by omega)) fun _ _ => rfl
        rw [List.take_of_length_le (show l.length ≤ i by omega)] at h
        exact h
      have BE : Hid (Below w.heap.size w wr) := B0.out.trans (HC.out.2.mono (by omega))
      go_wp2_with fail
      go_ret
      exact ⟨⟨_, rfl, HE.out⟩, BE.out⟩
def cmpW (a b : Wgt) : Int := cmp3 (a.1 : Int) (a.2.1 : Int) (a.2.2 : Int) (b.1 : Int) (b.2.1 : Int) (b.2.2 : Int)
def grF (e : Nat) : Wgt → Bool → List Clm → Wgt × Bool
  | f, ok, [] => (f, ok)
  | f, ok, x :: r => if hasB x.1 (e : Int) = true then grF e (if 0 < cmpW x.2 f then x.2 else f) true r else grF e f ok r
theorem grF_drop (e : Nat) (f : Wgt) (ok : Bool) {l : List Clm} {i : Nat} (h : i < l.length) : grF e f ok (l.drop i) = if hasB l[i].1 (e : Int) = true then grF e (if 0 < cmpW l[i].2 f then l[i].2 else f) true (l.drop (i + 1)) else grF e f ok (l.drop (i + 1)) := by
  rw [List.drop_eq_getElem_cons h]; rfl
def C4 (w : World) (b : Nat) (x : Clm) : Prop := w.heap[b]? = some (.cells #[.int .u64 (x.1 : Int), .int .i64 (x.2.1 : Int), .int .i64 (x.2.2.1 : Int), .int .i64 (x.2.2.2 : Int)] 248 (0, 0))
theorem C4.cs {w : World} {b : Nat} {x : Clm} (h : C4 w b x) : w.cell? ⟨b, 0, none⟩ = some (.int .u64 (x.1 : Int)) ∧ w.cell? ⟨b, 1, none⟩ = some (.int .i64 (x.2.1 : Int)) ∧ w.cell? ⟨b, 2, none⟩ = some (.int .i64 (x.2.2.1 : Int)) ∧ w.cell? ⟨b, 3, none⟩ = some (.int .i64 (x.2.2.2 : Int)) := by
  have h' : w.heap[b]? = _ := h
  refine ⟨?_, ?_, ?_, ?_⟩ <;> (unfold World.cell?; rw [h']; rfl)
theorem C4.lt {w : World} {b : Nat} {x : Clm} (h : C4 w b x) : b < w.heap.size := (Array.getElem?_eq_some_iff.1 h).1
theorem C4.new (w : World) (x : Clm) : C4 (w.alloc (.cells #[.int .u64 (x.1 : Int), .int .i64 (x.2.1 : Int), .int .i64 (x.2.2.1 : Int), .int .i64 (x.2.2.2 : Int)] 248)) w.heap.size x := heap_alloc_new w _
theorem C4.below {w w' : World} {b : Nat} {x : Clm} (h : C4 w b x) (hb : Below w.heap.size w w') : C4 w' b x := by
  show _ = _; rw [hb.block _ h.lt]; exact h
theorem LG.clq {S : Nat → Prop} {w : World} {l : List Clm} {g o i : Nat} (h : LG CCl 4 S w l g o) (hi : i < l.length) : (w.cell? ⟨g, o + i * 4, none⟩ = some (.int .u64 (l[i].1 : Int)) ∧ w.cell? ⟨g, o + i * 4 + 1, none⟩ = some (.int .i64 (l[i].2.1 : Int)) ∧ w.cell? ⟨g, o + i * 4 + 2, none⟩ = some (.int .i64 (l[i].2.2.1 : Int)) ∧ w.cell? ⟨g, o + i * 4 + 3, none⟩ = some (.int .i64 (l[i].2.2.2 : Int))) ∧ S g := by
  obtain ⟨h0, cs, rfl, hc⟩ := h.at l g o i hi
  refine ⟨⟨?_, hc 1 _ rfl, hc 2 _ rfl, hc 3 _ rfl⟩, h0⟩
  have := hc 0 _ rfl; rwa [Nat.add_zero] at this
theorem greatest_c (B : Nat) (cl : List Clm) (v : Value) (e : Nat) (w : World) (h : SG CCl 4 (fun b => b < B) w v cl) (hB : B ≤ w.heap.size) (he : e < 64) (hs : ∀ x ∈ cl, x.1 < 18446744073709551616) :
    Calls Tryz.prog 94 #[v, .int .i64 (e : Int)] w fun ex w' => ex = .returned (.tuple #[wtN (grF e (0, 0, 0) false cl).1, .bool (grF e (0, 0, 0) false cl).2]) ∧ Below w.heap.size w w' := by
  have hl := h.len
  have I0 : Hid (WtI w (0, 0, 0) ((w.alloc (.cells #[.int .i64 0, .int .i64 0, .int .i64 0] 177)).alloc (.cells #[.int .i64 0, .int .i64 0, .int .i64 0] 177))) :=
    ⟨(W3.new w 0 0 0).alloc _, (t1_w3 w _).out, (t1_b w _).out, by simp⟩
  have HS : Hid (SG CCl 4 (fun b => b < B) w v cl) := h
  have HL : Hid (∀ x ∈ cl, x.1 < 18446744073709551616) := hs
  obtain ⟨ca, cc, rfl⟩ := h.form
  clear h hs
  obtain ⟨R, HR⟩ : ∃ R, Hid (grF e (0, 0, 0) false cl = R) := ⟨_, hid rfl⟩
  rw [HR.out]
  have he1 : (e : Int) < 64 := by omega
  go_enter Tryz.func94, Tryz.ntmps94
  go_wp2_with fail
  generalize (w.alloc (.cells #[.int .i64 0, .int .i64 0, .int .i64 0] 177)).alloc (.cells #[.int .i64 0, .int .i64 0, .int .i64 0] 177) = w0 at *
  go_loopg [7, 12] cl.length (fun gg v7 v12 wr => ∃ (x : Wgt) (ok : Bool) (i : Nat), v7 = .bool ok ∧ v12 = .int .i64 (i : Int) ∧ i + gg = cl.length ∧ Aside (grF e x ok (cl.drop i) = R ∧ WtI w x wr))
  case atStart => exact ⟨(0, 0, 0), false, 0, rfl, rfl, by omega, HR.out, I0.out⟩
  case round =>
    obtain ⟨go, hgo⟩ : ∃ go, go = gk := ⟨_, rfl⟩
    obtain ⟨x, ok, i, rfl, rfl, hi, hA⟩ := hrel
    have HC : Hid (grF e x ok (cl.drop i) = R ∧ WtI w x wr) := hA.out
    clear hA
    have hsr := HC.out.2.below.size
    by_cases hlt : i < cl.length
    · have h1 : (i : Int) < (cl.length : Int) := by omega
      obtain ⟨g, o, rfl, hL, hcap⟩ := (HS.out.below CCl.fair HC.out.2.below hB).here (by rintro rfl; simp at hlt)
      obtain ⟨⟨d0, d1, d2, d3⟩, hgB⟩ := hL.clq (i := i) hlt
      have hys := HL.out cl[i] (List.getElem_mem hlt)
      have HD := grF_drop e x ok hlt
      generalize cl[i] = y at *
      have HD' : Hid ((if hasB y.1 (e : Int) = true then grF e (if 0 < cmpW y.2 x then y.2 else x) true (cl.drop (i + 1)) else grF e x ok (cl.drop (i + 1))) = R) := HD.symm.trans HC.out.1
      clear hL HD
      have T2 : Hid (C4 (wr.alloc (.cells #[.int .u64 (y.1 : Int), .int .i64 (y.2.1 : Int), .int .i64 (y.2.2.1 : Int), .int .i64 (y.2.2.2 : Int)] 248)) wr.heap.size y) := C4.new _ _
      have I2 : Hid (WtI w x (wr.alloc (.cells #[.int .u64 (y.1 : Int), .int .i64 (y.2.1 : Int), .int .i64 (y.2.2.1 : Int), .int .i64 (y.2.2.2 : Int)] 248))) := HC.out.2.next ((Below.refl _ _).alloc (Nat.le_refl _) _)
      go_upto_region 6 with fail
      generalize wr.alloc (.cells #[.int .u64 (y.1 : Int), .int .i64 (y.2.1 : Int), .int .i64 (y.2.2.1 : Int), .int .i64 (y.2.2.2 : Int)] 248) = w2 at *
      obtain ⟨gt, Hgt⟩ : ∃ gt, Hid (wr.heap.size = gt) := ⟨_, hid rfl⟩
      have T3 : Hid (C4 w2 gt y) := by rw [← Hgt.out]; exact T2.out
      rw [Hgt.out]
      clear T2 d0 d1 d2 d3
      obtain ⟨a0, a1, a2, a3⟩ := T3.out.cs
      go_wp2_with fail
      refine (SHas_c y.1 (e : Int) _ hys (by omega)).mono ?_
      obtain ⟨b, Hb⟩ : ∃ b, Hid (hasB y.1 (e : Int) = b) := ⟨_, hid rfl⟩
      rw [Hb.out]
      rw [Hb.out] at HD'
      rintro ex wq ⟨rfl, hwq⟩
      rw [hwq]
      clear hwq
      cases b
      · have HE : Hid (grF e x ok (cl.drop (i + 1)) = R) := by have := HD'.out; rwa [if_neg (by simp)] at this
        go_wp2_with fail
        go_roundg (go - 1)
        case measure => omega
        case rel => exact ⟨x, ok, i + 1, rfl, by congr 1, by omega, HE.out, I2.out⟩
      · have HE : Hid (grF e (if 0 < cmpW y.2 x then y.2 else x) true (cl.drop (i + 1)) = R) := by have := HD'.out; rwa [if_pos rfl] at this
        obtain ⟨b0, b1, b2⟩ := W3.cs I2.out.all
        go_wp2_with fail
        refine (wcmp_c (y.2.1 : Int) (y.2.2.1 : Int) (y.2.2.2 : Int) (x.1 : Int) (x.2.1 : Int) (x.2.2 : Int) _).mono ?_
        obtain ⟨c, Hc⟩ : ∃ c, Hid (cmp3 (y.2.1 : Int) (y.2.2.1 : Int) (y.2.2.2 : Int) (x.1 : Int) (x.2.1 : Int) (x.2.2 : Int) = c) := ⟨_, hid rfl⟩
        rw [Hc.out]
        have HCW : Hid (cmpW y.2 x = c) := Hc.out
        rw [HCW.out] at HE
        rintro ex w3 ⟨rfl, hb3⟩
        have I3 : Hid (WtI w x w3) := I2.out.next hb3
        have T4 : Hid (C4 w3 gt y) := T3.out.below hb3
        clear hb3 b0 b1 b2 a0 a1 a2 a3 T3
        obtain ⟨a0, a1, a2, a3⟩ := T4.out.cs
        by_cases hc : 0 < c
        · rw [if_pos hc] at HE
          obtain ⟨b0, b1, b2⟩ := W3.cs I3.out.all
          have z0 := W3.fz I3.out.all 0
          have z1 := W3.fz I3.out.all 1
          have z2 := W3.fz I3.out.all 2
          have I4 := hid (I3.out.set y.2)
          go_wp2_with fail
          go_roundg (go - 1)
          case measure => omega
          case rel => exact ⟨y.2, true, i + 1, rfl, by congr 1, by omega, HE.out, I4.out⟩
        · rw [if_neg hc] at HE
          have hc' : c ≤ 0 := by omega
          go_wp2_with fail
          go_roundg (go - 1)
          case measure => omega
          case rel => exact ⟨x, true, i + 1, rfl, by congr 1, by omega, HE.out, I3.out⟩
    · have h1 : (cl.length : Int) ≤ (i : Int) := by omega
      have HV : Hid ((x, ok) = R) := by
        show _ = _
        rw [← HC.out.1, List.drop_of_length_le (show cl.length ≤ i by omega)]; rfl
      obtain ⟨b0, b1, b2⟩ := W3.cs HC.out.2.all
      obtain ⟨r0, r1, r2⟩ := HC.out.2.res.cs
      have z0 := HC.out.2.res.fz 0
      have z1 := HC.out.2.res.fz 1
      have z2 := HC.out.2.res.fz 2
      go_wp2_with fail
      refine bodyPost_ret (v := .tuple #[.agg #[.int .i64 (x.1 : Int), .int .i64 (x.2.1 : Int), .int .i64 (x.2.2 : Int)], .bool ok]) (by simp [results, Tryz.results94, go_sem, r0, r1, r2]) rfl ?_
      exact ⟨by rw [← HV.out]; rfl, set3_b HC.out.2.below (Nat.le_refl _) _ _ _⟩
end Go.Proofs.YtlliliddljkbfaaGreat
